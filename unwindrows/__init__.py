"""Rows that find the callers of a function that is stopped anywhere."""
