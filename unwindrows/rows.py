"""Rows: the RULEs of a TABLE as an object."""

from unwindrows.codes import MOST_CODE, need_place
from unwindrows.rules import LOST, is_rule, told_facts
from unwindrows.tables import need_table, rule_of


def _agreed(one, other):
    """The RULE that two RULEs agree on."""
    finding = one[0] if one[0] == other[0] else None
    sites = [where if where == what else LOST for where, what in zip(one[1], other[1])]
    if finding is None:
        # Words are counted from the base, so that they are of no use without it.
        sites = [LOST if where[0] == "word" else where for where in sites]
    return (finding, tuple(sites))


def _places_of(one, other):
    """The ascending PLACEs of two TABLEs. Between these neither RULE changes."""
    return sorted({row[0] for row in one} | {row[0] for row in other})


class Rows:
    """The RULEs of a TABLE for all PLACEs from 0 to 59."""

    def __init__(self, table):
        need_table(table)
        self._plain = tuple([row for k, row in enumerate(table) if k == 0 or row[1:] != table[k - 1][1:]])

    def __getitem__(self, at):
        need_place(at, MOST_CODE)
        return rule_of(self._plain, at)

    def __iter__(self):
        raise TypeError("Rows objects are not iterated over")

    def __len__(self):
        return len(self._plain)

    def __eq__(self, other):
        return isinstance(other, Rows) and self._plain == other._plain

    def __contains__(self, x):
        # What only equals a RULE, with False for 0, must not be taken for one.
        if not isinstance(x, tuple) or len(x) != 2:
            return False
        finding, sites = x
        return is_rule(finding, sites) and x in [(row[1], row[2]) for row in self._plain]

    def __and__(self, other):
        places = _places_of(self._plain, other._plain)
        return Rows(tuple([(place, *_agreed(self[place], other[place])) for place in places]))

    def table(self):
        """The PLAIN TABLE."""
        return self._plain

    def told(self, place):
        """How many of the base and the ITEMs the RULE of a PLACE tells."""
        return len(told_facts(self[place]))

    def changes(self):
        """A generator of the pairs (PLACE, RULE) of the rows of the PLAIN TABLE."""
        for place, finding, sites in self._plain:
            yield (place, (finding, sites))

    def is_within(self, other):
        """Whether another Rows object tells all that this one tells, the same."""
        for place in _places_of(self._plain, other._plain):
            told = told_facts(other[place])
            if not all([fact in told for fact in told_facts(self[place])]):
                return False
        return True
