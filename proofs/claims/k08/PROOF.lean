import PyProof.Rows.All
import Wide.All
import OpenK.AllK
import Wide.FinOn
import HandS.Base
import HandS.Call
import HandS.List
import HandS.Comp
import HandS.Ends
import HandS.Dict
import HandS.Iter
import HandS.Text
import HandS.Words
import HandS.TupAny
import HandS.TupMul
import HandS.IsInst
import HandS.Wide
import HandS.Walk
import KE.GoesEnum
import KE.KUnpackStar
import HandS.More
import HandS.DictComp
import HandS.DictTup
import HandS.SortOrd
import HandS.SetIn
import HandS.Set
import HandS.Strs
import HandS.CallLocal
import HandS.Conv
import PySem.Challenge.RW_unwindrows_k08_breaks_by_hand
set_option Elab.async false
set_option linter.all false
set_option maxRecDepth 100000
set_option maxHeartbeats 4000000
/-! DL -/
/-! A layer over data: what an expression is worth, as plain data, whatever the heap. -/
namespace DL
open PySem PySem.Spec PyProof.Rows L2
variable {Z : Type}

abbrev D := PyData

/-- a key as data -/
def keyD : Key → D
  | .inl i => .int i
  | .inr s => .str s

mutual
/-- v stands for the data d in the heap -/
inductive Dv (K : PySem.W.Frag) (H : Hp) : V → D → Prop
  | non : Dv K H .non .none
  | bl (b : Bool) : Dv K H (.bl b) (.bool b)
  | int (i : Int) : Dv K H (.int i) (.int i)
  | str (x : Str) : Dv K H (.str x) (.str x)
  | lst {a : Addr} {xs : List V} {ds : List D} : H a = some (.lst xs) → DvAll K H xs ds → Dv K H (.ref a) (.list ds)
  | tup {a : Addr} {xs : List V} {ds : List D} : SqT K H a xs → DvAll K H xs ds → Dv K H (.ref a) (.tuple ds)
  | dct {a : Addr} {kvs : List (Key × V)} {ds : List D} : H a = some (.dK kvs) → DvAll K H (kvs.map (·.2)) ds → Dv K H (.ref a) (.dict ((kvs.map fun p => keyD p.1).zip ds))
inductive DvAll (K : PySem.W.Frag) (H : Hp) : List V → List D → Prop
  | nil : DvAll K H [] []
  | cons {v : V} {vs : List V} {d : D} {ds : List D} : Dv K H v d → DvAll K H vs ds → DvAll K H (v :: vs) (d :: ds)
end

theorem same_rd {H H' : Hp} {a : Addr} {u : HO} (e : Same H H') (h : Rd H a u) : Rd H' a u := by
  rcases h with h | ⟨o, h⟩
  · exact .inl (e a _ h)
  · exact .inr ⟨o, e a _ h⟩
theorem same_l {K : PySem.W.Frag} {H H' : Hp} {a : Addr} {xs : List V} (e : Same H H') (h : SqL K H a xs) : SqL K H' a xs := e.seq h
theorem same_t {K : PySem.W.Frag} {H H' : Hp} {a : Addr} {xs : List V} (e : Same H H') (h : SqT K H a xs) : SqT K H' a xs := by
  rcases h with h | h
  · exact .inl (same_rd e h)
  · exact .inr h

section
variable {K : PySem.W.Frag} {H H' : Hp}
mutual
theorem Dv.mono (e : Same H H') : ∀ {v : V} {d : D}, Dv K H v d → Dv K H' v d
  | _, _, .non => .non
  | _, _, .bl b => .bl b
  | _, _, .int i => .int i
  | _, _, .str x => .str x
  | _, _, .lst h a => .lst (e _ _ h) (DvAll.mono e a)
  | _, _, .tup h a => .tup (same_t e h) (DvAll.mono e a)
  | _, _, .dct h a => .dct (e _ _ h) (DvAll.mono e a)
theorem DvAll.mono (e : Same H H') : ∀ {vs : List V} {ds : List D}, DvAll K H vs ds → DvAll K H' vs ds
  | _, _, .nil => .nil
  | _, _, .cons h t => .cons (Dv.mono e h) (DvAll.mono e t)
end
end
section
variable {K : PySem.W.Frag} {H : Hp}
theorem DvAll.length : ∀ {vs : List V} {ds : List D}, DvAll K H vs ds → vs.length = ds.length
  | _, _, .nil => rfl
  | _, _, .cons _ t => by rw [List.length_cons, List.length_cons, DvAll.length t]
theorem DvAll.append : ∀ {vs ws : List V} {ds es : List D}, DvAll K H vs ds → DvAll K H ws es → DvAll K H (vs ++ ws) (ds ++ es)
  | _, _, _, _, .nil, s => s
  | _, _, _, _, .cons h t, s => .cons h (DvAll.append t s)
theorem DvAll.get : ∀ {vs : List V} {ds : List D} {i : Nat} {d : D}, DvAll K H vs ds → ds[i]? = some d → ∃ v, vs[i]? = some v ∧ Dv K H v d
  | _, _, _, _, .nil, e => nomatch (by simpa using e : False)
  | _, _, 0, _, .cons h _, e => by simp at e; subst e; exact ⟨_, rfl, h⟩
  | _, _, i + 1, d, .cons _ t, e => by
    obtain ⟨u, h1, h2⟩ := DvAll.get (i := i) (d := d) t (by simpa using e)
    exact ⟨u, (by simpa using h1), h2⟩
theorem DvAll.take : ∀ {vs : List V} {ds : List D} (n : Nat), DvAll K H vs ds → DvAll K H (vs.take n) (ds.take n)
  | _, _, 0, _ => .nil
  | _, _, _ + 1, .nil => .nil
  | _, _, n + 1, .cons h t => .cons h (DvAll.take n t)
theorem DvAll.drop : ∀ {vs : List V} {ds : List D} (n : Nat), DvAll K H vs ds → DvAll K H (vs.drop n) (ds.drop n)
  | _, _, 0, h => h
  | _, _, _ + 1, .nil => .nil
  | _, _, n + 1, .cons _ t => DvAll.drop n t
theorem DvAll.set {v : V} {d : D} (h : Dv K H v d) : ∀ {vs : List V} {ds : List D} (n : Nat), DvAll K H vs ds → DvAll K H (vs.set n v) (ds.set n d)
  | _, _, _, .nil => .nil
  | _, _, 0, .cons _ t => .cons h t
  | _, _, n + 1, .cons q t => .cons q (DvAll.set h n t)
theorem DvAll.rep : ∀ {vs : List V} {ds : List D}, DvAll K H vs ds → ∀ k : Nat, DvAll K H (List.replicate k vs).flatten (List.replicate k ds).flatten
  | _, _, _, 0 => .nil
  | _, _, h, k + 1 => by
    rw [List.replicate_succ, List.replicate_succ, List.flatten_cons, List.flatten_cons]; exact h.append (DvAll.rep h k)
end

/-! ### what a body may change of the world: the objects in S (that the heap tells), of which inv is true -/
structure Gd (Z : Type) where
  S : Hp → Addr → Prop
  inv : Z → Hp → Hp → Prop
  loc : ∀ z B B' H H', Same B B' → (∀ a, S H a → H' a = H a) → inv z B H → inv z B' H' ∧ ∀ a, S H' a → S H a
  dom : ∀ z B H a, inv z B H → S H a → H a ≠ none
/-- nothing -/
def G0 : Gd Z := ⟨fun _ _ => False, fun _ _ _ => True, fun _ _ _ _ _ _ _ h => ⟨h, fun _ h => h⟩, fun _ _ _ _ _ h => h.elim⟩
structure Ok (G : Gd Z) (z : Z) (B H : Hp) : Prop where
  sub : Same B H
  off : ∀ a, G.S H a → B a = none
  inv : G.inv z B H
structure Go (G : Gd Z) (B H : Hp) (z' : Z) (B' H' : Hp) : Prop where
  bb : Same B B'
  ok : Ok G z' B' H'
  fr : ∀ a o, ¬ G.S H a → H a = some o → H' a = some o
  gr : ∀ a, G.S H' a → G.S H a ∨ H a = none
  ex : ∀ a, H a ≠ none → H' a ≠ none
  sep : ∀ a, B a = none → H a ≠ none → B' a = none
section
variable {G : Gd Z} {z z' z2 : Z} {B H B' H' B2 H2 : Hp}
theorem Go.refl (h : Ok G z B H) : Go G B H z B H := ⟨Same.refl _, h, fun _ _ _ h => h, fun _ h => .inl h, fun _ h => h, fun _ h _ => h⟩
theorem Go.notS (g : Go G B H z' B' H') {p : Addr} (n : ¬ G.S H p) (h : H p ≠ none) : ¬ G.S H' p := fun s => by
  rcases g.gr p s with q | q
  · exact n q
  · exact h q
theorem Go.trans (a : Go G B H z' B' H') (b : Go G B' H' z2 B2 H2) : Go G B H z2 B2 H2 := by
  refine ⟨a.bb.trans b.bb, b.ok, fun x o n h => b.fr x o (a.notS n (by rw [h]; intro z; cases z)) (a.fr x o n h), fun x s => ?_, fun x h => b.ex x (a.ex x h), fun x h1 h2 => b.sep x (a.sep x h1 h2) (a.ex x h2)⟩
  rcases b.gr x s with q | q
  · exact a.gr x q
  · cases e : H x with
    | none => exact .inr rfl
    | some o => exact absurd q (a.ex x (by rw [e]; intro z; cases z))
theorem ex_upd {p : Addr} {o : HO} : ∀ a, H a ≠ none → upd H p o a ≠ none := fun a h => by
  by_cases q : a = p
  · subst q; rw [upd_same]; intro z; cases z
  · rw [upd_ne q]; exact h
/-- a new object, known from now on -/
theorem Go.new {p : Addr} {o : HO} (h : Ok G z B H) (hp : H p = none) : Go G B H z (upd B p o) (upd H p o) := by
  have nb : B p = none := by
    cases e : B p with
    | none => rfl
    | some u => rw [h.sub p u e] at hp; cases hp
  have ns : ¬ G.S H p := fun s => G.dom z B H p h.inv s hp
  obtain ⟨l1, l2⟩ := G.loc z B (upd B p o) H (upd H p o) (fun a u e => by rw [upd_ne (ne_of_none e nb)]; exact e) (fun a s => upd_ne (fun z => ns (by rw [← z]; exact s))) h.inv
  refine ⟨fun a u e => ?_, ⟨fun a u e => ?_, fun a s => ?_, l1⟩, fun a u _ e => ?_, fun a s => .inl (l2 a s), ex_upd, fun a e1 e2 => ?_⟩
  · rw [upd_ne (ne_of_none e nb)]; exact e
  · by_cases q : a = p
    · subst q; rw [upd_same] at e ⊢; exact e
    · rw [upd_ne q] at e ⊢; exact h.sub a u e
  · rw [upd_ne (fun z => ns (by rw [← z]; exact l2 a s))]; exact h.off a (l2 a s)
  · rw [upd_ne (ne_of_none e hp)]; exact e
  · rw [upd_ne (fun z => e2 (by rw [z]; exact hp))]; exact e1
/-- a new object of one's own, not known -/
theorem Go.mine {p : Addr} {o : HO} (h : Ok G z B H) (hp : H p = none) : Go G B H z B (upd H p o) := by
  have ns : ¬ G.S H p := fun s => G.dom z B H p h.inv s hp
  obtain ⟨l1, l2⟩ := G.loc z B B H (upd H p o) (Same.refl _) (fun a s => upd_ne (fun z => ns (by rw [← z]; exact s))) h.inv
  refine ⟨Same.refl _, ⟨fun a u e => ?_, fun a s => h.off a (l2 a s), l1⟩, fun a u _ e => ?_, fun a s => .inl (l2 a s), ex_upd, fun a e1 _ => e1⟩
  · rw [upd_ne (ne_of_none (h.sub a u e) hp)]; exact h.sub a u e
  · rw [upd_ne (ne_of_none e hp)]; exact e
theorem Ok.gone (h : Ok G z B H) {p : Addr} (hp : H p = none) : B p = none := by
  cases e : B p with
  | none => rfl
  | some u => rw [h.sub p u e] at hp; cases hp
end

/-! ### the names -/
inductive Sl where
  | any | dat (d : D) | val (v : V)
abbrev Rho := List Sl
structure EnvOk (K : PySem.W.Frag) (B : Hp) (σ : L2.St) (ρ : Rho) : Prop where
  len : σ.length = ρ.length
  dat : ∀ (i : Nat) (d : D), ρ[i]? = some (Sl.dat d) → ∃ v, σ[i]? = some (some v) ∧ Dv K B v d
  val : ∀ (i : Nat) (v : V), ρ[i]? = some (Sl.val v) → σ[i]? = some (some v)
section
variable {K : PySem.W.Frag} {B B' : Hp} {σ : L2.St} {ρ : Rho}
theorem EnvOk.mono (h : EnvOk K B σ ρ) (e : Same B B') : EnvOk K B' σ ρ :=
  ⟨h.len, fun i d q => let ⟨v, a, b⟩ := h.dat i d q; ⟨v, a, b.mono e⟩, h.val⟩
theorem EnvOk.setD (h : EnvOk K B σ ρ) {i : Nat} {v : V} {d : D} (hd : Dv K B v d) : EnvOk K B (σ.set i (some v)) (ρ.set i (.dat d)) := by
  refine ⟨by simpa using h.len, fun j e q => ?_, fun j w q => ?_⟩
  · by_cases hj : i = j
    · subst hj
      by_cases hi : i < ρ.length
      · rw [List.getElem?_set_self hi] at q; cases q
        exact ⟨v, List.getElem?_set_self (by rw [h.len]; exact hi), hd⟩
      · rw [List.getElem?_eq_none (by simpa using Nat.le_of_not_lt hi)] at q; cases q
    · rw [List.getElem?_set_ne hj] at q ⊢; exact h.dat j e q
  · by_cases hj : i = j
    · subst hj
      by_cases hi : i < ρ.length
      · rw [List.getElem?_set_self hi] at q; cases q
      · rw [List.getElem?_eq_none (by simpa using Nat.le_of_not_lt hi)] at q; cases q
    · rw [List.getElem?_set_ne hj] at q ⊢; exact h.val j w q
theorem EnvOk.setV (h : EnvOk K B σ ρ) {i : Nat} {v : V} : EnvOk K B (σ.set i (some v)) (ρ.set i (.val v)) := by
  refine ⟨by simpa using h.len, fun j e q => ?_, fun j w q => ?_⟩
  · by_cases hj : i = j
    · subst hj
      by_cases hi : i < ρ.length
      · rw [List.getElem?_set_self hi] at q; cases q
      · rw [List.getElem?_eq_none (by simpa using Nat.le_of_not_lt hi)] at q; cases q
    · rw [List.getElem?_set_ne hj] at q ⊢; exact h.dat j e q
  · by_cases hj : i = j
    · subst hj
      by_cases hi : i < ρ.length
      · rw [List.getElem?_set_self hi] at q; cases q
        exact List.getElem?_set_self (by rw [h.len]; exact hi)
      · rw [List.getElem?_eq_none (by simpa using Nat.le_of_not_lt hi)] at q; cases q
    · rw [List.getElem?_set_ne hj] at q ⊢; exact h.val j w q
theorem EnvOk.wipe (h : EnvOk K B σ ρ) (vs : List Nat) : EnvOk K B (L2.wipe σ vs) ((ρ.zipIdx).map fun p => if p.2 ∈ vs then .any else p.1) := by
  have key : ∀ j s, ((ρ.zipIdx).map fun p => if p.2 ∈ vs then Sl.any else p.1)[j]? = some s → s = .any ∨ (j ∉ vs ∧ ρ[j]? = some s) := by
    intro j s q
    rw [List.getElem?_map, List.getElem?_zipIdx] at q
    cases e : ρ[j]? with
    | none => rw [e] at q; simp at q
    | some r =>
      rw [e] at q
      simp only [Option.map_some, Option.some.injEq, Nat.zero_add] at q
      by_cases hv : j ∈ vs
      · rw [if_pos hv] at q; exact .inl q.symm
      · rw [if_neg hv] at q; exact .inr ⟨hv, by rw [q]⟩
  refine ⟨by rw [wipe_length, List.length_map, List.length_zipIdx]; exact h.len, fun j d q => ?_, fun j v q => ?_⟩
  · rcases key j _ q with e | ⟨hv, e⟩
    · cases e
    · rw [wipe_out hv]; exact h.dat j d e
  · rcases key j _ q with e | ⟨hv, e⟩
    · cases e
    · rw [wipe_out hv]; exact h.val j v e
end
end DL

/-! DL2 -/
namespace DL
open PySem PySem.Spec PyProof.Rows L2
variable {Z : Type}

/-- what is wanted of the data, at the count -/
abbrev DK (Z : Type) := Z → D → Prop
/-- a reading over data: from the count and the wish -/
abbrev WE (Z : Type) := Z → DK Z → Prop

/-- the reading te, at the names ρ, is worth we -/
def EvE (G : Gd Z) (K : PySem.W.Frag) (te : TE) (ρ : Rho) (we : WE Z) : Prop :=
  ∀ (σ : L2.St) (B H : Hp) (z : Z), EnvOk K B σ ρ → Ok G z B H → ∀ Q' : DK Z, we z Q' → ∀ Q : VK,
    (∀ v z' B' H' d, Go G B H z' B' H' → Dv K B' v d → Q' z' d → Q v H') → te σ H Q
def EvA (G : Gd Z) (K : PySem.W.Frag) (ta : TA) (ρ : Rho) (n : Nat) (wa : Z → (Z → List D → Prop) → Prop) : Prop :=
  ∀ (σ : L2.St) (B H : Hp) (z : Z), EnvOk K B σ ρ → Ok G z B H → ∀ Q', wa z Q' → ∀ Q : List V → Hp → Prop,
    (∀ vs z' B' H' ds, ds.length = n → Go G B H z' B' H' → DvAll K B' vs ds → Q' z' ds → Q vs H') → ta σ H Q
def EvT (G : Gd Z) (K : PySem.W.Frag) (tt : TT) (ρ : Rho) (wt : Z → (Z → Bool → Prop) → Prop) : Prop :=
  ∀ (σ : L2.St) (B H : Hp) (z : Z), EnvOk K B σ ρ → Ok G z B H → ∀ Q', wt z Q' → ∀ Q : Bool → Hp → Prop,
    (∀ b z' B' H', Go G B H z' B' H' → Q' z' b → Q b H') → tt σ H Q
/-- by values: one, two, many -/
def RW1 (G : Gd Z) (K : PySem.W.Frag) (r : V → Hp → VK → Prop) (f : D → WE Z) : Prop :=
  ∀ B H z x dx, Ok G z B H → Dv K B x dx → ∀ Q', f dx z Q' → ∀ Q : VK, (∀ v z' B' H' d, Go G B H z' B' H' → Dv K B' v d → Q' z' d → Q v H') → r x H Q
def RW (G : Gd Z) (K : PySem.W.Frag) (r : R2) (f : D → D → WE Z) : Prop :=
  ∀ B H z x y dx dy, Ok G z B H → Dv K B x dx → Dv K B y dy → ∀ Q', f dx dy z Q' → ∀ Q : VK, (∀ v z' B' H' d, Go G B H z' B' H' → Dv K B' v d → Q' z' d → Q v H') → r x y H Q
def RWs (G : Gd Z) (K : PySem.W.Frag) (r : List V → Hp → VK → Prop) (f : List D → WE Z) : Prop :=
  ∀ B H z vs ds, Ok G z B H → DvAll K B vs ds → ∀ Q', f ds z Q' → ∀ Q : VK, (∀ v z' B' H' d, Go G B H z' B' H' → Dv K B' v d → Q' z' d → Q v H') → r vs H Q

section
variable {G : Gd Z} {K : PySem.W.Frag} {ρ : Rho} {ta tb te tc : TE} {wa wb we wc : WE Z}
theorem ev_var {i : Nat} {d : D} (h : ρ[i]? = some (.dat d)) : EvE G K (tVar i) ρ (fun z Q => Q z d) := fun σ B H z E o Q' hw Q k => by
  obtain ⟨v, e, r⟩ := E.dat i d h
  exact ⟨v, e, k v z B H d (Go.refl o) r hw⟩
/-- a value of which nothing stands in the heap -/
def Sc (v : V) (d : D) : Prop := ∀ K H, Dv K H v d
theorem sc_non : Sc .non .none := fun _ _ => .non
theorem sc_bl (b : Bool) : Sc (.bl b) (.bool b) := fun _ _ => .bl b
theorem sc_int (i : Int) : Sc (.int i) (.int i) := fun _ _ => .int i
theorem sc_str (x : Str) : Sc (.str x) (.str x) := fun _ _ => .str x
theorem ev_c {v : V} {d : D} (h : Sc v d) : EvE G K (tC v) ρ (fun z Q => Q z d) := fun σ B H z E o Q' hw Q k => k v z B H d (Go.refl o) (h K B) hw
/-- data of the module (a constant of its top) -/
theorem ev_k {v : V} {d : D} (h : ∀ H, Dv K H v d) : EvE G K (tC v) ρ (fun z Q => Q z d) := fun σ B H z E o Q' hw Q k => k v z B H d (Go.refl o) (h B) hw
theorem ev_op {r : R2} {f : D → D → WE Z} (hr : RW G K r f) (ha : EvE G K ta ρ wa) (hb : EvE G K tb ρ wb) : EvE G K (tOp r ta tb) ρ (fun z Q => wa z fun z1 x => wb z1 fun z2 y => f x y z2 Q) :=
  fun σ B H z E o Q' hw Q k => ha σ B H z E o _ hw _ fun x z1 B1 H1 dx g1 r1 q1 => hb σ B1 H1 z1 (E.mono g1.bb) g1.ok _ q1 _ fun y z2 B2 H2 dy g2 r2 q2 =>
    hr B2 H2 z2 x y dx dy g2.ok (r1.mono g2.bb) r2 Q' q2 Q fun v z3 B3 H3 d g3 r3 q3 => k v z3 B3 H3 d ((g1.trans g2).trans g3) r3 q3
theorem ev_un {r : V → Hp → VK → Prop} {f : D → WE Z} (hr : RW1 G K r f) (ha : EvE G K ta ρ wa) : EvE G K (tUn r ta) ρ (fun z Q => wa z fun z1 x => f x z1 Q) :=
  fun σ B H z E o Q' hw Q k => ha σ B H z E o _ hw _ fun x z1 B1 H1 dx g1 r1 q1 =>
    hr B1 H1 z1 x dx g1.ok r1 Q' q1 Q fun v z3 B3 H3 d g3 r3 q3 => k v z3 B3 H3 d (g1.trans g3) r3 q3
/-! tests -/
theorem et_test (ha : EvE G K ta ρ wa) : EvT G K (tTest ta) ρ (fun z Q => wa z fun z1 x => ∃ b, x = .bool b ∧ Q z1 b) :=
  fun σ B H z E o Q' hw Q k => ha σ B H z E o _ hw _ fun x z1 B1 H1 dx g1 r1 q1 => by
    obtain ⟨b, rfl, q⟩ := q1
    cases r1
    exact ⟨b, rfl, k b z1 B1 H1 g1 q⟩
theorem et_B (ha : EvE G K ta ρ wa) : EvT G K (tB ta) ρ (fun z Q => wa z fun z1 x => ∃ b, x = .bool b ∧ Q z1 b) :=
  fun σ B H z E o Q' hw Q k => ha σ B H z E o _ hw _ fun x z1 B1 H1 dx g1 r1 q1 => by
    obtain ⟨b, rfl, q⟩ := q1
    cases r1
    exact ⟨b, rfl, k b z1 B1 H1 g1 q⟩
variable {t u : TT} {wt wu : Z → (Z → Bool → Prop) → Prop}
theorem et_and (h1 : EvT G K t ρ wt) (h2 : EvT G K u ρ wu) : EvT G K (tAnd t u) ρ (fun z Q => wt z fun z1 b => if b = true then wu z1 Q else Q z1 false) :=
  fun σ B H z E o Q' hw Q k => h1 σ B H z E o _ hw _ fun b z1 B1 H1 g1 q1 => by
    cases b with
    | true => exact h2 σ B1 H1 z1 (E.mono g1.bb) g1.ok _ q1 _ fun c z2 B2 H2 g2 q2 => k c z2 B2 H2 (g1.trans g2) q2
    | false => exact k false z1 B1 H1 g1 q1
theorem et_or (h1 : EvT G K t ρ wt) (h2 : EvT G K u ρ wu) : EvT G K (tOr t u) ρ (fun z Q => wt z fun z1 b => if b = true then Q z1 true else wu z1 Q) :=
  fun σ B H z E o Q' hw Q k => h1 σ B H z E o _ hw _ fun b z1 B1 H1 g1 q1 => by
    cases b with
    | false => exact h2 σ B1 H1 z1 (E.mono g1.bb) g1.ok _ q1 _ fun c z2 B2 H2 g2 q2 => k c z2 B2 H2 (g1.trans g2) q2
    | true => exact k true z1 B1 H1 g1 q1
theorem et_not (h1 : EvT G K t ρ wt) : EvT G K (tNot t) ρ (fun z Q => wt z fun z1 b => Q z1 (!b)) :=
  fun σ B H z E o Q' hw Q k => h1 σ B H z E o _ hw _ fun b z1 B1 H1 g1 q1 => k (!b) z1 B1 H1 g1 q1
theorem ev_andV (ha : EvE G K ta ρ wa) (hb : EvE G K tb ρ wb) : EvE G K (tAndV ta tb) ρ (fun z Q => wa z fun z1 x => ∃ b, x = .bool b ∧ if b = true then wb z1 Q else Q z1 (.bool false)) :=
  fun σ B H z E o Q' hw Q k => ha σ B H z E o _ hw _ fun x z1 B1 H1 dx g1 r1 q1 => by
    obtain ⟨b, rfl, q⟩ := q1
    cases r1
    refine ⟨b, rfl, ?_⟩
    cases b with
    | true => exact hb σ B1 H1 z1 (E.mono g1.bb) g1.ok _ q _ fun v z2 B2 H2 d g2 r2 q2 => k v z2 B2 H2 d (g1.trans g2) r2 q2
    | false => exact k _ z1 B1 H1 _ g1 (.bl false) q
theorem ev_orV (ha : EvE G K ta ρ wa) (hb : EvE G K tb ρ wb) : EvE G K (tOrV ta tb) ρ (fun z Q => wa z fun z1 x => ∃ b, x = .bool b ∧ if b = true then Q z1 (.bool true) else wb z1 Q) :=
  fun σ B H z E o Q' hw Q k => ha σ B H z E o _ hw _ fun x z1 B1 H1 dx g1 r1 q1 => by
    obtain ⟨b, rfl, q⟩ := q1
    cases r1
    refine ⟨b, rfl, ?_⟩
    cases b with
    | false => exact hb σ B1 H1 z1 (E.mono g1.bb) g1.ok _ q _ fun v z2 B2 H2 d g2 r2 q2 => k v z2 B2 H2 d (g1.trans g2) r2 q2
    | true => exact k _ z1 B1 H1 _ g1 (.bl true) q
theorem ev_notV (ha : EvE G K ta ρ wa) : EvE G K (tNotV ta) ρ (fun z Q => wa z fun z1 x => ∃ b, x = .bool b ∧ Q z1 (.bool (!b))) :=
  fun σ B H z E o Q' hw Q k => ha σ B H z E o _ hw _ fun x z1 B1 H1 dx g1 r1 q1 => by
    obtain ⟨b, rfl, q⟩ := q1
    cases r1
    exact ⟨b, rfl, k _ z1 B1 H1 _ g1 (.bl _) q⟩
theorem ev_if (h : EvT G K t ρ wt) (ha : EvE G K ta ρ wa) (hb : EvE G K tb ρ wb) : EvE G K (tIf t ta tb) ρ (fun z Q => wt z fun z1 b => if b = true then wa z1 Q else wb z1 Q) :=
  fun σ B H z E o Q' hw Q k => h σ B H z E o _ hw _ fun b z1 B1 H1 g1 q1 => by
    cases b with
    | true => exact ha σ B1 H1 z1 (E.mono g1.bb) g1.ok _ q1 _ fun v z2 B2 H2 d g2 r2 q2 => k v z2 B2 H2 d (g1.trans g2) r2 q2
    | false => exact hb σ B1 H1 z1 (E.mono g1.bb) g1.ok _ q1 _ fun v z2 B2 H2 d g2 r2 q2 => k v z2 B2 H2 d (g1.trans g2) r2 q2
/-- a < b < c -/
theorem ev_chain {r r' : R2} {f f' : D → D → WE Z} (hr : RW G K r f) (hr' : RW G K r' f') (ha : EvE G K ta ρ wa) (hb : EvE G K tb ρ wb) (hc : EvE G K tc ρ wc) :
    EvE G K (tChain r r' ta tb tc) ρ (fun z Q => wa z fun z1 x => wb z1 fun z2 y => f x y z2 fun z3 d => ∃ b, d = .bool b ∧ if b = true then wc z3 fun z4 w => f' y w z4 Q else Q z3 (.bool false)) :=
  fun σ B H z E o Q' hw Q k => ha σ B H z E o _ hw _ fun x z1 B1 H1 dx g1 r1 q1 => hb σ B1 H1 z1 (E.mono g1.bb) g1.ok _ q1 _ fun y z2 B2 H2 dy g2 r2 q2 =>
    hr B2 H2 z2 x y dx dy g2.ok (r1.mono g2.bb) r2 _ q2 _ fun v z3 B3 H3 d g3 r3 q3 => by
      obtain ⟨b, rfl, q⟩ := q3
      cases r3
      refine ⟨b, rfl, ?_⟩
      have g13 := (g1.trans g2).trans g3
      cases b with
      | true =>
        exact hc σ B3 H3 z3 (E.mono g13.bb) g3.ok _ q _ fun w z4 B4 H4 dw g4 r4 q4 => hr' B4 H4 z4 y w dy dw g4.ok ((r2.mono g3.bb).mono g4.bb) r4 Q' q4 Q fun u z5 B5 H5 d5 g5 r5 q5 =>
          k u z5 B5 H5 d5 ((g13.trans g4).trans g5) r5 q5
      | false => exact k _ z3 B3 H3 _ g13 (.bl false) q
/-! argument lists, displays -/
theorem ea_nil : EvA G K tNil ρ 0 (fun z Q => Q z []) := fun σ B H z E o Q' hw Q k => k [] z B H [] rfl (Go.refl o) .nil hw
theorem ea_cons {tr : TA} {n : Nat} {wr : Z → (Z → List D → Prop) → Prop} (ha : EvE G K ta ρ wa) (hr : EvA G K tr ρ n wr) : EvA G K (tCons ta tr) ρ (n + 1) (fun z Q => wa z fun z1 x => wr z1 fun z2 ds => Q z2 (x :: ds)) :=
  fun σ B H z E o Q' hw Q k => ha σ B H z E o _ hw _ fun x z1 B1 H1 dx g1 r1 q1 => hr σ B1 H1 z1 (E.mono g1.bb) g1.ok _ q1 _ fun vs z2 B2 H2 ds hl g2 r2 q2 =>
    k (x :: vs) z2 B2 H2 (dx :: ds) (by rw [List.length_cons, hl]) (g1.trans g2) (.cons (r1.mono g2.bb) r2) q2
variable {tA : TA} {n : Nat} {wA : Z → (Z → List D → Prop) → Prop}
theorem ev_tup (h : EvA G K tA ρ n wA) (hn : n ≤ sizeLine := by decide) : EvE G K (tTup tA) ρ (fun z Q => wA z fun z1 ds => Q z1 (.tuple ds)) :=
  fun σ B H z E o Q' hw Q k => h σ B H z E o _ hw _ fun vs z1 B1 H1 ds hl g1 r1 q1 => ⟨by rw [r1.length, hl]; exact hn, fun p hp => by
    have g2 := Go.new (o := .tup vs) g1.ok hp
    exact k _ z1 _ _ _ (g1.trans g2) (.tup (SqT.of upd_same) (r1.mono g2.bb)) q1⟩
theorem ev_lst (h : EvA G K tA ρ n wA) (hn : n ≤ sizeLine := by decide) : EvE G K (tLst tA) ρ (fun z Q => wA z fun z1 ds => Q z1 (.list ds)) :=
  fun σ B H z E o Q' hw Q k => h σ B H z E o _ hw _ fun vs z1 B1 H1 ds hl g1 r1 q1 => ⟨by rw [r1.length, hl]; exact hn, fun p hp => by
    have g2 := Go.new (o := .lst vs) g1.ok hp
    exact k _ z1 _ _ _ (g1.trans g2) (.lst upd_same (r1.mono g2.bb)) q1⟩
theorem ev_call {r : List V → Hp → VK → Prop} {f : List D → WE Z} (hr : RWs G K r f) (h : EvA G K tA ρ n wA) : EvE G K (tCB r tA) ρ (fun z Q => wA z fun z1 ds => f ds z1 Q) :=
  fun σ B H z E o Q' hw Q k => h σ B H z E o _ hw _ fun vs z1 B1 H1 ds hl g1 r1 q1 => hr B1 H1 z1 vs ds g1.ok r1 Q' q1 Q fun v z2 B2 H2 d g2 r2 q2 => k v z2 B2 H2 d (g1.trans g2) r2 q2
end

/-! ### operators by values -/
section
variable {G : Gd Z} {K : PySem.W.Frag}
def dI2 (g : Int → Int → D) : D → D → WE Z
  | .int i, .int j, z, Q => Q z (g i j)
  | _, _, _, _ => False
def dI2c (C : Int → Int → Prop) (g : Int → Int → D) : D → D → WE Z
  | .int i, .int j, z, Q => C i j ∧ Q z (g i j)
  | _, _, _, _ => False
theorem dI2_of {g : Int → Int → D} {x y : D} {z : Z} {Q : DK Z} (h : dI2 g x y z Q) : ∃ i j, x = .int i ∧ y = .int j ∧ Q z (g i j) := by
  cases x <;> cases y <;> first | exact ⟨_, _, rfl, rfl, h⟩ | exact (h : False).elim
theorem dI2c_of {C : Int → Int → Prop} {g : Int → Int → D} {x y : D} {z : Z} {Q : DK Z} (h : dI2c C g x y z Q) : ∃ i j, x = .int i ∧ y = .int j ∧ C i j ∧ Q z (g i j) := by
  cases x <;> cases y <;> first | exact ⟨_, _, rfl, rfl, h⟩ | exact (h : False).elim
theorem rw_I0 {g : Int → Int → V} {g' : Int → Int → D} (hs : ∀ i j, Sc (g i j) (g' i j)) : RW G K (rI0 g) (dI2 g') := fun B H z x y dx dy o rx ry Q' hw Q k => by
  obtain ⟨i, j, rfl, rfl, q⟩ := dI2_of hw
  cases rx
  cases ry
  exact ⟨i, j, rfl, rfl, k _ z B H _ (Go.refl o) (hs i j K B) q⟩
theorem rw_I {C : Int → Int → Prop} {g : Int → Int → V} {g' : Int → Int → D} (hs : ∀ i j, Sc (g i j) (g' i j)) : RW G K (rI C g) (dI2c C g') := fun B H z x y dx dy o rx ry Q' hw Q k => by
  obtain ⟨i, j, rfl, rfl, c, q⟩ := dI2c_of hw
  cases rx
  cases ry
  exact ⟨i, j, rfl, rfl, c, k _ z B H _ (Go.refl o) (hs i j K B) q⟩
end
end DL

/-! DL3 -/
namespace DL
open PySem PySem.Spec PyProof.Rows L2
variable {Z : Type}

section
variable {G : Gd Z} {K : PySem.W.Frag}
/-! ### == and != -/
/- no dict within: data of the plain form -/
mutual
def flat : D → Bool
  | .str _ | .none | .bool _ | .int _ => true
  | .list xs | .tuple xs => flatAll xs
  | .dict _ => false
def flatAll : List D → Bool
  | [] => true
  | x :: xs => flat x && flatAll xs
end
mutual
theorem Dv.dp {B H : Hp} (e : Same B H) : ∀ {d : D} {v : V}, Dv K B v d → flat d = true → Dp K H v d
  | .none, _, h, _ => by cases h; exact .non
  | .bool b, _, h, _ => by cases h; exact .bl b
  | .int i, _, h, _ => by cases h; exact .int i
  | .str x, _, h, _ => by cases h; exact .str x
  | .list ds, _, h, f => by
    cases h with
    | lst h a => exact .lst (SqL.of (e _ _ h)) (DvAll.dp e a (by simpa [flat] using f))
  | .tuple ds, _, h, f => by
    cases h with
    | tup h a => exact .tup (same_t e h) (DvAll.dp e a (by simpa [flat] using f))
  | .dict _, _, _, f => by simp [flat] at f
theorem DvAll.dp {B H : Hp} (e : Same B H) : ∀ {ds : List D} {vs : List V}, DvAll K B vs ds → flatAll ds = true → DpAll K H vs ds
  | [], _, h, _ => by cases h; exact .nil
  | d :: ds, _, h, f => by
    rw [flatAll, Bool.and_eq_true] at f
    cases h with
    | cons h t => exact .cons (Dv.dp e h f.1) (DvAll.dp e t f.2)
end
def isSc : D → Bool
  | .str _ | .none | .bool _ | .int _ => true
  | _ => false
/-- == of scalars that == tells apart by their kind -/
def scEq : D → D → Option Bool
  | .none, .none => some true
  | .none, .int _ => some false | .int _, .none => some false | .none, .bool _ => some false | .bool _, .none => some false | .none, .str _ => some false | .str _, .none => some false
  | .int i, .int j => some (decide (i = j)) | .bool i, .bool j => some (decide (i = j)) | .str i, .str j => some (decide (i = j))
  | .int _, .str _ => some false | .str _, .int _ => some false | .bool _, .str _ => some false | .str _, .bool _ => some false
  | _, _ => none
/-- == over data -/
def dEq (x y : D) : WE Z := fun z Q => match scEq x y with
  | some b => Q z (.bool b)
  | none => flat x = true ∧ flat y = true ∧ SeqAt.shaped x = true ∧ SeqAt.shaped y = true ∧ Q z (.bool (PyData.eqv x y))
def dNe (x y : D) : WE Z := fun z Q => match scEq x y with
  | some b => Q z (.bool (!b))
  | none => flat x = true ∧ flat y = true ∧ SeqAt.shaped x = true ∧ SeqAt.shaped y = true ∧ Q z (.bool (!PyData.eqv x y))
theorem scEq_of {B : Hp} {x y : V} {dx dy : D} {b : Bool} (rx : Dv K B x dx) (ry : Dv K B y dy) (e : scEq dx dy = some b) : scal x y = true ∧ decide (x = y) = b := by
  cases rx <;> cases ry <;> simp [scEq] at e <;> subst e <;> simp [scal]
def rEqA (K : PySem.W.Frag) : R2 := fun x y H Q => rEq x y H Q ∨ rEqD K x y H Q
def rNeA (K : PySem.W.Frag) : R2 := fun x y H Q => rNe x y H Q ∨ rNeD K x y H Q
theorem rw_eq : RW G K (rEqA K) dEq := fun B H z x y dx dy o rx ry Q' hw Q k => by
  unfold dEq at hw
  split at hw
  · rename_i b e
    obtain ⟨h1, h2⟩ := scEq_of rx ry e
    exact .inl ⟨h1, by rw [h2]; exact k _ z B H _ (Go.refl o) (.bl b) hw⟩
  · obtain ⟨f1, f2, s1, s2, q⟩ := hw
    exact .inr ⟨dx, dy, Dv.dp o.sub rx f1, Dv.dp o.sub ry f2, s1, s2, k _ z B H _ (Go.refl o) (.bl _) q⟩
theorem rw_ne : RW G K (rNeA K) dNe := fun B H z x y dx dy o rx ry Q' hw Q k => by
  unfold dNe at hw
  split at hw
  · rename_i b e
    obtain ⟨h1, h2⟩ := scEq_of rx ry e
    exact .inl ⟨h1, by rw [h2]; exact k _ z B H _ (Go.refl o) (.bl _) hw⟩
  · obtain ⟨f1, f2, s1, s2, q⟩ := hw
    exact .inr ⟨dx, dy, Dv.dp o.sub rx f1, Dv.dp o.sub ry f2, s1, s2, k _ z B H _ (Go.refl o) (.bl _) q⟩
/-- is None -/
def isNon : D → Bool
  | .none => true
  | _ => false
theorem isNon_of {B : Hp} {x : V} {dx : D} (rx : Dv K B x dx) : decide (x = .non) = isNon dx := by
  cases rx <;> simp [isNon]
def dIs (x y : D) : WE Z := fun z Q => y = .none ∧ Q z (.bool (isNon x))
def dIsNot (x y : D) : WE Z := fun z Q => y = .none ∧ Q z (.bool (!isNon x))
theorem rw_isN : RW G K (fun x y H Q => y = .non ∧ Q (.bl (decide (x = .non))) H) dIs := fun B H z x y dx dy o rx ry Q' hw Q k => by
  obtain ⟨rfl, q⟩ := hw
  cases ry
  exact ⟨rfl, by rw [isNon_of rx]; exact k _ z B H _ (Go.refl o) (.bl _) q⟩
theorem rw_notN : RW G K (fun x y H Q => y = .non ∧ Q (.bl (!decide (x = .non))) H) dIsNot := fun B H z x y dx dy o rx ry Q' hw Q k => by
  obtain ⟨rfl, q⟩ := hw
  cases ry
  exact ⟨rfl, by rw [isNon_of rx]; exact k _ z B H _ (Go.refl o) (.bl _) q⟩
/-! ### in -/
def eqF : D → D → Bool
  | .none, .none => true
  | .bool a, .bool b => a == b
  | .bool a, .int b => (if a then 1 else 0) == b
  | .int a, .bool b => a == (if b then 1 else 0)
  | .int a, .int b => a == b
  | .str a, .str b => a == b
  | _, _ => false
theorem eqF_of {B : Hp} {x y : V} {dx dy : D} (rx : Dv K B x dx) (ry : Dv K B y dy) : eqV x y = eqF dx dy := by
  cases rx <;> cases ry <;> rfl
theorem isSc_of {B : Hp} {x : V} {dx : D} (rx : Dv K B x dx) (h : isSc dx = true) : flatV x = true := by
  cases rx <;> simp [isSc] at h <;> rfl
theorem isSc_all {B : Hp} : ∀ {xs : List V} {ds : List D}, DvAll K B xs ds → ds.all isSc = true → xs.all flatV = true
  | _, _, .nil, _ => rfl
  | _, _, .cons h t, e => by
    rw [List.all_cons, Bool.and_eq_true] at e ⊢
    exact ⟨isSc_of h e.1, isSc_all t e.2⟩
theorem inV_of {B : Hp} {x : V} {dx : D} (rx : Dv K B x dx) : ∀ {xs : List V} {ds : List D}, DvAll K B xs ds → inV x xs = ds.any fun y => eqF y dx
  | _, _, .nil => rfl
  | _, _, .cons h t => by
    have ih := inV_of rx t
    unfold inV at ih ⊢
    rw [List.any_cons, List.any_cons, ih, eqF_of h rx]
def dIn (neg : Bool) (x y : D) : WE Z := fun z Q => match y with
  | .list ds => isSc x = true ∧ ds.all isSc = true ∧ Q z (.bool (if neg then !(ds.any fun y => eqF y x) else ds.any fun y => eqF y x))
  | .tuple ds => isSc x = true ∧ ds.all isSc = true ∧ Q z (.bool (if neg then !(ds.any fun y => eqF y x) else ds.any fun y => eqF y x))
  | _ => False
theorem rw_in {neg : Bool} : RW G K (rIn K neg) (dIn neg) := fun B H z x y dx dy o rx ry Q' hw Q k => by
  cases ry with
  | lst h a =>
    obtain ⟨h1, h2, q⟩ := hw
    exact ⟨_, _, rfl, .inl (SqL.of (o.sub _ _ h)), isSc_of rx h1, isSc_all a h2, by rw [inV_of rx a]; exact k _ z B H _ (Go.refl o) (.bl _) q⟩
  | tup h a =>
    obtain ⟨h1, h2, q⟩ := hw
    exact ⟨_, _, rfl, .inr (same_t o.sub h), isSc_of rx h1, isSc_all a h2, by rw [inV_of rx a]; exact k _ z B H _ (Go.refl o) (.bl _) q⟩
  | _ => exact (hw : False).elim
/-- a text in a text -/
def dInS (x y : D) : WE Z := fun z Q => ∃ i j, x = .str i ∧ y = .str j ∧ Q z (.bool (!(Builtin.Str.occurrences j i 0 j.length 1).isEmpty))
theorem rw_inS : RW G K (fun x y H Q => ∃ i j, x = .str i ∧ y = .str j ∧ Q (.bl (!(Builtin.Str.occurrences j i 0 j.length 1).isEmpty)) H) dInS := fun B H z x y dx dy o rx ry Q' hw Q k => by
  obtain ⟨i, j, rfl, rfl, q⟩ := hw
  cases rx
  cases ry
  exact ⟨i, j, rfl, rfl, k _ z B H _ (Go.refl o) (.bl _) q⟩
/-! ### + and * -/
def rAddA (K : PySem.W.Frag) : R2 := fun x y H Q => (∃ i j, x = .int i ∧ y = .int j ∧ Q (.int (i + j)) H) ∨ (∃ i j, x = .str i ∧ y = .str j ∧ i.length + j.length ≤ sizeLine ∧ Q (.str (i ++ j)) H) ∨ rCatA K x y H Q ∨ rCat x y H Q
def dAdd (x y : D) : WE Z := fun z Q => match x, y with
  | .int i, .int j => Q z (.int (i + j))
  | .str i, .str j => i.length + j.length ≤ sizeLine ∧ Q z (.str (i ++ j))
  | .tuple xs, .tuple ys => xs.length + ys.length ≤ sizeLine ∧ Q z (.tuple (xs ++ ys))
  | .list xs, .list ys => xs.length + ys.length ≤ sizeLine ∧ Q z (.list (xs ++ ys))
  | _, _ => False
theorem DvAll.nil_iff {B : Hp} {xs : List V} {ds : List D} (h : DvAll K B xs ds) : xs = [] ↔ ds = [] := by
  cases h <;> simp
theorem mk_tup {z : Z} {B H : Hp} {p : Addr} {xs : List V} {ds : List D} (o : Ok G z B H) (hp : H p = none) (a : DvAll K B xs ds) : Go G B H z (upd B p (.tup xs)) (upd H p (.tup xs)) ∧ Dv K (upd B p (.tup xs)) (.ref p) (.tuple ds) :=
  ⟨Go.new o hp, .tup (SqT.of upd_same) (a.mono (Go.new (o := .tup xs) o hp).bb)⟩
theorem mk_lst {z : Z} {B H : Hp} {p : Addr} {xs : List V} {ds : List D} (o : Ok G z B H) (hp : H p = none) (a : DvAll K B xs ds) : Go G B H z (upd B p (.lst xs)) (upd H p (.lst xs)) ∧ Dv K (upd B p (.lst xs)) (.ref p) (.list ds) :=
  ⟨Go.new o hp, .lst upd_same (a.mono (Go.new (o := .lst xs) o hp).bb)⟩
theorem rw_add : RW G K (rAddA K) dAdd := fun B H z x y dx dy o rx ry Q' hw Q k => by
  cases rx with
  | int i =>
    cases ry with
    | int j => exact .inl ⟨i, j, rfl, rfl, k _ z B H _ (Go.refl o) (.int _) hw⟩
    | _ => exact (hw : False).elim
  | str i =>
    cases ry with
    | str j => exact .inr (.inl ⟨i, j, rfl, rfl, hw.1, k _ z B H _ (Go.refl o) (.str _) hw.2⟩)
    | _ => exact (hw : False).elim
  | tup h a =>
    cases ry with
    | tup h' a' =>
      refine .inr (.inr (.inl ⟨_, _, _, _, rfl, rfl, same_t o.sub h, same_t o.sub h', by rw [a.length, a'.length]; exact hw.1, fun e => ?_, fun _ e => ?_, fun _ _ p hp => ?_⟩))
      · refine k _ z B H _ (Go.refl o) ?_ hw.2
        rw [a.nil_iff.mp e]
        exact .tup h' a'
      · refine k _ z B H _ (Go.refl o) ?_ hw.2
        rw [a'.nil_iff.mp e, List.append_nil]
        exact .tup h a
      · obtain ⟨g, r⟩ := mk_tup o hp (a.append a')
        exact k _ z _ _ _ g r hw.2
    | _ => exact (hw : False).elim
  | lst h a =>
    cases ry with
    | lst h' a' =>
      refine .inr (.inr (.inr ⟨_, _, _, _, rfl, rfl, o.sub _ _ h, o.sub _ _ h', by rw [a.length, a'.length]; exact hw.1, fun p hp => ?_⟩))
      obtain ⟨g, r⟩ := mk_lst o hp (a.append a')
      exact k _ z _ _ _ g r hw.2
    | _ => exact (hw : False).elim
  | _ => exact (hw : False).elim
end
section
variable {X : Cx}
theorem op_addA : OpR X (binaryOp .Add) (rAddA X.K) := op_add.or (op_add_str.or (op_catA.or op_cat))
theorem op_eqA (hu : X.A.units + 64 < cLine) : OpR X (compareOp .Eq) (rEqA X.K) := op_eq.or (op_eqD hu)
theorem op_neA (hu : X.A.units + 64 < cLine) : OpR X (compareOp .NotEq) (rNeA X.K) := op_ne.or (op_neD hu)
end
end DL

/-! DL4 -/
namespace DL
open PySem PySem.Spec PyProof.Rows L2
variable {Z : Type}

section
variable {G : Gd Z} {K : PySem.W.Frag}
/-! ### an item -/
def dIx (x y : D) : WE Z := fun z Q => match x, y with
  | .list ds, .int i => ∃ d, atI ds i = some d ∧ Q z d
  | .tuple ds, .int i => ∃ d, atI ds i = some d ∧ Q z d
  | .str s, .int i => s.length ≤ sizeLine ∧ ∃ c, atI s.cps.toList i = some c ∧ Q z (.str ⟨#[c]⟩)
  | _, _ => False
theorem DvAll.at {B : Hp} {xs : List V} {ds : List D} (h : DvAll K B xs ds) {i : Int} {d : D} (e : atI ds i = some d) : ∃ v, atI xs i = some v ∧ Dv K B v d := by
  unfold atI at e ⊢
  rw [h.length]
  cases q : ixN ds.length i with
  | none => (rw [q] at e; cases e)
  | some j =>
    rw [q] at e
    exact h.get e
theorem rw_ix : RW G K (rIx K) dIx := fun B H z x y dx dy o rx ry Q' hw Q k => by
  cases rx with
  | lst h a =>
    cases ry with
    | int i =>
      obtain ⟨d, e, q⟩ := hw
      obtain ⟨v, e', r⟩ := a.at e
      exact .inl ⟨_, _, i, v, rfl, rfl, SqL.of (o.sub _ _ h), e', k _ z B H _ (Go.refl o) r q⟩
    | _ => exact (hw : False).elim
  | tup h a =>
    cases ry with
    | int i =>
      obtain ⟨d, e, q⟩ := hw
      obtain ⟨v, e', r⟩ := a.at e
      exact .inr (.inl ⟨_, _, i, v, rfl, rfl, same_t o.sub h, e', k _ z B H _ (Go.refl o) r q⟩)
    | _ => exact (hw : False).elim
  | str s =>
    cases ry with
    | int i =>
      obtain ⟨hl, c, e, q⟩ := hw
      exact .inr (.inr ⟨_, _, c, rfl, rfl, hl, e, k _ z B H _ (Go.refl o) (.str _) q⟩)
    | _ => exact (hw : False).elim
  | _ => exact (hw : False).elim
/-! ### d[k], d.get(k, x), k in d over data that is a dict -/
def lookD (k : D) : List (D × D) → Option D
  | [] => none
  | (k', v) :: r => if eqF k' k = true then some v else lookD k r
/-! ### numbers -/
def dMul (x y : D) : WE Z := fun z Q => match x, y with
  | .int i, .int j => CMul i j ∧ Q z (.int (i * j))
  | .list ds, .int k => -(2 ^ 63) ≤ k ∧ k < 2 ^ 63 ∧ ds.length * k.toNat ≤ sizeLine ∧ Q z (.list (List.replicate k.toNat ds).flatten)
  | _, _ => False
def rMulA : R2 := fun x y H Q => (∃ i j, x = .int i ∧ y = .int j ∧ CMul i j ∧ Q (.int (i * j)) H) ∨ rRep x y H Q
theorem rw_mul : RW G K rMulA dMul := fun B H z x y dx dy o rx ry Q' hw Q k => by
  cases rx with
  | int i =>
    cases ry with
    | int j => exact .inl ⟨i, j, rfl, rfl, hw.1, k _ z B H _ (Go.refl o) (.int _) hw.2⟩
    | _ => exact (hw : False).elim
  | lst h a =>
    cases ry with
    | int j =>
      obtain ⟨h1, h2, h3, q⟩ := hw
      refine .inr ⟨_, j, _, rfl, rfl, o.sub _ _ h, h1, h2, by rw [a.length]; exact h3, fun p hp => ?_⟩
      obtain ⟨g, r⟩ := mk_lst o hp (a.rep j.toNat)
      exact k _ z _ _ _ g r q
    | _ => exact (hw : False).elim
  | _ => exact (hw : False).elim
/-! ### slices -/
def EvO (G : Gd Z) (K : PySem.W.Frag) (to : TO) (ρ : Rho) (wo : Z → (Z → Option Int → Prop) → Prop) : Prop :=
  ∀ (σ : L2.St) (B H : Hp) (z : Z), EnvOk K B σ ρ → Ok G z B H → ∀ Q', wo z Q' → ∀ Q : Option Int → Hp → Prop,
    (∀ i z' B' H', Go G B H z' B' H' → Q' z' i → Q i H') → to σ H Q
variable {ρ : Rho}
theorem eo_none : EvO G K tNoPart ρ (fun z Q => Q z none) := fun σ B H z E o Q' hw Q k => k none z B H (Go.refl o) hw
theorem eo_some {ta : TE} {wa : WE Z} (ha : EvE G K ta ρ wa) : EvO G K (tPart ta) ρ (fun z Q => wa z fun z1 x => ∃ i, x = .int i ∧ Q z1 (some i)) :=
  fun σ B H z E o Q' hw Q k => ha σ B H z E o _ hw _ fun x z1 B1 H1 dx g1 r1 q1 => by
    obtain ⟨i, rfl, q⟩ := q1
    cases r1
    exact ⟨i, rfl, k _ z1 B1 H1 g1 q⟩
def cutD (ds : List D) (lo hi : Option Int) : List D := (ds.drop (HT.sIx ds.length 0 lo)).take (HT.sIx ds.length ds.length hi - HT.sIx ds.length 0 lo)
theorem cut_of {B : Hp} {xs : List V} {ds : List D} (a : DvAll K B xs ds) (lo hi : Option Int) : DvAll K B (cutV xs lo hi) (cutD ds lo hi) := by
  unfold cutV cutD
  rw [a.length]
  exact (a.drop _).take _
def rSlAny (K : PySem.W.Frag) : V → Option Int → Option Int → Hp → VK → Prop := fun x lo hi H Q => rSlA K x lo hi H Q ∨ rSlL K x lo hi H Q ∨ rSlS x lo hi H Q
def dSl (x : D) (lo hi : Option Int) : WE Z := fun z Q => match x with
  | .tuple ds => Q z (.tuple (cutD ds lo hi))
  | .list ds => Q z (.list (cutD ds lo hi))
  | .str s => s.length ≤ sizeLine ∧ Q z (.str (cutS s lo hi))
  | _ => False
theorem cut_whole {α : Type} {xs : List α} {lo hi : Option Int} (h : HT.sIx xs.length 0 lo = 0 ∧ HT.sIx xs.length xs.length hi = xs.length) : (xs.drop (HT.sIx xs.length 0 lo)).take (HT.sIx xs.length xs.length hi - HT.sIx xs.length 0 lo) = xs := by
  rw [h.1, h.2, List.drop_zero, Nat.sub_zero, List.take_length]
theorem ev_slice {te : TE} {tl th : TO} {we : WE Z} {wl wh : Z → (Z → Option Int → Prop) → Prop} (ha : EvE G K te ρ we) (hl : EvO G K tl ρ wl) (hh : EvO G K th ρ wh) :
    EvE G K (tSl (rSlAny K) te tl th) ρ (fun z Q => we z fun z1 x => wl z1 fun z2 lo => wh z2 fun z3 hi => dSl x lo hi z3 Q) :=
  fun σ B H z E o Q' hw Q k => ha σ B H z E o _ hw _ fun x z1 B1 H1 dx g1 r1 q1 => hl σ B1 H1 z1 (E.mono g1.bb) g1.ok _ q1 _ fun lo z2 B2 H2 g2 q2 =>
    hh σ B2 H2 z2 ((E.mono g1.bb).mono g2.bb) g2.ok _ q2 _ fun hi z3 B3 H3 g3 q3 => by
      have g13 := (g1.trans g2).trans g3
      have r3 := (r1.mono g2.bb).mono g3.bb
      cases r3 with
      | tup h a =>
        refine .inl ⟨_, _, rfl, same_t g3.ok.sub h, fun hwh => ?_, fun _ p hp => ?_⟩
        · refine k _ z3 B3 H3 _ g13 ?_ q3
          unfold cutD
          rw [← a.length] at *
          have e := a.length
          rw [e] at hwh
          rw [e, cut_whole hwh]
          exact .tup h a
        · obtain ⟨g, r⟩ := mk_tup g3.ok hp (cut_of a lo hi)
          exact k _ z3 _ _ _ (g13.trans g) r q3
      | lst h a =>
        refine .inr (.inl ⟨_, _, rfl, SqL.of (g3.ok.sub _ _ h), fun p hp => ?_⟩)
        obtain ⟨g, r⟩ := mk_lst g3.ok hp (cut_of a lo hi)
        exact k _ z3 _ _ _ (g13.trans g) r q3
      | str s => exact .inr (.inr ⟨s, rfl, q3.1, k _ z3 B3 H3 _ g13 (.str _) q3.2⟩)
      | _ => exact (q3 : False).elim
/-! ### built-in calls -/
def rLenA (K : PySem.W.Frag) : List V → Hp → VK → Prop := fun xs H Q => ∃ x n, xs = [x] ∧ LenV K x H n ∧ Q (.int n) H
def lenD : D → Option Nat
  | .str s => some s.length
  | .list ds => some ds.length
  | .tuple ds => some ds.length
  | _ => none
def dLen (ds : List D) : WE Z := fun z Q => match ds with
  | [.str s] => s.length ≤ sizeLine ∧ Q z (.int s.length)
  | [.list xs] => Q z (.int xs.length)
  | [.tuple xs] => Q z (.int xs.length)
  | _ => False
theorem rws_len : RWs G K (rLenA K) dLen := fun B H z vs ds o r Q' hw Q k => by
  cases r with
  | nil => exact (hw : False).elim
  | cons h t =>
    cases t with
    | cons h2 t2 => cases h <;> exact (hw : False).elim
    | nil =>
      cases h with
      | str s => exact ⟨_, _, rfl, ⟨hw.1, rfl⟩, k _ z B H _ (Go.refl o) (.int _) hw.2⟩
      | lst h a => exact ⟨_, _, rfl, .inl ⟨_, SqL.of (o.sub _ _ h), rfl⟩, by rw [a.length]; exact k _ z B H _ (Go.refl o) (.int _) hw⟩
      | tup h a => exact ⟨_, _, rfl, .inr ⟨_, same_t o.sub h, rfl⟩, by rw [a.length]; exact k _ z B H _ (Go.refl o) (.int _) hw⟩
      | _ => exact (hw : False).elim
def rListA (K : PySem.W.Frag) : List V → Hp → VK → Prop := fun xs H Q => ∃ p ys, xs = [.ref p] ∧ (SqL K H p ys ∨ SqT K H p ys) ∧ ∀ l, H l = none → Q (.ref l) (upd H l (.lst ys))
def dList (ds : List D) : WE Z := fun z Q => match ds with
  | [.list xs] => Q z (.list xs)
  | [.tuple xs] => Q z (.list xs)
  | _ => False
theorem rws_list : RWs G K (rListA K) dList := fun B H z vs ds o r Q' hw Q k => by
  cases r with
  | nil => exact (hw : False).elim
  | cons h t =>
    cases t with
    | cons h2 t2 => cases h <;> exact (hw : False).elim
    | nil =>
      cases h with
      | lst h a => exact ⟨_, _, rfl, .inl (SqL.of (o.sub _ _ h)), fun l hl => let ⟨g, r⟩ := mk_lst o hl a; k _ z _ _ _ g r hw⟩
      | tup h a => exact ⟨_, _, rfl, .inr (same_t o.sub h), fun l hl => let ⟨g, r⟩ := mk_lst o hl a; k _ z _ _ _ g r hw⟩
      | _ => exact (hw : False).elim
def rTupA (K : PySem.W.Frag) : List V → Hp → VK → Prop := fun xs H Q => ∃ p ys, xs = [.ref p] ∧ ((SqL K H p ys ∧ ∀ l, H l = none → Q (.ref l) (upd H l (.tup ys))) ∨ (SqT K H p ys ∧ Q (.ref p) H))
def dTup (ds : List D) : WE Z := fun z Q => match ds with
  | [.list xs] => Q z (.tuple xs)
  | [.tuple xs] => Q z (.tuple xs)
  | _ => False
theorem rws_tup : RWs G K (rTupA K) dTup := fun B H z vs ds o r Q' hw Q k => by
  cases r with
  | nil => exact (hw : False).elim
  | cons h t =>
    cases t with
    | cons h2 t2 => cases h <;> exact (hw : False).elim
    | nil =>
      cases h with
      | lst h a => exact ⟨_, _, rfl, .inl ⟨SqL.of (o.sub _ _ h), fun l hl => let ⟨g, r⟩ := mk_tup o hl a; k _ z _ _ _ g r hw⟩⟩
      | tup h a => exact ⟨_, _, rfl, .inr ⟨same_t o.sub h, k _ z B H _ (Go.refl o) (.tup h a) hw⟩⟩
      | _ => exact (hw : False).elim
def rIntA : List V → Hp → VK → Prop := fun xs H Q => (∃ i, xs = [.int i] ∧ Q (.int i) H) ∨ ∃ k, xs = [.bl k] ∧ Q (.int (if k then 1 else 0)) H
def dInt (ds : List D) : WE Z := fun z Q => match ds with
  | [.int i] => Q z (.int i)
  | [.bool b] => Q z (.int (if b then 1 else 0))
  | _ => False
theorem rws_int : RWs G K rIntA dInt := fun B H z vs ds o r Q' hw Q k => by
  cases r with
  | nil => exact (hw : False).elim
  | cons h t =>
    cases t with
    | cons h2 t2 => cases h <;> exact (hw : False).elim
    | nil =>
      cases h with
      | int i => exact .inl ⟨i, rfl, k _ z B H _ (Go.refl o) (.int _) hw⟩
      | bl b => exact .inr ⟨b, rfl, k _ z B H _ (Go.refl o) (.int _) hw⟩
      | _ => exact (hw : False).elim
def rMin2 : List V → Hp → VK → Prop := fun xs H Q => ∃ i j, xs = [.int i, .int j] ∧ Q (.int (if j < i then j else i)) H
def dMin2 (ds : List D) : WE Z := fun z Q => ∃ i j, ds = [.int i, .int j] ∧ Q z (.int (if j < i then j else i))
theorem rws_min2 : RWs G K rMin2 dMin2 := fun B H z vs ds o r Q' hw Q k => by
  obtain ⟨i, j, rfl, q⟩ := hw
  cases r with
  | cons h t =>
    cases h
    cases t with
    | cons h t =>
      cases h
      cases t
      exact ⟨i, j, rfl, k _ z B H _ (Go.refl o) (.int _) q⟩
def rMax2 : List V → Hp → VK → Prop := fun vs H Q => ∃ i j, vs = [.int i, .int j] ∧ Q (.int (if j > i then j else i)) H
def dMax2 (ds : List D) : WE Z := fun z Q => ∃ i j, ds = [.int i, .int j] ∧ Q z (.int (if j > i then j else i))
theorem rws_max2 : RWs G K rMax2 dMax2 := fun B H z vs ds o r Q' hw Q k => by
  obtain ⟨i, j, rfl, q⟩ := hw
  cases r with
  | cons h t =>
    cases h
    cases t with
    | cons h t =>
      cases h
      cases t
      exact ⟨i, j, rfl, k _ z B H _ (Go.refl o) (.int _) q⟩
def dAll (ds : List D) : WE Z := fun z Q => ∃ bs : List Bool, ds = [.list (bs.map .bool)] ∧ Q z (.bool (bs.all id))
def dAny (ds : List D) : WE Z := fun z Q => ∃ bs : List Bool, ds = [.list (bs.map .bool)] ∧ Q z (.bool (bs.any id))
theorem DvAll.bools {B : Hp} : ∀ {bs : List Bool} {vs : List V}, DvAll K B vs (bs.map .bool) → vs = bs.map V.bl
  | [], _, h => by cases h; rfl
  | b :: bs, _, h => by
    cases h with
    | cons h t => cases h; rw [DvAll.bools t]; rfl
theorem rws_all : RWs G K (rAll K) dAll := fun B H z vs ds o r Q' hw Q k => by
  obtain ⟨bs, rfl, q⟩ := hw
  cases r with
  | cons h t =>
    cases t
    cases h with
    | lst h a => exact ⟨_, bs, rfl, by rw [← a.bools]; exact SqL.of (o.sub _ _ h), k _ z B H _ (Go.refl o) (.bl _) q⟩
theorem rws_any : RWs G K (rAny K) dAny := fun B H z vs ds o r Q' hw Q k => by
  obtain ⟨bs, rfl, q⟩ := hw
  cases r with
  | cons h t =>
    cases t
    cases h with
    | lst h a => exact ⟨_, bs, rfl, by rw [← a.bools]; exact SqL.of (o.sub _ _ h), k _ z B H _ (Go.refl o) (.bl _) q⟩
/-! ### isinstance(e, T), T a built-in type -/
def tyD : D → String
  | .bool _ => "bool" | .none => "NoneType" | .int _ => "int" | .str _ => "str" | .list _ => "list" | .tuple _ => "tuple" | .dict _ => "dict"
theorem tyD_of {B H : Hp} (e : Same B H) {v : V} {d : D} (h : Dv K B v d) : TyX K H v (.type (tyD d)) := by
  cases h with
  | non => exact .base .non
  | bl b => exact .base (.bl b)
  | int i => exact .base (.int i)
  | str x => exact .base (.str x)
  | lst h a => exact .base (.lst (e _ _ h))
  | dct h a => exact .base (.dK (e _ _ h))
  | tup h a =>
    rcases same_t e h with (h | ⟨o, h⟩) | ⟨o, its, n, h1, h2, _⟩
    · exact .base (.tup h)
    · exact .fTuple h
    · exact .kTuple h1 h2
theorem ev_isi {te : TE} {we : WE Z} {T : String} (f : D → Bool) (hf : ∀ d, kitB (tyD d) T = some (f d)) (ha : EvE G K te ρ we) : EvE G K (tCB (rIsi K) (tCons te (tCons (tC (.ty T)) tNil))) ρ (fun z Q => we z fun z1 x => Q z1 (.bool (f x))) :=
  fun σ B H z E o Q' hw Q k => ha σ B H z E o _ hw _ fun x z1 B1 H1 dx g1 r1 q1 => ⟨x, .ty T, .type (tyD dx), .type T, f dx, rfl, .ty T, tyD_of g1.ok.sub r1, kit_ty (hf dx), k _ z1 B1 H1 _ g1 (.bl _) q1⟩
def isIntD : D → Bool
  | .int _ => true | .bool _ => true | _ => false
def isBoolD : D → Bool
  | .bool _ => true | _ => false
def isStrD : D → Bool
  | .str _ => true | _ => false
def isTupD : D → Bool
  | .tuple _ => true | _ => false
def isListD : D → Bool
  | .list _ => true | _ => false
def isDictD : D → Bool
  | .dict _ => true | _ => false
theorem kit_int : ∀ d, kitB (tyD d) "int" = some (isIntD d) := by intro d; cases d <;> (simp only [tyD, isIntD, isBoolD, isStrD, isTupD, isListD, isDictD]; decide +kernel)
theorem kit_bool : ∀ d, kitB (tyD d) "bool" = some (isBoolD d) := by intro d; cases d <;> (simp only [tyD, isIntD, isBoolD, isStrD, isTupD, isListD, isDictD]; decide +kernel)
theorem kit_str : ∀ d, kitB (tyD d) "str" = some (isStrD d) := by intro d; cases d <;> (simp only [tyD, isIntD, isBoolD, isStrD, isTupD, isListD, isDictD]; decide +kernel)
theorem kit_tuple : ∀ d, kitB (tyD d) "tuple" = some (isTupD d) := by intro d; cases d <;> (simp only [tyD, isIntD, isBoolD, isStrD, isTupD, isListD, isDictD]; decide +kernel)
theorem kit_list : ∀ d, kitB (tyD d) "list" = some (isListD d) := by intro d; cases d <;> (simp only [tyD, isIntD, isBoolD, isStrD, isTupD, isListD, isDictD]; decide +kernel)
theorem kit_dict : ∀ d, kitB (tyD d) "dict" = some (isDictD d) := by intro d; cases d <;> (simp only [tyD, isIntD, isBoolD, isStrD, isTupD, isListD, isDictD]; decide +kernel)
end
section
variable {X : Cx}
theorem op_mulA : OpR X (binaryOp .Mult) rMulA := op_mul.or op_rep
theorem sl_any : SlR X (rSlAny X.K) := sl_tupA.or (sl_list.or sl_str)
end
end DL

/-! DL5 -/
namespace DL
open PySem PySem.Spec PyProof.Rows L2
variable {Z : Type}

/-! ### a def's promise where no repr is under way -/
section
variable (P : Program) (w : World) (K : PySem.W.Frag) (mg : Str → Option Value) (base : Heap) (CX : CXT)
structure FnG (k : Nat) (f : Addr) (fd : FuncData) (ps : List Str) (sp : Sp) : Prop where
  len : ∀ xs h q e, sp xs h q e → xs.length = ps.length
  go : ∀ (A : Around) (outer : List Env) (s : Shared) (h : Hp) (args : Args) (argv : List Value) (xs : List V) (q : VK) (e : XK),
    A.guards = some [] → Room k A → Env0 P w K mg base A outer s h → BindsTo s fd args (ps.zip argv) → Vals xs argv → sp xs h q e →
    codeAny (model P w) A (.call (.ref f) args) (CR CX outer P w h s q e) s
end
section
variable {P : Program} {w : World} {K : PySem.W.Frag} {mg : Str → Option Value} {base : Heap} {CX : CXT} {j k : Nat} {f : Addr} {fd : FuncData} {ps : List Str} {sp sp' : Sp}
theorem FnG.up (F : FnG P w K mg base CX j f fd ps sp) (h : j ≤ k) : FnG P w K mg base CX k f fd ps sp :=
  ⟨F.len, fun A o s h' a argv xs q e g r => F.go A o s h' a argv xs q e g (r.mono h)⟩
theorem FnG.sub (F : FnG P w K mg base CX k f fd ps sp) (h : ∀ xs h q e, sp' xs h q e → sp xs h q e) : FnG P w K mg base CX k f fd ps sp' :=
  ⟨fun xs h' q e z => F.len xs h' q e (h _ _ _ _ z), fun A o s h' a argv xs q e g r e0 b v z => F.go A o s h' a argv xs q e g r e0 b v (h _ _ _ _ z)⟩
theorem _root_.L2.FnOk.fnG (F : FnOk P w K mg base CX k f fd ps sp) : FnG P w K mg base CX k f fd ps sp :=
  ⟨F.len, fun A o s h' a argv xs q e _ r => F.run A o s h' a argv xs q e r⟩
/-- a def of the text keeps its promise, by its body -/
theorem fn_bodyC {x qual : Str} {st : Stmt} {N : List Str} (F : Fun K x qual st f fd) (S : FnScope N ps (defScope st)) (len : ∀ xs h q e, sp xs h q e → xs.length = ps.length)
    (body : ∀ (cdv : Value) (A : Around) (outer : List Env) (s : Shared) (h : Hp) (xs : List V) (q : VK) (e : XK),
      PySem.W.codeIn K cdv qual = true → (A.deeper (envOfC qual (defScope st) s.heap.objs.size f cdv)).guards = some [] → Room k (A.deeper (envOfC qual (defScope st) s.heap.objs.size f cdv)) → sp xs h q e →
      ∃ t, PSs (cxOf CX P w K mg base N qual (defScope st) f cdv A outer s h e) (defBody st) t ∧ t { nx := fun _ h' => q .non h', rt := q } (start N xs) h) :
    FnG P w K mg base CX (k + 1) f fd ps sp := by
  obtain ⟨ocl, odi, kwV, doc, pm, an, cdv, ct, osl, rfl, lkf, hcd⟩ := F.ex
  refine ⟨len, fun A outer s h args argv xs q e hg hr e0 hb rv hsp => ?_⟩
  have kk : ∀ b o, base.get? b = some o → s.heap.get? b = some o := fun b o z => (e0.bs b o z).1
  have kin := e0.mod.kin.keeps kk
  have lim := e0.mod.nolimit.keeps kk
  refine codeAny_call_function hr.depth (kin _ _ lkf) rfl S.co S.gen rfl (PySem.W.codeRec_of kin hcd) (hb _ _ _ _ ?_)
  refine wpAny_newFunctionEnv_cells S.kind (fun y hy => ?_) fun env he s1 ic => ?_
  · rcases S.par y.1 (List.of_mem_zip hy).1 with z | z
    · exact .inl z
    · exact .inr ⟨z, PySem.W.cellsFrom_some _ _ _ (.inl z)⟩
  subst he
  refine ⟨lim.keeps ic.toInCall.keep, codeAny_func ?_⟩
  obtain ⟨t, ht, hq⟩ := body cdv A outer s h xs q e hcd hg (hr.deeper _) hsp
  have J := inv_start (CX := CX) (P := P) (w := w) (K := K) (mg := mg) (base := base) (f := f) (cd := cdv) (E := e) S hr.hd e0 (len _ _ _ _ hsp) rv ic
  refine wpAny_mono (ht.run [] s1 (start N xs) h _ J hq) (fun fl s' hs => ?_) fun _ _ z => z
  cases fl with
  | next => obtain ⟨σ', h', J', z⟩ := hs; exact ⟨V.non, h', J'.os, J'.bare, J'.base, J'.hok, rfl, z⟩
  | brk => obtain ⟨_, _, _, z⟩ := hs; exact False.elim z
  | cont => obtain ⟨_, _, _, z⟩ := hs; exact False.elim z
  | ret u => obtain ⟨v, σ', h', J', r', z⟩ := hs; exact ⟨v, h', J'.os, J'.bare, J'.base, J'.hok, r', z⟩
/-- a def of the text keeps its promise, by its body -/
theorem fn_body {x qual : Str} {st : Stmt} {N : List Str} (F : Fun K x qual st f fd) (S : FnScope N ps (defScope st)) (len : ∀ xs h q e, sp xs h q e → xs.length = ps.length)
    (body : ∀ (cdv : Value) (A : Around) (outer : List Env) (s : Shared) (h : Hp) (xs : List V) (q : VK) (e : XK),
      (A.deeper (envOfC qual (defScope st) s.heap.objs.size f cdv)).guards = some [] → Room k (A.deeper (envOfC qual (defScope st) s.heap.objs.size f cdv)) → sp xs h q e →
      ∃ t, PSs (cxOf CX P w K mg base N qual (defScope st) f cdv A outer s h e) (defBody st) t ∧ t { nx := fun _ h' => q .non h', rt := q } (start N xs) h) :
    FnG P w K mg base CX (k + 1) f fd ps sp :=
  fn_bodyC F S len fun cdv A o s h xs q e _ hg hr z => body cdv A o s h xs q e hg hr z
/-- .. that lets no exception out -/
theorem fn_body0 {x qual : Str} {st : Stmt} {N : List Str} (F : Fun K x qual st f fd) (S : FnScope N ps (defScope st)) (len : ∀ xs h q e, sp xs h q e → xs.length = ps.length)
    (body : ∀ (cdv : Value) (A : Around) (outer : List Env) (s : Shared) (h : Hp) (xs : List V) (q : VK) (e : XK),
      (A.deeper (envOfC qual (defScope st) s.heap.objs.size f cdv)).guards = some [] → Room k (A.deeper (envOfC qual (defScope st) s.heap.objs.size f cdv)) → sp xs h q e →
      ∃ t, PSs (cxOf CX0 P w K mg base N qual (defScope st) f cdv A outer s h e).nox (defBody st) t ∧ t { nx := fun _ h' => q .non h', rt := q } (start N xs) h) :
    FnG P w K mg base CX0 (k + 1) f fd ps sp :=
  fn_body F S len fun cdv A o s h xs q e hg hr z => let ⟨t, h1, h2⟩ := body cdv A o s h xs q e hg hr z; ⟨t, h1.nox, h2⟩
/-- .. the code object known -/
theorem fn_body0C {x qual : Str} {st : Stmt} {N : List Str} (F : Fun K x qual st f fd) (S : FnScope N ps (defScope st)) (len : ∀ xs h q e, sp xs h q e → xs.length = ps.length)
    (body : ∀ (cdv : Value) (A : Around) (outer : List Env) (s : Shared) (h : Hp) (xs : List V) (q : VK) (e : XK),
      PySem.W.codeIn K cdv qual = true → (A.deeper (envOfC qual (defScope st) s.heap.objs.size f cdv)).guards = some [] → Room k (A.deeper (envOfC qual (defScope st) s.heap.objs.size f cdv)) → sp xs h q e →
      ∃ t, PSs (cxOf CX0 P w K mg base N qual (defScope st) f cdv A outer s h e).nox (defBody st) t ∧ t { nx := fun _ h' => q .non h', rt := q } (start N xs) h) :
    FnG P w K mg base CX0 (k + 1) f fd ps sp :=
  fn_bodyC F S len fun cdv A o s h xs q e hcd hg hr z => let ⟨t, h1, h2⟩ := body cdv A o s h xs q e hcd hg hr z; ⟨t, h1.nox, h2⟩
end

/-! ### calls -/
section
variable {X : Cx} {CX : CXT} {k : Nat} {f : Addr} {fd : FuncData} {ps : List Str} {sp : Sp} {dvs : List V} {dd : List Value} {e' : XK} {x : Str} {p pos : Pos} {e : Expr} {es : List Expr} {t : TA}
theorem run_g {pins : List (Addr × Obj)} {σ : L2.St} {h : Hp} {s : Shared} {q : VK} {argv : List Value} {xs : List V} (F : FnG X.prog X.w X.K X.mg X.base CX k f fd ps sp) (hg : X.A.guards = some []) (hr : Room k X.A) (hb : Binds X.K fd ps dd) (hd : Vals dvs dd)
    (hx : Passes CX X e') (I : Inv X pins σ h s) (r : Vals xs argv) (z : sp (xs ++ dvs) h q e') : wpAny (model X.prog X.w) X.A (call (.ref f) argv) (EP X pins σ q) X.xe s := by
  have r2 := r.append hd
  have hl : (argv ++ dd).length = ps.length := r2.length.symm.trans (F.len _ _ _ _ z)
  refine wpAny_call (codeAny_mono (F.go X.A X.stack s h ⟨argv, []⟩ (argv ++ dd) (xs ++ dvs) q e' hg hr I.env0 (hb s argv I.kIn hl) r2 z) fun res s' hq => ?_)
  match res, hq with
  | .error ee, hq => exact hx pins σ h s ee s' I hq
  | .ok (.ret u), hq => exact I.after hq
theorem pe_callG (F : FnG X.prog X.w X.K X.mg X.base CX k f fd ps sp) (hg : X.A.guards = some []) (hr : Room k X.A) (hgl : Gl X x) (hm : X.mg x = some (.ref f)) (hk : PySem.W.keepIn X.K (.ref f) = true) (hb : Binds X.K fd ps dd) (hd : Vals dvs dd)
    (hx : Passes CX X e') (ha : PA X (e :: es) t) (hdb : (x == ("__debug__" : Str)) = false := by decide) (he : starEach (e :: es) X.env = (false, eval e X.env) :: starEach es X.env := by rfl)
    (hpl : (backTo pos (starEach es X.env)).any (·.1) = false := by rfl) : PE X (.Call (.Name x p) (e :: es) [] pos) (tCall sp dvs e' t) :=
  ⟨fun pins s σ h q I z => wpAny_Call_Name_kw (ld_glob I hgl hm (PySem.W.callWith_K (h₀ := X.base) I.ok.mod.kin hk
    (thn (ha.run pos pins s σ h _ I z) fun argv s1 ⟨xs, h1, I1, r, z1⟩ => ⟨I1.kIn, run_g F hg hr hb hd hx I1 r z1⟩) he hpl) hdb)⟩
theorem pe_callG0 (F : FnG X.prog X.w X.K X.mg X.base CX k f fd ps sp) (hg : X.A.guards = some []) (hr : Room k X.A) (hgl : Gl X x) (hm : X.mg x = some (.ref f)) (hk : PySem.W.keepIn X.K (.ref f) = true) (hb : Binds X.K fd ps dd) (hd : Vals dvs dd)
    (hx : Passes CX X e') (hdb : (x == ("__debug__" : Str)) = false := by decide) : PE X (.Call (.Name x p) [] [] pos) (tCall sp dvs e' tNil) :=
  ⟨fun pins s σ h q I z => wpAny_Call_Name_kw (ld_glob I hgl hm (PySem.W.callWith_K0 I.kIn hk (run_g (argv := []) F hg hr hb hd hx I .nil z)) hdb)⟩
end

/-! ### promises over data -/
/-- a def of data: n arguments, worth f -/
def spD (K : PySem.W.Frag) (G : Gd Z) (n : Nat) (f : List D → WE Z) : Sp := fun xs H Q _ => xs.length = n ∧ ∃ (B : Hp) (z : Z) (ds : List D) (Q' : DK Z), Ok G z B H ∧ DvAll K B xs ds ∧ f ds z Q' ∧
  ∀ v z' B' H' d, Go G B H z' B' H' → Dv K B' v d → Q' z' d → Q v H'
theorem spD_len {K : PySem.W.Frag} {G : Gd Z} {ps : List Str} {f : List D → WE Z} : ∀ xs h q e, spD K G ps.length f xs h q e → xs.length = ps.length := fun _ _ _ _ h => h.1
theorem ev_callD {G : Gd Z} {K : PySem.W.Frag} {ρ : Rho} {ta : TA} {n : Nat} {wa : Z → (Z → List D → Prop) → Prop} {f : List D → WE Z} {e' : XK} (h : EvA G K ta ρ n wa) : EvE G K (tCall (spD K G n f) [] e' ta) ρ (fun z Q => wa z fun z1 ds => f ds z1 Q) :=
  fun σ B H z E o Q' hw Q k => h σ B H z E o _ hw _ fun vs z1 B1 H1 ds hl g1 r1 q1 => by
    rw [List.append_nil]
    exact ⟨by rw [r1.length, hl], B1, z1, ds, Q', g1.ok, r1, q1, fun v z2 B2 H2 d g2 r2 q2 => k v z2 B2 H2 d (g1.trans g2) r2 q2⟩
/-- .. with a first argument s that is no data -/
def spS (K : PySem.W.Frag) (G : Gd Z) (s : V) (n : Nat) (f : List D → WE Z) : Sp := fun xs H Q E => ∃ ys, xs = s :: ys ∧ spD K G n f ys H Q E
theorem spS_len {K : PySem.W.Frag} {G : Gd Z} {s : V} {n : Nat} {f : List D → WE Z} : ∀ xs h q e, spS K G s n f xs h q e → xs.length = n + 1 := fun _ _ _ _ ⟨ys, e, h, _⟩ => by rw [e, List.length_cons, h]
theorem ev_callS {G : Gd Z} {K : PySem.W.Frag} {ρ : Rho} {ta : TA} {n i : Nat} {s : V} {wa : Z → (Z → List D → Prop) → Prop} {f : List D → WE Z} {e' : XK} (hs : ρ[i]? = some (.val s)) (h : EvA G K ta ρ n wa) :
    EvE G K (tCall (spS K G s n f) [] e' (tCons (tVar i) ta)) ρ (fun z Q => wa z fun z1 ds => f ds z1 Q) :=
  fun σ B H z E o Q' hw Q k => ⟨s, E.val i s hs, h σ B H z E o _ hw _ fun vs z1 B1 H1 ds hl g1 r1 q1 => by
    show spS K G s n f ((s :: vs) ++ []) H1 Q e'
    rw [List.append_nil]
    exact ⟨vs, rfl, by rw [r1.length, hl], B1, z1, ds, Q', g1.ok, r1, q1, fun v z2 B2 H2 d g2 r2 q2 => k v z2 B2 H2 d (g1.trans g2) r2 q2⟩⟩

/-! ### repr -/
def rRepr (K : PySem.W.Frag) : List V → Hp → VK → Prop := fun xs H Q => ∃ x d, xs = [x] ∧ Dp K H x d ∧ PyData.showable d = true ∧ d.shown.length ≤ sizeLine ∧ d.hasDict = false ∧ d.depth ≤ 50 ∧ Q (.str d.shown) H
theorem call_repr {X : Cx} (hg : X.A.guards = some []) (hu : X.A.units + 64 < cLine) : CallR X (.builtin "repr") (rRepr X.K) := by
  intro pins s σ H xs argv Q I r h
  obtain ⟨x, d, rfl, dp, sh, sz, nd, dep, q⟩ := h
  obtain ⟨u, rfl, rv0⟩ := vals1 r
  cases dp with
  | non => cases rv0; exact PySem.P.repr_of_none ⟨.str _, H, I.tok _, ⟨_, rfl⟩, q⟩
  | bl b => cases rv0; exact PySem.P.repr_of_bool ⟨.str _, H, I.tok _, ⟨_, rfl⟩, q⟩
  | int i => obtain ⟨t, rfl⟩ := rv0; exact PySem.P.repr_of_int (by simpa [PyData.showable] using sh) ⟨.str _, H, I.tok _, ⟨_, rfl⟩, q⟩
  | str x => obtain ⟨t, rfl⟩ := rv0; exact PySem.P.repr_of_str ⟨.str _, H, I.tok _, ⟨_, rfl⟩, q⟩ sz
  | @lst a xs ds ha hs =>
    cases rv0
    obtain ⟨as, hr⟩ := Dp.reads I _ _ _ (Dp.lst ha hs) rfl
    exact repr_of_reads' hr sh (fun z => by rw [nd] at z; cases z) hg (by omega) (fun _ _ z => z) (fun h' u tk hk => ⟨.str _, H, I.kept hk, ⟨u, rfl⟩, q⟩) sz
  | @tup a xs ds ha hs =>
    cases rv0
    obtain ⟨as, hr⟩ := Dp.reads I _ _ _ (Dp.tup ha hs) rfl
    exact repr_of_reads' hr sh (fun z => by rw [nd] at z; cases z) hg (by omega) (fun _ _ z => z) (fun h' u tk hk => ⟨.str _, H, I.kept hk, ⟨u, rfl⟩, q⟩) sz
mutual
theorem flat_nodict : ∀ {d : D}, flat d = true → d.hasDict = false
  | .none, _ => by simp [PyData.hasDict]
  | .bool _, _ => by simp [PyData.hasDict]
  | .int _, _ => by simp [PyData.hasDict]
  | .str _, _ => by simp [PyData.hasDict]
  | .list xs, h => by simpa [PyData.hasDict] using flatAll_nodict (show flatAll xs = true by simpa [flat] using h)
  | .tuple xs, h => by simpa [PyData.hasDict] using flatAll_nodict (show flatAll xs = true by simpa [flat] using h)
  | .dict _, h => by simp [flat] at h
theorem flatAll_nodict : ∀ {ds : List D}, flatAll ds = true → PyData.hasDictAll ds = false
  | [], _ => by simp [PyData.hasDictAll]
  | d :: ds, h => by
    rw [flatAll, Bool.and_eq_true] at h
    simp [PyData.hasDictAll, flat_nodict h.1, flatAll_nodict h.2]
end
/-- what repr asks of data -/
def Shows (d : D) : Prop := flat d = true ∧ PyData.showable d = true ∧ d.shown.length ≤ sizeLine ∧ d.depth ≤ 50
def dRepr (ds : List D) : WE Z := fun z Q => ∃ d, ds = [d] ∧ Shows d ∧ Q z (.str d.shown)
theorem rws_repr {G : Gd Z} {K : PySem.W.Frag} : RWs G K (rRepr K) dRepr := fun B H z vs ds o r Q' hw Q k => by
  obtain ⟨d, rfl, ⟨s1, s2, s3, s4⟩, q⟩ := hw
  cases r with
  | cons h t =>
    cases t
    exact ⟨_, d, rfl, Dv.dp o.sub h s1, s2, s3, flat_nodict s1, s4, k _ z B H _ (Go.refl o) (.str _) q⟩
end DL

/-! DL6 -/
namespace DL
open PySem PySem.Spec PyProof.Rows L2
variable {Z : Type}

/-! ### names, told by what the name holds -/
section
variable {G : Gd Z} {K : PySem.W.Frag} {ρ : Rho}
/-- the data that slot i holds -/
def wVar (ρ : Rho) (i : Nat) : WE Z := fun z Q => ∃ d, ρ[i]? = some (.dat d) ∧ Q z d
theorem ev_pv {i : Nat} : EvE G K (tVar i) ρ (wVar ρ i) := fun σ B H z E o Q' hw Q k => by
  obtain ⟨d, h, q⟩ := hw
  exact ev_var h σ B H z E o Q' q Q k
theorem ev_callSt {ta : TA} {n i : Nat} {s : V} {wa : Z → (Z → List D → Prop) → Prop} {f : List D → WE Z} {e' : XK} (h : EvA G K ta ρ n wa) :
    EvE G K (tCall (spS K G s n f) [] e' (tCons (tVar i) ta)) ρ (fun z Q => ρ[i]? = some (.val s) ∧ wa z fun z1 ds => f ds z1 Q) :=
  fun σ B H z E o Q' hw Q k => ev_callS hw.1 h σ B H z E o Q' hw.2 Q k
end

/-! ### statements -/
structure WEnds (Z : Type) where
  nx : Rho → Z → Prop
  rt : Z → D → Prop
  bk : Rho → Z → Prop := fun _ _ => False
  ct : Rho → Z → Prop := fun _ _ => False
abbrev WS (Z : Type) := WEnds Z → Rho → Z → Prop
/-- where a body stands: from the entry B0, H0 -/
def At (G : Gd Z) (K : PySem.W.Frag) (B0 H0 : Hp) (ρ : Rho) (z : Z) (σ : L2.St) (H : Hp) : Prop := ∃ B, Go G B0 H0 z B H ∧ EnvOk K B σ ρ
structure Rel (G : Gd Z) (K : PySem.W.Frag) (B0 H0 : Hp) (W : WEnds Z) (Dn : Ends) : Prop where
  nx : ∀ ρ z σ H, At G K B0 H0 ρ z σ H → W.nx ρ z → Dn.nx σ H
  bk : ∀ ρ z σ H, At G K B0 H0 ρ z σ H → W.bk ρ z → Dn.bk σ H
  ct : ∀ ρ z σ H, At G K B0 H0 ρ z σ H → W.ct ρ z → Dn.ct σ H
  rt : ∀ z v d B H, Go G B0 H0 z B H → Dv K B v d → W.rt z d → Dn.rt v H
def EvS (G : Gd Z) (K : PySem.W.Frag) (ts : TS) (ws : WS Z) : Prop :=
  ∀ (B0 H0 : Hp) (W : WEnds Z) (Dn : Ends), Rel G K B0 H0 W Dn → ∀ ρ z σ H, At G K B0 H0 ρ z σ H → ws W ρ z → ts Dn σ H
/-- σ' is σ but at the places is -/
def Off (is : List Nat) (σ σ' : L2.St) : Prop := σ'.length = σ.length ∧ ∀ j, j ∉ is → σ'[j]? = σ[j]?
theorem Off.refl {is : List Nat} {σ : L2.St} : Off is σ σ := ⟨rfl, fun _ _ => rfl⟩
theorem Off.trans {a b : List Nat} {σ σ1 σ2 : L2.St} (h : Off a σ σ1) (k : Off b σ1 σ2) : Off (a ++ b) σ σ2 :=
  ⟨k.1.trans h.1, fun j hj => (k.2 j fun z => hj (List.mem_append_right _ z)).trans (h.2 j fun z => hj (List.mem_append_left _ z))⟩
theorem Off.set {i : Nat} {σ : L2.St} {v : Option V} : Off [i] σ (σ.set i v) := ⟨by simp, fun j hj => List.getElem?_set_ne (fun e => hj (by simp [e]))⟩
/-- a target -/
def EvG (K : PySem.W.Frag) (g : TG) (is : List Nat) (wg : D → Rho → (Rho → Prop) → Prop) : Prop :=
  ∀ (ρ : Rho) (σ : L2.St) (B H : Hp) (v : V) (d : D), Same B H → EnvOk K B σ ρ → Dv K B v d → ∀ k, wg d ρ k → ∀ Q : L2.St → Hp → Prop, (∀ σ' ρ', EnvOk K B σ' ρ' → Off is σ σ' → k ρ' → Q σ' H) → g v σ H Q
def EvGs (K : PySem.W.Frag) (g : TGs) (is : List Nat) (wg : List D → Rho → (Rho → Prop) → Prop) : Prop :=
  ∀ (ρ : Rho) (σ : L2.St) (B H : Hp) (vs : List V) (ds : List D), Same B H → EnvOk K B σ ρ → DvAll K B vs ds → ∀ k, wg ds ρ k → ∀ Q : L2.St → Hp → Prop, (∀ σ' ρ', EnvOk K B σ' ρ' → Off is σ σ' → k ρ' → Q σ' H) → g vs σ H Q
section
variable {G : Gd Z} {K : PySem.W.Frag} {te : TE} {we : Rho → WE Z} {t u : TS} {wt wu : WS Z} {tt : TT} {wb : Rho → Z → (Z → Bool → Prop) → Prop} {g : TG} {is js : List Nat} {wg : D → Rho → (Rho → Prop) → Prop}
theorem eg_name {i : Nat} : EvG K (gName i) [i] (fun d ρ k => k (ρ.set i (.dat d))) := fun ρ σ B H v d _ E r k h Q q => q _ _ (E.setD r) Off.set h
theorem egs_nil : EvGs K gNil [] (fun ds ρ k => ds = [] ∧ k ρ) := fun ρ σ B H vs ds _ E r k h Q q => by
  obtain ⟨rfl, h⟩ := h
  cases r
  exact ⟨rfl, q _ _ E Off.refl h⟩
theorem egs_cons {gs : TGs} {wgs : List D → Rho → (Rho → Prop) → Prop} (h1 : EvG K g is wg) (h2 : EvGs K gs js wgs) : EvGs K (gCons g gs) (is ++ js) (fun ds ρ k => ∃ d r, ds = d :: r ∧ wg d ρ fun ρ' => wgs r ρ' k) :=
  fun ρ σ B H vs ds e E r k h Q q => by
    obtain ⟨d, rs, rfl, h⟩ := h
    cases r with
    | cons a b => exact ⟨_, _, rfl, h1 ρ σ B H _ d e E a _ h _ fun σ' ρ' E' o' h' => h2 ρ' σ' B H _ rs e E' b k h' Q fun σ2 ρ2 E2 o2 k2 => q σ2 ρ2 E2 (o'.trans o2) k2⟩
theorem eg_tup {n : Nat} {gs : TGs} {wgs : List D → Rho → (Rho → Prop) → Prop} (h : EvGs K gs is wgs) : EvG K (gTup K n gs) is (fun d ρ k => ∃ ds, d = .tuple ds ∧ ds.length = n ∧ wgs ds ρ k) := fun ρ σ B H v d e E r k hw Q q => by
  obtain ⟨ds, rfl, hl, hw⟩ := hw
  cases r with
  | tup a b => exact ⟨_, _, rfl, same_t e a, by rw [b.length, hl], h ρ σ B H _ ds e E b k hw Q q⟩
variable {B0 H0 : Hp} {W : WEnds Z} {Dn : Ends}
theorem es_next : EvS G K tNext (fun W ρ z => W.nx ρ z) := fun B0 H0 W Dn R ρ z σ H a h => R.nx ρ z σ H a h
theorem es_break : EvS G K tBreak (fun W ρ z => W.bk ρ z) := fun B0 H0 W Dn R ρ z σ H a h => R.bk ρ z σ H a h
theorem es_cont : EvS G K tCont (fun W ρ z => W.ct ρ z) := fun B0 H0 W Dn R ρ z σ H a h => R.ct ρ z σ H a h
theorem es_never : EvS G K tNever (fun W ρ z => False) := fun B0 H0 W Dn R ρ z σ H a h => h.elim
theorem es_seq (h1 : EvS G K t wt) (h2 : EvS G K u wu) : EvS G K (tSeq t u) (fun W ρ z => wt { W with nx := fun ρ' z' => wu W ρ' z' } ρ z) := fun B0 H0 W Dn R ρ z σ H a h =>
  h1 B0 H0 { W with nx := fun ρ' z' => wu W ρ' z' } { Dn with nx := u Dn } ⟨fun ρ' z' σ' H' a' h' => h2 B0 H0 W Dn R ρ' z' σ' H' a' h', R.bk, R.ct, R.rt⟩ ρ z σ H a h
theorem es_asg (he : ∀ ρ, EvE G K te ρ (we ρ)) (hg : EvG K g is wg) : EvS G K (tAsg te g) (fun W ρ z => we ρ z fun z1 d => wg d ρ fun ρ' => W.nx ρ' z1) := fun B0 H0 W Dn R ρ z σ H a h => by
  obtain ⟨B, g0, E⟩ := a
  exact he ρ σ B H z E g0.ok _ h _ fun v z1 B1 H1 d g1 r1 q1 => hg ρ σ B1 H1 v d g1.ok.sub (E.mono g1.bb) r1 _ q1 _ fun σ' ρ' E' _ h' => R.nx ρ' z1 σ' H1 ⟨B1, g0.trans g1, E'⟩ h'
theorem es_drop (he : ∀ ρ, EvE G K te ρ (we ρ)) : EvS G K (tDrop te) (fun W ρ z => we ρ z fun z1 d => W.nx ρ z1) := fun B0 H0 W Dn R ρ z σ H a h => by
  obtain ⟨B, g0, E⟩ := a
  exact he ρ σ B H z E g0.ok _ h _ fun v z1 B1 H1 d g1 r1 q1 => R.nx ρ z1 σ H1 ⟨B1, g0.trans g1, E.mono g1.bb⟩ q1
theorem es_ret (he : ∀ ρ, EvE G K te ρ (we ρ)) : EvS G K (tRet te) (fun W ρ z => we ρ z fun z1 d => W.rt z1 d) := fun B0 H0 W Dn R ρ z σ H a h => by
  obtain ⟨B, g0, E⟩ := a
  exact he ρ σ B H z E g0.ok _ h _ fun v z1 B1 H1 d g1 r1 q1 => R.rt z1 v d B1 H1 (g0.trans g1) r1 q1
theorem es_retN : EvS G K tRetN (fun W ρ z => W.rt z .none) := fun B0 H0 W Dn R ρ z σ H a h => by
  obtain ⟨B, g0, E⟩ := a
  exact R.rt z .non .none B H g0 .non h
theorem es_if (hc : ∀ ρ, EvT G K tt ρ (wb ρ)) (h1 : EvS G K t wt) (h2 : EvS G K u wu) : EvS G K (tIfS tt t u) (fun W ρ z => wb ρ z fun z1 b => if b = true then wt W ρ z1 else wu W ρ z1) := fun B0 H0 W Dn R ρ z σ H a h => by
  obtain ⟨B, g0, E⟩ := a
  refine hc ρ σ B H z E g0.ok _ h _ fun b z1 B1 H1 g1 q1 => ?_
  have a1 : At G K B0 H0 ρ z1 σ H1 := ⟨B1, g0.trans g1, E.mono g1.bb⟩
  cases b with
  | true => exact h1 B0 H0 W Dn R ρ z1 σ H1 a1 q1
  | false => exact h2 B0 H0 W Dn R ρ z1 σ H1 a1 q1
/-! a def's body -/
theorem body_of {ts : TS} {ws : WS Z} (h : EvS G K ts ws) {f : List D → WE Z} {n : Nat} {N : List Str} {xs : List V} {H : Hp} {Q : VK} {E : XK}
    (hN : n ≤ N.length) (hws : ∀ ds z Q', ds.length = n → f ds z Q' → ws { nx := fun _ z' => Q' z' .none, rt := Q' } (ds.map Sl.dat ++ List.replicate (N.length - n) .any) z)
    (hsp : spD K G n f xs H Q E) : ts { nx := fun _ h' => Q .non h', rt := Q } (L2.start N xs) H := by
  obtain ⟨hl, B, z, ds, Q', o, r, hf, k⟩ := hsp
  have hd : ds.length = n := r.length.symm.trans hl
  refine h B H { nx := fun _ z' => Q' z' .none, rt := Q' } _ ⟨fun ρ z' σ H' a q => ?_, fun _ _ _ _ _ q => q.elim, fun _ _ _ _ _ q => q.elim, fun z' v d B' H' g rv q => k v z' B' H' d g rv q⟩ _ z _ H ⟨B, Go.refl o, ?_⟩ (hws ds z Q' hd hf)
  · obtain ⟨B', g, _⟩ := a
    exact k .non z' B' H' .none g .non q
  · unfold L2.start
    refine ⟨by simp [hl, hd], fun i d e => ?_, fun i v e => ?_⟩
    · by_cases hi : i < ds.length
      · rw [List.getElem?_append_left (by simpa using hi), List.getElem?_map] at e
        cases q : ds[i]? with
        | none => (rw [q] at e; cases e)
        | some d' =>
          rw [q] at e
          simp only [Option.map_some, Option.some.injEq, Sl.dat.injEq] at e
          subst e
          obtain ⟨v, h1, h2⟩ := r.get q
          refine ⟨v, ?_, h2⟩
          rw [List.getElem?_append_left (by rw [List.length_map]; exact (List.getElem?_eq_some_iff.mp h1).1), List.getElem?_map, h1]
          rfl
      · rw [List.getElem?_append_right (by simpa using hi), List.getElem?_replicate] at e
        split at e <;> cases e
    · by_cases hi : i < ds.length
      · rw [List.getElem?_append_left (by simpa using hi), List.getElem?_map] at e
        cases q : ds[i]? with
        | none => (rw [q] at e; cases e)
        | some d' => rw [q] at e; cases e
      · rw [List.getElem?_append_right (by simpa using hi), List.getElem?_replicate] at e
        split at e <;> cases e
end
end DL

/-! DL7 -/
namespace DL
open PySem PySem.Spec PyProof.Rows L2
variable {Z : Type}

/-! ### what is walked -/
def iAny (K : PySem.W.Frag) (te : TE) : TI := fun σ H R => te σ H fun x H1 =>
  (∃ a, x = .ref a ∧ (∃ xs, SqL K H1 a xs) ∧ R (Itl K a) H1) ∨ (∃ a, x = .ref a ∧ (∃ xs, SqT K H1 a xs) ∧ R (Itt K a) H1) ∨ ∃ s, x = .str s ∧ R (Its s) H1
theorem pi_any {X : Cx} {tg e : Expr} {te : TE} (he : PE X e te) : PI X tg e (iAny X.K te) := by
  refine ⟨fun pins s σ H R I h => thn (he.run pins s σ H _ I h) fun v s1 hv => ?_⟩
  obtain ⟨y, H1, I1, r1, c | c | c⟩ := hv
  · obtain ⟨a, rfl, ⟨xs, hq⟩, q⟩ := c
    cases r1
    obtain ⟨items, rvs, p, hsz⟩ := I1.list hq
    exact wpAny_pyIter_list p.isList (pi_one (tk := s1.toks) I1 _ (turn_list a _) ⟨_, Heap.get?_push_size _ rfl, rfl, rfl⟩ q)
  · obtain ⟨a, rfl, ⟨xs, hq⟩, q⟩ := c
    cases r1
    obtain ⟨items, rvs, p, hsz⟩ := I1.tuple hq
    exact wpAny_pyIter_tuple (show s1.heap.IsTuple a items.toArray from p) (pi_one (tk := s1.toks) I1 _ (turn_tuple a _) ⟨_, Heap.get?_push_size _ rfl, rfl, rfl⟩ q)
  · obtain ⟨x, rfl, q⟩ := c
    obtain ⟨t, rfl⟩ := r1
    cases hasc : x.cps.all (· < 128)
    · refine wpAny_pyIter_wide hasc (pi_one (tk := s1.toks) I1 _ (turn_str _ x t "str_iterator" (.inr rfl)) ⟨_, Heap.get?_push_size _ rfl, rfl, rfl⟩ q)
    · refine wpAny_pyIter_ascii hasc (pi_one (tk := s1.toks) I1 _ (turn_str _ x t "str_ascii_iterator" (.inl rfl)) ⟨_, Heap.get?_push_size _ rfl, rfl, rfl⟩ q)

section
variable {G : Gd Z} {K : PySem.W.Frag}
/-- J walks the data ds, from B on -/
def Wk (G : Gd Z) (K : PySem.W.Frag) (J : It) (ds : List D) (B : Hp) : Prop := ∃ (g : Hp → Prop) (Y : Nat → Hp → V → Hp → Prop), Walk J ds.length g Y ∧ (∀ H, Same B H → g H) ∧
  ∀ i H x H' B1 z, i < ds.length → Ok G z B1 H → Same B B1 → Y i H x H' → ∃ B2 d, Go G B1 H z B2 H' ∧ ds[i]? = some d ∧ Dv K B2 x d
def EvI (G : Gd Z) (K : PySem.W.Frag) (ti : TI) (ρ : Rho) (wi : Z → (Z → List D → Prop) → Prop) : Prop :=
  ∀ (σ : L2.St) (B H : Hp) (z : Z), EnvOk K B σ ρ → Ok G z B H → ∀ Q', wi z Q' → ∀ R : It → Hp → Prop,
    (∀ J z' B' H' ds, Go G B H z' B' H' → Wk G K J ds B' → Q' z' ds → R J H') → ti σ H R
/-- the items of data that is walked -/
def itemsD : D → Option (List D)
  | .list ds => some ds
  | .tuple ds => some ds
  | .str s => some (s.cps.toList.map fun c => .str ⟨#[c]⟩)
  | _ => none
variable {ρ : Rho} {te : TE} {we : WE Z}
theorem wk_list {B : Hp} {a : Addr} {xs : List V} {ds : List D} (h : B a = some (.lst xs)) (r : DvAll K B xs ds) : Wk G K (Itl K a) ds B := by
  refine ⟨_, _, by rw [← r.length]; exact walk_list, fun H e => SqL.of (e _ _ h), fun i H x H' B1 z hi o e y => ?_⟩
  obtain ⟨rfl, hx⟩ := y
  obtain ⟨d, hd⟩ : ∃ d, ds[i]? = some d := ⟨ds[i], by simp [hi]⟩
  obtain ⟨v, hv, rvs⟩ := r.get hd
  rw [hx] at hv
  cases hv
  exact ⟨B1, d, Go.refl o, hd, rvs.mono e⟩
theorem wk_tup {B : Hp} {a : Addr} {xs : List V} {ds : List D} (h : SqT K B a xs) (r : DvAll K B xs ds) : Wk G K (Itt K a) ds B := by
  refine ⟨_, _, by rw [← r.length]; exact walk_tup, fun H e => same_t e h, fun i H x H' B1 z hi o e y => ?_⟩
  obtain ⟨rfl, hx⟩ := y
  obtain ⟨d, hd⟩ : ∃ d, ds[i]? = some d := ⟨ds[i], by simp [hi]⟩
  obtain ⟨v, hv, rvs⟩ := r.get hd
  rw [hx] at hv
  cases hv
  exact ⟨B1, d, Go.refl o, hd, rvs.mono e⟩
theorem wk_str {B : Hp} (s : Str) : Wk G K (Its s) (s.cps.toList.map fun c => .str ⟨#[c]⟩) B := by
  refine ⟨_, _, by rw [List.length_map, Array.length_toList]; exact walk_str, fun H e => True.intro, fun i H x H' B1 z hi o e y => ?_⟩
  obtain ⟨rfl, c, hc, rfl⟩ := y
  exact ⟨B1, .str ⟨#[c]⟩, Go.refl o, by rw [List.getElem?_map, Array.getElem?_toList, hc]; rfl, .str _⟩
theorem ei_any (he : EvE G K te ρ we) : EvI G K (iAny K te) ρ (fun z Q => we z fun z1 x => ∃ ds, itemsD x = some ds ∧ Q z1 ds) := fun σ B H z E o Q' hw R k =>
  he σ B H z E o _ hw _ fun v z1 B1 H1 d g1 r1 q1 => by
    obtain ⟨ds, e, q⟩ := q1
    cases r1 with
    | lst h a => cases e; exact .inl ⟨_, rfl, ⟨_, SqL.of (g1.ok.sub _ _ h)⟩, k _ z1 B1 H1 _ g1 (wk_list h a) q⟩
    | tup h a => cases e; exact .inr (.inl ⟨_, rfl, ⟨_, same_t g1.ok.sub h⟩, k _ z1 B1 H1 _ g1 (wk_tup h a) q⟩)
    | str s => cases e; exact .inr (.inr ⟨_, rfl, k _ z1 B1 H1 _ g1 (wk_str s) q⟩)
    | _ => cases e
def intsD (lo : Int) (n : Nat) : List D := (List.range n).map fun (i : Nat) => .int (lo + (i : Int))
theorem wk_range {B : Hp} {lo : Int} {n : Nat} : Wk G K (Itr lo n) (intsD lo n) B := by
  refine ⟨_, _, by unfold intsD; rw [List.length_map, List.length_range]; exact walk_range, fun H e => True.intro, fun i H x H' B1 z hi o e y => ?_⟩
  obtain ⟨rfl, rfl⟩ := y
  unfold intsD at hi ⊢
  rw [List.length_map, List.length_range] at hi
  exact ⟨B1, _, Go.refl o, by rw [List.getElem?_map, List.getElem?_range hi]; rfl, .int _⟩
variable {ta : TA} {wa : Z → (Z → List D → Prop) → Prop}
theorem ei_range1 (he : EvA G K ta ρ 1 wa) : EvI G K (iRng1 ta) ρ (fun z Q => wa z fun z1 ds => ∃ j : Int, ds = [.int j] ∧ -(2 ^ 62) ≤ j ∧ j < 2 ^ 62 ∧ Q z1 (intsD 0 j.toNat)) := fun σ B H z E o Q' hw R k =>
  he σ B H z E o _ hw _ fun vs z1 B1 H1 ds _ g1 r1 q1 => by
    obtain ⟨j, rfl, h1, h2, q⟩ := q1
    cases r1 with
    | cons a b =>
      cases a
      cases b
      exact ⟨j, rfl, h1, h2, k _ z1 B1 H1 _ g1 wk_range q⟩
theorem ei_range2 (he : EvA G K ta ρ 2 wa) : EvI G K (iRng2 ta) ρ (fun z Q => wa z fun z1 ds => ∃ i j : Int, ds = [.int i, .int j] ∧ (-(2 ^ 62) ≤ i ∧ i < 2 ^ 62 ∧ -(2 ^ 62) ≤ j ∧ j < 2 ^ 62) ∧ Q z1 (intsD i (j - i).toNat)) := fun σ B H z E o Q' hw R k =>
  he σ B H z E o _ hw _ fun vs z1 B1 H1 ds _ g1 r1 q1 => by
    obtain ⟨i, j, rfl, h1, q⟩ := q1
    cases r1 with
    | cons a b =>
      cases a
      cases b with
      | cons a b =>
        cases a
        cases b
        exact ⟨i, j, rfl, h1, k _ z1 B1 H1 _ g1 wk_range q⟩
/-- enumerate(list) -/
theorem ei_enum (he : EvA G K ta ρ 1 wa) : EvI G K (iEnum K ta) ρ (fun z Q => wa z fun z1 ds => ∃ xs, ds = [.list xs] ∧ Q z1 (xs.zipIdx.map fun p => .tuple [.int (p.2 : Nat), p.1])) := fun σ B H z E o Q' hw R k =>
  he σ B H z E o _ hw _ fun vs z1 B1 H1 ds _ g1 r1 q1 => by
    obtain ⟨xs, rfl, q⟩ := q1
    cases r1 with
    | cons a b =>
      cases b
      cases a with
      | @lst p ys _ h a =>
        refine ⟨_, _, rfl, SqL.of (g1.ok.sub _ _ h), k _ z1 B1 H1 _ g1 ⟨_, _, by rw [List.length_map, List.length_zipIdx, ← a.length]; exact walk_enum, fun H e => SqL.of (e _ _ h), fun i H x H' B2 z hi o e y => ?_⟩ q⟩
        obtain ⟨T, x1, y1, rfl, hT, rfl, e1, e2⟩ := y
        cases e1
        rw [List.length_map, List.length_zipIdx] at hi
        obtain ⟨d, hd⟩ : ∃ d, xs[i]? = some d := ⟨xs[i], by simp [hi]⟩
        obtain ⟨v, hv, rvs⟩ := a.get hd
        have e3 : ys[i]? = some y1 := e2
        rw [e3] at hv
        cases hv
        obtain ⟨g, r⟩ := mk_tup o hT (DvAll.cons (.int (i : Nat)) (.cons (rvs.mono e) .nil))
        exact ⟨_, _, g, by rw [List.getElem?_map, List.getElem?_zipIdx, hd]; simp, r⟩

/-! ### for -/
def wFor (wb : WS Z) (wg : D → Rho → (Rho → Prop) → Prop) (W : WEnds Z) : List D → Rho → Z → Prop
  | [], ρ, z => W.nx ρ z
  | d :: r, ρ, z => wg d ρ fun ρ1 => wb { W with nx := fun ρ' z' => wFor wb wg W r ρ' z', ct := fun ρ' z' => wFor wb wg W r ρ' z', bk := W.nx } ρ1 z
theorem es_for {ti : TI} {g : TG} {tb : TS} {wi : Rho → Z → (Z → List D → Prop) → Prop} {wg : D → Rho → (Rho → Prop) → Prop} {wb : WS Z} {is : List Nat} (hi : ∀ ρ, EvI G K ti ρ (wi ρ)) (hg : EvG K g is wg) (hb : EvS G K tb wb) :
    EvS G K (tFor ti g tb) (fun W ρ z => wi ρ z fun z1 ds => wFor wb wg W ds ρ z1) := fun B0 H0 W Dn R ρ z σ H a h => by
  obtain ⟨B, g0, E⟩ := a
  refine hi ρ σ B H z E g0.ok _ h _ fun J z1 B1 H1 ds g1 wk q1 => ?_
  obtain ⟨gg, Y, wlk, hgg, hY⟩ := wk
  have key : ∀ (Pv : Nat → L2.St → Hp → Prop), (Pv = fun i σ' H' => ∃ ρ' z' B', Go G B0 H0 z' B' H' ∧ EnvOk K B' σ' ρ' ∧ Same B1 B' ∧ wFor wb wg W (ds.drop i) ρ' z') →
      ∀ i x σ' H' H2, i < ds.length → Pv i σ' H' → Y i H' x H2 → g x σ' H2 fun σ2 H3 => tb { Dn with nx := Pv (i + 1), ct := Pv (i + 1), bk := Dn.nx } σ2 H3 := by
    intro Pv hPv i x σ' H' H2 hlt p y
    rw [hPv] at p
    obtain ⟨ρ', z', B', g', E', sm, w'⟩ := p
    obtain ⟨B2, d, g2, hd, rd⟩ := hY i H' x H2 B' z' hlt g'.ok sm y
    have hdr : ds.drop i = d :: ds.drop (i + 1) := by
      obtain ⟨h1, h2⟩ := List.getElem?_eq_some_iff.mp hd
      (rw [List.drop_eq_getElem_cons h1, h2])
    rw [hdr] at w'
    have g02 := g'.trans g2
    refine hg ρ' σ' B2 H2 x d g2.ok.sub (E'.mono g2.bb) rd _ w' _ fun σ3 ρ3 E3 _ w3 => ?_
    refine hb B2 H2 { W with nx := fun ρ' z' => wFor wb wg W (ds.drop (i + 1)) ρ' z', ct := fun ρ' z' => wFor wb wg W (ds.drop (i + 1)) ρ' z', bk := W.nx } { Dn with nx := Pv (i + 1), ct := Pv (i + 1), bk := Dn.nx }
      ⟨fun ρ4 z4 σ4 H4 a4 w4 => ?_, fun ρ4 z4 σ4 H4 a4 w4 => ?_, fun ρ4 z4 σ4 H4 a4 w4 => ?_, fun z4 v d4 B4 H4 g4 r4 q4 => R.rt z4 v d4 B4 H4 (g02.trans g4) r4 q4⟩ ρ3 z' σ3 H2 ⟨B2, Go.refl g2.ok, E3⟩ w3
    · obtain ⟨B4, g4, E4⟩ := a4
      show Pv (i + 1) σ4 H4
      rw [hPv]
      exact ⟨ρ4, z4, B4, g02.trans g4, E4, (sm.trans g2.bb).trans g4.bb, w4⟩
    · obtain ⟨B4, g4, E4⟩ := a4
      exact R.nx ρ4 z4 σ4 H4 ⟨B4, g02.trans g4, E4⟩ w4
    · obtain ⟨B4, g4, E4⟩ := a4
      show Pv (i + 1) σ4 H4
      rw [hPv]
      exact ⟨ρ4, z4, B4, g02.trans g4, E4, (sm.trans g2.bb).trans g4.bb, w4⟩
  refine for_it wlk (fun i σ' H' => ∃ ρ' z' B', Go G B0 H0 z' B' H' ∧ EnvOk K B' σ' ρ' ∧ Same B1 B' ∧ wFor wb wg W (ds.drop i) ρ' z') ⟨ρ, z1, B1, g0.trans g1, E.mono g1.bb, Same.refl _, by rw [List.drop_zero]; exact q1⟩
    (fun i σ' H' _ p => ?_) (fun i x σ' H' H2 hlt p y => key _ rfl i x σ' H' H2 hlt p y) (fun σ' H' p => ?_)
  · obtain ⟨ρ', z', B', g', E', sm, _⟩ := p
    exact hgg H' (sm.trans g'.ok.sub)
  · obtain ⟨ρ', z', B', g', E', sm, w'⟩ := p
    rw [List.drop_length] at w'
    exact R.nx ρ' z' σ' H' ⟨B', g', E'⟩ w'
end
end DL

/-! DL8 -/
namespace DL
open PySem PySem.Spec PyProof.Rows L2
variable {Z : Type}
section
variable {G : Gd Z} {z z' : Z} {B H B' H' : Hp}
theorem Go.mut {p : Addr} {o : HO} (g : Go G B H z' B' H') (hp : H p = none) (hb : B' p = none) (ns : ¬ G.S H' p) : Go G B H z' B' (upd H' p o) := by
  obtain ⟨l1, l2⟩ := G.loc z' B' B' H' (upd H' p o) (Same.refl _) (fun a s => upd_ne fun e => ns (by rw [← e]; exact s)) g.ok.inv
  exact ⟨g.bb, ⟨fun a u e => by rw [upd_ne (ne_of_none e hb)]; exact g.ok.sub a u e, fun a s => g.ok.off a (l2 a s), l1⟩,
    fun a u n e => by rw [upd_ne (ne_of_none e hp)]; exact g.fr a u n e, fun a s => g.gr a (l2 a s), fun a h => ex_upd a (g.ex a h), g.sep⟩
theorem Go.keep {p : Addr} {o : HO} (g : Go G B H z' B' H') (hp : H p = none) (hq : H' p = some o) (ns : ¬ G.S H' p) (hb : B' p = none) : Go G B H z' (upd B' p o) H' := by
  have nb : ∀ a u, B a = some u → a ≠ p := fun a u e q => by
    have := g.bb a u e
    rw [q, hb] at this
    cases this
  refine ⟨fun a u e => by rw [upd_ne (nb a u e)]; exact g.bb a u e, ⟨fun a u e => ?_, fun a s => ?_, (G.loc z' B' (upd B' p o) H' H' (fun a u e => by rw [upd_ne (ne_of_none e hb)]; exact e) (fun _ _ => rfl) g.ok.inv).1⟩, g.fr, g.gr, g.ex, fun a e1 e2 => ?_⟩
  · by_cases q : a = p
    · subst q; rw [upd_same] at e; cases e; exact hq
    · rw [upd_ne q] at e; exact g.ok.sub a u e
  · rw [upd_ne fun e => ns (by rw [← e]; exact s)]; exact g.ok.off a s
  · rw [upd_ne fun e => e2 (by rw [e]; exact hp)]; exact g.sep a e1 e2
theorem Ok.notS (o : Ok G z B H) {p : Addr} (hp : H p = none) : ¬ G.S H p := fun s => G.dom z B H p o.inv s hp
end
/-! ### a comprehension -/
def wipeR (ρ : Rho) (vs : List Nat) : Rho := (ρ.zipIdx).map fun p => if p.2 ∈ vs then .any else p.1
def wLc (wg : D → Rho → (Rho → Prop) → Prop) (wt : Rho → Z → (Z → Bool → Prop) → Prop) (we : Rho → WE Z) (ρ : Rho) (Q : DK Z) : List D → Z → List D → Prop
  | [], z, acc => Q z (.list acc)
  | d :: r, z, acc => wg d ρ fun ρ1 => wt ρ1 z fun z1 b => if b = true then we ρ1 z1 fun z2 y => acc.length < sizeLine ∧ wLc wg wt we ρ Q r z2 (acc ++ [y]) else wLc wg wt we ρ Q r z1 acc
theorem wipe_get (σ : L2.St) : ∀ (vs : List Nat) (j : Nat), (L2.wipe σ vs)[j]? = if j ∈ vs ∧ j < σ.length then some none else σ[j]? := by
  intro vs
  induction vs with
  | nil => intro j; simp [L2.wipe]
  | cons i r ih =>
    intro j
    show ((L2.wipe σ r).set i none)[j]? = _
    by_cases e : i = j
    · subst e
      by_cases h : i < σ.length
      · rw [List.getElem?_set_self (by rw [wipe_length]; exact h), if_pos ⟨List.mem_cons_self, h⟩]
      · rw [List.getElem?_eq_none (by rw [List.length_set, wipe_length]; omega), if_neg (fun q => h q.2), List.getElem?_eq_none (by omega)]
    · rw [List.getElem?_set_ne e, ih j]
      have : (j ∈ i :: r) ↔ j ∈ r := by simp [Ne.symm e]
      simp only [this]
theorem wipe_off {σ σ' : L2.St} {is vs : List Nat} (h : Off is (L2.wipe σ vs) σ') (hs : ∀ i ∈ is, i ∈ vs) : L2.wipe σ' vs = L2.wipe σ vs := by
  have hl : σ'.length = σ.length := by rw [h.1, wipe_length]
  apply List.ext_getElem?
  intro j
  rw [wipe_get, wipe_get, hl]
  by_cases c : j ∈ vs ∧ j < σ.length
  · rw [if_pos c, if_pos c]
  · rw [if_neg c, if_neg c]
    by_cases hj : j ∈ vs
    · have : ¬ j < σ.length := fun q => c ⟨hj, q⟩
      rw [List.getElem?_eq_none (by omega), List.getElem?_eq_none (by omega)]
    · rw [h.2 j fun q => hj (hs j q), wipe_get, if_neg c]
section
variable {G : Gd Z} {K : PySem.W.Frag} {ρ : Rho}
theorem et_yes : EvT G K tYes ρ (fun z Q => Q z true) := fun σ B H z E o Q' hw Q k => k true z B H (Go.refl o) hw
theorem ev_lc {ti : TI} {g : TG} {tt : TT} {te : TE} {vs is : List Nat} {wi : Z → (Z → List D → Prop) → Prop} {wg : D → Rho → (Rho → Prop) → Prop} {wt : Rho → Z → (Z → Bool → Prop) → Prop} {we : Rho → WE Z}
    (hi : EvI G K ti ρ wi) (hg : EvG K g is wg) (ht : ∀ ρ, EvT G K tt ρ (wt ρ)) (he : ∀ ρ, EvE G K te ρ (we ρ)) (hs : ∀ i ∈ is, i ∈ vs := by decide) :
    EvE G K (tLc ti g tt te vs) ρ (fun z Q => wi z fun z1 ds => wLc wg wt we (wipeR ρ vs) Q ds z1 []) := fun σ B H z E o Q' hw Q k => by
  refine hi σ B H z E o _ hw _ fun J z1 B1 H1 ds g1 wk q1 Dl hD => ?_
  obtain ⟨gg, Y, wlk, hgg, hY⟩ := wk
  have nS := g1.ok.notS hD
  have bD := g1.ok.gone hD
  have E1 := E.mono g1.bb
  have nS0 : ¬ G.S (upd H1 Dl (.lst [])) Dl := fun s => nS ((G.loc z1 B1 B1 H1 _ (Same.refl _) (fun a s' => upd_ne fun e => nS (by rw [← e]; exact s')) g1.ok.inv).2 Dl s)
  refine lc_it wlk (fun i H' => ∃ z' B' accv acc, Go G B1 H1 z' B' H' ∧ H' Dl = some (.lst accv) ∧ (¬ G.S H' Dl) ∧ B' Dl = none ∧ DvAll K B' accv acc ∧ wLc wg wt we (wipeR ρ vs) Q' (ds.drop i) z' acc)
    ⟨z1, B1, [], [], (Go.refl g1.ok).mut hD bD nS, upd_same, nS0, bD, .nil, by rw [List.drop_zero]; exact q1⟩ (fun i H' _ p => ?_) (fun i x H' H2 hlt p y => ?_) (fun H' p => ?_)
  · obtain ⟨z', B', accv, acc, g', _⟩ := p
    exact hgg H' (g'.bb.trans g'.ok.sub)
  · obtain ⟨z', B', accv, acc, g', hl, nS', hb, ra, w'⟩ := p
    obtain ⟨B2, d, g2, hd, rd⟩ := hY i H' x H2 B' z' hlt g'.ok g'.bb y
    have hdr : ds.drop i = d :: ds.drop (i + 1) := by
      obtain ⟨h1, h2⟩ := List.getElem?_eq_some_iff.mp hd
      (rw [List.drop_eq_getElem_cons h1, h2])
    rw [hdr] at w'
    have E2 : EnvOk K B2 (L2.wipe σ vs) (wipeR ρ vs) := ((E1.mono g'.bb).mono g2.bb).wipe vs
    have hl2 : H2 Dl = some (.lst accv) := g2.fr _ _ nS' hl
    have n2 := g2.notS nS' (by rw [hl]; intro z; cases z)
    have hb2 : B2 Dl = none := g2.sep Dl hb (by rw [hl]; intro z; cases z)
    refine hg (wipeR ρ vs) (L2.wipe σ vs) B2 H2 x d g2.ok.sub E2 rd _ w' _ fun σ3 ρ3 E3 off w3 => ⟨wipe_off off hs, ?_⟩
    refine ht ρ3 σ3 B2 H2 z' E3 g2.ok _ w3 _ fun b z3 B3 H3 g3 q3 => ?_
    have hl3 : H3 Dl = some (.lst accv) := g3.fr _ _ n2 hl2
    have n3 := g3.notS n2 (by rw [hl2]; intro z; cases z)
    have hb3 : B3 Dl = none := g3.sep Dl hb2 (by rw [hl2]; intro z; cases z)
    have g13 := (g'.trans g2).trans g3
    have r3 := (ra.mono g2.bb).mono g3.bb
    cases b with
    | false => exact ⟨z3, B3, accv, acc, g13, hl3, n3, hb3, r3, q3⟩
    | true =>
      refine he ρ3 σ3 B3 H3 z3 (E3.mono g3.bb) g3.ok _ q3 _ fun y z4 B4 H4 dy g4 r4 q4 => ?_
      have hl4 : H4 Dl = some (.lst accv) := g4.fr _ _ n3 hl3
      have n4 := g4.notS n3 (by rw [hl3]; intro z; cases z)
      have n5 : ¬ G.S (upd H4 Dl (.lst (accv ++ [y]))) Dl := fun s => n4 ((G.loc z4 B4 B4 H4 _ (Same.refl _) (fun a s' => upd_ne fun e => n4 (by rw [← e]; exact s')) g4.ok.inv).2 Dl s)
      have hb4 : B4 Dl = none := g4.sep Dl hb3 (by rw [hl3]; intro z; cases z)
      have r34 := r3.mono g4.bb
      exact ⟨accv, hl4, by rw [r34.length]; exact q4.1, z4, B4, accv ++ [y], acc ++ [dy], (g13.trans g4).mut hD hb4 n4, upd_same, n5, hb4, r34.append (.cons r4 .nil), q4.2⟩
  · obtain ⟨z', B', accv, acc, g', hl, nS', hb, ra, w'⟩ := p
    rw [List.drop_length] at w'
    have gk := g'.keep hD hl nS' hb
    exact k _ z' _ H' _ (g1.trans gk) (.lst upd_same (ra.mono fun a u e => by rw [upd_ne (ne_of_none e hb)]; exact e)) w'
end
end DL

/-! DL9 -/
namespace DL
open PySem PySem.Spec PyProof.Rows L2
variable {Z : Type}

section
variable {G : Gd Z} {K : PySem.W.Frag} {ρ : Rho}
/-! ### in, of a list, a tuple, a text -/
def rInA (K : PySem.W.Frag) (neg : Bool) : R2 := fun x y H Q => rIn K neg x y H Q ∨ ∃ i j, x = .str i ∧ y = .str j ∧ Q (.bl (if neg then !(!(Builtin.Str.occurrences j i 0 j.length 1).isEmpty) else !(Builtin.Str.occurrences j i 0 j.length 1).isEmpty)) H
def dInA (neg : Bool) (x y : D) : WE Z := fun z Q => match y with
  | .str j => ∃ i, x = .str i ∧ Q z (.bool (if neg then !(!(Builtin.Str.occurrences j i 0 j.length 1).isEmpty) else !(Builtin.Str.occurrences j i 0 j.length 1).isEmpty))
  | _ => dIn neg x y z Q
theorem rw_inA {neg : Bool} : RW G K (rInA K neg) (dInA neg) := fun B H z x y dx dy o rx ry Q' hw Q k => by
  cases ry with
  | str j =>
    obtain ⟨i, rfl, q⟩ := hw
    cases rx
    exact .inr ⟨i, j, rfl, rfl, k _ z B H _ (Go.refl o) (.bl _) q⟩
  | lst h a => exact .inl (rw_in B H z x _ dx _ o rx (.lst h a) Q' hw Q k)
  | tup h a => exact .inl (rw_in B H z x _ dx _ o rx (.tup h a) Q' hw Q k)
  | non => exact (hw : False).elim
  | bl _ => exact (hw : False).elim
  | int _ => exact (hw : False).elim
  | dct _ _ => exact (hw : False).elim
theorem ru_neg : RW1 G K (rU fun i => .int (-i)) (fun x z Q => ∃ i, x = .int i ∧ Q z (.int (-i))) := fun B H z x dx o rx Q' hw Q k => by
  obtain ⟨i, rfl, q⟩ := hw
  cases rx
  exact ⟨i, rfl, k _ z B H _ (Go.refl o) (.int _) q⟩
/-! ### truth -/
def truD : D → Option Bool
  | .none => some false
  | .bool b => some b
  | .int i => some (i != 0)
  | .str s => some ((s.length : Int) != 0)
  | .list xs => some (!xs.isEmpty)
  | .tuple xs => some (!xs.isEmpty)
  | .dict xs => some (!xs.isEmpty)
theorem empty_of {B : Hp} {xs : List V} {ds : List D} (a : DvAll K B xs ds) : (!xs.isEmpty) = !ds.isEmpty := by cases a <;> rfl
def rTru (K : PySem.W.Frag) : V → Hp → (Bool → Hp → Prop) → Prop := fun x H Q => ∃ k, TruV K x H k ∧ Q k H
theorem et_truth {te : TE} {we : WE Z} (he : EvE G K te ρ we) : EvT G K (fun σ H Q => te σ H fun x H1 => rTru K x H1 Q) ρ (fun z Q => we z fun z1 x => (∀ s, x = .str s → s.length ≤ sizeLine) ∧ ∃ b, truD x = some b ∧ Q z1 b) :=
  fun σ B H z E o Q' hw Q k => he σ B H z E o _ hw _ fun v z1 B1 H1 d g1 r1 q1 => by
    obtain ⟨hs, b, e, q⟩ := q1
    have fin := k b z1 B1 H1 g1 q
    cases r1 with
    | non => cases e; exact ⟨_, rfl, fin⟩
    | bl _ => cases e; exact ⟨_, rfl, fin⟩
    | int _ => cases e; exact ⟨_, rfl, fin⟩
    | str s => cases e; exact ⟨_, ⟨hs s rfl, rfl⟩, fin⟩
    | lst h a => cases e; exact ⟨_, .inl ⟨_, SqL.of (g1.ok.sub _ _ h), (empty_of a).symm⟩, fin⟩
    | tup h a => cases e; exact ⟨_, .inr (.inl ⟨_, same_t g1.ok.sub h, (empty_of a).symm⟩), fin⟩
    | @dct p kvs ds h a =>
      have e2 : (!((kvs.map fun p => keyD p.1).zip ds).isEmpty) = b := by
        have := e
        simp only [truD, Option.some.injEq] at this
        exact this
      refine ⟨b, .inr (.inr ⟨kvs, g1.ok.sub _ _ h, ?_⟩), fin⟩
      rw [← e2]
      have hl := a.length
      rw [List.length_map] at hl
      cases kvs with
      | nil => rfl
      | cons x y =>
        cases ds with
        | nil => simp at hl
        | cons u w => rfl
/-! ### a, b = e1, e2 -/
theorem es_par {i j : Nat} {ta : TA} {wa : Rho → Z → (Z → List D → Prop) → Prop} (he : ∀ ρ, EvA G K ta ρ 2 (wa ρ)) : EvS G K (tPar i j ta) (fun W ρ z => wa ρ z fun z1 ds => ∃ d e, ds = [d, e] ∧ W.nx ((ρ.set i (.dat d)).set j (.dat e)) z1) := fun B0 H0 W Dn R ρ z σ H a h => by
  obtain ⟨B, g0, E⟩ := a
  refine he ρ σ B H z E g0.ok _ h _ fun vs z1 B1 H1 ds hl g1 r1 q1 => ?_
  obtain ⟨d, e, rfl, q⟩ := q1
  cases r1 with
  | cons r t =>
    cases t with
    | cons r' t =>
      cases t
      exact ⟨_, _, rfl, R.nx _ z1 _ H1 ⟨B1, g0.trans g1, ((E.mono g1.bb).setD r).setD r'⟩ q⟩
/-! a def's body, the first argument no data -/
theorem body_ofS {ts : TS} {ws : WS Z} (h : EvS G K ts ws) {s : V} {f : List D → WE Z} {n : Nat} {N : List Str} {xs : List V} {H : Hp} {Q : VK} {E : XK}
    (hws : ∀ ds z Q', ds.length = n → f ds z Q' → ws { nx := fun _ z' => Q' z' .none, rt := Q' } (Sl.val s :: (ds.map Sl.dat ++ List.replicate (N.length - (n + 1)) .any)) z)
    (hsp : spS K G s n f xs H Q E) (hN : n + 1 ≤ N.length) : ts { nx := fun _ h' => Q .non h', rt := Q } (L2.start N xs) H := by
  obtain ⟨ys, rfl, hl, B, z, ds, Q', o, r, hf, k⟩ := hsp
  have hd : ds.length = n := r.length.symm.trans hl
  refine h B H { nx := fun _ z' => Q' z' .none, rt := Q' } _ ⟨fun ρ z' σ' H' a q => ?_, fun _ _ _ _ _ q => q.elim, fun _ _ _ _ _ q => q.elim, fun z' v d B' H' g rv q => k v z' B' H' d g rv q⟩ _ z _ H ⟨B, Go.refl o, ?_⟩ (hws ds z Q' hd hf)
  · obtain ⟨B', g, _⟩ := a
    exact k .non z' B' H' .none g .non q
  · unfold L2.start
    refine ⟨by simp [hl, hd], fun i d e => ?_, fun i v e => ?_⟩
    · cases i with
      | zero => simp at e
      | succ i =>
        rw [List.getElem?_cons_succ] at e
        by_cases hi : i < ds.length
        · rw [List.getElem?_append_left (by simpa using hi), List.getElem?_map] at e
          cases q : ds[i]? with
          | none => (rw [q] at e; cases e)
          | some d' =>
            rw [q] at e
            simp only [Option.map_some, Option.some.injEq, Sl.dat.injEq] at e
            subst e
            obtain ⟨v, h1, h2⟩ := r.get q
            refine ⟨v, ?_, h2⟩
            rw [List.map_cons, List.cons_append, List.getElem?_cons_succ, List.getElem?_append_left (by rw [List.length_map]; exact (List.getElem?_eq_some_iff.mp h1).1), List.getElem?_map, h1]
            rfl
        · rw [List.getElem?_append_right (by simpa using hi), List.getElem?_replicate] at e
          split at e <;> cases e
    · cases i with
      | zero =>
        simp at e
        subst e
        rfl
      | succ i =>
        rw [List.getElem?_cons_succ] at e
        by_cases hi : i < ds.length
        · rw [List.getElem?_append_left (by simpa using hi), List.getElem?_map] at e
          cases q : ds[i]? with
          | none => (rw [q] at e; cases e)
          | some d' => rw [q] at e; cases e
        · rw [List.getElem?_append_right (by simpa using hi), List.getElem?_replicate] at e
          split at e <;> cases e
end
section
variable {X : Cx}
theorem op_inA : OpR X (compareOp .In) (rInA X.K false) := op_in_seq.or op_in_str
theorem op_notInA : OpR X (compareOp .NotIn) (rInA X.K true) := op_notIn_seq.or op_notin_str
end

/-! ### a def of the text, with its name in the module -/
structure Fd (K : PySem.W.Frag) (mg : Str → Option Value) (x : Str) (st : Stmt) (ps : List Str) (f : Addr) (fd : FuncData) : Prop where
  fn : Fun K x x st f fd
  mg : mg x = some (.ref f)
  b : Binds K fd ps []
end DL

/-! DL10 -/
namespace DL
open PySem PySem.Spec PyProof.Rows L2
/-! ### what the draws of a law lean on: a dict of cells, lefts and a count -/
structure StA where
  sd : Addr
  sc : Addr
  sl : Addr
  cells : List Int
  n1 : sd ≠ sl
  n2 : sc ≠ sl
  n3 : sd ≠ sc
  ne : cells ≠ []
  le : cells.length ≤ 63
def stK (s : StA) (z : Nat) : List (Key × V) := [(.inr "cells", .ref s.sc), (.inr "lefts", .ref s.sl), (.inr "at", .int (z : Int))]
structure StI (s : StA) (z : Nat) (H : Hp) : Prop where
  d : H s.sd = some (.dK (stK s z))
  c : H s.sc = some (.lst (s.cells.map .int))
  l : ∃ ls : List Int, ls.length = s.cells.length ∧ H s.sl = some (.lst (ls.map .int))
def GS (s : StA) : Gd Nat where
  S := fun _ a => a = s.sd ∨ a = s.sc ∨ a = s.sl
  inv := fun z _ H => StI s z H
  loc := fun z _ _ H H' _ e i => by
    obtain ⟨ls, h1, h2⟩ := i.l
    exact ⟨⟨by rw [e _ (.inl rfl)]; exact i.d, by rw [e _ (.inr (.inl rfl))]; exact i.c, ls, h1, by rw [e _ (.inr (.inr rfl))]; exact h2⟩, fun _ h => h⟩
  dom := fun z _ H a i hs => by
    obtain ⟨ls, h1, h2⟩ := i.l
    rcases hs with e | e | e
    · rw [e, i.d]; intro q; cases q
    · rw [e, i.c]; intro q; cases q
    · rw [e, h2]; intro q; cases q
theorem ke1 : ¬ ((Sum.inr ("cells" : Str) : Key) = Sum.inr ("at" : Str)) := by decide +kernel
theorem ke2 : ¬ ((Sum.inr ("lefts" : Str) : Key) = Sum.inr ("at" : Str)) := by decide +kernel
theorem ke3 : ¬ ((Sum.inr ("cells" : Str) : Key) = Sum.inr ("lefts" : Str)) := by decide +kernel
theorem stK_at (s : StA) (z : Nat) : valV (stK s z) (Sum.inr "at" : Key) = some (.int (z : Int)) := by
  unfold stK
  rw [valV_neg ke1, valV_neg ke2, valV_pos rfl]
theorem stK_cells (s : StA) (z : Nat) : valV (stK s z) (Sum.inr "cells" : Key) = some (.ref s.sc) := by
  unfold stK
  rw [valV_pos rfl]
theorem stK_lefts (s : StA) (z : Nat) : valV (stK s z) (Sum.inr "lefts" : Key) = some (.ref s.sl) := by
  unfold stK
  rw [valV_neg ke3, valV_pos rfl]
theorem stK_put (s : StA) (z : Nat) : putK (stK s z) (Sum.inr "at" : Key) (.int ((z : Int) + 1)) = stK s (z + 1) := by
  unfold putK stK
  simp [ke1, ke2]
  exact ⟨by decide +kernel, by decide +kernel⟩
/-- behind a draw: the count is one more, the heap is as it was but for the draws' own -/
theorem go_draw {s : StA} {z : Nat} {B H H' : Hp} (o : Ok (GS s) z B H) (i : StI s (z + 1) H') (fr : ∀ a o, a ≠ s.sd → a ≠ s.sl → H a = some o → H' a = some o) : Go (GS s) B H (z + 1) B H' := by
  obtain ⟨ls, h1, h2⟩ := id i.l
  refine ⟨Same.refl _, ⟨fun a u e => fr a u (fun q => by have := o.off a (.inl q); rw [this] at e; cases e) (fun q => by have := o.off a (.inr (.inr q)); rw [this] at e; cases e) (o.sub a u e), o.off, i⟩,
    fun a u n e => fr a u (fun q => n (.inl q)) (fun q => n (.inr (.inr q))) e, fun a h => .inl h, fun a h => ?_, fun _ e _ => e⟩
  by_cases q : a = s.sd
  · rw [q, i.d]; intro z; cases z
  · by_cases q2 : a = s.sl
    · rw [q2, h2]; intro z; cases z
    · cases e : H a with
      | none => exact absurd e h
      | some u => rw [fr a u q q2 e]; intro z; cases z
/-- a draw below n -/
def dDraw (ds : List D) : WE Nat := fun z Q => ∃ n : Int, ds = [.int n] ∧ 0 < n ∧ n ≤ 1000000000 ∧ z < 2 ^ 40 ∧ ∀ r : Int, 0 ≤ r → r < n → Q (z + 1) (.int r)

theorem _root_.L2.Same.mono_new {H : Hp} {p : Addr} {o : HO} (h : H p = none) : Same H (upd H p o) := fun a u e => by rw [upd_ne (ne_of_none e h)]; exact e
end DL

/-! DLit -/
namespace DL
open PySem PySem.Spec PyProof.Rows L2
variable {Z : Type}

/-! ### enumerate and zip over lists and tuples alike (b: a tuple) -/
def SqA (K : PySem.W.Frag) (H : Hp) (b : Bool) (a : Addr) (xs : List V) : Prop := match b with
  | true => SqT K H a xs
  | false => SqL K H a xs
def IterA (h : Heap) (b : Bool) (it a : Addr) (i : Nat) : Prop := match b with
  | true => h.IsTupleIter it a i
  | false => h.IsListIter it a i
def HoldA (h : Heap) (b : Bool) (a : Addr) (items : Array Value) : Prop := match b with
  | true => h.IsTuple a items
  | false => h.IsList a items
def recA (b : Bool) (a : Addr) : Obj := match b with
  | true => { cls := .type "tuple_iterator", data := .fields #[.ref a, .int 0 0] }
  | false => { cls := .type "list_iterator", data := .fields #[.ref a, .int 0 0] }
theorem drawsA {prog : Program} {w : World} {A : Around} (hh : A.handled = none) (b : Bool) (it a : Addr) (hne : a ≠ it) (items : Array Value) :
    Draws prog w A it [it, a] items.size (fun i v => items[i]? = some v) (fun i h => IterA h b it a i ∧ HoldA h b a items) := by
  cases b with
  | true => exact Draws.tuple hh it a hne items
  | false => exact Draws.list hh it a hne items
theorem beginsA (b : Bool) (a : Addr) (items : Array Value) : Begins (.ref a) (recA b a) fun h => HoldA h b a items := by
  cases b with
  | true => exact begins_tuple a items
  | false => exact begins_list a items
theorem IterA.kept {h h' : Heap} {b : Bool} {it a : Addr} {i : Nat} (x : IterA h b it a i) (e : ∀ o, h.get? it = some o → h'.get? it = some o) : IterA h' b it a i := by
  cases b with
  | true => exact Heap.IsTupleIter.at x e
  | false => exact Heap.IsListIter.at x e
theorem IterA.obj {h : Heap} {b : Bool} {it a : Addr} {i : Nat} (x : IterA h b it a i) : ∃ o, h.get? it = some o ∧ (o.cls = .type "tuple_iterator" ∨ o.cls = .type "list_iterator") ∧ ∀ v, o.data ≠ .cell v := by
  cases b with
  | true => obtain ⟨o, e, c, d⟩ := x; exact ⟨o, e, .inl c, fun v q => by rw [d] at q; cases q⟩
  | false => obtain ⟨o, e, c, d⟩ := x; exact ⟨o, e, .inr c, fun v q => by rw [d] at q; cases q⟩
theorem IterA.new {h : Heap} {b : Bool} {it a : Addr} (e : h.get? it = some (recA b a)) : IterA h b it a 0 := by
  cases b with
  | true => exact ⟨_, e, rfl, rfl⟩
  | false => exact ⟨_, e, rfl, rfl⟩
theorem HoldA.obj {h : Heap} {b : Bool} {a : Addr} {items : Array Value} (x : HoldA h b a items) : ∃ o, h.get? a = some o ∧ (o.cls = .type "tuple" ∨ o.cls = .type "list") := by
  cases b with
  | true => obtain ⟨o, e, c, _⟩ := x; exact ⟨o, e, .inl c⟩
  | false => obtain ⟨o, e, c, _⟩ := x; exact ⟨o, e, .inr c⟩
theorem cne {a b : String} (h : a ≠ b) : (Value.type a : Value) ≠ .type b := fun q => by
  injection q with q
  exact h q
theorem apart_it {h : Heap} {b b' : Bool} {a it c : Addr} {items : Array Value} {i : Nat} (x : HoldA h b a items) (y : IterA h b' it c i) : a ≠ it := fun q => by
  obtain ⟨o, e, z⟩ := x.obj
  obtain ⟨o', e', z', _⟩ := y.obj
  rw [q, e'] at e
  cases e
  rcases z with z | z <;> rcases z' with z' | z' <;> (rw [z] at z'; exact absurd z' (cne (by decide)))
theorem apart_rec {h : Heap} {b : Bool} {a e : Addr} {items : Array Value} {o' : Obj} (x : HoldA h b a items) (y : h.get? e = some o') (n1 : o'.cls ≠ .type "tuple") (n2 : o'.cls ≠ .type "list") : e ≠ a := fun q => by
  obtain ⟨o, z, c⟩ := x.obj
  rw [q, z] at y
  cases y
  rcases c with c | c
  · exact n1 c
  · exact n2 c
section
variable {X : Cx} {pins : List (Addr × Obj)} {σ : L2.St} {H : Hp} {s : Shared} {b : Bool} {a : Addr} {xs ys : List V}
theorem _root_.L2.Inv.sqA (I : Inv X pins σ H s) (h : SqA X.K H b a xs) : ∃ its : List Value, Vals xs its ∧ HoldA s.heap b a its.toArray := by
  cases b with
  | true => obtain ⟨its, r, p, _⟩ := I.tuple h; exact ⟨its, r, p⟩
  | false => obtain ⟨its, r, p, _⟩ := I.list h; exact ⟨its, r, p.isList⟩
theorem _root_.L2.Inv.sqA_inj (I : Inv X pins σ H s) (h : SqA X.K H b a xs) (h' : SqA X.K H b a ys) : xs = ys := by
  cases b with
  | true => exact I.tuple_inj h h'
  | false => exact I.list_inj h h'
end
def ItE (K : PySem.W.Frag) (b : Bool) (a : Addr) : It :=
  ⟨fun i H => ∃ (xs : List V) (x : V), SqA K H b a xs ∧ xs[i]? = some x,
   fun i H v H' => ∃ T x, v = .ref T ∧ H T = none ∧ H' = upd H T (.tup [.int (i : Nat), x]) ∧ ∀ xs, SqA K H b a xs → xs[i]? = some x,
   fun i H => ∃ xs : List V, SqA K H b a xs ∧ xs.length = i⟩
theorem turn_enumA {P : Program} {w : World} {K : PySem.W.Frag} {elts : List Expr} {kk : Nat} {tpos : Pos} (b : Bool) (a e it : Addr) :
    Turn P w K (.Tuple elts kk tpos) (ItE K b a) [e, it] e (fun i h => (∃ old, IsEnum h e it ((i : Nat) : Int) old) ∧ IterA h b it a i ∧ e ≠ it) where
  mem := List.mem_cons_self
  obj := fun i h stt c hc => by
    obtain ⟨⟨old, hen⟩, hi, _⟩ := stt
    rcases List.mem_cons.mp hc with q | q
    · rw [q]; exact ⟨_, hen, fun v z => nomatch z⟩
    · rw [List.mem_singleton.mp q]
      obtain ⟨o, h1, _, h2⟩ := hi.obj
      exact ⟨o, h1, h2⟩
  keep := fun i h h' stt k => by
    obtain ⟨⟨old, hen⟩, hi, hne⟩ := stt
    exact ⟨⟨old, k e (by simp) _ hen⟩, hi.kept fun o q => k it (by simp) o q, hne⟩
  item := by
    intro X eP ew eK hc i pins s σ H E I hf stt hg
    subst eP ew eK
    obtain ⟨⟨old, hen⟩, hit, hne⟩ := stt
    obtain ⟨xs, x, hq, hix⟩ := hg
    obtain ⟨its, rv, hold⟩ := I.sqA hq
    obtain ⟨u, hun, rel⟩ := rv.get hix
    have hae : e ≠ a := apart_rec hold hen (cne (by decide)) (cne (by decide))
    have hai : a ≠ it := apart_it hold hit
    have hlt : i < its.toArray.size := by simpa using (List.getElem?_eq_some_iff.mp hun).1
    have helt : e < s.heap.objs.size := Heap.lt_size hen
    have hil : it < s.heap.objs.size := by obtain ⟨_, q, _⟩ := hit.obj; exact Heap.lt_size q
    refine wpAny_pyNext_enum_itemD (drawsA (A := X.A.in1) (I.ok.hd hc) b it a hai its.toArray) hen ⟨hit, hold⟩ hlt hne (by simp [hne, hae]) fun y h1 tok1 hy ho hst hT _ hk => ?_
    have hy' : y = u := by
      rw [show its.toArray[i]? = its[i]? by simp, hun] at hy
      exact (Option.some.inj hy).symm
    subst hy'
    refine ⟨_, rfl, wpAny_letOwnedTupleGo_enum (s := { s with heap := h1, toks := tok1 + 1 }) ho fun h2 he2 sb => ?_⟩
    have hT2 : h2.get? s.heap.objs.size = some { cls := .type "tuple", data := .seq #[.int i tok1, y] } := (sb.2 _ (Nat.ne_of_gt helt)).trans hT
    have new : ObjOk X.prog X.w (upd H s.heap.objs.size (.tup [.int (i : Nat), x])) h2 s.heap.objs.size (.tup [.int (i : Nat), x]) :=
      ⟨(by decide : 2 ≤ sizeLine), [.int i tok1, y], .cons ⟨_, rfl⟩ (.cons rel .nil), ⟨_, hT2, rfl, _, rfl⟩⟩
    have J := I.turnedNew (h' := h2) (t' := tok1 + 1) (ch := [e, it]) (fun c ob hc' q => by
      have n1 : c ≠ e := fun z => hc' (by simp [z])
      have n2 : c ≠ it := fun z => hc' (by simp [z])
      exact (sb.2 c n1).trans (hk c ob n1 n2 q)) hf (Nat.le_refl _) new
    refine ⟨.ref s.heap.objs.size, _, J, rfl, ⟨_, x, rfl, I.hok.fresh (Nat.le_refl _), rfl, fun zs hz => by rw [I.sqA_inj hz hq]; exact hix⟩, ⟨⟨y, ?_⟩, hst.1.kept fun o q => (sb.2 it (Ne.symm hne)).trans q, hne⟩, fun c hc' => ?_⟩
    · have eq1 : ((i + 1 : Nat) : Int) = (i : Int) + 1 := by omega
      rw [eq1]
      exact he2
    · have lt : c < s.heap.objs.size := by
        rcases List.mem_cons.mp hc' with q | q
        · rw [q]; exact helt
        · rw [List.mem_singleton.mp q]; exact hil
      rw [upd_ne (Nat.ne_of_lt lt)]
      exact (hf c hc').1
  done := by
    intro X eP ew eK hc i pins s σ H E I hf stt hg
    subst eP ew eK
    obtain ⟨⟨old, hen⟩, hit, hne⟩ := stt
    obtain ⟨xs, hq, hix⟩ := hg
    obtain ⟨its, rv, hold⟩ := I.sqA hq
    have hae : e ≠ a := apart_rec hold hen (cne (by decide)) (cne (by decide))
    have hai : a ≠ it := apart_it hold hit
    have hn : its.toArray.size = i := by rw [List.size_toArray, ← rv.length, hix]
    have st2 : IterA s.heap b it a its.toArray.size ∧ HoldA s.heap b a its.toArray := ⟨by rw [hn]; exact hit, hold⟩
    exact wpAny_pyNext_enum_endD (drawsA (A := X.A.in1) (I.ok.hd hc) b it a hai its.toArray) hen st2 fun h' eb => ⟨rfl, I.turnedL (t' := s.toks) (ch := [e, it]) (fun c o hc' q => eb c o (fun z => hc' (by simp [z])) q) hf⟩
  self := fun A i s Q E stt h => let ⟨⟨_, hen⟩, _⟩ := stt; wpAny_pyIter_enum hen h

theorem enum_new1 {v : Value} {o : Obj} {Hh : Heap → Prop} (B : Begins v o Hh) :
    Meets (Builtin.«enumerate.__new__» ⟨[.type "enumerate", v], []⟩) (fun _ Rx s => Hh s.heap ∧
      Rx (.ok (.ret (.ref (s.heap.push o).objs.size)))
        { s with heap := (s.heap.push o).push { cls := .type "enumerate", data := .fields #[.none, .bool false, .ref s.heap.objs.size, rawInt 0, .none, .none] } }) :=
  .of_wp fun prog w A Rx s h => by
    obtain ⟨hp, g, d, tok1, os⟩ := s
    obtain ⟨h1, h⟩ := h
    have hsub := sub_enumerate
    have q1 : ∀ {A' : Around} {E : Value → Shared → Prop} {Q : Value → Shared → Prop}, Q (.ref hp.objs.size) ⟨(hp.push o), g, d, tok1, os⟩ → wpAny (model prog w) A' (pyIter v) Q E ⟨hp, g, d, tok1, os⟩ :=
      fun q => B.iter prog w _ _ ⟨hp, g, d, tok1, os⟩ _ h1 q
    wp_walk
    refine wpAny_stack_any fun stt => wpAny_pure ?_
    split
    · rename_i c _ _ _ _ _
      cases (c == (Value.type "enumerate"))
      · wp_walk using q1
        exact ⟨_, rfl, h⟩
      · wp_walk using q1
        exact ⟨_, rfl, h⟩
    · wp_walk using q1
      exact ⟨_, rfl, h⟩

def iEnumA (K : PySem.W.Frag) (ta : TA) : TI := fun σ H Rx => ta σ H fun vs H1 => ∃ b a xs, vs = [.ref a] ∧ SqA K H1 b a xs ∧ Rx (ItE K b a) H1
theorem pi_enumA {X : Cx} {e : Expr} {ta : TA} {p pos tpos : Pos} {elts : List Expr} {kk : Nat} (hg : Gl X "enumerate") (hm : X.mg "enumerate" = none) (ha : PA X [e] ta) (hs : starEach [e] X.env = [(false, eval e X.env)] := by rfl) :
    PI X (.Tuple elts kk tpos) (.Call (.Name "enumerate" p) [e] [] pos) (iEnumA X.K ta) := by
  refine ⟨fun pins s σ H Rx I h => Call_ (ld_blt I hg hm boot_enumerate (PyProof.Rows.callWith_type1 (thn (ha.run pos pins s σ H _ I h) fun us s1 hv => ?_) hs rfl))⟩
  obtain ⟨vs, H1, I1, r1, b, a, xs, rfl, hq, q⟩ := hv
  obtain ⟨u, rfl, rel⟩ := vals1 r1
  cases rel
  obtain ⟨its, rv, hold⟩ := I1.sqA hq
  refine callType_new F.called_enumerate (by decide) (F.typeCall_enumerate_1 _) (F.newCall_enumerate_1 _) (fun obj => F.args_object_init_2 obj _) F.entry_enumerate_new (enum_new1 (beginsA b a its.toArray)) ⟨hold, ?_⟩
  have hz : (s1.heap.push (recA b a)).objs.size = s1.heap.objs.size + 1 := Heap.size_push ..
  have fr : (recA b a).isFreed = false := by cases b <;> rfl
  show _ ∧ _
  rw [hz]
  have hen : IsEnum ((s1.heap.push (recA b a)).push { cls := .type "enumerate", data := .fields #[.none, .bool false, .ref s1.heap.objs.size, rawInt 0, .none, .none] }) (s1.heap.objs.size + 1) s1.heap.objs.size 0 .none := by
    have z := Heap.get?_push_size (s1.heap.push (recA b a)) (o := { cls := .type "enumerate", data := .fields #[.none, .bool false, .ref s1.heap.objs.size, rawInt 0, .none, .none] }) rfl
    rw [hz] at z
    exact z
  have hi := Heap.get?_push_of_some { cls := .type "enumerate", data := .fields #[.none, .bool false, .ref s1.heap.objs.size, rawInt 0, .none, .none] } (Heap.get?_push_size s1.heap fr)
  refine ⟨⟨_, hen, rfl⟩, wpAny_pyIter_enum hen ?_⟩
  have I2 := I1.kept (t' := s1.toks) (h' := (s1.heap.push (recA b a)).push { cls := .type "enumerate", data := .fields #[.none, .bool false, .ref s1.heap.objs.size, rawInt 0, .none, .none] }) fun c o x => Heap.get?_push_of_some _ (Heap.get?_push_of_some _ x)
  refine ⟨s1.heap.objs.size + 1, [s1.heap.objs.size + 1, s1.heap.objs.size], _, _, H1, rfl, I2, turn_enumA b a (s1.heap.objs.size + 1) s1.heap.objs.size, ⟨⟨.none, hen⟩, IterA.new hi, Nat.succ_ne_self _⟩, fun c hc => ?_, q⟩
  have hless : s1.heap.objs.size ≤ c := by
    rcases List.mem_cons.mp hc with z | z
    · rw [z]; exact Nat.le_succ _
    · rw [List.mem_singleton.mp z]; exact Nat.le_refl _
  exact I1.fpOk hless (I1.hok.fresh hless)
section
variable {G : Gd Z} {K : PySem.W.Frag} {ρ : Rho}
/-- the items of a list or a tuple -/
def seqD : D → Option (List D)
  | .list ds => some ds
  | .tuple ds => some ds
  | _ => none
theorem sqA_of {B H : Hp} (e : Same B H) {v : V} {d : D} {ds : List D} (r : Dv K B v d) (h : seqD d = some ds) : ∃ b a xs, v = .ref a ∧ SqA K H b a xs ∧ (∀ H', Same B H' → SqA K H' b a xs) ∧ DvAll K B xs ds := by
  cases r with
  | lst hh a => cases h; exact ⟨false, _, _, rfl, SqL.of (e _ _ hh), fun H' e' => SqL.of (e' _ _ hh), a⟩
  | tup hh a => cases h; exact ⟨true, _, _, rfl, same_t e hh, fun H' e' => same_t e' hh, a⟩
  | _ => cases h
def numbered (ds : List D) : List D := ds.zipIdx.map fun p => .tuple [.int (p.2 : Nat), p.1]
theorem ei_enumA {ta : TA} {wa : Z → (Z → List D → Prop) → Prop} (hen : EvA G K ta ρ 1 wa) : EvI G K (iEnumA K ta) ρ (fun z Q => wa z fun z1 ds => ∃ d xs, ds = [d] ∧ seqD d = some xs ∧ Q z1 (numbered xs)) := fun σ B H z E o Q' ew Rx k =>
  hen σ B H z E o _ ew _ fun vs z1 B1 H1 ds _ g1 r1 q1 => by
    obtain ⟨d, xs, rfl, hd, q⟩ := q1
    cases r1 with
    | cons r t =>
      cases t
      obtain ⟨b, a, ys, rfl, hq, hst, ra⟩ := sqA_of g1.ok.sub r hd
      refine ⟨b, a, ys, rfl, hq, k _ z1 B1 H1 _ g1 ⟨fun H => SqA K H b a ys, YPair (fun i => some (.int (i : Nat))) (fun i => ys[i]?), ⟨fun i H hi q => ⟨ys, ys[i]'(by unfold numbered at hi; rw [List.length_map, List.length_zipIdx, ← ra.length] at hi; exact hi), q, by simp⟩, fun H q => ⟨ys, q, by unfold numbered; rw [List.length_map, List.length_zipIdx, ra.length]⟩, fun i H v H' _ q y => ?_⟩, hst, fun i H x H' B2 z2 hi o2 e2 y => ?_⟩ q⟩
      · obtain ⟨T, x, h1, h2, h3, h4⟩ := y
        exact ⟨T, .int (i : Nat), x, h1, h2, h3, rfl, h4 ys q⟩
      · obtain ⟨T, x1, y1, rfl, hT, rfl, eq1, e3⟩ := y
        cases eq1
        unfold numbered at hi ⊢
        rw [List.length_map, List.length_zipIdx] at hi
        have hd2 : xs[i]? = some xs[i] := by simp [hi]
        obtain ⟨v, hv, rv⟩ := ra.get hd2
        have e4 : ys[i]? = some y1 := e3
        rw [e4] at hv
        cases hv
        obtain ⟨g, r⟩ := mk_tup o2 hT (DvAll.cons (.int (i : Nat)) (.cons (rv.mono e2) .nil))
        exact ⟨_, _, g, by rw [List.getElem?_map, List.getElem?_zipIdx, hd2]; simp, r⟩
end
end DL

/-! DLzip -/
namespace DL
open PySem PySem.Spec PyProof.Rows L2
variable {Z : Type}

def ItZ (K : PySem.W.Frag) (b1 b2 : Bool) (a c : Addr) : It :=
  ⟨fun i H => ∃ (xs ys : List V) (x y : V), SqA K H b1 a xs ∧ SqA K H b2 c ys ∧ xs[i]? = some x ∧ ys[i]? = some y,
   fun i H v H' => ∃ T x y, v = .ref T ∧ H T = none ∧ H' = upd H T (.tup [x, y]) ∧ (∀ xs, SqA K H b1 a xs → xs[i]? = some x) ∧ ∀ ys, SqA K H b2 c ys → ys[i]? = some y,
   fun i H => ∃ xs ys : List V, SqA K H b1 a xs ∧ SqA K H b2 c ys ∧ xs.length = i ∧ ys.length = i⟩
/-- the records of a zip lie apart -/
structure ZA (z TI TO i1 i2 : Addr) : Prop where
  a1 : TI ≠ z
  a2 : TO ≠ z
  a3 : TI ≠ TO
  a4 : TI ≠ i1
  a5 : TI ≠ i2
  a6 : z ≠ i1
  a7 : z ≠ i2
  a8 : TO ≠ i1
  a9 : TO ≠ i2
  a10 : i1 ≠ i2
theorem ZA.sep {z TI TO i1 i2 a c : Addr} (A : ZA z TI TO i1 i2) (za : z ≠ a) (zc : z ≠ c) (ta : TO ≠ a) (tc : TO ≠ c) (h1 : i1 ≠ c) (h2 : i2 ≠ a) : ZipSep2 z TI TO i1 i2 [i1, a] [i2, c] where
  TIz := A.a1
  TOz := A.a2
  TITO := A.a3
  TIi1 := A.a4
  mem1 := by simp
  zf1 := by simp [A.a6, za]
  Tf1 := by simp [A.a8, ta]
  TIi2 := A.a5
  mem2 := by simp
  zf2 := by simp [A.a7, zc]
  Tf2 := by simp [A.a9, tc]
  sep1_2 := by simp [A.a10, h1]
  sep2_1 := by simp [Ne.symm A.a10, h2]
theorem turn_zipB {P : Program} {w : World} {K : PySem.W.Frag} {elts : List Expr} {kk : Nat} {tpos : Pos} (b1 b2 : Bool) (a c z TI TO i1 i2 : Addr) (Z : ZA z TI TO i1 i2) :
    Turn P w K (.Tuple elts kk tpos) (ItZ K b1 b2 a c) [z, TI, TO, i1, i2] z
      (fun i h => IsZip h z TI TO .none ∧ IsTupOf2 h TI (.ref i1) (.ref i2) ∧ (∃ x y, IsTupOf2 h TO x y) ∧ IterA h b1 i1 a i ∧ IterA h b2 i2 c i ∧ TO ≠ a ∧ TO ≠ c) where
  mem := List.mem_cons_self
  obj := fun i h stt d hd => by
    obtain ⟨hz, hTI, ⟨x, y, hTO⟩, h1, h2, _⟩ := stt
    obtain ⟨o1, e1, _, d1⟩ := h1.obj
    obtain ⟨o2, e2, _, d2⟩ := h2.obj
    have m : d = z ∨ d = TI ∨ d = TO ∨ d = i1 ∨ d = i2 := by simpa using hd
    rcases m with rfl | rfl | rfl | rfl | rfl
    · exact ⟨_, hz, fun v q => nomatch q⟩
    · exact ⟨_, hTI, fun v q => nomatch q⟩
    · exact ⟨_, hTO, fun v q => nomatch q⟩
    · exact ⟨o1, e1, d1⟩
    · exact ⟨o2, e2, d2⟩
  keep := fun i h h' stt k => by
    obtain ⟨hz, hTI, ⟨x, y, hTO⟩, h1, h2, n1, n2⟩ := stt
    exact ⟨k z (by simp) _ hz, k TI (by simp) _ hTI, ⟨x, y, k TO (by simp) _ hTO⟩, h1.kept fun o q => k i1 (by simp) o q, h2.kept fun o q => k i2 (by simp) o q, n1, n2⟩
  item := by
    intro X eP ew eK hc i pins s σ H E I hf stt hg
    subst eP ew eK
    obtain ⟨hz, hTI, ⟨x0, y0, hTO⟩, h1, h2, n1, n2⟩ := stt
    obtain ⟨xs, ys, x, y, sqx, sqy, hx, hy⟩ := hg
    obtain ⟨its, rv, hold⟩ := I.sqA sqx
    obtain ⟨its2, rv2, hold2⟩ := I.sqA sqy
    obtain ⟨u, hu, rel⟩ := rv.get hx
    obtain ⟨u2, hu2, rel2⟩ := rv2.get hy
    have S := Z.sep (apart_rec hold hz (cne (by decide)) (cne (by decide))) (apart_rec hold2 hz (cne (by decide)) (cne (by decide))) n1 n2 (Ne.symm (apart_it hold2 h1)) (Ne.symm (apart_it hold h2))
    have hlt : z < s.heap.objs.size := Heap.lt_size hz
    refine wpAny_pyNext_zipD2_item S (drawsA (A := X.A.in1) (I.ok.hd hc) b1 i1 a (apart_it hold h1) its.toArray) (drawsA (A := X.A.in1) (I.ok.hd hc) b2 i2 c (apart_it hold2 h2) its2.toArray) hz hTI hTO ⟨h1, hold⟩ ⟨h2, hold2⟩
      (by simpa using (List.getElem?_eq_some_iff.mp hu).1) (by simpa using (List.getElem?_eq_some_iff.mp hu2).1) fun v1 v2 hh tk e1 e2 hz' hTO' st1 st2 hT _ hk => ?_
    have q1 : v1 = u := by rw [show its.toArray[i]? = its[i]? by simp, hu] at e1; exact (Option.some.inj e1).symm
    have q2 : v2 = u2 := by rw [show its2.toArray[i]? = its2[i]? by simp, hu2] at e2; exact (Option.some.inj e2).symm
    subst q1 q2
    refine ⟨_, rfl, wpAny_letOwnedTupleGo_zip (s := { s with heap := hh, toks := tk }) hz' fun h3 hz3 sb => ?_⟩
    have hT2 : IsTupOf2 h3 s.heap.objs.size v1 v2 := (sb.2 _ (Nat.ne_of_gt hlt)).trans hT
    have new : ObjOk X.prog X.w (upd H s.heap.objs.size (.tup [x, y])) h3 s.heap.objs.size (.tup [x, y]) := ⟨(by decide : 2 ≤ sizeLine), [v1, v2], .cons rel (.cons rel2 .nil), ⟨_, hT2, rfl, _, rfl⟩⟩
    have J := I.turnedNew (h' := h3) (t' := tk) (ch := [z, TI, TO, i1, i2]) (fun d o hd q => by
      have m1 : d ≠ z := fun e => hd (by simp [e])
      exact (sb.2 d m1).trans (hk d o m1 (fun e => hd (by simp [e])) (fun e => hd (by simp [e])) (fun e => hd (by simp [e])) q)) hf (Nat.le_refl _) new
    have lt : ∀ d ∈ [z, TI, TO, i1, i2], d < s.heap.objs.size := fun d hd => by
      obtain ⟨o1, g1, _⟩ := h1.obj
      obtain ⟨o2, g2, _⟩ := h2.obj
      have m : d = z ∨ d = TI ∨ d = TO ∨ d = i1 ∨ d = i2 := by simpa using hd
      rcases m with rfl | rfl | rfl | rfl | rfl
      · exact hlt
      · exact Heap.lt_size hTI
      · exact Heap.lt_size hTO
      · exact Heap.lt_size g1
      · exact Heap.lt_size g2
    refine ⟨.ref s.heap.objs.size, _, J, rfl, ⟨_, x, y, rfl, I.hok.fresh (Nat.le_refl _), rfl, fun l hl => by rw [I.sqA_inj hl sqx]; exact hx, fun l hl => by rw [I.sqA_inj hl sqy]; exact hy⟩,
      ⟨hz3, ?_, ⟨v1, v2, ?_⟩, st1.1.kept fun o q => (sb.2 i1 (Ne.symm Z.a6)).trans q, st2.1.kept fun o q => (sb.2 i2 (Ne.symm Z.a7)).trans q, n1, n2⟩, fun d hd => ?_⟩
    · exact (sb.2 _ Z.a1).trans (hk _ _ Z.a1 Z.a3 Z.a4 Z.a5 hTI)
    · exact (sb.2 _ Z.a2).trans hTO'
    · rw [upd_ne (Nat.ne_of_lt (lt d hd))]
      exact (hf d hd).1
  done := by
    intro X eP ew eK hc i pins s σ H E I hf stt hg
    subst eP ew eK
    obtain ⟨hz, hTI, ⟨x0, y0, hTO⟩, h1, h2, n1, n2⟩ := stt
    obtain ⟨xs, ys, sqx, sqy, l1, l2⟩ := hg
    obtain ⟨its, rv, hold⟩ := I.sqA sqx
    obtain ⟨its2, rv2, hold2⟩ := I.sqA sqy
    have S := Z.sep (apart_rec hold hz (cne (by decide)) (cne (by decide))) (apart_rec hold2 hz (cne (by decide)) (cne (by decide))) n1 n2 (Ne.symm (apart_it hold2 h1)) (Ne.symm (apart_it hold h2))
    have s1 : its.toArray.size = i := by rw [List.size_toArray, ← rv.length, l1]
    have s2 : its2.toArray.size = i := by rw [List.size_toArray, ← rv2.length, l2]
    refine wpAny_pyNext_zipD2_end S (drawsA (A := X.A.in1) (I.ok.hd hc) b1 i1 a (apart_it hold h1) its.toArray) (drawsA (A := X.A.in1) (I.ok.hd hc) b2 i2 c (apart_it hold2 h2) its2.toArray) hz hTI hTO ⟨h1, hold⟩ ⟨h2, hold2⟩
      (by omega) (by omega) (.inl s1.symm) fun hh tk hk => ⟨rfl, I.turnedL (t' := tk) (ch := [z, TI, TO, i1, i2]) (fun d o hd q => hk d o (fun e => hd (by simp [e])) (fun e => hd (by simp [e])) (fun e => hd (by simp [e])) (fun e => hd (by simp [e])) q) hf⟩
  self := fun A i s Q E stt h => wpAny_pyIter_zip stt.1 h
def iZipB (K : PySem.W.Frag) (ta : TA) : TI := fun σ H R => ta σ H fun vs H1 => ∃ b1 b2 a c xs ys, vs = [.ref a, .ref c] ∧ SqA K H1 b1 a xs ∧ SqA K H1 b2 c ys ∧ R (ItZ K b1 b2 a c) H1
theorem pi_zipB {X : Cx} {e e2 : Expr} {ta : TA} {p pos tpos : Pos} {elts : List Expr} {kk : Nat} (hg : Gl X "zip") (hm : X.mg "zip" = none) (ha : PA X [e, e2] ta)
    (hst : starEach [e, e2] X.env = (false, eval e X.env) :: starEach [e2] X.env := by rfl) (hpl : (backTo pos (starEach [e2] X.env)).any (·.1) = false := by rfl) :
    PI X (.Tuple elts kk tpos) (.Call (.Name "zip" p) [e, e2] [] pos) (iZipB X.K ta) := by
  refine ⟨fun pins s σ H R I h => Call_ (ld_blt I hg hm PyProof.Rows.boot_zip (PyProof.Rows.callWith_type1 (thn (ha.run pos pins s σ H _ I h) fun us s1 hv => ?_) hst hpl))⟩
  obtain ⟨vs, H1, I1, r1, b1, b2, a, c, xs, ys, rfl, hq, hq2, q⟩ := hv
  obtain ⟨u, u2, rfl, rel, rel2⟩ := vals2 r1
  cases rel
  cases rel2
  obtain ⟨its, rv, hold⟩ := I1.sqA hq
  obtain ⟨its2, rv2, hold2⟩ := I1.sqA hq2
  generalize hN : s1.heap.objs.size = N
  refine zip_begins2 (beginsA b1 a its.toArray) (beginsA b2 c its2.toArray) hold hold2 fun h' hz hTI hTO g1 g2 _ hk => wpAny_pyIter_zip hz ?_
  rw [hN] at hz hTI hTO g1 g2
  have lta : a < N := by obtain ⟨o, e, _⟩ := hold.obj; rw [← hN]; exact Heap.lt_size e
  have ltc : c < N := by obtain ⟨o, e, _⟩ := hold2.obj; rw [← hN]; exact Heap.lt_size e
  have I2 := I1.kept (t' := s1.toks) hk
  rw [hN]
  refine ⟨N + 4, [N + 4, N + 2, N + 3, N, N + 1], _, _, H1, rfl, I2, turn_zipB b1 b2 a c (N + 4) (N + 2) (N + 3) N (N + 1) ?_, ⟨hz, hTI, ⟨_, _, hTO⟩, IterA.new g1, IterA.new g2, ?_, ?_⟩, fun d hd => ?_, q⟩
  · constructor <;> (refine fun e => ?_; have e' : (_ : Nat) = _ := e; omega)
  · exact Nat.ne_of_gt (Nat.lt_of_lt_of_le lta (Nat.le_add_right N 3))
  · exact Nat.ne_of_gt (Nat.lt_of_lt_of_le ltc (Nat.le_add_right N 3))
  · have hless : s1.heap.objs.size ≤ d := by
      have m : d = N + 4 ∨ d = N + 2 ∨ d = N + 3 ∨ d = N ∨ d = N + 1 := by simpa using hd
      rw [hN]
      rcases m with q | q | q | q | q
      · rw [q]; exact Nat.le_add_right N 4
      · rw [q]; exact Nat.le_add_right N 2
      · rw [q]; exact Nat.le_add_right N 3
      · rw [q]; exact Nat.le_refl N
      · rw [q]; exact Nat.le_add_right N 1
    exact I1.fpOk hless (I1.hok.fresh hless)
section
variable {G : Gd Z} {K : PySem.W.Frag} {ρ : Rho}
def pairD (p : D × D) : D := .tuple [p.1, p.2]
theorem ei_zipB {ta : TA} {wa : Z → (Z → List D → Prop) → Prop} (he : EvA G K ta ρ 2 wa) : EvI G K (iZipB K ta) ρ (fun z Q => wa z fun z1 ds => ∃ d e xs ys, ds = [d, e] ∧ seqD d = some xs ∧ seqD e = some ys ∧ xs.length = ys.length ∧ Q z1 ((xs.zip ys).map pairD)) := fun σ B H z E o Q' ew R k =>
  he σ B H z E o _ ew _ fun vs z1 B1 H1 ds _ g1 r1 q1 => by
    obtain ⟨d, e, xs, ys, rfl, hd, he, hl, q⟩ := q1
    cases r1 with
    | cons r t =>
      cases t with
      | cons r' t =>
        cases t
        obtain ⟨b1, a, vs1, rfl, hq, hst, ra⟩ := sqA_of g1.ok.sub r hd
        obtain ⟨b2, c, vs2, rfl, hq2, hst2, rc⟩ := sqA_of g1.ok.sub r' he
        have hn : ((xs.zip ys).map pairD).length = vs1.length := by rw [List.length_map, List.length_zip, ra.length]; omega
        have hn2 : vs2.length = vs1.length := by rw [ra.length, rc.length, hl]
        refine ⟨b1, b2, a, c, vs1, vs2, rfl, hq, hq2, k _ z1 B1 H1 _ g1 ⟨fun H => SqA K H b1 a vs1 ∧ SqA K H b2 c vs2, YPair (fun i => vs1[i]?) (fun i => vs2[i]?), ⟨fun i H hi q => ?_, fun H q => ⟨vs1, vs2, q.1, q.2, hn.symm, by rw [hn2, hn]⟩, fun i H v H' _ q y => ?_⟩, fun H e => ⟨hst H e, hst2 H e⟩, fun i H x H' B2 z2 hi o2 e2 y => ?_⟩ q⟩
        · rw [hn] at hi
          exact ⟨vs1, vs2, vs1[i], vs2[i]'(by omega), q.1, q.2, by simp, by simp⟩
        · obtain ⟨T, x, y1, h1, h2, h3, h4, h5⟩ := y
          exact ⟨T, x, y1, h1, h2, h3, h4 vs1 q.1, h5 vs2 q.2⟩
        · obtain ⟨T, x1, y1, rfl, hT, rfl, e3, e4⟩ := y
          rw [hn, ra.length] at hi
          have hi2 : i < ys.length := by omega
          have hd1 : xs[i]? = some xs[i] := by simp [hi]
          have hd2 : ys[i]? = some ys[i] := by simp [hi2]
          obtain ⟨v, hv, rv⟩ := ra.get hd1
          obtain ⟨v', hv', rv'⟩ := rc.get hd2
          have e5 : vs1[i]? = some x1 := e3
          have e6 : vs2[i]? = some y1 := e4
          rw [e5] at hv
          rw [e6] at hv'
          cases hv
          cases hv'
          obtain ⟨g, r⟩ := mk_tup o2 hT (DvAll.cons (rv.mono e2) (.cons (rv'.mono e2) .nil))
          refine ⟨_, _, g, ?_, r⟩
          rw [List.getElem?_map, List.getElem?_zip_eq_some (z := (xs[i], ys[i])).mpr ⟨hd1, hd2⟩]
          rfl
end
end DL

/-! DLstar -/
namespace DL
open PySem PySem.Spec PyProof.Rows L2
variable {Z : Type}
theorem ns_one {h : Heap} {a : Addr} {m m' : Str → Option Value} (x : h.Ns a m) (y : h.Ns a m') : m' = m := by
  obtain ⟨o, es, ep, e, d, _, f⟩ := x
  obtain ⟨o', es', ep', e', d', _, f'⟩ := y
  rw [e] at e'
  cases e'
  rw [d] at d'
  cases d'
  funext n
  rw [← f n, ← f' n]
theorem ho_there {P : Program} {w : World} {H : Hp} {h : Heap} {a : Addr} : ∀ {o : HO}, ObjOk P w H h a o → ∃ ob, h.get? a = some ob
  | .lst _, ⟨_, _, _, _, e⟩ => ⟨_, e⟩
  | .tup _, ⟨_, _, _, ob, e, _⟩ => ⟨ob, e⟩
  | .dK _, ⟨_, _, _, _, ob, _, _, e, _⟩ => ⟨ob, e⟩
  | .dT _, ⟨_, _, _, _, ob, _, _, e, _⟩ => ⟨ob, e⟩
  | .set _ _, ⟨ob, _, _, _, e, _⟩ => ⟨ob, e⟩
  | .ins _ _ _, ⟨_, _, _, e, _⟩ => ⟨_, e⟩
  | .own _, ⟨ob, e⟩ => ⟨ob, e⟩
  | .xd _, ⟨_, ⟨ob, _, _, e, _⟩, _⟩ => ⟨ob, e⟩
  | .rng _ _, ⟨_, _, _, e⟩ => ⟨_, e⟩
  | .frz ob _, ⟨e, _⟩ => ⟨ob, e⟩
  | .tbl _, e => ⟨_, e⟩
  | .met _ _, e => ⟨_, e⟩
  | .ext _, ⟨_, ⟨ob, e⟩, _⟩ => ⟨ob, e⟩
section
variable {X : Cx} {pos : Pos}
/-- a, *b = a tuple -/
def gStar (K : PySem.W.Frag) (t : TGs) : TG := fun v σ H Q => ∃ a x xs, v = .ref a ∧ SqT K H a (x :: xs) ∧ xs.length ≤ 16000 ∧ ∀ D, H D = none → t [x, .ref D] σ (upd H D (.lst xs)) Q
theorem pg_star {e0 e1 : Expr} {k : Nat} {sp : Pos} {t : TGs} (hc : X.calm = true) (h : PGs X [e0, e1] t)
    (he : (assignEach [e0, .Starred e1 sp] X.env).map (·.2) = (assignEach [e0, e1] X.env).map (·.2) := by rfl) (hn : (assignEach [e0, .Starred e1 sp] X.env).length = 2 := by rfl)
    (hs : (assignEach [e0, .Starred e1 sp] X.env).findIdx? (·.1) = some 1 := by rfl) : PG X (.Tuple [e0, .Starred e1 sp] k pos) (gStar X.K t) := by
  refine ⟨fun pins s σ H v u Q I r hw => (?_)⟩
  obtain ⟨a, x, xs, rfl, hq, hl, hw⟩ := hw
  cases r
  obtain ⟨its, rv, ht, _⟩ := I.tuple hq
  cases rv with
  | @cons _ u0 _ us r0 rr =>
  obtain ⟨m, hm, hlk⟩ := id I.loc
  have hlen : us.length = xs.length := rr.length.symm
  have F : Fr X.base X.env.locals s.heap m := ⟨hm, I.bk, Nat.le_trans I.ok.bsz I.ok.above⟩
  refine PySem.W.kun_assignT (n := 2) (i := 1) (first := [u0]) (mids := us) (lasts := []) F (news_all (h := s.heap)) ht (I.ok.hd hc) hn hs (by decide) (by simp) (by rw [List.size_toArray, List.length_cons]; omega) (by simp) (by simp) (by simp) fun D h' tk F' N' lt => ?_
  have hD : h'.get? D = some (PySem.W.listOf us.toArray 0) := (N' _ List.mem_cons_self).1
  have hDL : D ≠ X.env.locals := (N' _ List.mem_cons_self).2.1
  have hDb : X.base.get? D = none := (N' _ List.mem_cons_self).2.2
  have keep : ∀ b o, b ≠ X.env.locals → s.heap.get? b = some o → h'.get? b = some o := fun b o hb e => by
    cases q : X.base.get? b with
    | some o' =>
      have := I.bk b o' q
      rw [e] at this
      cases this
      exact F'.keep b _ q
    | none => exact (N' (b, o) (List.mem_cons_of_mem _ (mem_allNews hb q e))).1
  have hDn : s.heap.get? D = none := by
    cases q : s.heap.get? D with
    | none => rfl
    | some o => exact absurd (lt (D, o) (mem_allNews hDL hDb q)) (Nat.lt_irrefl _)
  have hHD : H D = none := by
    cases q : H D with
    | none => rfl
    | some o =>
      obtain ⟨ob, z⟩ := ho_there (I.hok D o q)
      rw [hDn] at z
      cases z
  have neD : ∀ b o, s.heap.get? b = some o → b ≠ D := fun b o e z => by rw [z, hDn] at e; cases e
  have new : ObjOk X.prog X.w (upd H D (.lst xs)) h' D (.lst xs) := ⟨Nat.le_trans hl (by decide), us, 0, rr, hD⟩
  have hok : HOk X.prog X.w (upd H D (.lst xs)) h' := fun b o e => by
    by_cases q : b = D
    · subst q; rw [upd_same] at e; cases e; exact new
    · rw [upd_ne q] at e
      refine (I.hok b o e).stay (fun c w' hc' z => keep c w' (fun y => ?_) z) (fun c z => by rw [upd_ne (ne_of_none z hHD)]; exact z) fun c ys z => by rw [upd_ne (ne_of_none z hHD)]; exact z
      rcases hc' with y2 | y2
      · rw [← y2, y, I.free] at e; cases e
      · rw [y, I.free] at y2; cases y2
  have J : Inv X pins σ (upd H D (.lst xs)) { s with heap := h', toks := tk } := by
    refine I.step (g' := s.gens) (d' := s.drawn) (ch := []) (fun _ z => nomatch z) (fun b o hb _ _ e _ => keep b o hb e) (fun b o hb _ _ e _ => ⟨o.slots, keep b o hb e⟩) (fun b o _ e n => by rw [upd_ne (neD b o e)]; exact n)
      (fun b o _ e => ?_) (fun b ys e => by rw [upd_ne (ne_of_none e hHD)]; exact e) (fun b o u' e => by rw [upd_ne (ne_of_none e hHD)]; exact e) (fun b ps' e => ⟨#[], by rw [upd_ne (ne_of_none e hHD), e]; simp⟩)
      (fun m' hm' => by rw [ns_one hm hm']; exact F'.ns) hok I.bare
    by_cases hb : b = X.env.locals
    · obtain ⟨o', es, ep, z, _⟩ := F'.ns
      exact ⟨o', by rw [hb]; exact z⟩
    · exact ⟨o, keep b o hb e⟩
  rw [he]
  exact h.run pins _ σ _ [x, .ref D] _ Q J (.cons r0 (.cons rfl .nil)) (hw D hHD)
end
section
variable {G : Gd Z} {K : PySem.W.Frag} {te : TE} {we : Rho → WE Z}
theorem es_star {i j : Nat} (he : ∀ ρ, EvE G K te ρ (we ρ)) : EvS G K (tAsg te (gStar K (gCons (gName i) (gCons (gName j) gNil))))
    (fun W ρ z => we ρ z fun z1 d => ∃ x xs, d = .tuple (x :: xs) ∧ xs.length ≤ 16000 ∧ W.nx ((ρ.set i (.dat x)).set j (.dat (.list xs))) z1) := fun B0 H0 W Dn R ρ z σ H a h => by
  obtain ⟨B, g0, E⟩ := a
  refine he ρ σ B H z E g0.ok _ h _ fun v z1 B1 H1 d g1 r1 q1 => ?_
  obtain ⟨x, xs, rfl, hl, q⟩ := q1
  cases r1 with
  | @tup p vs _ hp ra =>
  cases ra with
  | @cons v0 vs0 _ _ rx rr =>
  refine ⟨p, v0, vs0, rfl, same_t g1.ok.sub hp, by rw [rr.length]; exact hl, fun D hD => ?_⟩
  obtain ⟨g2, r2⟩ := mk_lst g1.ok hD rr
  exact ⟨_, _, rfl, _, _, rfl, rfl, R.nx _ z1 _ _ ⟨_, (g0.trans g1).trans g2, (((E.mono g1.bb).mono g2.bb).setD (rx.mono g2.bb)).setD r2⟩ q⟩
end
end DL

/-! DLkd -/
namespace DL
open PySem PySem.Spec PyProof.Rows L2
variable {Z : Type}
/-! ### a dict of the module, written, with texts as keys -/
structure DCt (K : PySem.W.Frag) (w : World) (a : Addr) (tab : List (Str × D)) : Prop where
  kd : ∃ es n, KDict K w a es n
  hit : ∀ x d, tab.lookup x = some d → ∃ u v, PySem.W.nsIn K a x = some (some u) ∧ RelV v u ∧ ∀ H, Dv K H v d
  miss : ∀ x, tab.lookup x = none → PySem.W.nsIn K a x = some none
def rKd (K : PySem.W.Frag) (a : Addr) (neg : Bool) : R2 := fun x y H Q => ∃ (z : Str) (r : Option Value), x = .str z ∧ y = .ref a ∧ PySem.W.nsIn K a z = some r ∧ Q (.bl (if neg then !r.isSome else r.isSome)) H
section
variable {X : Cx} {a : Addr} {tab : List (Str × D)}
theorem op_inK (T : DCt X.K X.w a tab) : OpR X (compareOp .In) (rKd X.K a false) := by
  obtain ⟨es, n, kd⟩ := T.kd
  exact op_in_kd kd
theorem op_notInK (T : DCt X.K X.w a tab) : OpR X (compareOp .NotIn) (rKd X.K a true) := by
  obtain ⟨es, n, kd⟩ := T.kd
  exact op_notIn_kd kd
variable {G : Gd Z} {K : PySem.W.Frag} {w : World} {ρ : Rho} {ta : TE} {wa : WE Z} {neg : Bool}
theorem ev_inK (T : DCt K w a tab) (ha : EvE G K ta ρ wa) : EvE G K (tOp (rKd K a neg) ta (tC (.ref a))) ρ (fun z Q => wa z fun z1 x => ∃ s, x = .str s ∧ Q z1 (.bool (if neg then !(tab.lookup s).isSome else (tab.lookup s).isSome))) :=
  fun σ B H z E o Q' hw Q k => ha σ B H z E o _ hw _ fun x z1 B1 H1 dx g1 r1 q1 => by
    obtain ⟨s, rfl, q⟩ := q1
    cases r1
    cases e : tab.lookup s with
    | none =>
      rw [e] at q
      exact ⟨s, none, rfl, rfl, T.miss s e, k _ z1 B1 H1 _ g1 (.bl _) q⟩
    | some d =>
      rw [e] at q
      obtain ⟨u, v, h1, _⟩ := T.hit s d e
      exact ⟨s, some u, rfl, rfl, h1, k _ z1 B1 H1 _ g1 (.bl _) q⟩
theorem ev_ixK (T : DCt K w a tab) (ha : EvE G K ta ρ wa) : EvE G K (tOp (rIxD K w) (tC (.ref a)) ta) ρ (fun z Q => wa z fun z1 x => ∃ s d, x = .str s ∧ tab.lookup s = some d ∧ Q z1 d) :=
  fun σ B H z E o Q' hw Q k => ha σ B H z E o _ hw _ fun x z1 B1 H1 dx g1 r1 q1 => by
    obtain ⟨s, d, rfl, e, q⟩ := q1
    cases r1
    obtain ⟨es, n, kd⟩ := T.kd
    obtain ⟨u, v, h1, h2, h3⟩ := T.hit s d e
    exact ⟨a, s, v, rfl, rfl, ⟨es, n, u, kd.at_, kd.lit, h1, h2⟩, k _ z1 B1 H1 _ g1 (h3 B1) q⟩
end
/-- a name of the module that holds data -/
structure KC (K : PySem.W.Frag) (mg : Str → Option Value) (x : Str) (d : D) (v : V) (u : Value) : Prop where
  m : mg x = some u
  r : RelV v u
  d : ∀ H, Dv K H v d
/-- .. a written dict -/
structure KD (K : PySem.W.Frag) (w : World) (mg : Str → Option Value) (x : Str) (tab : List (Str × D)) (a : Addr) : Prop where
  m : mg x = some (.ref a)
  d : DCt K w a tab
end DL
namespace DL
open PySem PySem.Spec PyProof.Rows L2
variable {Z : Type}
theorem iteD {c : Prop} [Decidable c] {A B : Prop} (h1 : c → A) (h2 : ¬ c → B) : if decide c = true then A else B := by
  by_cases h : c
  · rw [if_pos (decide_eq_true h)]; exact h1 h
  · rw [if_neg (by simpa using h)]; exact h2 h
/-- a comprehension without a test, whose items hang on nothing but the thing -/
theorem lc_pure {wg : D → Rho → (Rho → Prop) → Prop} {we : Rho → WE Z} {ρ : Rho} {Q : DK Z} {z : Z} (g : D → D) : ∀ {ds : List D} {acc : List D}, (∀ d ∈ ds, ∀ Y : DK Z, Y z (g d) → wg d ρ fun ρ1 => we ρ1 z Y) →
    acc.length + ds.length ≤ sizeLine → Q z (.list (acc ++ ds.map g)) → wLc wg (fun _ z Q => Q z true) we ρ Q ds z acc
  | [], acc, _, _, q => by rw [List.map_nil, List.append_nil] at q; exact q
  | d :: r, acc, h, hl, q => by
    refine h d (List.mem_cons_self ..) _ ⟨by rw [List.length_cons] at hl; omega, lc_pure g (fun d' m => h d' (List.mem_cons_of_mem _ m)) ?_ ?_⟩
    · rw [List.length_append, List.length_singleton]; rw [List.length_cons] at hl; omega
    · rw [List.append_assoc]; exact q
/-- a loop by what is left of its things -/
theorem for_ind {wb : WS Z} {wg : D → Rho → (Rho → Prop) → Prop} {W : WEnds Z} (I : List D → Rho → Z → Prop) (step : ∀ d r ρ z, I (d :: r) ρ z → (∀ ρ' z', I r ρ' z' → wFor wb wg W r ρ' z') → wFor wb wg W (d :: r) ρ z)
    (fin : ∀ ρ z, I [] ρ z → W.nx ρ z) : ∀ r ρ z, I r ρ z → wFor wb wg W r ρ z
  | [], ρ, z, h => fin ρ z h
  | d :: r, ρ, z, h => step d r ρ z h fun ρ' z' h' => for_ind I step fin r ρ' z' h'
end DL

/-! DLm -/
namespace DL
open PySem PySem.Spec PyProof.Rows L2
variable {Z : Type}
/-! ### an object with two dicts: what a run holds -/
structure MS where
  num : Int
  base : Int
  back : D
  place : Int
  sp : Int
  held : List (Key × D)
  words : List (Key × D)
/-! dicts over data -/
def lookK (kds : List (Key × D)) (k : Key) : Option D := (kds.find? fun kv => decide (kv.1 = k)).map (·.2)
def putKD (kds : List (Key × D)) (k : Key) (d : D) : List (Key × D) :=
  if (kds.any fun kv => decide (kv.1 = k)) = true then kds.map (fun kv => if kv.1 = k then (kv.1, d) else kv) else kds ++ [(k, d)]
def dropKD (kds : List (Key × D)) (k : Key) : List (Key × D) := kds.filter fun kv => decide (kv.1 ≠ k)
inductive KDv (K : PySem.W.Frag) (B : Hp) : List (Key × V) → List (Key × D) → Prop
  | nil : KDv K B [] []
  | cons {k : Key} {v : V} {d : D} {r : List (Key × V)} {s : List (Key × D)} : Dv K B v d → KDv K B r s → KDv K B ((k, v) :: r) ((k, d) :: s)
section
variable {K : PySem.W.Frag} {B B' : Hp}
theorem KDv.mono (e : Same B B') : ∀ {kvs : List (Key × V)} {kds : List (Key × D)}, KDv K B kvs kds → KDv K B' kvs kds
  | _, _, .nil => .nil
  | _, _, .cons h t => .cons (h.mono e) (KDv.mono e t)
theorem KDv.length : ∀ {kvs : List (Key × V)} {kds : List (Key × D)}, KDv K B kvs kds → kvs.length = kds.length
  | _, _, .nil => rfl
  | _, _, .cons _ t => by rw [List.length_cons, List.length_cons, KDv.length t]
theorem KDv.look (k : Key) : ∀ {kvs : List (Key × V)} {kds : List (Key × D)}, KDv K B kvs kds → (lookK kds k = none ∧ valV kvs k = none) ∨ ∃ v d, lookK kds k = some d ∧ valV kvs k = some v ∧ Dv K B v d
  | _, _, .nil => Or.inl ⟨rfl, rfl⟩
  | _, _, @KDv.cons _ _ k' v d r s h t => by
    by_cases e : k' = k
    · exact .inr ⟨v, d, by simp [lookK, List.find?_cons, e], valV_pos (p := (k', v)) e, h⟩
    · have e1 : lookK ((k', d) :: s) k = lookK s k := by simp [lookK, List.find?_cons, e]
      rw [e1, valV_neg (p := (k', v)) e]
      exact KDv.look k t
theorem KDv.any (k : Key) : ∀ {kvs : List (Key × V)} {kds : List (Key × D)}, KDv K B kvs kds → (kvs.any fun kv => decide (kv.1 = k)) = kds.any fun kv => decide (kv.1 = k)
  | _, _, .nil => rfl
  | _, _, .cons _ t => by rw [List.any_cons, List.any_cons, KDv.any k t]
theorem KDv.app : ∀ {kvs kws : List (Key × V)} {kds kes : List (Key × D)}, KDv K B kvs kds → KDv K B kws kes → KDv K B (kvs ++ kws) (kds ++ kes)
  | _, _, _, _, .nil, s => s
  | _, _, _, _, .cons h t, s => .cons h (KDv.app t s)
theorem KDv.rep (k : Key) {v : V} {d : D} (h : Dv K B v d) : ∀ {kvs : List (Key × V)} {kds : List (Key × D)}, KDv K B kvs kds → KDv K B (kvs.map fun kv => if kv.1 = k then (kv.1, v) else kv) (kds.map fun kv => if kv.1 = k then (kv.1, d) else kv)
  | _, _, .nil => .nil
  | _, _, @KDv.cons _ _ k' _ _ _ _ h' t => by
    rw [List.map_cons, List.map_cons]; by_cases e : k' = k
    · rw [if_pos e, if_pos e]; exact .cons h (KDv.rep k h t)
    · rw [if_neg e, if_neg e]; exact .cons h' (KDv.rep k h t)
theorem KDv.put (k : Key) {v : V} {d : D} (h : Dv K B v d) {kvs : List (Key × V)} {kds : List (Key × D)} (r : KDv K B kvs kds) : KDv K B (putK kvs k v) (putKD kds k d) := by
  unfold putK putKD
  rw [r.any k]
  split
  · exact r.rep k h
  · exact r.app (.cons h .nil)
theorem KDv.drop (k : Key) : ∀ {kvs : List (Key × V)} {kds : List (Key × D)}, KDv K B kvs kds → KDv K B (dropK kvs k) (dropKD kds k)
  | _, _, .nil => .nil
  | _, _, @KDv.cons _ _ k' _ _ _ _ h' t => by
    have ih := KDv.drop k t
    unfold dropK dropKD at ih ⊢
    by_cases e : k' = k
    · rw [List.filter_cons_of_neg (by simpa using e), List.filter_cons_of_neg (by simpa using e)]; exact ih
    · rw [List.filter_cons_of_pos (by simpa using e), List.filter_cons_of_pos (by simpa using e)]; exact .cons h' ih
end
def mflds (m : MS) (vb : V) (hd wd : Addr) : List (Str × V) :=
  [("number", .int m.num), ("base", .int m.base), ("back", vb), ("place", .int m.place), ("sp", .int m.sp), ("held", .ref hd), ("words", .ref wd)]
def wdOf (H : Hp) (p a : Addr) : Prop := ∃ C dx fs, H p = some (.ins C dx fs) ∧ fs.lookup ("words" : Str) = some (.ref a)
structure MAt (K : PySem.W.Frag) (C p dx hd : Addr) (m : MS) (B H : Hp) (wd : Addr) (vb : V) (hv wv : List (Key × V)) : Prop where
  ob : H p = some (.ins C dx (mflds m vb hd wd))
  ow : H dx = some (.own p)
  bk : Dv K B vb m.back
  ho : H hd = some (.dK hv)
  hr : KDv K B hv m.held
  wo : H wd = some (.dK wv)
  wr : KDv K B wv m.words
  nw : hd ≠ wd
def GM (G : Gd Z) (K : PySem.W.Frag) (C p dx hd : Addr) : Gd (Z × MS) where
  S := fun H a => G.S H a ∨ a = p ∨ a = dx ∨ a = hd ∨ wdOf H p a
  inv := fun z B H => G.inv z.1 B H ∧ ∃ wd vb hv wv, MAt K C p dx hd z.2 B H wd vb hv wv ∧ ¬ G.S H p ∧ ¬ G.S H dx ∧ ¬ G.S H hd ∧ ¬ G.S H wd
  loc := fun z B B' H H' eB e h => by
    obtain ⟨h0, wd, vb, hv, wv, M, n1, n2, n3, n4⟩ := h
    obtain ⟨l1, l2⟩ := G.loc z.1 B B' H H' eB (fun a s => e a (.inl s)) h0
    have ep := e p (.inr (.inl rfl))
    have ew : wdOf H p wd := ⟨_, _, _, M.ob, rfl⟩
    refine ⟨⟨l1, wd, vb, hv, wv, ⟨by rw [ep]; exact M.ob, by rw [e dx (.inr (.inr (.inl rfl)))]; exact M.ow, M.bk.mono eB, by rw [e hd (.inr (.inr (.inr (.inl rfl))))]; exact M.ho, M.hr.mono eB,
      by rw [e wd (.inr (.inr (.inr (.inr ew))))]; exact M.wo, M.wr.mono eB, M.nw⟩, fun s => n1 (l2 _ s), fun s => n2 (l2 _ s), fun s => n3 (l2 _ s), fun s => n4 (l2 _ s)⟩, fun a s => ?_⟩
    rcases s with s | s | s | s | s
    · exact .inl (l2 a s)
    · exact .inr (.inl s)
    · exact .inr (.inr (.inl s))
    · exact .inr (.inr (.inr (.inl s)))
    · obtain ⟨C', dx', fs, h1, h2⟩ := s
      exact .inr (.inr (.inr (.inr ⟨C', dx', fs, by rw [← ep]; exact h1, h2⟩)))
  dom := fun z B H a h s => by
    obtain ⟨h0, wd, vb, hv, wv, M, _⟩ := h
    rcases s with s | s | s | s | s
    · exact G.dom z.1 B H a h0 s
    · rw [s, M.ob]; intro z; cases z
    · rw [s, M.ow]; intro z; cases z
    · rw [s, M.ho]; intro z; cases z
    · obtain ⟨C', dx', fs, h1, h2⟩ := s
      rw [M.ob] at h1
      cases h1
      have : wd = a := by
        have h2 : some (V.ref wd) = some (V.ref a) := h2
        cases h2
        rfl
      rw [← this, M.wo]; intro z; cases z
/-- what is asked of the class -/
structure MC (K : PySem.W.Frag) (C : Addr) : Prop where
  cl : Cls K C
  number : NoAttr K C "number"
  base : NoAttr K C "base"
  back : NoAttr K C "back"
  place : NoAttr K C "place"
  sp : NoAttr K C "sp"
  held : NoAttr K C "held"
  words : NoAttr K C "words"
/-! ### terms that leave the heap as it is -/
def EvP (G : Gd Z) (K : PySem.W.Frag) (te : TE) (ρ : Rho) (we : WE Z) : Prop :=
  ∀ (σ : L2.St) (B H : Hp) (z : Z), EnvOk K B σ ρ → Ok G z B H → ∀ Q' : DK Z, we z Q' → ∀ Q : VK, (∀ v d, Dv K B v d → Q' z d → Q v H) → te σ H Q
section
variable {G : Gd Z} {K : PySem.W.Frag} {ρ : Rho} {te : TE} {we : WE Z}
theorem EvP.ev (h : EvP G K te ρ we) : EvE G K te ρ we := fun σ B H z E o Q' hw Q k => h σ B H z E o Q' hw Q fun v d r q => k v z B H d (Go.refl o) r q
theorem ep_pv {i : Nat} : EvP G K (tVar i) ρ (wVar ρ i) := fun σ B H z E o Q' hw Q k => by
  obtain ⟨d, h, q⟩ := hw
  obtain ⟨v, e, r⟩ := E.dat i d h
  exact ⟨v, e, k v d r q⟩
theorem ep_k {v : V} {d : D} (h : ∀ H, Dv K H v d) : EvP G K (tC v) ρ (fun z Q => Q z d) := fun σ B H z E o Q' hw Q k => k v d (h B) hw
theorem ep_c {v : V} {d : D} (h : Sc v d) : EvP G K (tC v) ρ (fun z Q => Q z d) := fun σ B H z E o Q' hw Q k => k v d (h K B) hw
end
section
variable {G : Gd Z} {K : PySem.W.Frag} {ρ : Rho} {C p dx hd : Addr} {i : Nat}
/-- a field that holds data -/
def mfD (m : MS) (f : Str) : Option D :=
  if f = "number" then some (.int m.num) else if f = "base" then some (.int m.base) else if f = "back" then some m.back else if f = "place" then some (.int m.place) else if f = "sp" then some (.int m.sp) else none
theorem ep_fld {f : Str} (MK : MC K C) (na : NoAttr K C f) (g : MS → D) (hg : ∀ m, mfD m f = some (g m)) (hf : ∀ (m : MS) (vb : V) (hd wd : Addr), (mflds m vb hd wd).lookup f = some (if f = "number" then .int m.num else if f = "base" then .int m.base else if f = "back" then vb else if f = "place" then .int m.place else .int m.sp)) :
    EvP (GM G K C p dx hd) K (tFld K (tVar i) f) ρ (fun z Q => ρ[i]? = some (.val (.ref p)) ∧ Q z (g z.2)) := fun σ B H z E o Q' hw Q k => by
  obtain ⟨hi, q⟩ := hw
  obtain ⟨_, wd, vb, hv, wv, M, _⟩ := o.inv
  refine ⟨_, E.val i _ hi, p, C, dx, _, _, rfl, M.ob, MK.cl, na, hf _ _ _ _, k _ _ ?_ q⟩
  have h := hg z.2
  unfold mfD at h
  by_cases e1 : f = "number"
  · rw [if_pos e1] at h ⊢; rw [← Option.some.inj h]; exact .int _
  rw [if_neg e1] at h ⊢
  by_cases e2 : f = "base"
  · rw [if_pos e2] at h ⊢; rw [← Option.some.inj h]; exact .int _
  rw [if_neg e2] at h ⊢
  by_cases e3 : f = "back"
  · rw [if_pos e3] at h ⊢; rw [← Option.some.inj h]; exact M.bk
  rw [if_neg e3] at h ⊢
  by_cases e4 : f = "place"
  · rw [if_pos e4] at h ⊢; rw [← Option.some.inj h]; exact .int _
  rw [if_neg e4] at h ⊢
  by_cases e5 : f = "sp"
  · rw [if_pos e5] at h; rw [← Option.some.inj h]; exact .int _
  rw [if_neg e5] at h
  cases h
theorem kn1 : ¬ ("base" : Str) = "number" := by decide +kernel
theorem ep_number (MK : MC K C) : EvP (GM G K C p dx hd) K (tFld K (tVar i) "number") ρ (fun z Q => ρ[i]? = some (.val (.ref p)) ∧ Q z (.int z.2.num)) :=
  ep_fld MK MK.number (fun m => .int m.num) (fun m => by rfl) (fun m vb hd wd => by rfl)
theorem ep_base (MK : MC K C) : EvP (GM G K C p dx hd) K (tFld K (tVar i) "base") ρ (fun z Q => ρ[i]? = some (.val (.ref p)) ∧ Q z (.int z.2.base)) :=
  ep_fld MK MK.base (fun m => .int m.base) (fun m => by rfl) (fun m vb hd wd => by rfl)
theorem ep_back (MK : MC K C) : EvP (GM G K C p dx hd) K (tFld K (tVar i) "back") ρ (fun z Q => ρ[i]? = some (.val (.ref p)) ∧ Q z z.2.back) :=
  ep_fld MK MK.back (fun m => m.back) (fun m => by rfl) (fun m vb hd wd => by rfl)
theorem ep_place (MK : MC K C) : EvP (GM G K C p dx hd) K (tFld K (tVar i) "place") ρ (fun z Q => ρ[i]? = some (.val (.ref p)) ∧ Q z (.int z.2.place)) :=
  ep_fld MK MK.place (fun m => .int m.place) (fun m => by rfl) (fun m vb hd wd => by rfl)
theorem ep_sp (MK : MC K C) : EvP (GM G K C p dx hd) K (tFld K (tVar i) "sp") ρ (fun z Q => ρ[i]? = some (.val (.ref p)) ∧ Q z (.int z.2.sp)) :=
  ep_fld MK MK.sp (fun m => .int m.sp) (fun m => by rfl) (fun m vb hd wd => by rfl)
end
end DL

/-! DLm2 -/
namespace DL
open PySem PySem.Spec PyProof.Rows L2
variable {Z : Type}
section
variable {G : Gd Z} {K : PySem.W.Frag} {ρ : Rho} {C p dx hd : Addr} {i : Nat} {B H H' : Hp} {z : Z × MS} {m' : MS} {wd wd' : Addr} {vb vb' : V} {hv hv' wv wv' : List (Key × V)}
theorem go_m (o : Ok (GM G K C p dx hd) z B H) (h0 : G.inv z.1 B H) (M : MAt K C p dx hd z.2 B H wd vb hv wv) (n1 : ¬ G.S H p) (n2 : ¬ G.S H dx) (n3 : ¬ G.S H hd) (n4 : ¬ G.S H wd)
    (M' : MAt K C p dx hd m' B H' wd' vb' hv' wv') (fr : ∀ a u, a ≠ p → a ≠ hd → (a = wd → wd' ≠ wd) → H a = some u → H' a = some u) (hw : wd' = wd ∨ H wd' = none) : Go (GM G K C p dx hd) B H (z.1, m') B H' := by
  have hwd : wdOf H p wd := ⟨_, _, _, M.ob, rfl⟩
  have ex : ∀ a, H a ≠ none → H' a ≠ none := fun a h => by
    by_cases e1 : a = p
    · rw [e1, M'.ob]; intro q; cases q
    by_cases e2 : a = hd
    · rw [e2, M'.ho]; intro q; cases q
    by_cases e3 : a = wd ∧ wd' = wd
    · rw [e3.1, ← e3.2, M'.wo]; intro q; cases q
    cases e : H a with
    | none => exact absurd e h
    | some u => rw [fr a u e1 e2 (fun q1 q2 => e3 ⟨q1, q2⟩) e]; intro q; cases q
  have keep : ∀ a, G.S H a → H' a = H a := fun a s => by
    cases e : H a with
    | none => exact absurd e (G.dom z.1 B H a h0 s)
    | some u => exact fr a u (fun q => n1 (q ▸ s)) (fun q => n3 (q ▸ s)) (fun q => absurd (q ▸ s) n4) e
  obtain ⟨l1, l2⟩ := G.loc z.1 B B H H' (Same.refl _) keep h0
  have n4' : ¬ G.S H' wd' := fun s => by
    rcases hw with q | q
    · exact n4 (q ▸ l2 _ s)
    · exact G.dom z.1 B H wd' h0 (l2 _ s) q
  have gr : ∀ a, (GM G K C p dx hd).S H' a → (GM G K C p dx hd).S H a ∨ H a = none := fun a s => by
    rcases s with s | s | s | s | s
    · exact .inl (.inl (l2 a s))
    · exact .inl (.inr (.inl s))
    · exact .inl (.inr (.inr (.inl s)))
    · exact .inl (.inr (.inr (.inr (.inl s))))
    · obtain ⟨C', dx', fs, h1, h2⟩ := s
      rw [M'.ob] at h1
      cases h1
      have h2 : some (V.ref wd') = some (V.ref a) := h2
      cases h2
      rcases hw with q | q
      · exact .inl (.inr (.inr (.inr (.inr (q ▸ hwd)))))
      · exact .inr q
  refine ⟨Same.refl _, ⟨fun a u e => ?_, fun a s => ?_, l1, wd', vb', hv', wv', M', fun s => n1 (l2 _ s), fun s => n2 (l2 _ s), fun s => n3 (l2 _ s), n4'⟩, fun a u n e => ?_, gr, ex, fun a e _ => e⟩
  · have ne : ∀ x, (GM G K C p dx hd).S H x → a ≠ x := fun x s q => by
      have := o.off x s
      rw [← q, e] at this
      cases this
    exact fr a u (ne p (.inr (.inl rfl))) (ne hd (.inr (.inr (.inr (.inl rfl))))) (fun q => absurd q (ne wd (.inr (.inr (.inr (.inr hwd)))))) (o.sub a u e)
  · rcases gr a s with q | q
    · exact o.off a q
    · exact o.gone q
  · exact fr a u (fun q => n (.inr (.inl q))) (fun q => n (.inr (.inr (.inr (.inl q))))) (fun q => absurd (.inr (.inr (.inr (.inr (q ▸ hwd))))) n) e
/-- the key that data is -/
def keyOf : D → Option Key
  | .int i => some (.inl i)
  | .str s => some (.inr s)
  | _ => none
theorem key_v {v : V} {d : D} {k : Key} (r : Dv K B v d) (h : keyOf d = some k) : v = kV k := by
  cases r <;> simp [keyOf] at h <;> subst h <;> rfl
variable {ty tx : TE} {wt wx : WE (Z × MS)}
abbrev IsM (ρ : Rho) (i : Nat) (p : Addr) : Prop := ρ[i]? = some (.val (.ref p))
theorem ep_held (MK : MC K C) (ht : EvP (GM G K C p dx hd) K ty ρ wt) : EvP (GM G K C p dx hd) K (tDGet (tFld K (tVar i) "held") ty) ρ (fun z Q => IsM ρ i p ∧ wt z fun z1 x => ∃ k d, keyOf x = some k ∧ lookK z1.2.held k = some d ∧ Q z1 d) := fun σ B H z E o Q' hw Q k => by
  obtain ⟨hi, q⟩ := hw
  obtain ⟨_, wd, vb, hv, wv, M, _⟩ := o.inv
  refine ⟨_, E.val i _ hi, p, C, dx, _, _, rfl, M.ob, MK.cl, MK.held, (by rfl : _ = some (V.ref hd)), ht σ B H z E o _ q _ fun y dy ry qy => ?_⟩
  obtain ⟨ky, d, e1, e2, q⟩ := qy
  rcases M.hr.look ky with ⟨e3, _⟩ | ⟨v, d', e3, e4, rv⟩
  · rw [e3] at e2; cases e2
  · rw [e3] at e2
    cases e2
    refine ⟨hd, v, rfl, ?_, k v d rv q⟩
    rw [key_v ry e1, ← e4]
    exact DGet.k M.ho
theorem ep_wget (MK : MC K C) (ht : EvP (GM G K C p dx hd) K ty ρ wt) (hx : EvP (GM G K C p dx hd) K tx ρ wx) : EvP (GM G K C p dx hd) K (tDGet2 (tFld K (tVar i) "words") ty tx) ρ
    (fun z Q => IsM ρ i p ∧ wt z fun z1 x => ∃ k, keyOf x = some k ∧ wx z1 fun z2 y => Q z2 ((lookK z2.2.words k).getD y)) := fun σ B H z E o Q' hw Q k => by
  obtain ⟨hi, q⟩ := hw
  obtain ⟨_, wd, vb, hv, wv, M, _⟩ := o.inv
  refine ⟨_, E.val i _ hi, p, C, dx, _, _, rfl, M.ob, MK.cl, MK.words, (by rfl : _ = some (V.ref wd)), wd, rfl, .inl ⟨_, .inl M.wo⟩, ht σ B H z E o _ q _ fun y dy ry qy => ?_⟩
  obtain ⟨ky, e1, q⟩ := qy
  refine hx σ B H z E o _ q _ fun x' dx' rx qx => ⟨valV wv ky, ?_, ?_⟩
  · rw [key_v ry e1]
    exact DGet.k M.wo
  · rcases M.wr.look ky with ⟨e3, e4⟩ | ⟨v, d', e3, e4, rv⟩
    · rw [e4]
      rw [e3] at qx
      exact k _ _ rx qx
    · rw [e4]
      rw [e3] at qx
      exact k _ _ rv qx
/-! ### what changes it -/
theorem put_sp (m : MS) (vb : V) (hd wd : Addr) (n : Int) : putF "sp" (.int n) (mflds m vb hd wd) = mflds { m with sp := n } vb hd wd := by rfl
theorem put_place (m : MS) (vb : V) (hd wd : Addr) (n : Int) : putF "place" (.int n) (mflds m vb hd wd) = mflds { m with place := n } vb hd wd := by rfl
theorem put_words (m : MS) (vb : V) (hd wd wd' : Addr) (ws : List (Key × D)) : putF "words" (.ref wd') (mflds m vb hd wd) = mflds { m with words := ws } vb hd wd' := by rfl
variable {tv : TE} {we : Rho → WE (Z × MS)} {wk : Rho → WE (Z × MS)}
theorem es_sp (MK : MC K C) (he : ∀ ρ, EvE (GM G K C p dx hd) K tv ρ (we ρ)) : EvS (GM G K C p dx hd) K (sFld K (tVar i) tv "sp") (fun W ρ z => we ρ z fun z1 d => ∃ n, d = .int n ∧ IsM ρ i p ∧ W.nx ρ (z1.1, { z1.2 with sp := n })) := fun B0 H0 W Dn R ρ z σ H a h => by
  obtain ⟨B, g0, E⟩ := a
  refine he ρ σ B H z E g0.ok _ h _ fun v z1 B1 H1 d g1 r1 q1 => ?_
  obtain ⟨n, rfl, hi, q⟩ := q1
  cases r1
  have E1 := E.mono g1.bb
  obtain ⟨h0, wd, vb, hv, wv, M, n1, n2, n3, n4⟩ := g1.ok.inv
  refine ⟨_, E1.val i _ hi, p, C, dx, _, rfl, M.ob, MK.cl, MK.sp, (by show 7 < 1000; decide), ?_⟩
  have nph : p ≠ hd := fun e => by have := M.ho; rw [← e, M.ob] at this; cases this
  have npw : p ≠ wd := fun e => by have := M.wo; rw [← e, M.ob] at this; cases this
  have npd : p ≠ dx := fun e => by have := M.ow; rw [← e, M.ob] at this; cases this
  have M' : MAt K C p dx hd { z1.2 with sp := n } B1 (upd H1 p (.ins C dx (putF "sp" (.int n) (mflds z1.2 vb hd wd)))) wd vb hv wv :=
    ⟨by rw [upd_same, put_sp], by rw [upd_ne npd.symm]; exact M.ow, M.bk, by rw [upd_ne nph.symm]; exact M.ho, M.hr, by rw [upd_ne npw.symm]; exact M.wo, M.wr, M.nw⟩
  exact R.nx ρ _ σ _ ⟨B1, (g0.trans g1).trans (go_m g1.ok h0 M n1 n2 n3 n4 M' (fun a u e1 _ _ e => by rw [upd_ne e1]; exact e) (.inl rfl)), E1⟩ q
theorem es_place (MK : MC K C) (he : ∀ ρ, EvE (GM G K C p dx hd) K tv ρ (we ρ)) : EvS (GM G K C p dx hd) K (sFld K (tVar i) tv "place") (fun W ρ z => we ρ z fun z1 d => ∃ n, d = .int n ∧ IsM ρ i p ∧ W.nx ρ (z1.1, { z1.2 with place := n })) := fun B0 H0 W Dn R ρ z σ H a h => by
  obtain ⟨B, g0, E⟩ := a
  refine he ρ σ B H z E g0.ok _ h _ fun v z1 B1 H1 d g1 r1 q1 => ?_
  obtain ⟨n, rfl, hi, q⟩ := q1
  cases r1
  have E1 := E.mono g1.bb
  obtain ⟨h0, wd, vb, hv, wv, M, n1, n2, n3, n4⟩ := g1.ok.inv
  refine ⟨_, E1.val i _ hi, p, C, dx, _, rfl, M.ob, MK.cl, MK.place, (by show 7 < 1000; decide), ?_⟩
  have nph : p ≠ hd := fun e => by have := M.ho; rw [← e, M.ob] at this; cases this
  have npw : p ≠ wd := fun e => by have := M.wo; rw [← e, M.ob] at this; cases this
  have npd : p ≠ dx := fun e => by have := M.ow; rw [← e, M.ob] at this; cases this
  have M' : MAt K C p dx hd { z1.2 with place := n } B1 (upd H1 p (.ins C dx (putF "place" (.int n) (mflds z1.2 vb hd wd)))) wd vb hv wv :=
    ⟨by rw [upd_same, put_place], by rw [upd_ne npd.symm]; exact M.ow, M.bk, by rw [upd_ne nph.symm]; exact M.ho, M.hr, by rw [upd_ne npw.symm]; exact M.wo, M.wr, M.nw⟩
  exact R.nx ρ _ σ _ ⟨B1, (g0.trans g1).trans (go_m g1.ok h0 M n1 n2 n3 n4 M' (fun a u e1 _ _ e => by rw [upd_ne e1]; exact e) (.inl rfl)), E1⟩ q
theorem es_hput (MK : MC K C) (he : ∀ ρ, EvE (GM G K C p dx hd) K tv ρ (we ρ)) (hk : ∀ ρ, EvP (GM G K C p dx hd) K ty ρ (wk ρ)) : EvS (GM G K C p dx hd) K (sDPut (tFld K (tVar i) "held") ty tv)
    (fun W ρ z => we ρ z fun z1 d => IsM ρ i p ∧ wk ρ z1 fun z2 x => ∃ k, keyOf x = some k ∧ z2.2.held.length < sizeLine ∧ W.nx ρ (z2.1, { z2.2 with held := putKD z2.2.held k d })) := fun B0 H0 W Dn R ρ z σ H a h => by
  obtain ⟨B, g0, E⟩ := a
  refine he ρ σ B H z E g0.ok _ h _ fun v z1 B1 H1 d g1 r1 q1 => ?_
  obtain ⟨hi, q⟩ := q1
  have E1 := E.mono g1.bb
  obtain ⟨h0, wd, vb, hv, wv, M, n1, n2, n3, n4⟩ := g1.ok.inv
  refine ⟨_, E1.val i _ hi, p, C, dx, _, _, rfl, M.ob, MK.cl, MK.held, (by rfl : _ = some (V.ref hd)), hk ρ σ B1 H1 z1 E1 g1.ok _ q _ fun y dy ry qy => ?_⟩
  obtain ⟨ky, e1, hl, q⟩ := qy
  have nph : p ≠ hd := fun e => by have := M.ho; rw [← e, M.ob] at this; cases this
  have ndh : dx ≠ hd := fun e => by have := M.ho; rw [← e, M.ow] at this; cases this
  refine ⟨hd, upd H1 hd (.dK (putK hv ky v)), rfl, by rw [key_v ry e1]; exact DPut.k M.ho (by rw [M.hr.length]; exact hl), ?_⟩
  have M' : MAt K C p dx hd { z1.2 with held := putKD z1.2.held ky d } B1 (upd H1 hd (.dK (putK hv ky v))) wd vb (putK hv ky v) wv :=
    ⟨by rw [upd_ne nph]; exact M.ob, by rw [upd_ne ndh]; exact M.ow, M.bk, upd_same, M.hr.put ky r1, by rw [upd_ne M.nw.symm]; exact M.wo, M.wr, M.nw⟩
  exact R.nx ρ _ σ _ ⟨B1, (g0.trans g1).trans (go_m g1.ok h0 M n1 n2 n3 n4 M' (fun a u _ e2 _ e => by rw [upd_ne e2]; exact e) (.inl rfl)), E1⟩ q
theorem es_wput (MK : MC K C) (he : ∀ ρ, EvE (GM G K C p dx hd) K tv ρ (we ρ)) (hk : ∀ ρ, EvP (GM G K C p dx hd) K ty ρ (wk ρ)) : EvS (GM G K C p dx hd) K (sDPut (tFld K (tVar i) "words") ty tv)
    (fun W ρ z => we ρ z fun z1 d => IsM ρ i p ∧ wk ρ z1 fun z2 x => ∃ k, keyOf x = some k ∧ z2.2.words.length < sizeLine ∧ W.nx ρ (z2.1, { z2.2 with words := putKD z2.2.words k d })) := fun B0 H0 W Dn R ρ z σ H a h => by
  obtain ⟨B, g0, E⟩ := a
  refine he ρ σ B H z E g0.ok _ h _ fun v z1 B1 H1 d g1 r1 q1 => ?_
  obtain ⟨hi, q⟩ := q1
  have E1 := E.mono g1.bb
  obtain ⟨h0, wd, vb, hv, wv, M, n1, n2, n3, n4⟩ := g1.ok.inv
  refine ⟨_, E1.val i _ hi, p, C, dx, _, _, rfl, M.ob, MK.cl, MK.words, (by rfl : _ = some (V.ref wd)), hk ρ σ B1 H1 z1 E1 g1.ok _ q _ fun y dy ry qy => ?_⟩
  obtain ⟨ky, e1, hl, q⟩ := qy
  have npw : p ≠ wd := fun e => by have := M.wo; rw [← e, M.ob] at this; cases this
  have ndw : dx ≠ wd := fun e => by have := M.wo; rw [← e, M.ow] at this; cases this
  refine ⟨wd, upd H1 wd (.dK (putK wv ky v)), rfl, by rw [key_v ry e1]; exact DPut.k M.wo (by rw [M.wr.length]; exact hl), ?_⟩
  have M' : MAt K C p dx hd { z1.2 with words := putKD z1.2.words ky d } B1 (upd H1 wd (.dK (putK wv ky v))) wd vb hv (putK wv ky v) :=
    ⟨by rw [upd_ne npw]; exact M.ob, by rw [upd_ne ndw]; exact M.ow, M.bk, by rw [upd_ne M.nw]; exact M.ho, M.hr, upd_same, M.wr.put ky r1, M.nw⟩
  refine R.nx ρ _ σ _ ⟨B1, (g0.trans g1).trans (go_m g1.ok h0 M n1 n2 n3 n4 M' (fun a u _ _ e3 e => ?_) (.inl rfl)), E1⟩ q
  rw [upd_ne fun q => e3 q rfl]; exact e
/-- words.pop(k, None) -/
theorem ev_wpop (MK : MC K C) (hk : EvP (GM G K C p dx hd) K ty ρ wt) : EvE (GM G K C p dx hd) K (tDPop2 (tFld K (tVar i) "words") ty (tC .non)) ρ
    (fun z Q => IsM ρ i p ∧ wt z fun z1 x => ∃ k, keyOf x = some k ∧ Q (z1.1, { z1.2 with words := dropKD z1.2.words k }) ((lookK z1.2.words k).getD .none)) := fun σ B H z E o Q' hw Q k => by
  obtain ⟨hi, q⟩ := hw
  obtain ⟨h0, wd, vb, hv, wv, M, n1, n2, n3, n4⟩ := o.inv
  refine ⟨_, E.val i _ hi, p, C, dx, _, _, rfl, M.ob, MK.cl, MK.words, (by rfl : _ = some (V.ref wd)), wd, rfl, .inl ⟨_, .inl M.wo⟩, hk σ B H z E o _ q _ fun y dy ry qy => ?_⟩
  obtain ⟨ky, e1, q⟩ := qy
  have npw : p ≠ wd := fun e => by have := M.wo; rw [← e, M.ob] at this; cases this
  have ndw : dx ≠ wd := fun e => by have := M.wo; rw [← e, M.ow] at this; cases this
  have wr := M.wr.drop ky
  refine ⟨wv, ky, M.wo, key_v ry e1, fun v hv' => ?_, fun hn => ?_⟩
  · have M' : MAt K C p dx hd { z.2 with words := dropKD z.2.words ky } B (upd H wd (.dK (dropK wv ky))) wd vb hv (dropK wv ky) :=
      ⟨by rw [upd_ne npw]; exact M.ob, by rw [upd_ne ndw]; exact M.ow, M.bk, by rw [upd_ne M.nw]; exact M.ho, M.hr, upd_same, wr, M.nw⟩
    rcases M.wr.look ky with ⟨e3, e4⟩ | ⟨v', d', e3, e4, rv⟩
    · rw [hv'] at e4; cases e4
    · rw [hv'] at e4
      cases e4
      rw [e3] at q
      refine k _ _ B _ _ (go_m o h0 M n1 n2 n3 n4 M' (fun a u _ _ e3 e => ?_) (.inl rfl)) rv q
      rw [upd_ne fun q => e3 q rfl]; exact e
  · rcases M.wr.look ky with ⟨e3, e4⟩ | ⟨v', d', e3, e4, rv⟩
    · rw [e3] at q
      have hsame : dropKD z.2.words ky = z.2.words := by
        unfold dropKD
        refine List.filter_eq_self.mpr fun a ha => ?_
        have h : lookK z.2.words ky = none := e3
        unfold lookK at h
        rw [Option.map_eq_none_iff, List.find?_eq_none] at h
        simpa using h a ha
      rw [hsame] at q
      exact k _ _ B H _ (Go.refl o) .non q
    · rw [hn] at e4; cases e4
end
end DL

/-! DLm3 -/
namespace DL
open PySem PySem.Spec PyProof.Rows L2
variable {Z : Type}
theorem KDv.keys {K : PySem.W.Frag} {B : Hp} : ∀ {kvs : List (Key × V)} {kds : List (Key × D)}, KDv K B kvs kds → kvs.map (·.1) = kds.map (·.1)
  | _, _, .nil => rfl
  | _, _, .cons _ t => by rw [List.map_cons, List.map_cons, KDv.keys t]
theorem KDv.filter {K : PySem.W.Frag} {B : Hp} (f : Key → Bool) : ∀ {kvs : List (Key × V)} {kds : List (Key × D)}, KDv K B kvs kds → KDv K B (kvs.filter fun q => f q.1) (kds.filter fun q => f q.1)
  | _, _, .nil => .nil
  | _, _, @KDv.cons _ _ k _ _ _ _ h t => by
    cases e : f k with
    | true => rw [List.filter_cons_of_pos (by simpa using e), List.filter_cons_of_pos (by simpa using e)]; exact .cons h (KDv.filter f t)
    | false => rw [List.filter_cons_of_neg (by simp [e]), List.filter_cons_of_neg (by simp [e])]; exact KDv.filter f t
def fromK (lo : Int) : Key → Bool
  | .inl a => decide (lo ≤ a)
  | .inr _ => false
section
variable {G : Gd Z} {K : PySem.W.Frag} {C p dx hd : Addr} {i ia iv : Nat}
theorem es_wfrom (MK : MC K C) (hne : ia ≠ iv) (h0a : ia ≠ i) (h0v : iv ≠ i) : EvS (GM G K C p dx hd) K
    (sFld K (tVar i) (tLockE (tDc (iItems (tFld K (tVar i) "words")) (gTup K 2 (gCons (gName ia) (gCons (gName iv) gNil))) (tTest (tOp (rI0 fun i j => .bl (decide (j ≤ i))) (tVar ia) (tFld K (tVar i) "sp"))) (tVar ia) (tVar iv) [ia, iv])) "words")
    (fun W ρ z => IsM ρ i p ∧ ia < ρ.length ∧ iv < ρ.length ∧ (z.2.words.map (·.1)).Nodup ∧ (∀ q ∈ z.2.words, ∃ a, q.1 = .inl a) ∧ z.2.words.length < sizeLine ∧ W.nx ρ (z.1, { z.2 with words := z.2.words.filter fun q => fromK z.2.sp q.1 })) := fun B0 H0 W Dn R ρ z σ H a h => by
  obtain ⟨B, g0, E⟩ := a
  obtain ⟨hi, la, lv, nd, hk, hlen, q⟩ := h
  obtain ⟨h0, wd, vb, hv, wv, M, n1, n2, n3, n4⟩ := g0.ok.inv
  have npw : p ≠ wd := fun e => by have := M.wo; rw [← e, M.ob] at this; cases this
  have nph : p ≠ hd := fun e => by have := M.ho; rw [← e, M.ob] at this; cases this
  have npd : p ≠ dx := fun e => by have := M.ow; rw [← e, M.ob] at this; cases this
  have ndw : dx ≠ wd := fun e => by have := M.wo; rw [← e, M.ow] at this; cases this
  have keys := M.wr.keys
  have hlv := M.wr.length
  have hkv : ∀ x ∈ wv, ∃ a, x.1 = .inl a := fun x hx => by
    have : x.1 ∈ z.2.words.map (·.1) := by rw [← keys]; exact List.mem_map_of_mem hx
    obtain ⟨y, hy, e⟩ := List.mem_map.mp this
    obtain ⟨a, ha⟩ := hk y hy
    exact ⟨a, by rw [← e, ha]⟩
  have ndv : (wv.map (·.1)).Nodup := by rw [keys]; exact nd
  have ls : σ.length = ρ.length := E.len
  refine ⟨wd, .dK wv, M.wo, True.intro, fun od => ?_⟩
  have oth : ∀ a, a ≠ wd → upd H wd (.frz od (.dK wv)) a = H a := fun a n => upd_ne n
  have hwd : upd H wd (.frz od (.dK wv)) wd = some (.frz od (.dK wv)) := upd_same
  generalize hHf : upd H wd (.frz od (.dK wv)) = Hf at oth hwd
  refine ⟨_, E.val i _ hi, p, C, dx, _, _, rfl, (by rw [oth p npw]; exact M.ob), MK.cl, MK.words, (by rfl : _ = some (V.ref wd)), wd, od, wv, rfl, hwd, fun Dn' hD => ?_⟩
  have nDw : Dn' ≠ wd := fun e => by rw [e, hwd] at hD; cases hD
  have nDp : Dn' ≠ p := fun e => by rw [e, oth p npw, M.ob] at hD; cases hD
  have hDH : H Dn' = none := by rw [← oth Dn' nDw]; exact hD
  refine ⟨fun j m Hc => m = wv.length - j ∧ j ≤ wv.length ∧ Hc Dn' = some (.dK ((wv.take j).filter fun q => fromK z.2.sp q.1)) ∧ ∀ a o, a ≠ Dn' → Hf a = some o → Hc a = some o, ⟨wv.length, by simp, Nat.zero_le _, by rw [upd_same]; rfl, fun a o n e => by rw [upd_ne n]; exact e⟩, fun j m Hc hh => ?_⟩
  obtain ⟨rfl, hj, hDc, fr⟩ := hh
  have hwc := fr wd _ nDw.symm hwd
  by_cases hlt : j < wv.length
  · refine .inr ⟨⟨hwc, hlt⟩, fun H' => j + 1 ≤ wv.length ∧ H' Dn' = some (.dK ((wv.take (j + 1)).filter fun q => fromK z.2.sp q.1)) ∧ ∀ a o, a ≠ Dn' → Hf a = some o → H' a = some o, fun H' pp => ⟨wv.length - (j + 1), by omega, rfl, pp⟩, fun x H' y => ?_⟩
    obtain ⟨T, k, v, hkv', rfl, hT, rfl⟩ := y
    obtain ⟨hjl, hje⟩ := List.getElem?_eq_some_iff.mp hkv'
    have htake : wv.take (j + 1) = wv.take j ++ [(k, v)] := by rw [List.take_succ_eq_append_getElem hjl, hje]
    obtain ⟨a, rfl⟩ := hkv (k, v) (List.mem_of_getElem? hkv')
    have nT : ∀ b o, Hc b = some o → upd Hc T (.tup [kV (.inl a), v]) b = some o := fun b o e => by rw [upd_ne (ne_of_none e hT)]; exact e
    refine ⟨T, _, rfl, SqT.of upd_same, rfl, _, _, rfl, _, _, rfl, rfl, ?_, ?_⟩
    · exact wipe_off (is := [ia] ++ [iv]) (Off.set.trans Off.set) (fun i hi => by simpa using hi)
    · have lw : (L2.wipe σ [ia, iv]).length = σ.length := wipe_length _ _
      have gi : ((((L2.wipe σ [ia, iv]).set ia (some (kV (.inl a)))).set iv (some v))[i]?) = some (some (V.ref p)) := by
        rw [List.getElem?_set_ne h0v, List.getElem?_set_ne h0a, wipe_out (by simp [h0a.symm, h0v.symm])]
        exact E.val i _ hi
      have ga : ((((L2.wipe σ [ia, iv]).set ia (some (kV (.inl a)))).set iv (some v))[ia]?) = some (some (V.int a)) := by
        rw [List.getElem?_set_ne hne.symm, List.getElem?_set_self (by rw [lw, ls]; exact la)]
        rfl
      have gv : ((((L2.wipe σ [ia, iv]).set ia (some (kV (.inl a)))).set iv (some v))[iv]?) = some (some v) := by
        rw [List.getElem?_set_self (by rw [List.length_set, lw, ls]; exact lv)]
      refine ⟨_, ga, _, gi, p, C, dx, _, _, rfl, nT _ _ (fr p _ nDp.symm (by rw [oth p npw]; exact M.ob)), MK.cl, MK.sp, (by rfl : _ = some (V.int z.2.sp)), a, z.2.sp, rfl, rfl, _, rfl, ?_⟩
      refine iteD (fun hle => ?_) (fun hle => ?_)
      · have hnew : valV ((wv.take j).filter fun q => fromK z.2.sp q.1) (Sum.inl a : Key) = none := by
          unfold valV
          rw [Option.map_eq_none_iff, List.find?_eq_none]
          intro y hy
          have hy1 := (List.mem_filter.mp hy).1
          simp only [decide_eq_true_eq]
          intro e
          rw [← List.take_append_drop (j + 1) wv, htake, List.map_append, List.map_append] at ndv
          have := (List.nodup_append.mp (List.nodup_append.mp ndv).1).2.2
          exact this _ (List.mem_map_of_mem hy1) _ (by simp) e
        have hll : ((wv.take j).filter fun q => fromK z.2.sp q.1).length < sizeLine := by
          have := List.length_filter_le (fun q : Key × V => fromK z.2.sp q.1) (wv.take j)
          rw [List.length_take] at this
          omega
        refine ⟨_, ga, _, gv, _, .inl a, rfl, nT _ _ hDc, hll, hlt, ?_, fun b o nb e => ?_⟩
        · rw [upd_same, putK_new v hnew, htake, List.filter_append]
          congr 2
          rw [List.filter_cons_of_pos (by simpa [fromK] using hle)]
          rfl
        · rw [upd_ne nb]; exact nT _ _ (fr b o nb e)
      · refine ⟨hlt, ?_, fun b o nb e => nT _ _ (fr b o nb e)⟩
        rw [nT _ _ hDc, htake, List.filter_append, List.filter_cons_of_neg (by simpa [fromK] using hle)]
        simp
  · have ej : j = wv.length := by omega
    subst ej
    rw [List.take_length] at hDc
    refine .inl ⟨⟨hwc, Nat.le_refl _⟩, hwc, _, E.val i _ hi, p, C, dx, _, rfl, (by rw [upd_ne npw]; exact fr p _ nDp.symm (by rw [oth p npw]; exact M.ob)), MK.cl, MK.words, (by show 7 < 1000; decide), ?_⟩
    have back : ∀ b o, b ≠ Dn' → H b = some o → upd Hc wd (.dK wv) b = some o := fun b o nb e => by
      by_cases eb : b = wd
      · rw [eb, upd_same]; rw [eb, M.wo] at e; exact e
      · rw [upd_ne eb]; exact fr b o nb (by rw [oth b eb]; exact e)
    have M' : MAt K C p dx hd { z.2 with words := z.2.words.filter fun q => fromK z.2.sp q.1 } B (upd (upd Hc wd (.dK wv)) p (.ins C dx (putF "words" (.ref Dn') (mflds z.2 vb hd wd)))) Dn' vb hv (wv.filter fun q => fromK z.2.sp q.1) :=
      ⟨by rw [upd_same, put_words], by rw [upd_ne npd.symm]; exact back dx _ (fun e => by rw [← e, M.ow] at hDH; cases hDH) M.ow, M.bk, by rw [upd_ne nph.symm]; exact back hd _ (fun e => by rw [← e, M.ho] at hDH; cases hDH) M.ho, M.hr,
        by rw [upd_ne nDp, upd_ne nDw]; exact hDc, M.wr.filter (fromK z.2.sp), fun e => by rw [← e, M.ho] at hDH; cases hDH⟩
    exact R.nx ρ _ σ _ ⟨B, g0.trans (go_m g0.ok h0 M n1 n2 n3 n4 M' (fun b u e1 _ _ e => by rw [upd_ne e1]; exact back b u (ne_of_none e hDH) e) (.inr hDH)), E⟩ q
end
end DL

/-! DLsi -/
namespace DSI
open PySem PyProof.Rows Srt SrtO PySem.Spec
section
variable {pg : Program} {w : World} {A : Around} {E : Value → Shared → Prop} {s : Shared}
/-- v is a tuple of an int and of an object -/
def PrI (h : Heap) (v : Value) (x : Int) : Prop := ∃ a o t b n, v = .ref a ∧ h.get? a = some o ∧ o.cls = .type "tuple" ∧ o.data = .seq #[.int x t, .ref b] n
theorem PrI.keeps {h h' : Heap} {v : Value} {x : Int} (p : PrI h v x) (k : ∀ b o, h.get? b = some o → o.cls = .type "tuple" → h'.get? b = some o) : PrI h' v x := by
  obtain ⟨a, o, t, u, n, e, oAt, oCl, oDa⟩ := p
  exact ⟨a, o, t, u, n, e, k _ _ oAt oCl, oCl, oDa⟩
theorem swo_int (k : Value → Int) : Swo fun v u => decide (k v < k u) := by
  refine ⟨fun a b h => ?_, fun a b c h1 h2 => ?_⟩
  · have := of_decide_eq_true h
    exact (decide_eq_false (by omega))
  · have := of_decide_eq_false h1
    have := of_decide_eq_false h2
    exact (decide_eq_false (by omega))
theorem eqBool_same {b : Addr} {Q : Bool → Shared → Prop} (h : Q true s) : wpAny (model pg w) A (eqBool (.ref b) (.ref b)) Q E s := by
  unfold eqBool
  refine wpAny_holding ?_
  rw [if_pos (beq_self_eq_true _)]; exact wpAny_bind (wpAny_rule (wpAny_pure h))
theorem pri_cmp {vs : List Value} {k : Value → Int} (hp : ∀ v ∈ vs, PrI s.heap v (k v)) (inj : ∀ v ∈ vs, ∀ u ∈ vs, k v = k u → v = u) : Cmp pg w A s (tuples' true) (fun p => p.1 ∈ vs) (lt2 fun v u => decide (k v < k u)) := by
  intro p q mem1 mem2
  have h1 := hp _ mem1
  have h2 := hp _ mem2
  show wpAny (model pg w) A (keyLt' (tuples' true) p.1 q.1) (fun r s' => s' = s ∧ r = decide (k p.1 < k q.1)) (fun _ _ => False) s
  by_cases ek : k p.1 = k q.1
  · have e := inj _ mem1 _ mem2 ek
    rw [← e]
    have e3 : decide (k p.1 < k p.1) = false := decide_eq_false (Int.lt_irrefl _)
    rw [e3]
    generalize k p.1 = x at h1
    obtain ⟨a, o, t, u, n, e, oAt, oCl, oDa⟩ := h1
    rw [e]
    refine PySem.W.kat_lt oAt oDa oAt oDa ?_
    show PySem.W.KatLex pg w A true (decide (2 < 2)) _ [(.int x t, .int x t), (.ref u, .ref u)] 0 s
    refine PySem.W.kat_cons (SeqAt.EqAt.int_int x t x t pg w _ _ ?_)
    refine PySem.W.kat_go (fun _ => ?_) (fun e1 => absurd e1 (by simp))
    refine PySem.W.kat_yes (PySem.W.kat_cons (eqBool_same ?_))
    refine PySem.W.kat_go (fun _ => ?_) (fun e1 => absurd e1 (by simp))
    exact PySem.W.kat_yes (PySem.W.kat_nil ⟨rfl, rfl⟩)
  · generalize k p.1 = x at h1 ek ⊢
    generalize k q.1 = x' at h2 ek ⊢
    obtain ⟨a, o, t, u, n, e, oAt, oCl, oDa⟩ := h1
    obtain ⟨a', o', t', u', n', e', oAt', oCl', oDa'⟩ := h2
    rw [e, e']
    refine PySem.W.kat_lt oAt oDa oAt' oDa' ?_
    show PySem.W.KatLex pg w A true (decide (2 < 2)) _ [(.int x t, .int x' t'), (.ref u, .ref u')] 0 s
    refine PySem.W.kat_cons (SeqAt.EqAt.int_int x t x' t' pg w _ _ ?_)
    refine PySem.W.kat_go (fun e1 => absurd (by simpa using e1) ek) (fun e1 => ?_)
    exact PySem.W.kat_no (oneLt_int ⟨rfl, rfl⟩)
theorem firsts_of {h : Heap} {k : Value → Int} : ∀ {vs : List Value}, (∀ v ∈ vs, PrI h v (k v)) → ∃ heads : List Value, PySem.W.KatTups h vs heads ∧ heads.length = vs.length ∧ ∀ f ∈ heads, ∃ x t, f = Value.int x t
  | [], _ => ⟨[], PySem.W.KatTups.nil, rfl, fun _ mem1 => by simp at mem1⟩
  | v :: vs, hp => by
    obtain ⟨heads, h1, h2, h3⟩ := firsts_of (vs := vs) fun v' mem1 => hp v' (List.mem_cons_of_mem _ mem1)
    have hv := hp v (List.mem_cons_self ..)
    generalize k v = x at hv
    obtain ⟨a, o, t, u, n, e, oAt, oCl, oDa⟩ := hv
    subst e
    refine ⟨.int x t :: heads, PySem.W.KatTups.cons oAt oCl oDa rfl h1, by rw [List.length_cons, List.length_cons, h2], fun f mem1 => ?_⟩
    rcases List.mem_cons.mp mem1 with rfl | mem1
    · exact ⟨x, t, rfl⟩
    · exact h3 f mem1
theorem pri_sortable {a : Addr} {vs : List Value} {k : Value → Int} (h0 : 0 < vs.length) (hp : ∀ v ∈ vs, PrI s.heap v (k v)) (inj : ∀ v ∈ vs, ∀ u ∈ vs, k v = k u → v = u) (ha : ∀ o, s.heap.get? a = some o → o.cls ≠ .type "tuple") : SortableO pg w A s a vs fun v u => decide (k v < k u) := by
  intro h' keep
  have prs' : ∀ v ∈ vs, PrI h' v (k v) := fun v mem1 => (hp v mem1).keeps fun b o e c => keep b o (fun z => by subst z; exact ha o e c) e
  obtain ⟨heads, h1, h2, h3⟩ := firsts_of prs'
  refine ⟨tuples' true, fun Q E hq => ?_, pri_cmp prs' inj⟩
  refine PySem.W.kat_kind (T := .type "int") h1 (by omega) (fun f mem1 => ?_) (by rfl) ?_
  · obtain ⟨x, t, rfl⟩ := h3 f mem1
    exact PySem.W.Looks.now
  · have e : (Value.type "int" != Value.type "tuple") = true := by decide +kernel
    rw [e]
    exact hq
end
end DSI

/-! DLsj -/
namespace DL
open PySem PySem.Spec PyProof.Rows L2 L2.DX DT
section
variable {X : Cx}
def rItemsK : V → List V → Hp → VK → Prop := fun x args H Q => ∃ (a : Addr) (kvs : List (Key × V)), x = .ref a ∧ args = [] ∧ H a = some (.dK kvs) ∧ ∀ p, H p = none → Q (.ref p) (upd H p (itemsO p a))
theorem mt_itemsK : MtR X "dict.items" rItemsK := by
  intro pins s σ H x args v argv Q I rel1 rxs h
  obtain ⟨a, prs, rfl, rfl, ha, q⟩ := h
  cases rel1
  cases rxs
  obtain ⟨z, hnm, vs, rel, ob, es, ep, hob, hex, hdat, _⟩ := dk_of I.hok ha
  refine DT.callItems (es := es) (ep := ep) hnm ⟨ob, hob, hex, hdat⟩ ?_
  have hfr : H s.heap.objs.size = none := I.hok.fresh (Nat.le_refl _)
  exact ⟨.ref s.heap.objs.size, upd H s.heap.objs.size (itemsO s.heap.objs.size a), I.laid (t' := s.toks) (fun b u e => Heap.get?_push_of_some _ e) (Nat.le_refl _) (itemsO_ok (Heap.get?_push_size _ rfl)), rfl, q _ hfr⟩
abbrev entI (e : Int × Addr) : Key × V := (Sum.inl e.1, V.ref e.2)
/-- keys are ints, values objects: the pairs, ascending -/
def rSortIK : List V → Hp → VK → Prop := fun vs H Q => ∃ (p a : Addr) (ents : List (Int × Addr)), vs = [.ref p] ∧ H p = some (itemsO p a) ∧ H a = some (.dK (ents.map entI)) ∧ (ents.map (·.1)).Nodup ∧ ents.length ≤ 1000 ∧
  ∀ (H' : Hp) (l : Addr) (ps : List (Addr × Int × Addr)), (∀ b ob, H b = some ob → H' b = some ob) → H l = none → (∀ z ∈ ps, H z.1 = none) → (ps.map (·.2)).Perm ents → (ps.map (·.2)).Pairwise (fun e f => e.1 ≤ f.1) →
    H' l = some (.lst (ps.map fun z => V.ref z.1)) → (∀ z ∈ ps, H' z.1 = some (.tup [.int z.2.1, .ref z.2.2])) → Q (.ref l) H'
/-- the int that a pair begins with -/
def fstI (h : Heap) (v : Value) : Int := match v with
  | .ref b => match h.get? b with
    | some ob => match ob.data with
      | .seq args _ => match (args[0]? : Option Value) with
        | some (Value.int ix _) => ix
        | _ => 0
      | _ => 0
    | none => 0
  | _ => 0
theorem fstI_of {h : Heap} {v : Value} {x : Int} (p : DSI.PrI h v x) : fstI h v = x := by
  obtain ⟨a, ob, t, b, n, rfl, hob, hc, hnm⟩ := p
  unfold fstI
  simp only [hob, hnm]
  rfl
theorem pairs_get {P : Program} {w : World} : ∀ {es : List DictEntry} {kvs : List (Key × Value)} {jx : Nat} {e : DictEntry}, Pairs (mixKind P w) es kvs → es[jx]? = some e → ∃ kv, kvs[jx]? = some kv ∧ keyIs kv.1 e.key = true ∧ e.val = kv.2
  | _, _, jx, e, .nil, h => by simp at h
  | _, _, 0, e, .cons h1 hp2 _, h => by simp at h; subst h; exact ⟨_, rfl, h1, hp2⟩
  | _, _, jx + 1, e, .cons _ _ t, h => by
    obtain ⟨kv, a, b⟩ := pairs_get (jx := jx) t (by simpa using h)
    exact ⟨kv, by simpa using a, b⟩
theorem pairs_len {P : Program} {w : World} : ∀ {es : List DictEntry} {kvs : List (Key × Value)}, Pairs (mixKind P w) es kvs → es.length = kvs.length
  | _, _, .nil => rfl
  | _, _, .cons _ _ t => by rw [List.length_cons, List.length_cons, pairs_len t]
theorem cr_sortedIK (hc : X.calm = true) : CallR X (.builtin "sorted") rSortIK := by
  intro pins s σ H args argv Q I r h
  obtain ⟨p, a, ents, rfl, hp, ha, nd, hlk, q⟩ := h
  obtain rfl := Vals.ref1 r
  have vw : s.heap.IsItemsView p a := (show ObjOk X.prog X.w H s.heap p (itemsO p a) from I.hok p _ hp).1
  obtain ⟨z, hnm, vs, rel, ob, es, ep, hob, hex, hdat, hkeys, hes, hn⟩ := dk_of I.hok ha
  have l1 : (ents.map entI).length = vs.length := Paired.length rel
  rw [List.length_map] at l1
  have l2 : es.size = vs.length := by rw [← Array.length_toList]; exact pairs_len hes
  have calm0 : X.A.handled = none := I.ok.hd hc
  refine DT.sortedI (es := es) (ep := ep) calm0 vw ⟨ob, hob, hex, hdat⟩ (by rw [sizeLine_eq]; omega) fun hp1 tok1 news hkeep hless hsz mkd => ?_
  have lenA : news.length = ents.length := by omega
  have nda : news.Nodup := List.Pairwise.imp (fun h => Nat.ne_of_lt h) mkd.rise
  -- the pairs that were made
  have pr0 : ∀ (jx : Nat) (b : Addr), news[jx]? = some b → ∃ (e : Int × Addr) (t : Tok), ents[jx]? = some e ∧ hp1.get? b = some { cls := .type "tuple", data := .seq #[Value.int e.1 t, Value.ref e.2] } := by
    intro jx b hjx
    obtain ⟨ent0, he, hg⟩ := mkd.pairs jx b hjx
    obtain ⟨kv, h1, hp2, h3⟩ := pairs_get hes (by rw [Array.getElem?_toList]; exact he)
    obtain ⟨e0, he0, r1, r3⟩ := pget rel h1
    rw [List.getElem?_map] at he0
    cases hkj : ents[jx]? with
    | none => rw [hkj] at he0; exact nomatch (show (none : Option (Key × V)) = some e0 from he0)
    | some e =>
      rw [hkj] at he0
      have ee : entI e = e0 := Option.some.inj he0
      rw [← ee] at r1 r3
      have r1 : Sum.inl e.1 = kv.1 := r1
      have r3 : kv.2 = Value.ref e.2 := r3
      rw [← r1] at hp2
      obtain ⟨t, ht⟩ := Value.isInt_shape (k := e.1) (v := ent0.key) hp2
      refine ⟨e, t, rfl, ?_⟩
      rw [hg, ht, h3, r3]
  have hlst : (hp1.push { cls := .type "list", data := .seq (news.map Value.ref).toArray }).get? hp1.objs.size = some (seqObj "list" (news.map Value.ref).toArray 0) := Heap.get?_push_size _ rfl
  have kept0 : ∀ b ob, s.heap.get? b = some ob → (hp1.push { cls := .type "list", data := .seq (news.map Value.ref).toArray }).get? b = some ob := fun b ob e => Heap.get?_push_of_some _ (hkeep b ob e)
  have olds : ∀ b ob, hp1.get? b = some ob → b ≠ hp1.objs.size := fun b ob e => Nat.ne_of_lt (Heap.lt_size e)
  generalize hh2 : hp1.push { cls := .type "list", data := .seq (news.map Value.ref).toArray } = hp2 at hlst kept0 ⊢
  have kept1 : ∀ b ob, hp1.get? b = some ob → hp2.get? b = some ob := fun b ob e => by rw [← hh2]; exact Heap.get?_push_of_some _ e
  have prI : ∀ (jx : Nat) (b : Addr), news[jx]? = some b → ∃ e : Int × Addr, ents[jx]? = some e ∧ DSI.PrI hp2 (.ref b) e.1 := by
    intro jx b hjx
    obtain ⟨e, t, he, hg⟩ := pr0 jx b hjx
    exact ⟨e, he, b, _, t, e.2, _, rfl, kept1 _ _ hg, rfl, rfl⟩
  have fst0 : ∀ (jx : Nat) (b : Addr) (e : Int × Addr), news[jx]? = some b → ents[jx]? = some e → fstI hp2 (.ref b) = e.1 := by
    intro jx b e hjx he
    obtain ⟨eqq, heq, hpr⟩ := prI jx b hjx
    have ee : eqq = e := Option.some.inj (heq.symm.trans he)
    rw [← ee]
    exact fstI_of hpr
  have memb : ∀ v ∈ news.map Value.ref, ∃ (jx : Nat) (b : Addr) (e : Int × Addr), v = .ref b ∧ news[jx]? = some b ∧ ents[jx]? = some e := by
    intro v hv'
    obtain ⟨b, hbm, rfl⟩ := List.mem_map.mp hv'
    obtain ⟨jx, hjx⟩ := List.mem_iff_getElem?.mp hbm
    obtain ⟨e, _, he, _⟩ := pr0 jx b hjx
    exact ⟨jx, b, e, rfl, hjx, he⟩
  refine wpAny_call_entry PyProof.Rows.slot_list_sort ⟨_, hlst, rfl⟩ PyProof.Rows.entry_list_sort
    (SrtO.list_sort_ord (s := { s with heap := hp2, toks := tok1 }) (ltv := fun v u => decide (fstI hp2 v < fstI hp2 u)) (DSI.swo_int _) hlst (by rw [List.length_map, sizeLine_eq]; omega) (fun h2l => ?_) fun out o1 o2 => ⟨.none, rfl, ?_⟩) (PyProof.Rows.args_list_sort _)
  · refine DSI.pri_sortable (by omega) (fun v hv' => ?_) (fun v hv' u hu' e => ?_) fun o' eqq => ?_
    · obtain ⟨jx, b, e, rfl, hjx, he⟩ := memb v hv'
      obtain ⟨eqq, heq, hpr⟩ := prI jx b hjx
      rw [fstI_of hpr]
      exact hpr
    · obtain ⟨jx, b, e1, rfl, hjx, he⟩ := memb v hv'
      obtain ⟨jx2, b2, e2, rfl, hj2, he2⟩ := memb u hu'
      rw [fst0 jx b e1 hjx he, fst0 jx2 b2 e2 hj2 he2] at e
      have hij : jx = jx2 := by
        have g1 : (ents.map (·.1))[jx]? = some e1.1 := by rw [List.getElem?_map, he]; rfl
        have g2 : (ents.map (·.1))[jx2]? = some e1.1 := by rw [List.getElem?_map, he2, e]; rfl
        exact (List.getElem?_inj (List.getElem?_eq_some_iff.mp g1).1 nd).mp (g1.trans g2.symm)
      subst hij
      rw [Option.some.inj (hjx.symm.trans hj2)]
    · have eqq : some o' = some (seqObj "list" (news.map Value.ref).toArray 0) := eqq.symm.trans hlst
      cases eqq
      intro cl0
      exact absurd (Value.type.inj cl0) (by decide)
  · show EP X pins σ Q (.ref hp1.objs.size) { s with heap := sortedHeap hp2 hp1.objs.size (news.map Value.ref) out.toArray, toks := tok1 }
    obtain ⟨ordd, pz, ez⟩ := perm_lift (fun z : Addr × Int × Addr => Value.ref z.1) (show out.Perm ((news.zip ents).map fun z => Value.ref z.1) from by
      have e : (news.zip ents).map (fun z => Value.ref z.1) = news.map Value.ref := by
        rw [show (fun z : Addr × Int × Addr => Value.ref z.1) = Value.ref ∘ Prod.fst from rfl, ← List.map_map, List.map_fst_zip (by rw [lenA]; exact Nat.le_refl _)]
      rw [e]; exact o2.perm) (news.zip ents) rfl
    have ixs : ∀ z ∈ ordd, ∃ jx : Nat, news[jx]? = some z.1 ∧ ents[jx]? = some z.2 := by
      intro z' hz'
      obtain ⟨jx, hjx⟩ := List.mem_iff_getElem?.mp (pz.mem_iff.mp hz')
      exact ⟨jx, List.getElem?_zip_eq_some.mp hjx⟩
    have hout : out = ordd.map fun z => Value.ref z.1 := ez.symm
    have prm : (ordd.map (·.2)).Perm ents := by
      have e := pz.map (·.2)
      have m2 : (news.zip ents).map (·.2) = ents := List.map_snd_zip (by rw [lenA]; exact Nat.le_refl _)
      rw [m2] at e
      exact e
    have srt : (ordd.map (·.2)).Pairwise (fun e f => e.1 ≤ f.1) := by
      have o3 := o1
      rw [← ez] at o3
      have o3 := List.pairwise_map.mp o3
      rw [List.pairwise_map]
      refine List.Pairwise.imp_of_mem (fun {x y} hex hy h => ?_) o3
      obtain ⟨jx, jx1, jx2⟩ := ixs x hex
      obtain ⟨ix, ix1, ix2⟩ := ixs y hy
      have hp1 : decide (fstI hp2 (.ref y.1) < fstI hp2 (.ref x.1)) = false := h
      rw [fst0 jx _ _ jx1 jx2, fst0 ix _ _ ix1 ix2] at hp1
      have := of_decide_eq_false hp1
      omega
    -- behind the sort
    have kF : ∀ b ob, b ≠ hp1.objs.size → hp2.get? b = some ob → (sortedHeap hp2 hp1.objs.size (news.map Value.ref) out.toArray).get? b = some ob := fun b ob hb e => (PyProof.Rows.sortedHeap_old hb (Heap.lt_size e)).trans e
    have kS : ∀ b ob, s.heap.get? b = some ob → (sortedHeap hp2 hp1.objs.size (news.map Value.ref) out.toArray).get? b = some ob := fun b ob e => kF b ob (olds _ _ (hkeep b ob e)) (kept0 b ob e)
    obtain ⟨eF, heF⟩ := PyProof.Rows.sortedHeap_at (vs := news.map Value.ref) (out := out.toArray) hlst
    have I1 : Inv X pins σ H { s with heap := sortedHeap hp2 hp1.objs.size (news.map Value.ref) out.toArray, toks := tok1 } := I.kept (t' := tok1) kS
    have noH : H hp1.objs.size = none := I.hok.fresh (Nat.le_of_lt hless)
    have lnL : (ordd.map fun z => V.ref z.1).length ≤ sizeLine := by
      have e := prm.length_eq
      rw [List.length_map] at e
      rw [List.length_map, sizeLine_eq]; omega
    have rv : Vals (ordd.map fun z => V.ref z.1) out := by
      rw [hout]
      exact vals_maps (fun z : Addr × Int × Addr => V.ref z.1) (fun z => Value.ref z.1) ordd fun _ _ => rfl
    have I2 : Inv X pins σ (upd H hp1.objs.size (.lst (ordd.map fun z => V.ref z.1))) { s with heap := sortedHeap hp2 hp1.objs.size (news.map Value.ref) out.toArray, toks := tok1 } :=
      I1.take (h' := sortedHeap hp2 hp1.objs.size (news.map Value.ref) out.toArray) (t' := tok1) (fun b ob _ e => e) (I.fpOk (Nat.le_of_lt hless) noH) ⟨lnL, out, eF, rv, heF⟩
    obtain ⟨H2, I3, g, qt⟩ := takeT (P := fun b vs => ∃ (jx : Nat) (e : Int × Addr), news[jx]? = some b ∧ ents[jx]? = some e ∧ vs = [.int e.1, .ref e.2]) I news _ I2 nda fun b hb => by
      obtain ⟨jx, hjx⟩ := List.mem_iff_getElem?.mp hb
      obtain ⟨e, t, he, hg⟩ := pr0 jx b hjx
      have low : s.heap.objs.size ≤ b := Nat.le_of_lt (mkd.above b hb)
      refine ⟨low, ?_, [.int e.1, .ref e.2], ⟨jx, e, hjx, he, rfl⟩, fun H3 => ⟨(by rw [sizeLine_eq]; show 2 ≤ 16777216; omega), [Value.int e.1 t, Value.ref e.2], .cons ⟨t, rfl⟩ (.cons rfl .nil), ⟨_, kF _ _ (olds _ _ hg) (kept1 _ _ hg), rfl, 0, rfl⟩⟩⟩
      rw [upd_ne (olds _ _ hg)]
      exact I.hok.fresh low
    have grow : ∀ b ob, H b = some ob → H2 b = some ob := fun b ob e => g b ob (by rw [upd_ne (ne_of_none e noH)]; exact e)
    refine ⟨.ref hp1.objs.size, H2, I3, rfl, q H2 hp1.objs.size ordd grow noH (fun z' hz' => ?_) prm srt (g _ _ upd_same) fun z' hz' => ?_⟩
    · obtain ⟨ix, ix1, _⟩ := ixs z' hz'
      exact I.hok.fresh (Nat.le_of_lt (mkd.above _ (List.mem_of_getElem? ix1)))
    obtain ⟨ix, ix1, ix2⟩ := ixs z' hz'
    obtain ⟨vs', ⟨jx, e, jx1, jx2, ev⟩, hH⟩ := qt z'.1 (List.mem_of_getElem? ix1)
    have eij : ix = jx := (List.getElem?_inj (List.getElem?_eq_some_iff.mp ix1).1 nda).mp (ix1.trans jx1.symm)
    subst eij
    have ee : e = z'.2 := Option.some.inj (jx2.symm.trans ix2)
    rw [ev, ee] at hH
    exact hH
end
end DL

/-! DLsw -/
namespace DL
open PySem PySem.Spec PyProof.Rows L2 L2.DX
variable {Z : Type}
open Classical in
noncomputable def extB (N : Addr → Prop) (H' B : Hp) : Hp := fun x => if N x then H' x else B x
theorem extB_pos {N : Addr → Prop} {H' B : Hp} {a : Addr} (h : N a) : extB N H' B a = H' a := by unfold extB; exact if_pos h
open Classical in
/-- new objects, known from now on -/
theorem go_ext {G : Gd Z} {z : Z} {B H H' : Hp} (o : Ok G z B H) (N : Addr → Prop) (fresh : ∀ a, N a → H a = none) (k : ∀ b u, H b = some u → H' b = some u) : Go G B H z (extB N H' B) H' := by
  have nB : ∀ a, N a → B a = none := fun a n => o.gone (fresh a n)
  have bb : Same B (extB N H' B) := fun a u e => by
    have : ¬ N a := fun n => by rw [nB a n] at e; cases e
    show (if N a then H' a else B a) = some u
    rw [if_neg this]; exact e
  have keep : ∀ a, G.S H a → H' a = H a := fun a s => by
    cases e : H a with
    | none => exact absurd e (G.dom z B H a o.inv s)
    | some u => exact k a u e
  obtain ⟨l1, l2⟩ := G.loc z B (extB N H' B) H H' bb keep o.inv
  refine ⟨bb, ⟨fun a u e => ?_, fun a s => ?_, l1⟩, fun a u _ e => k a u e, fun a s => .inl (l2 a s), fun a h => ?_, fun a e1 e2 => ?_⟩
  · have e : (if N a then H' a else B a) = some u := e
    by_cases n : N a
    · rw [if_pos n] at e; exact e
    · rw [if_neg n] at e; exact k a u (o.sub a u e)
  · show (if N a then H' a else B a) = none
    have : ¬ N a := fun n => G.dom z B H a o.inv (l2 a s) (fresh a n)
    rw [if_neg this]
    exact o.off a (l2 a s)
  · cases e : H a with
    | none => exact absurd e h
    | some u => rw [k a u e]; intro q; cases q
  · show (if N a then H' a else B a) = none
    have : ¬ N a := fun n => e2 (fresh a n)
    rw [if_neg this]
    exact e1
def pairK (q : Key × D) : D := .tuple [keyD q.1, q.2]
def leK (a b : Key × D) : Prop := ∃ i j, a.1 = .inl i ∧ b.1 = .inl j ∧ i ≤ j
/-- a dict of ints to tuples, read -/
theorem kdv_ints {K : PySem.W.Frag} {B : Hp} : ∀ {kvs : List (Key × V)} {kds : List (Key × D)}, KDv K B kvs kds → (∀ q ∈ kds, ∃ a, q.1 = .inl a) → (∀ q ∈ kds, ∃ ds, q.2 = .tuple ds) →
    ∃ L : List ((Int × Addr) × D), kvs = L.map (fun x => entI x.1) ∧ kds = L.map (fun x => (Sum.inl x.1.1, x.2)) ∧ ∀ x ∈ L, Dv K B (.ref x.1.2) x.2
  | _, _, .nil, _, _ => ⟨[], rfl, rfl, fun _ h => by cases h⟩
  | _, _, @KDv.cons _ _ k v d r s h t, hk, hv => by
    obtain ⟨L, e1, e2, e3⟩ := kdv_ints t (fun q m => hk q (List.mem_cons_of_mem _ m)) fun q m => hv q (List.mem_cons_of_mem _ m)
    obtain ⟨a, rfl⟩ : ∃ a, k = .inl a := hk _ (List.mem_cons_self ..)
    obtain ⟨ds, rfl⟩ : ∃ ds, d = .tuple ds := hv _ (List.mem_cons_self ..)
    obtain ⟨b, rfl⟩ : ∃ b, v = .ref b := by cases h; exact ⟨_, rfl⟩
    refine ⟨((a, b), .tuple ds) :: L, by rw [List.map_cons, ← e1], by rw [List.map_cons, ← e2], fun x m => ?_⟩
    rcases List.mem_cons.mp m with rfl | m
    · exact h
    · exact e3 x m
section
variable {G : Gd Z} {K : PySem.W.Frag} {ρ : Rho} {C p dx hd : Addr} {i : Nat}
theorem ev_sortedW (MK : MC K C) : EvE (GM G K C p dx hd) K (tCB rSortIK (tCons (tBM0 K "dict" rItemsK (tFld K (tVar i) "words")) tNil)) ρ
    (fun z Q => IsM ρ i p ∧ (∀ q ∈ z.2.words, ∃ a, q.1 = .inl a) ∧ (∀ q ∈ z.2.words, ∃ ds, q.2 = .tuple ds) ∧ (z.2.words.map (·.1)).Nodup ∧ z.2.words.length ≤ 1000 ∧
      ∀ ws : List (Key × D), ws.Perm z.2.words → ws.Pairwise leK → Q z (.list (ws.map pairK))) := fun σ B H z E o Q' hw Q k => by
  obtain ⟨hi, hk, hv, nd, hl, q⟩ := hw
  obtain ⟨h0, wd, vb, hv', wv, M, n1, n2, n3, n4⟩ := o.inv
  obtain ⟨L, rfl, e2, e3⟩ := kdv_ints M.wr hk hv
  refine ⟨_, E.val i _ hi, p, C, dx, _, _, rfl, M.ob, MK.cl, MK.words, (by rfl : _ = some (V.ref wd)), .inr (.inr (.inl ⟨rfl, .inl ⟨_, M.wo⟩⟩)), wd, _, rfl, rfl, M.wo, fun pI hp => ?_⟩
  have g1 := Go.mine (o := itemsO pI wd) o hp
  have nw : wd ≠ pI := ne_of_none M.wo hp
  refine ⟨pI, wd, L.map (·.1), rfl, upd_same, (by rw [upd_ne nw, List.map_map]; exact M.wo), ?_, (by rw [List.length_map]; have := congrArg List.length e2; rw [List.length_map] at this; omega), fun H' l ps hk' hl' hz hperm hsort hls hts => ?_⟩
  · have e4 : z.2.words.map (·.1) = (L.map (·.1)).map fun x => (Sum.inl x.1 : Key) := by rw [e2, List.map_map, List.map_map]; rfl
    rw [e4] at nd
    have e5 : (L.map (·.1)).map (fun x => (Sum.inl x.1 : Key)) = ((L.map (·.1)).map (·.1)).map Sum.inl := by rw [List.map_map, List.map_map, List.map_map]; rfl
    rw [e5] at nd
    exact List.Pairwise.imp (fun h e => h (by rw [e])) (List.pairwise_map.mp nd)
  · have g2 := go_ext g1.ok (fun a => a = l ∨ ∃ z ∈ ps, z.1 = a) (fun a n => by
      rcases n with e | ⟨z', m, e⟩
      · rw [e]; exact hl'
      · rw [← e]; exact hz z' m) hk'
    obtain ⟨L', pL, eL⟩ := perm_lift (fun x : (Int × Addr) × D => x.1) hperm L rfl
    have all : ∀ (ps' : List (Addr × Int × Addr)) (L2 : List ((Int × Addr) × D)) (B' : Hp), Same B B' → L2.map (fun x => x.1) = ps'.map (·.2) → (∀ x ∈ L2, Dv K B (.ref x.1.2) x.2) → (∀ z ∈ ps', B' z.1 = some (.tup [.int z.2.1, .ref z.2.2])) →
        DvAll K B' (ps'.map fun z => V.ref z.1) (L2.map fun x => pairK (Sum.inl x.1.1, x.2)) := by
      intro ps'
      induction ps' with
      | nil => intro L2 B' _ e _ _; cases L2 with
        | nil => exact .nil
        | cons x r => cases e
      | cons y r ih => intro L2 B' sB e hx hy; cases L2 with
        | nil => cases e
        | cons x r2 =>
          rw [List.map_cons, List.map_cons] at e; obtain ⟨e6, e7⟩ := List.cons.inj e
          have ht := hy y (List.mem_cons_self ..)
          rw [← e6] at ht
          exact .cons (.tup (SqT.of ht) (.cons (.int _) (.cons ((hx x (List.mem_cons_self ..)).mono sB) .nil))) (ih r2 B' sB e7 (fun a m => hx a (List.mem_cons_of_mem _ m)) fun a m => hy a (List.mem_cons_of_mem _ m))
    have bb : Same B _ := (g1.trans g2).bb
    refine k _ z _ H' _ (g1.trans g2) (.lst (by rw [extB_pos (.inl rfl)]; exact hls) (all ps L' _ bb eL (fun x m => e3 x (pL.mem_iff.mp m)) fun z' m => ?_)) (cast (by rw [List.map_map]; rfl) (q (L'.map fun x => (Sum.inl x.1.1, x.2)) ?_ ?_))
    · rw [extB_pos (.inr ⟨z', m, rfl⟩)]
      exact hts z' m
    · rw [e2]
      exact pL.map _
    · rw [List.pairwise_map]
      have : (L'.map fun x => x.1).Pairwise fun e f => e.1 ≤ f.1 := by rw [eL]; exact hsort
      exact List.Pairwise.imp (fun h => ⟨_, _, rfl, rfl, h⟩) (List.pairwise_map.mp this)
end
end DL

/-! DLset -/
namespace DL
open PySem PySem.Spec PyProof.Rows L2
variable {Z : Type}
theorem kds_of_code {K : PySem.W.Frag} {cd : Value} {q : Str} (e : PySem.W.codeIn K cd q = true) : PySem.W.kdsCode K cd = true := by
  unfold PySem.W.codeIn at e
  unfold PySem.W.kdsCode
  split at e
  · split at e
    · rename_i ho
      simp only [ho]
    · cases e
  · cases e
/-- an empty set, as it is laid -/
abbrev set0 (w : World) : Obj := { cls := .type "set", data := .set #[] 0 (.fresh 0 0 (!w.params.followText "set-order")), dict := none }
section
variable {pg : Program} {w : World} {A : Around} {E : Value → Shared → Prop} {s : Shared}
theorem set_new {Q : Value → Shared → Prop} (h : SetR w (s.heap.push (set0 w)) s.heap.objs.size (fun _ => false) 0 →
      Q (.ref s.heap.objs.size) { s with heap := s.heap.push (set0 w) }) :
    wpAny (model pg w) A (newSet (.type "set")) Q E s := by
  have q := h (setR_fresh w)
  unfold newSet setsByText
  refine wpAny_bind (wpAny_bind (wpAny_askSetting (wpAny_pure ?_))); dsimp only
  simp only [newObj]
  exact wpAny_bind (wpAny_alloc (wpAny_pure q))
theorem disp_core {b : Bool} {elts : List (Bool × Sem Value)} {ts : List (Sem Value)} {Q : Value → Shared → Prop} (hs : elts.findIdx? (·.1) = none) (hlen : elts.length ≤ 30) (hsnd : elts.map (·.2) = ts)
    (h : SetR w (s.heap.push (set0 w)) s.heap.objs.size (fun _ => false) 0 →
      wpAny (model pg w) A (evalAll ts) (fun vs s' => PySem.W.KdsFill (model pg w) A E false s.heap.objs.size Q vs s') E { s with heap := s.heap.push (set0 w) }) :
    wpAny (model pg w) A (setDisplay .oneByOne b elts) Q E s := by
  have hcut : (if elts.length > 30 then 0 else (elts.findIdx? (·.1)).getD elts.length) = elts.length := by rw [if_neg (by omega), hs]; rfl
  unfold setDisplay
  try dsimp only
  rw [if_neg (show ¬ ((DisplayRoad.oneByOne == DisplayRoad.constants) = true) by decide)]
  refine wpAny_bind (set_new fun R => ?_)
  dsimp only
  rw [hcut, List.take_length, List.drop_length, hsnd]
  refine wpAny_bind (wpAny_holding (wpAny_bind (wpAny_mono (h R) (fun vs s' h' => ?_) fun _ _ x => x)))
  refine wpAny_bind (wpAny_holding (wpAny_bind (wpAny_mono (PySem.W.kds_for (fun x P s hadd => ?_) vs s' h') (fun _ s1 h1 => ?_) fun _ _ x => x)))
  · refine wpAny_bind (wpAny_mono hadd (fun _ sB got => ?_) fun _ _ x => x)
    first | exact wpAny_pure ⟨rfl, got⟩ | exact wpAny_bind (wpAny_pure (wpAny_pure ⟨rfl, got⟩))
  · have got : Q (.ref s.heap.objs.size) s1 := by simpa [PySem.W.KdsFill] using h1
    rw [if_neg (show ¬ ((DisplayRoad.oneByOne == DisplayRoad.unsure) = true) by decide)]
    refine wpAny_pure ?_
    rw [List.forIn_nil]
    exact wpAny_pure (wpAny_pure got)
end
/-! ### sorted({e1, e2}), two ints -/
def tSet2 (w : World) (t1 t2 : TE) : TE := fun σ H Q => ∀ p, H p = none → t1 σ (upd H p (SetO w p (fun _ => false) 0)) fun x H1 => t2 σ H1 fun y H2 => ∃ i j, x = .int i ∧ y = .int j ∧ H2 p = some (SetO w p (fun _ => false) 0) ∧
  Q (.ref p) (upd H2 p (SetO w p (fun k => decide (k = i) || decide (k = j)) (if i = j then 1 else 2)))
theorem setadd_ok {X : Cx} {pins : List (Addr × Obj)} {s : Shared} {σ : L2.St} {H : Hp} {a : Addr} {k : Int} {tk : Tok} {S : Int → Bool} {n : Nat} {Q : Shared → Prop} (I : Inv X pins σ H s) (ha : H a = some (SetO X.w a S n)) (room : n + 1 < scanBound)
    (q : ∀ s', Inv X pins σ (upd H a (SetO X.w a (fun j => S j || decide (j = k)) (if S k = true then n else n + 1))) s' → Q s') : wpAny (model X.prog X.w) X.A (setAdd a (.int k tk)) (fun _ s' => Q s') X.xe s := by
  unfold setAdd
  refine wpAny_holding (wpAny_bind ((intKind X.prog X.w).pyHash (k := k) (intKind_is _ _ _ _) ?_))
  refine setR_add_hashed (s := { s with toks := s.toks + 1 }) (setO_get (I.tok _) ha) room fun h' sb nw => q _ ?_
  have hthere : ∃ u, h'.get? a = some u := by
    have ⟨o, _, _, _, ho, _⟩ := nw
    exact ⟨o, ho⟩
  exact I.write (e := a) (by rw [ha]; trivial) (.inl rfl) (fun b u hb hu => (sb.2 b hb).trans hu) hthere (setO_new nw)
section
variable {X : Cx} {e1 e2 : Expr} {t1 t2 : TE} {pos : Pos}
theorem pe_set2 (hcd : PySem.W.kdsCode X.K X.env.code = true) (h1 : PE X e1 t1) (got : PE X e2 t2) (hp : [e1, e2].all PySem.W.kdsPlain = true := by rfl) : PE X (.Set [e1, e2] 0 pos) (tSet2 X.w t1 t2) := by
  refine ⟨fun pins s σ H Q I h => ?_⟩; rw [arm_eval_Set]
  refine wpAny_bind (wpAny_standAt (wpAny_bind (PySem.W.kds_main I.kIn hcd fun b => ?_)))
  rw [PySem.W.kds_star [e1, e2] hp, List.map_map, show displayRoad 0 [e1, e2] = DisplayRoad.oneByOne from rfl]
  refine disp_core (ts := (evalEach [e1, e2] X.env).map fun t => do let v ← t; standAt pos; pure v) (List.findIdx?_eq_none_iff.mpr fun x hadd => ?_) (by rw [List.length_map, PySem.W.kds_len]; show 2 ≤ 30; decide) (by rw [List.map_map]; rfl) fun R => ?_
  · obtain ⟨t, _, rfl⟩ := List.mem_map.mp hadd
    rfl
  generalize hD : s.heap.objs.size = Da at R
  have hDn : H Da = none := I.hok.fresh (Nat.le_of_eq hD)
  have I1 : Inv X pins σ (upd H Da (SetO X.w Da (fun _ => false) 0)) { s with heap := s.heap.push (set0 X.w) } :=
    I.laid (t' := s.toks) (fun b o e => Heap.get?_push_of_some _ e) (Nat.le_of_eq hD) (setO_new R)
  refine PySem.W.kds_all pos [e1, e2] _ _ ?_
  refine thn (h1.run pins _ σ _ _ I1 (h Da hDn)) fun v1 s1 ⟨x, H1, J1, r1, q1⟩ => ?_
  refine thn (got.run pins _ σ _ _ J1 q1) fun v2 sB ⟨y, H2, J2, r2, q2⟩ => ?_
  obtain ⟨i, j, rfl, rfl, hs, q⟩ := q2
  obtain ⟨k1, rfl⟩ := r1
  obtain ⟨k2, rfl⟩ := r2
  show PySem.W.KdsFill (model X.prog X.w) X.A X.xe false _ _ [.int i k1, .int j k2] sB
  refine PySem.W.kds_fill_cons (setadd_ok J2 hs (by decide) fun s3 J3 => ?_)
  refine PySem.W.kds_fill_cons (setadd_ok J3 upd_same (by decide) fun s4 J4 => ?_)
  refine PySem.W.kds_fill_nil rfl ⟨.ref Da, _, J4, rfl, ?_⟩
  have e1 : upd (upd H2 Da (SetO X.w Da (fun j_1 => false || decide (j_1 = i)) (if false = true then 0 else 0 + 1))) Da (SetO X.w Da (fun j_1 => (false || decide (j_1 = i)) || decide (j_1 = j)) (if (false || decide (j = i)) = true then (if false = true then 0 else 0 + 1) else (if false = true then 0 else 0 + 1) + 1)) =
      upd H2 Da (SetO X.w Da (fun k => decide (k = i) || decide (k = j)) (if i = j then 1 else 2)) := by
    funext b
    by_cases eb : b = Da
    · subst eb
      rw [upd_same, upd_same]
      have eS : (fun k : Int => (false || decide (k = i)) || decide (k = j)) = fun k => decide (k = i) || decide (k = j) := by funext k; simp
      have eN : (if (false || decide (j = i)) = true then (if false = true then 0 else 0 + 1) else (if false = true then 0 else 0 + 1) + 1) = (if i = j then 1 else 2) := by
        by_cases e : i = j
        · subst e; simp
        · have : ¬ j = i := fun z => e z.symm
          simp [e, this]
      rw [eS, eN]
    · rw [upd_ne eb, upd_ne eb, upd_ne eb]
  rw [e1]
  exact q
end
end DL

/-! DLset2 -/
namespace DL
open PySem PySem.Spec PyProof.Rows L2
variable {Z : Type}
def sort2 (i j : Int) : List Int := if i = j then [i] else if i < j then [i, j] else [j, i]
theorem sort2_is {i j : Int} {ns : List Int} (hs : ns.Pairwise (· < ·)) (hm : ∀ k, k ∈ ns ↔ (decide (k = i) || decide (k = j)) = true) : ns = sort2 i j := by
  have hm : ∀ k, k ∈ ns ↔ (k = i ∨ k = j) := fun k => by rw [hm k]; simp
  match ns, hs, hm with
  | [], _, hm => exact absurd ((hm i).mpr (.inl rfl)) (by simp)
  | [x], _, hm =>
    have h1 := (hm i).mpr (.inl rfl)
    have h2 := (hm j).mpr (.inr rfl)
    simp at h1 h2
    unfold sort2
    rw [if_pos (h1.trans h2.symm), h1]
  | [x, y], hs, hm =>
    have hxy : x < y := by simpa using hs
    have h1 := (hm x).mp (by simp)
    have h2 := (hm y).mp (by simp)
    unfold sort2
    by_cases e : i = j
    · omega
    · rw [if_neg e]
      by_cases l : i < j
      · rw [if_pos l]
        have hx : x = i := by omega
        have hy : y = j := by omega
        rw [hx, hy]
      · rw [if_neg l]
        have hx : x = j := by omega
        have hy : y = i := by omega
        rw [hx, hy]
  | x :: y :: z :: r, hs, hm =>
    obtain ⟨a1, a2⟩ := List.pairwise_cons.mp hs
    obtain ⟨b1, _⟩ := List.pairwise_cons.mp a2
    have := a1 y (by simp)
    have := a1 z (by simp)
    have := b1 z (by simp)
    have h1 := (hm x).mp (by simp)
    have h2 := (hm y).mp (by simp)
    have h3 := (hm z).mp (by simp)
    omega
theorem dv_ints {K : PySem.W.Frag} {B : Hp} : ∀ ns : List Int, DvAll K B (ns.map V.int) (ns.map PyData.int)
  | [] => .nil
  | n :: r => .cons (.int n) (dv_ints r)
section
variable {G : Gd Z} {K : PySem.W.Frag} {w : World} {ρ : Rho} {t1 t2 : TE} {w1 w2 : WE Z}
theorem ev_sort2 (h1 : EvE G K t1 ρ w1) (h2 : EvE G K t2 ρ w2) : EvE G K (tCB (rSortedSet w) (tCons (tSet2 w t1 t2) tNil)) ρ
    (fun z Q => w1 z fun z1 x => w2 z1 fun z2 y => ∃ i j, x = .int i ∧ y = .int j ∧ Q z2 (.list ((sort2 i j).map .int))) := fun σ B H z E o Q' hw Q k => by
  intro p hp
  have g0 := Go.mine (o := SetO w p (fun _ => false) 0) o hp
  have bp := o.gone hp
  have ns0 : ¬ G.S (upd H p (SetO w p (fun _ => false) 0)) p := fun s => o.notS hp ((G.loc z B B H _ (Same.refl _) (fun a s' => upd_ne fun e => o.notS hp (by rw [← e]; exact s')) o.inv).2 p s)
  have hp0 : upd H p (SetO w p (fun _ => false) 0) p = some (SetO w p (fun _ => false) 0) := upd_same
  refine h1 σ B _ z E g0.ok _ hw _ fun x z1 B1 H1 dx g1 r1 q1 => ?_
  have hp1 := g1.fr p _ ns0 hp0
  have bp1 := g1.sep p bp (by rw [hp0]; intro q; cases q)
  have ns1 := g1.notS ns0 (by rw [hp0]; intro q; cases q)
  refine h2 σ B1 H1 z1 (E.mono g1.bb) g1.ok _ q1 _ fun y z2 B2 H2 dy g2 r2 q2 => ?_
  obtain ⟨i, j, rfl, rfl, q⟩ := q2
  have hp2 := g2.fr p _ ns1 hp1
  have bp2 := g2.sep p bp1 (by rw [hp1]; intro q; cases q)
  have ns2 := g2.notS ns1 (by rw [hp1]; intro q; cases q)
  cases r1.mono g2.bb
  cases r2
  refine ⟨i, j, rfl, rfl, hp2, p, _, _, rfl, upd_same, by split <;> decide, fun ns l hs hm hl hn => ?_⟩
  have e := sort2_is hs hm
  subst e
  have g3 : Go G B H z2 B2 (upd H2 p (SetO w p (fun k => decide (k = i) || decide (k = j)) (if i = j then 1 else 2))) := ((g0.trans g1).trans g2).mut hp bp2 ns2
  obtain ⟨g4, r4⟩ := mk_lst g3.ok hn (dv_ints (K := K) (B := B2) (sort2 i j))
  exact k _ z2 _ _ _ (g3.trans g4) r4 q
end
end DL

/-! DLact -/
namespace DL
open PySem PySem.Spec PyProof.Rows L2
variable {Z : Type}
/-! ### a def held by a local name -/
structure HeldG (P : Program) (w : World) (K : PySem.W.Frag) (mg : Str → Option Value) (base : Heap) (k : Nat) (f : Addr) (sp : Sp) : Prop where
  ex : ∃ (fd : FuncData) (ps : List Str), FnG P w K mg base CX0 k f fd ps sp ∧ PySem.W.keepIn K (.ref f) = true ∧ Binds K fd ps []
def tCallH (P : Program) (w : World) (K : PySem.W.Frag) (mg : Str → Option Value) (base : Heap) (k i : Nat) (t : TA) : TE := fun σ H Q => ∃ f sp, σ[i]? = some (some (.ref f)) ∧ HeldG P w K mg base k f sp ∧ t σ H fun vs H1 => sp vs H1 Q (fun _ _ _ => False)
section
variable {X : Cx} {k i : Nat} {x : Str} {p pos : Pos} {e : Expr} {es : List Expr} {t : TA}
theorem pe_callH (hg : X.A.guards = some []) (hr : Room k X.A) (hN : X.N[i]? = some x) (hv : Vis X.env.scope x) (ha : PA X (e :: es) t)
    (nodb : (x == ("__debug__" : Str)) = false := by decide) (nocd : (x == ("__classdict__" : Str)) = false := by decide)
    (he : starEach (e :: es) X.env = (false, eval e X.env) :: starEach es X.env := by rfl) (hpl : (backTo pos (starEach es X.env)).any (·.1) = false := by rfl) : PE X (.Call (.Name x p) (e :: es) [] pos) (tCallH X.prog X.w X.K X.mg X.base k i t) := by
  refine ⟨fun pins s σ H Q I h => ?_⟩; obtain ⟨f, sp, hs, hh, ht⟩ := h
  obtain ⟨fd, ps, F, hk, hb⟩ := hh.ex
  refine wpAny_Call_Name_kw (thn ((pe_var (pos := p) hN hv nodb nocd).run pins s σ H (fun vv H1 => vv = .ref f ∧ H1 = H) I ⟨.ref f, hs, rfl, rfl⟩) fun uu s1 ⟨vv, H1, I1, r1, qq1⟩ => ?_)
  obtain ⟨rfl, rfl⟩ := qq1
  cases r1
  refine PySem.W.callWith_K (h₀ := X.base) I.ok.mod.kin hk (thn (ha.run pos pins s1 σ _ _ I1 ht) fun argv s2 ⟨vs, H2, I2, r, q⟩ => ⟨I2.kIn, ?_⟩) he hpl
  exact run_g (dvs := []) (dd := []) (e' := fun _ _ _ => False) F hg hr hb .nil (fun _ _ _ _ _ _ _ z => z.elim) I2 r (by rw [List.append_nil]; exact q)
end
section
variable {G : Gd Z} {K : PySem.W.Frag} {P : Program} {w : World} {mg : Str → Option Value} {base : Heap} {ρ : Rho} {k ia iS ii : Nat}
theorem ev_callH : EvE G K (tCallH P w K mg base k ia (tCons (tVar iS) (tCons (tVar ii) tNil))) ρ
    (fun z Q => ∃ f s g d, ρ[ia]? = some (.val (.ref f)) ∧ ρ[iS]? = some (.val s) ∧ ρ[ii]? = some (.dat d) ∧ HeldG P w K mg base k f (spS K G s 1 g) ∧ g [d] z Q) := fun σ B H z E o Q' hw Q kk => by
  obtain ⟨f, s, g, d, h1, h2, h3, hh, q⟩ := hw
  obtain ⟨vv, h4, rv⟩ := E.dat ii d h3
  refine ⟨f, _, E.val ia _ h1, hh, s, E.val iS s h2, vv, h4, [vv], rfl, rfl, B, z, [d], Q', o, .cons rv .nil, q, kk⟩
/-- x = D[k], D a written dict of defs -/
theorem es_setF {aA : Addr} {ti : TE} {wi : Rho → WE Z} (hi : ∀ ρ, EvE G K ti ρ (wi ρ)) : EvS G K (tAsg (tOp (rIxD K w) (tC (.ref aA)) ti) (gName ia))
    (fun W ρ z => wi ρ z fun z1 x => ∃ s f, x = .str s ∧ KDct K w aA s (.ref f) ∧ W.nx (ρ.set ia (.val (.ref f))) z1) := fun B0 H0 W Dn R ρ z σ H a h => by
  obtain ⟨B, g0, E⟩ := a
  refine hi ρ σ B H z E g0.ok _ h _ fun vv z1 B1 H1 d g1 r1 qq1 => ?_
  obtain ⟨s, f, rfl, hk, q⟩ := qq1
  cases r1
  exact ⟨aA, s, .ref f, rfl, rfl, hk, R.nx _ z1 _ H1 ⟨B1, g0.trans g1, (E.mono g1.bb).setV⟩ q⟩
/-! a def whose second argument is no data -/
def spT (K : PySem.W.Frag) (G : Gd Z) (s : V) (f : List D → WE Z) : Sp := fun xs H Q E => ∃ y, xs = [y, s] ∧ spD K G 1 f [y] H Q E
theorem spT_len {s : V} {f : List D → WE Z} : ∀ xs h q e, spT K G s f xs h q e → xs.length = 2 := fun _ _ _ _ ⟨y, e, _⟩ => by rw [e]; rfl
theorem ev_callT {ta : TE} {wa : WE Z} {i : Nat} {s : V} {f : List D → WE Z} {e' : XK} (h : EvE G K ta ρ wa) :
    EvE G K (tCall (spT K G s f) [] e' (tCons ta (tCons (tVar i) tNil))) ρ (fun z Q => ρ[i]? = some (.val s) ∧ wa z fun z1 d => f [d] z1 Q) := fun σ B H z E o Q' hw Q k => by
  obtain ⟨hs, hw⟩ := hw
  refine h σ B H z E o _ hw _ fun vv z1 B1 H1 d g1 r1 qq1 => ⟨s, E.val i s hs, ?_⟩
  show spT K G s f ([vv, s] ++ []) H1 Q e'
  exact ⟨vv, rfl, rfl, B1, z1, [d], Q', g1.ok, .cons r1 .nil, qq1, fun v' z' B' H' d' g r q => k v' z' B' H' d' (g1.trans g) r q⟩
theorem body_ofT {ts : TS} {ws : WS Z} (h : EvS G K ts ws) {s : V} {f : List D → WE Z} {N : List Str} {xs : List V} {H : Hp} {Q : VK} {E : XK}
    (hws : ∀ d z Q', f [d] z Q' → ws { nx := fun _ z' => Q' z' .none, rt := Q' } (.dat d :: Sl.val s :: List.replicate (N.length - 2) .any) z)
    (hsp : spT K G s f xs H Q E) (hN : 2 ≤ N.length) : ts { nx := fun _ h' => Q .non h', rt := Q } (L2.start N xs) H := by
  obtain ⟨y, rfl, hl, B, z, ds, Q', o, r, hf, k⟩ := hsp
  cases r with
  | @cons _ _ d _ rd t =>
  cases t
  refine h B H { nx := fun _ z' => Q' z' .none, rt := Q' } _ ⟨fun ρ z' σ' H' a q => ?_, fun _ _ _ _ _ q => q.elim, fun _ _ _ _ _ q => q.elim, fun z' vv d B' H' g rv q => k vv z' B' H' d g rv q⟩ _ z _ H ⟨B, Go.refl o, ?_⟩ (hws d z Q' hf)
  · obtain ⟨B', g, _⟩ := a
    exact k .non z' B' H' .none g .non q
  · unfold L2.start
    refine ⟨by simp, fun i d' e => ?_, fun i vv e => ?_⟩
    · match i with
      | 0 => simp at e; subst e; exact ⟨y, rfl, rd⟩
      | 1 => simp at e
      | i + 2 =>
        rw [List.getElem?_cons_succ, List.getElem?_cons_succ, List.getElem?_replicate] at e
        split at e <;> cases e
    · match i with
      | 0 => simp at e
      | 1 => simp at e; subst e; rfl
      | i + 2 =>
        rw [List.getElem?_cons_succ, List.getElem?_cons_succ, List.getElem?_replicate] at e
        split at e <;> cases e
end
end DL

/-! DLdd -/
namespace DL
open PySem PySem.Spec PyProof.Rows L2
variable {Z : Type}
/-! ### a dict that is data, read at a text -/
def lookT (s : Str) : List (D × D) → Option D
  | [] => none
  | (.str t, d) :: r => if t = s then some d else lookT s r
  | _ :: r => lookT s r
theorem lookT_of (s : Str) : ∀ kds : List (Key × D), lookT s (kds.map fun q => (keyD q.1, q.2)) = lookK kds (.inr s)
  | [] => rfl
  | (.inl i, d) :: r => by
    have e : lookK ((Sum.inl i, d) :: r) (.inr s) = lookK r (.inr s) := by simp [lookK, List.find?_cons]
    rw [e]
    exact lookT_of s r
  | (.inr t, d) :: r => by
    show (if t = s then some d else lookT s (r.map fun q => (keyD q.1, q.2))) = _
    by_cases h : t = s
    · rw [if_pos h]; simp [lookK, List.find?_cons, h]
    · rw [if_neg h, lookT_of s r]; simp [lookK, List.find?_cons, h]
theorem kdv_zip {K : PySem.W.Frag} {B : Hp} : ∀ {kvs : List (Key × V)} {ds : List D}, DvAll K B (kvs.map (·.2)) ds → KDv K B kvs ((kvs.map (·.1)).zip ds) ∧ (kvs.map fun p => keyD p.1).zip ds = ((kvs.map (·.1)).zip ds).map fun q => (keyD q.1, q.2)
  | [], _, h => by cases h; exact ⟨.nil, rfl⟩
  | p :: r, _, h => by
    cases h with
    | cons h t =>
      obtain ⟨h1, h2⟩ := kdv_zip (kvs := r) t
      refine ⟨.cons h h1, ?_⟩
      exact congrArg (List.cons _) h2
theorem dv_dict {K : PySem.W.Frag} {B : Hp} {v : V} {prs : List (D × D)} (r : Dv K B v (.dict prs)) : ∃ a kvs kds, v = .ref a ∧ B a = some (.dK kvs) ∧ KDv K B kvs kds ∧ prs = kds.map fun q => (keyD q.1, q.2) := by
  generalize hd : PyData.dict prs = d at r
  cases r with
  | @dct a kvs ds h r =>
    cases hd
    obtain ⟨h1, h2⟩ := kdv_zip r
    exact ⟨a, kvs, _, rfl, h, h1, h2⟩
  | _ => cases hd
section
variable {G : Gd Z} {K : PySem.W.Frag} {ρ : Rho} {td ty tx : TE} {wd wt wx : WE Z}
theorem ev_dgetD (hd : EvE G K td ρ wd) (ht : EvE G K ty ρ wt) (hx : EvE G K tx ρ wx) : EvE G K (tDGet2 td ty tx) ρ
    (fun z Q => wd z fun z1 d => ∃ prs, d = .dict prs ∧ wt z1 fun z2 x => ∃ s, x = .str s ∧ wx z2 fun z3 y => Q z3 ((lookT s prs).getD y)) := fun σ B H z E o Q' hw Q k =>
  hd σ B H z E o _ hw _ fun v z1 B1 H1 d g1 r1 q1 => by
    obtain ⟨prs, rfl, q1⟩ := q1
    obtain ⟨a, kvs, kds, rfl, ha, rk, rfl⟩ := dv_dict r1
    refine ⟨a, rfl, .inl ⟨kvs, .inl (g1.ok.sub _ _ ha)⟩, ht σ B1 H1 z1 (E.mono g1.bb) g1.ok _ q1 _ fun y z2 B2 H2 dy g2 r2 q2 => ?_⟩
    obtain ⟨s, rfl, q2⟩ := q2
    cases r2
    refine hx σ B2 H2 z2 ((E.mono g1.bb).mono g2.bb) g2.ok _ q2 _ fun x z3 B3 H3 dx g3 r3 q3 => ?_
    have ha3 : H3 a = some (.dK kvs) := g3.ok.sub _ _ (g3.bb _ _ (g2.bb _ _ ha))
    have g := (g1.trans g2).trans g3
    refine ⟨_, DGet.k (k := Sum.inr s) ha3, ?_⟩
    rw [lookT_of] at q3
    rcases ((rk.mono g2.bb).mono g3.bb).look (Sum.inr s) with ⟨e1, e2⟩ | ⟨v', d', e1, e2, rv⟩
    · rw [e2]; rw [e1] at q3; exact k _ z3 B3 H3 _ g r3 q3
    · rw [e2]; rw [e1] at q3; exact k _ z3 B3 H3 _ g rv q3
end
end DL

/-! DLbl -/
namespace DL
open PySem PySem.Spec PyProof.Rows L2
variable {Z : Type}
/-! ### a list under way: it grows at its end, then it is data -/
def GL (G : Gd Z) (K : PySem.W.Frag) (l : Addr) : Gd (Z × List D) where
  S := fun H a => G.S H a ∨ a = l
  inv := fun z B H => G.inv z.1 B H ∧ (∃ xs, H l = some (.lst xs) ∧ DvAll K B xs z.2) ∧ ¬ G.S H l
  loc := fun z B B' H H' eB e h => by
    obtain ⟨h0, ⟨xs, h1, h2⟩, n⟩ := h
    obtain ⟨l1, l2⟩ := G.loc z.1 B B' H H' eB (fun a s => e a (.inl s)) h0
    refine ⟨⟨l1, ⟨xs, by rw [e l (.inr rfl)]; exact h1, h2.mono eB⟩, fun s => n (l2 _ s)⟩, fun a s => ?_⟩
    rcases s with s | s
    · exact .inl (l2 a s)
    · exact .inr s
  dom := fun z B H a h s => by
    obtain ⟨h0, ⟨xs, h1, _⟩, _⟩ := h
    rcases s with s | s
    · exact G.dom z.1 B H a h0 s
    · rw [s, h1]; intro q; cases q
structure GoL (G : Gd Z) (K : PySem.W.Frag) (l : Addr) (B H : Hp) (z' : Z × List D) (B' H' : Hp) : Prop where
  bb : Same B B'
  ok : Ok (GL G K l) z' B' H'
  fr : ∀ a o, ¬ G.S H a → H a = some o → H' a = some o
  gr : ∀ a, (GL G K l).S H' a → G.S H a ∨ H a = none
  ex : ∀ a, H a ≠ none → H' a ≠ none
  sep : ∀ a, B a = none → H a ≠ none → B' a = none
section
variable {G : Gd Z} {K : PySem.W.Frag} {l : Addr} {B H B' H' B2 H2 : Hp} {z : Z} {z' z2 : Z × List D}
theorem GoL.step (a : GoL G K l B H z' B' H') (b : Go (GL G K l) B' H' z2 B2 H2) : GoL G K l B H z2 B2 H2 := by
  have nS : ∀ x, ¬ G.S H x → H x ≠ none → ¬ (GL G K l).S H' x := fun x n h s => by
    rcases a.gr x s with q | q
    · exact n q
    · exact h q
  refine ⟨a.bb.trans b.bb, b.ok, fun x o n h => b.fr x o (nS x n (by rw [h]; intro q; cases q)) (a.fr x o n h), fun x s => ?_, fun x h => b.ex x (a.ex x h), fun x h1 h2 => b.sep x (a.sep x h1 h2) (a.ex x h2)⟩
  rcases b.gr x s with q | q
  · exact a.gr x q
  · cases e : H x with
    | none => exact .inr rfl
    | some o => exact absurd q (a.ex x (by rw [e]; intro z; cases z))
/-- a new list, under way -/
theorem GoL.start {xs : List V} {ds : List D} (o : Ok G z B H) (hl : H l = none) (r : DvAll K B xs ds) : GoL G K l B H (z, ds) B (upd H l (.lst xs)) := by
  have g := Go.mine (o := .lst xs) o hl
  have ns : ¬ G.S (upd H l (.lst xs)) l := fun s => o.notS hl ((G.loc z B B H _ (Same.refl _) (fun a s' => upd_ne fun e => o.notS hl (by rw [← e]; exact s')) o.inv).2 l s)
  refine ⟨g.bb, ⟨g.ok.sub, fun a s => ?_, g.ok.inv, ⟨xs, upd_same, r⟩, ns⟩, g.fr, fun a s => ?_, g.ex, g.sep⟩
  · rcases s with s | s
    · exact g.ok.off a s
    · rw [s]; exact o.gone hl
  · rcases s with s | s
    · exact g.gr a s
    · rw [s]; exact .inr hl
/-- the list is data from now on -/
theorem GoL.done (a : GoL G K l B H z' B' H') (hl : H l = none) : ∃ B2, Go G B H z'.1 B2 H' ∧ Dv K B2 (.ref l) (.list z'.2) := by
  obtain ⟨h0, ⟨xs, h1, h2⟩, n⟩ := a.ok.inv
  have nB : B' l = none := a.ok.off l (.inr rfl)
  have sB : Same B' (upd B' l (.lst xs)) := fun x u e => by rw [upd_ne (ne_of_none e nB)]; exact e
  refine ⟨upd B' l (.lst xs), ⟨a.bb.trans sB, ⟨fun x u e => ?_, fun x s => ?_, (G.loc z'.1 B' _ H' H' sB (fun _ _ => rfl) h0).1⟩, a.fr, fun x s => a.gr x (.inl s), a.ex, fun x e1 e2 => ?_⟩, .lst upd_same (h2.mono sB)⟩
  · by_cases q : x = l
    · subst q; rw [upd_same] at e; cases e; exact h1
    · rw [upd_ne q] at e; exact a.ok.sub x u e
  · rw [upd_ne fun q => n (by rw [← q]; exact s)]; exact a.ok.off x (.inl s)
  · rw [upd_ne fun q => e2 (by rw [q]; exact hl)]; exact a.sep x e1 e2
theorem GoL.pre {B0 H0 : Hp} (g : Go G B0 H0 z B H) (a : GoL G K l B H z' B' H') : GoL G K l B0 H0 z' B' H' := by
  refine ⟨g.bb.trans a.bb, a.ok, fun x o n h => a.fr x o (g.notS n (by rw [h]; intro q; cases q)) (g.fr x o n h), fun x s => ?_, fun x h => a.ex x (g.ex x h), fun x h1 h2 => a.sep x (g.sep x h1 h2) (g.ex x h2)⟩
  rcases a.gr x s with q | q
  · exact g.gr x q
  · cases e : H0 x with
    | none => exact .inr rfl
    | some o => exact absurd q (g.ex x (by rw [e]; intro z; cases z))
/-- xs.append(e) -/
theorem es_app {i : Nat} {te : TE} {we : Rho → WE (Z × List D)} (he : ∀ ρ, EvE (GL G K l) K te ρ (we ρ)) : EvS (GL G K l) K (tDrop (tBM K "list" rAppend (tVar i) (tCons te tNil)))
    (fun W ρ z => ρ[i]? = some (.val (.ref l)) ∧ we ρ z fun z1 d => z1.2.length < sizeLine ∧ W.nx ρ (z1.1, z1.2 ++ [d])) := fun B0 H0 W Dn R ρ z σ H a h => by
  obtain ⟨B, g0, E⟩ := a
  obtain ⟨hi, h⟩ := h
  obtain ⟨_, ⟨xs0, h1, _⟩, _⟩ := g0.ok.inv
  refine ⟨_, E.val i _ hi, .inl ⟨rfl, _, SqL.of h1⟩, he ρ σ B H z E g0.ok _ h _ fun v z1 B1 H1 d g1 r1 q1 => ?_⟩
  obtain ⟨hlen, q⟩ := q1
  obtain ⟨k0, ⟨xs, k1, k2⟩, kn⟩ := g1.ok.inv
  refine ⟨l, xs, v, rfl, rfl, k1, by rw [k2.length]; exact hlen, ?_⟩
  have keep : ∀ a, G.S H1 a → upd H1 l (.lst (xs ++ [v])) a = H1 a := fun a s => upd_ne fun e => kn (by rw [← e]; exact s)
  obtain ⟨l1, l2⟩ := G.loc z1.1 B1 B1 H1 _ (Same.refl _) keep k0
  have nB : B1 l = none := g1.ok.off l (.inr rfl)
  have g2 : Go (GL G K l) B1 H1 (z1.1, z1.2 ++ [d]) B1 (upd H1 l (.lst (xs ++ [v]))) := by
    refine ⟨Same.refl _, ⟨fun a u e => by rw [upd_ne (ne_of_none e nB)]; exact g1.ok.sub a u e, fun a s => ?_, l1, ⟨_, upd_same, k2.append (.cons r1 .nil)⟩, fun s => kn (l2 _ s)⟩, fun a u n e => ?_, fun a s => ?_, ex_upd, fun a e _ => e⟩
    · rcases s with s | s
      · exact g1.ok.off a (.inl (l2 a s))
      · rw [s]; exact nB
    · rw [upd_ne fun q => n (.inr q)]; exact e
    · rcases s with s | s
      · exact .inl (.inl (l2 a s))
      · exact .inl (.inr s)
  exact R.nx ρ _ σ _ ⟨B1, (g0.trans g1).trans g2, E.mono g1.bb⟩ q
end
end DL

/-! DLdp -/
namespace DL
open PySem PySem.Spec PyProof.Rows L2
variable {Z : Type}
/-! ### dict displays, texts as keys -/
abbrev strK (prs : List (Str × D)) : List (Key × D) := prs.map fun q => (.inr q.1, q.2)
theorem kdv_keys {K : PySem.W.Frag} {B : Hp} : ∀ {kvs : List (Key × V)} {kds : List (Key × D)}, KDv K B kvs kds → kvs.map (·.1) = kds.map (·.1)
  | _, _, .nil => rfl
  | _, _, .cons _ t => congrArg (List.cons _) (kdv_keys t)
theorem merge_app : ∀ (kvs acc : List (Key × V)), ((acc ++ kvs).map (·.1)).Nodup → mergeK acc kvs = acc ++ kvs
  | [], acc, _ => by rw [List.append_nil]; rfl
  | kv :: r, acc, h => by
    have hnew : valV acc kv.1 = none := by
      unfold valV
      rw [Option.map_eq_none_iff, List.find?_eq_none]
      intro y hy
      simp only [decide_eq_true_eq]
      intro e
      rw [List.map_append] at h
      exact (List.nodup_append.mp h).2.2 _ (List.mem_map_of_mem hy) _ (by simp) e
    show mergeK (putK acc kv.1 kv.2) r = _
    rw [putK_new _ hnew, merge_app r _ (by rw [List.append_assoc]; exact h), List.append_assoc]
    rfl
def EvPs (G : Gd Z) (K : PySem.W.Frag) (trs : List (TE × TE)) (ρ : Rho) (wp : Z → (Z → List (Str × D) → Prop) → Prop) : Prop :=
  ∀ (σ : L2.St) (B H : Hp) (z : Z), EnvOk K B σ ρ → Ok G z B H → ∀ Q', wp z Q' → ∀ Q : List (V × V) → Hp → Prop,
    (∀ kvs z' B' H' prs, Go G B H z' B' H' → KDv K B' kvs (strK prs) → Q' z' prs → Q (kvs.map fun kv => (kV kv.1, kv.2)) H') → tPairs trs σ H Q
section
variable {G : Gd Z} {K : PySem.W.Frag} {ρ : Rho} {tk tv : TE} {wk wv : WE Z} {trs : List (TE × TE)} {wp : Z → (Z → List (Str × D) → Prop) → Prop}
theorem eps_nil : EvPs G K [] ρ (fun z Q => Q z []) := fun σ B H z E o Q' hw Q k => k [] z B H [] (Go.refl o) .nil hw
theorem eps_cons (hk : EvE G K tk ρ wk) (hv : EvE G K tv ρ wv) (hr : EvPs G K trs ρ wp) : EvPs G K ((tk, tv) :: trs) ρ (fun z Q => wk z fun z1 x => ∃ s, x = .str s ∧ wv z1 fun z2 d => wp z2 fun z3 prs => Q z3 ((s, d) :: prs)) := fun σ B H z E o Q' hw Q k =>
  hk σ B H z E o _ hw _ fun x z1 B1 H1 dx g1 r1 q1 => by
    obtain ⟨s, rfl, q1⟩ := q1
    cases r1
    refine hv σ B1 H1 z1 (E.mono g1.bb) g1.ok _ q1 _ fun v z2 B2 H2 d g2 r2 q2 => ?_
    refine hr σ B2 H2 z2 ((E.mono g1.bb).mono g2.bb) g2.ok _ q2 _ fun kvs z3 B3 H3 prs g3 r3 q3 => ?_
    exact k ((.inr s, v) :: kvs) z3 B3 H3 ((s, d) :: prs) ((g1.trans g2).trans g3) (.cons (r2.mono g3.bb) r3) q3
theorem kdv_dict {B : Hp} {a : Addr} {kvs : List (Key × V)} {prs : List (Str × D)} (h : B a = some (.dK kvs)) (r : KDv K B kvs (strK prs)) : Dv K B (.ref a) (.dict (prs.map fun q => (.str q.1, q.2))) := by
  have key : ∀ (prs : List (Str × D)) (kvs : List (Key × V)), KDv K B kvs (strK prs) → DvAll K B (kvs.map (·.2)) (prs.map (·.2)) ∧ (kvs.map fun p => keyD p.1).zip (prs.map (·.2)) = prs.map fun q => (PyData.str q.1, q.2) := by
    intro prs
    induction prs with
    | nil => intro kvs r; cases r; exact ⟨.nil, rfl⟩
    | cons q t ih =>
      intro kvs r
      cases r with
      | cons h r =>
        obtain ⟨h1, h2⟩ := ih _ r
        exact ⟨.cons h h1, congrArg (List.cons _) h2⟩
  obtain ⟨h1, h2⟩ := key prs kvs r
  rw [← h2]
  exact .dct h h1
theorem ev_disp (h : EvPs G K trs ρ wp) : EvE G K (tDisp trs) ρ (fun z Q => wp z fun z1 prs => (prs.map (·.1)).Nodup ∧ prs.length ≤ 15 ∧ Q z1 (.dict (prs.map fun q => (.str q.1, q.2)))) := fun σ B H z E o Q' hw Q k => by
  intro p hp
  have g0 := Go.mine (o := .dK []) o hp
  have bp := o.gone hp
  have hp0 : upd H p (.dK []) p = some (.dK []) := upd_same
  have ns0 : ¬ G.S (upd H p (.dK [])) p := fun s => o.notS hp ((G.loc z B B H _ (Same.refl _) (fun a s' => upd_ne fun e => o.notS hp (by rw [← e]; exact s')) o.inv).2 p s)
  refine h σ B _ z E g0.ok _ hw _ fun kvs z1 B1 H1 prs g1 r1 q1 => ?_
  obtain ⟨nd, hl, q⟩ := q1
  have hp1 := g1.fr p _ ns0 hp0
  have bp1 := g1.sep p bp (by rw [hp0]; intro q; cases q)
  have ns1 := g1.notS ns0 (by rw [hp0]; intro q; cases q)
  have hlk := r1.length
  rw [List.length_map] at hlk
  refine ⟨hp1, kvs, rfl, by omega, ?_⟩
  have hm : mergeK [] kvs = kvs := merge_app kvs [] (by
    rw [List.nil_append, kdv_keys r1]
    show ((prs.map fun q => ((Sum.inr q.1, q.2) : Key × D)).map (·.1)).Nodup
    rw [List.map_map]
    have : (prs.map ((fun x : Key × D => x.1) ∘ fun q => (Sum.inr q.1, q.2))) = (prs.map (·.1)).map Sum.inr := by rw [List.map_map]; rfl
    rw [this]
    exact nd.map _ fun a b hab e => hab (Sum.inr.inj e))
  rw [hm]
  have gm := (g0.trans g1).mut (o := .dK kvs) hp bp1 ns1
  have nsm : ¬ G.S (upd H1 p (.dK kvs)) p := fun s => ns1 ((G.loc z1 B1 B1 H1 _ (Same.refl _) (fun a s' => upd_ne fun e => ns1 (by rw [← e]; exact s')) g1.ok.inv).2 p s)
  have gk := gm.keep hp upd_same nsm bp1
  have sB : Same B1 (upd B1 p (.dK kvs)) := fun x u e => by rw [upd_ne (ne_of_none e bp1)]; exact e
  exact k _ z1 _ _ _ gk (kdv_dict upd_same (r1.mono sB)) q
theorem ev_dnew : EvE G K tDNewK ρ (fun z Q => Q z (.dict [])) := fun σ B H z E o Q' hw Q k p hp => k _ z _ _ _ (Go.new (o := .dK []) o hp) (.dct (kvs := []) (ds := []) upd_same .nil) hw
end
end DL

/-! K5a -/
namespace Law
open PySem L2 DL
def top (i : Nat) : Stmt := PySem.Challenge.pw_unwindrows_k08_breaks_by_hand.main.body.getD i (.Pass ⟨0, 0, 0, 0⟩)
abbrev s__law_mixed : Stmt := top 50
abbrev n__law_mixed : List Str := ["cell", "k"]
abbrev p__law_mixed : List Str := ["cell", "k"]
theorem sc__law_mixed : FnScope n__law_mixed p__law_mixed (defScope s__law_mixed) := ⟨rfl, rfl, rfl, by decide +kernel, rfl, by decide +kernel, by decide +kernel⟩
abbrev s__law_draw : Stmt := top 52
abbrev n__law_draw : List Str := ["state", "many", "at", "place", "left", "number"]
abbrev p__law_draw : List Str := ["state", "many"]
theorem sc__law_draw : FnScope n__law_draw p__law_draw (defScope s__law_draw) := ⟨rfl, rfl, rfl, by decide +kernel, rfl, by decide +kernel, by decide +kernel⟩

/-- the built-in names are the module's no names -/
structure Blt (mg : Str → Option Value) : Prop where
  b_int : mg "int" = none
  b_len : mg "len" = none
def mixed (c k : Int) : Int := (c % 2147483647 * (48271 + 2 * k * k) + 69621 * k + 11) % 2147483647 * 69621 % 2147483629
theorem mixed_nn (c k : Int) : 0 ≤ mixed c k ∧ mixed c k < 2147483629 := by
  unfold mixed
  exact And.intro (Int.emod_nonneg _ (by decide)) (Int.emod_lt_of_pos _ (by decide))
/-- _law_mixed: a number -/
def spMixed : Sp := fun vs H Q _ => ∃ c k : Int, vs = [.int c, .int k] ∧ 0 ≤ k ∧ k ≤ 2 ^ 41 ∧ Q (.int (mixed c k)) H
section
variable {P : Program} {w : World} {K : PySem.W.Frag} {base : Heap} {mg : Str → Option Value}
theorem ok_mixed {f : Addr} {fd : FuncData} (F : Fd K mg "_law_mixed" s__law_mixed p__law_mixed f fd) (T : Blt mg) : FnG P w K mg base CX0 1 f fd p__law_mixed spMixed := by
  refine fn_body0 F.fn sc__law_mixed (fun vs H Q E h => ?_) (fun cdv A outer s H vs Q E hg hr h => ?_)
  · obtain ⟨c, k, rfl, _⟩ := h
    rfl
  · obtain ⟨c, k, rfl, h0, h1, q⟩ := h
    refine ⟨_, pss_cons (ps_set (i := 0) sc__law_mixed.nd rfl (Or.inl rfl) (pe_op op_mod (pe_callTy call_int1 (by rfl) T.b_int (by decide +kernel) (pa_cons (pv 0) pa_nil)) pe_int))
      (pss_one (ps_ret (pe_op op_mod (pe_op op_mul (pe_op op_mod (pe_op op_add (pe_op op_add (pe_op op_mul (pv 0) (pe_op op_add pe_int (pe_op op_mul (pe_op op_mul pe_int (pv 1)) (pv 1)))) (pe_op op_mul pe_int (pv 1))) pe_int) pe_int) pe_int) pe_int))), ?_⟩
    refine ⟨_, rfl, .inl ⟨c, rfl, c, _, rfl, rfl, (by show (0 : Int) < 2147483647; decide), ?_⟩⟩
    have hc := Int.emod_nonneg c (show (2147483647 : Int) ≠ 0 by decide)
    have hc2 := Int.emod_lt_of_pos c (show (0 : Int) < 2147483647 by decide)
    have e1 : ((([some (V.int c), some (V.int k)] : L2.St).set 0 (some (.int (c % 2147483647))))) = [some (.int (c % 2147483647)), some (.int k)] := rfl
    refine ⟨_, rfl, _, rfl, _, _, rfl, rfl, .inl (by decide), _, rfl, _, _, rfl, rfl, .inl (by omega), _, _, rfl, rfl, _, _, rfl, rfl, .inl (by omega), _, rfl, _, _, rfl, rfl, .inl (by decide), _, _, rfl, rfl, _, _, rfl, rfl,
      _, _, rfl, rfl, (by show (0 : Int) < 2147483647; decide), _, _, rfl, rfl, .inr (by decide), _, _, rfl, rfl, (by show (0 : Int) < 2147483629; decide), ?_⟩
    exact q
end
end Law

/-! K5b -/
namespace Law
open PySem L2 DL
section
variable {P : Program} {w : World} {K : PySem.W.Frag} {base : Heap} {mg : Str → Option Value}
theorem ok_draw {f f1 : Addr} {fd fd1 : FuncData} (s : StA) (F : Fd K mg "_law_draw" s__law_draw p__law_draw f fd) (F__law_mixed : Fd K mg "_law_mixed" s__law_mixed p__law_mixed f1 fd1) (T : Blt mg) :
    FnG P w K mg base CX0 2 f fd p__law_draw (spS K (GS s) (.ref s.sd) 1 dDraw) := by
  have G__law_mixed : FnG P w K mg base CX0 1 f1 fd1 p__law_mixed spMixed := ok_mixed F__law_mixed T
  refine fn_body0 F.fn sc__law_draw spS_len (fun cdv A outer st H vs Q E hg hr h => ?_)
  obtain ⟨ys, rfl, hl, B, z, ds, Q', o, r, hf, k⟩ := h
  obtain ⟨n, rfl, n0, n1, hz, hq⟩ := hf
  cases r with
  | cons r t =>
  cases r
  cases t
  have hu := hu_of hr
  obtain ⟨hd, hc, ls, hls, hlf⟩ := o.inv
  have nd := sc__law_draw.nd
  have hne := s.ne
  have hle := s.le
  have hlen : 0 < s.cells.length := List.length_pos_iff.mpr hne
  refine ⟨_, pss_cons (ps_set (i := 2) nd rfl (Or.inl rfl) (pe_dget hu (pv 0) pe_str (fun _ _ => rfl)))
    (pss_cons (ps_dput hu (pv 0) pe_str (pe_op op_add (pv 2) pe_int) rfl)
    (pss_cons (ps_set (i := 3) nd rfl (Or.inl rfl) (pe_op op_mod (pe_callTy call_int1 (by rfl) T.b_int (by decide +kernel) (pa_cons (pv 2) pa_nil)) (pe_callB call_len (by rfl) T.b_len PySem.boot_len (pa_cons (pe_dget hu (pv 0) pe_str (fun _ _ => rfl)) pa_nil))))
    (pss_cons (ps_set (i := 4) nd rfl (Or.inl rfl) (pe_ix ix_list (pe_dget hu (pv 0) pe_str (fun _ _ => rfl)) (pv 3) (fun _ _ => rfl)))
    (pss_cons (ps_if (pt_cmpR op_gt (pv 4) pe_int (nomark _))
      (pss_cons (ps_asg (pe_op op_fdiv (pv 4) (pv 1)) (pg_sub (pe_dget hu (pv 0) pe_str (fun _ _ => rfl)) (pv 3) set_list))
        (pss_one (ps_ret (pe_op op_mod (pe_callTy call_int1 (by rfl) T.b_int (by decide +kernel) (pa_cons (pv 4) pa_nil)) (pv 1))))) pss_nil)
    (pss_cons (ps_set (i := 5) nd rfl (Or.inl rfl) (pe_callG G__law_mixed hg (hr.mono (by decide)) rfl F__law_mixed.mg F__law_mixed.fn.kp F__law_mixed.b .nil pass0
      (pa_cons (pe_callG G__law_mixed hg (hr.mono (by decide)) rfl F__law_mixed.mg F__law_mixed.fn.kp F__law_mixed.b .nil pass0
        (pa_cons (pe_ix ix_list (pe_dget hu (pv 0) pe_str (fun _ _ => rfl)) (pv 3) (fun _ _ => rfl)) (pa_cons (pv 2) pa_nil))) (pa_cons (pe_op op_add pe_int (pv 2)) pa_nil))))
    (pss_one (ps_ret (pe_op op_mod (pe_op op_fdiv (pe_callTy call_int1 (by rfl) T.b_int (by decide +kernel)
      (pa_cons (pe_op op_add (pe_op op_mul (pv 5) pe_int) (pe_callG G__law_mixed hg (hr.mono (by decide)) rfl F__law_mixed.mg F__law_mixed.fn.kp F__law_mixed.b .nil pass0 (pa_cons (pv 5) (pa_cons (pe_op op_add pe_int (pv 2)) pa_nil)))) pa_nil)) pe_int) (pv 1))))))))), ?_⟩
  -- at = state['at']
  have ga : DGet H s.sd (kV (Sum.inr "at")) (some (.int (z : Int))) := by rw [← stK_at s z]; exact DGet.k (k := Sum.inr "at") hd
  refine ⟨_, rfl, s.sd, .int (z : Int), rfl, ga, ?_⟩
  -- state['at'] = at + 1
  refine ⟨_, rfl, _, _, rfl, rfl, _, rfl, s.sd, upd H s.sd (.dK (stK s (z + 1))), rfl, by rw [← stK_put]; exact DPut.k (k := Sum.inr "at") hd (by show 3 < sizeLine; decide), ?_⟩
  -- the heap behind it
  generalize hH1 : upd H s.sd (.dK (stK s (z + 1))) = H1
  have i1 : StI s (z + 1) H1 := by
    refine ⟨by rw [← hH1]; exact upd_same, by rw [← hH1, upd_ne s.n3.symm]; exact hc, ls, hls, by rw [← hH1, upd_ne s.n1.symm]; exact hlf⟩
  have fr1 : ∀ a o, a ≠ s.sd → H a = some o → H1 a = some o := fun a u n e => by rw [← hH1, upd_ne n]; exact e
  -- place = int(at) % len(state['cells'])
  have gc : DGet H1 s.sd (kV (Sum.inr "cells")) (some (.ref s.sc)) := by rw [← stK_cells s (z + 1)]; exact DGet.k (k := Sum.inr "cells") i1.d
  have gl : DGet H1 s.sd (kV (Sum.inr "lefts")) (some (.ref s.sl)) := by rw [← stK_lefts s (z + 1)]; exact DGet.k (k := Sum.inr "lefts") i1.d
  have hl1 : H1 s.sl = some (.lst (ls.map .int)) := by rw [← hH1, upd_ne s.n1.symm]; exact hlf
  refine ⟨_, rfl, .inl ⟨_, rfl, ?_⟩⟩
  refine ⟨_, rfl, s.sd, .ref s.sc, rfl, gc, _, s.cells.length, rfl, .inl ⟨_, SqL.of i1.c, by rw [List.length_map]⟩, _, _, rfl, rfl, (by show (0 : Int) < (s.cells.length : Int); omega), ?_⟩
  have p0 : 0 ≤ (z : Int) % (s.cells.length : Int) := Int.emod_nonneg _ (by omega)
  have p1 : (z : Int) % (s.cells.length : Int) < (s.cells.length : Int) := Int.emod_lt_of_pos _ (by omega)
  obtain ⟨j, hpj⟩ : ∃ j : Nat, (z : Int) % (s.cells.length : Int) = (j : Int) := ⟨((z : Int) % (s.cells.length : Int)).toNat, by omega⟩
  rw [hpj] at p0 p1
  have hj : j < ls.length := by omega
  have hjc : j < s.cells.length := by omega
  have gv : (ls.map V.int)[j]? = some (V.int ls[j]) := by rw [List.getElem?_map, List.getElem?_eq_getElem hj]; rfl
  have gw : (s.cells.map V.int)[j]? = some (V.int s.cells[j]) := by rw [List.getElem?_map, List.getElem?_eq_getElem hjc]; rfl
  -- left = state['lefts'][place]
  refine ⟨_, rfl, s.sd, .ref s.sl, rfl, gl, _, rfl, s.sl, _, _, .int ls[j], rfl, rfl, SqL.of hl1, (by rw [hpj]; exact atI_nat gv), ?_⟩
  clear gv
  generalize ls[j] = left
  -- if left > 0
  refine ⟨_, rfl, _, _, rfl, rfl, _, rfl, ?_⟩
  refine ite2 (fun hpos => ?_) (fun hpos => ?_)
  · have hpos : 0 < left := of_decide_eq_true hpos
    refine ⟨_, rfl, _, rfl, _, _, rfl, rfl, ⟨n0, by omega⟩, _, rfl, s.sd, .ref s.sl, rfl, gl, _, rfl, s.sl, _, _, j, rfl, rfl, hl1, ?_, ?_⟩
    · unfold ixN
      rw [hpj, List.length_map, if_pos (by omega), if_pos (by omega)]
      rfl
    refine ⟨_, rfl, .inl ⟨_, rfl, _, rfl, _, _, rfl, rfl, n0, ?_⟩⟩
    refine k _ (z + 1) B _ _ (go_draw o ?_ fun a u na nb e => ?_) (.int _) (hq _ (Int.emod_nonneg _ (by omega)) (Int.emod_lt_of_pos _ n0))
    · refine ⟨by rw [upd_ne s.n1]; exact i1.d, by rw [upd_ne s.n2]; exact i1.c, ls.set j (left / n), by simp [hls], ?_⟩
      rw [upd_same, List.map_set]
    · rw [upd_ne nb]; exact fr1 a u na e
  · -- number = _law_mixed(_law_mixed(state['cells'][place], at), 40 + at)
    have hzz : (z : Int) ≤ 2 ^ 40 := by omega
    refine ⟨_, rfl, s.sd, .ref s.sc, rfl, gc, _, rfl, s.sc, _, _, .int s.cells[j], rfl, rfl, SqL.of i1.c, (by rw [hpj]; exact atI_nat gw), _, rfl, _, _, rfl, by omega, by omega, ?_⟩
    refine ⟨_, rfl, _, _, rfl, rfl, _, _, rfl, by omega, by omega, ?_⟩
    refine ⟨_, rfl, _, _, rfl, rfl, .inr (by decide), _, rfl, _, rfl, _, _, rfl, rfl, _, _, rfl, by omega, by omega, _, _, rfl, rfl, .inl ⟨_, rfl, ?_⟩⟩
    refine ⟨_, _, rfl, rfl, ⟨by decide, by decide⟩, _, rfl, _, _, rfl, rfl, n0, ?_⟩
    refine k _ (z + 1) B _ _ (go_draw o i1 fun a u na nb e => fr1 a u na e) (.int _) (hq _ (Int.emod_nonneg _ (by omega)) (Int.emod_lt_of_pos _ n0))
end
end Law

/-! K5c -/
namespace Law
open PySem L2 DL
abbrev s__law_begin : Stmt := top 51
abbrev n__law_begin : List Str := ["script", "cells", "cell"]
abbrev p__law_begin : List Str := ["script"]
theorem sc__law_begin : FnScope n__law_begin p__law_begin (defScope s__law_begin) := ⟨rfl, rfl, rfl, by decide +kernel, rfl, by decide +kernel, by decide +kernel⟩
structure Blt2 (mg : Str → Option Value) : Prop where
  b_list : mg "list" = none
/-- _law_begin: the draws' own objects, all new -/
def spBegin (K : PySem.W.Frag) : Sp := fun vs H Q _ => ∃ (a : Addr) (ns : List Int), vs = [.ref a] ∧ SqL K H a (ns.map .int) ∧ ns.length ≤ 63 ∧
  ∀ (s : StA) (H' : Hp), Same H H' → StI s 0 H' → H s.sd = none → H s.sc = none → H s.sl = none → Q (.ref s.sd) H'
theorem dp_ints {K : PySem.W.Frag} {H : Hp} : ∀ ns : List Int, DpAll K H (ns.map V.int) (ns.map PyData.int)
  | [] => .nil
  | n :: r => .cons (.int n) (dp_ints r)
theorem lay_ints : ∀ ns : List Int, PyData.canLayAll0 (ns.map PyData.int) = true ∧ PyData.depthAll (ns.map PyData.int) = 0
  | [] => ⟨by simp [PyData.canLayAll0], by simp [PyData.depthAll]⟩
  | n :: r => ⟨by simp [PyData.canLayAll0, PyData.canLay0, (lay_ints r).1], by simp [PyData.depthAll, PyData.depth, (lay_ints r).2]⟩
theorem shaped_ints (ns : List Int) : SeqAt.shaped (.list (ns.map PyData.int)) = true := by
  simp [SeqAt.shaped, PyData.canLay0, PyData.depth, (lay_ints ns).1, (lay_ints ns).2]
section
variable {P : Program} {w : World} {K : PySem.W.Frag} {base : Heap} {mg : Str → Option Value}
theorem ok_begin {f : Addr} {fd : FuncData} (F : Fd K mg "_law_begin" s__law_begin p__law_begin f fd) (T : Blt mg) (T2 : Blt2 mg) :
    FnG P w K mg base CX0 1 f fd p__law_begin (spBegin K) := by
  refine fn_body0 F.fn sc__law_begin (fun vs H Q E h => ?_) (fun cdv A outer st H vs Q E hg hr h => ?_)
  · obtain ⟨a, ns, rfl, _⟩ := h
    rfl
  obtain ⟨a, ns, rfl, ha, hl, k⟩ := h
  have hu := hu_of hr
  have nd := sc__law_begin.nd
  refine ⟨_, pss_cons (ps_set (i := 1) nd rfl (Or.inl rfl) (pe_ifExp (pt_cmpR (op_neD hr.units) (pv 0) (pe_lst pa_nil) (nomark _))
      (pe_callTy call_list_of (by rfl) T2.b_list (by decide +kernel) (pa_cons (pv 0) pa_nil)) (pe_lst (pa_cons pe_int pa_nil))))
    (pss_one (ps_ret (pe_disp (pps_cons pe_str (pv 1) (pps_cons pe_str
      (pe_lc (own := [("cell", 2)]) rfl nd (pi_list (pv 1)) (blkOk_by (own := [("cell", 2)]) (N := n__law_begin) (sc := defScope s__law_begin) (by decide +kernel)) (fun _ _ _ _ _ => pg_name (i := 2) nd rfl (by first | exact Or.inl rfl | exact Or.inr rfl)) (fun _ _ _ _ _ => pts_nil)
        (fun _ _ _ _ _ => pe_ifExp (pt_cmpR op_ge (pv 2) (pe_op op_pow pe_int pe_int) (nomark _)) (pv 2) pe_int))
      (pps_cons pe_str pe_int pps_nil))) (by rfl) (by rfl) (fun z => by cases z) (by decide)))), ?_⟩
  -- script != []
  refine ⟨_, rfl, Nat.zero_le _, fun e he => ?_⟩
  have sm0 : Same H (upd H e (.lst [])) := Same.mono_new he
  generalize hHa : upd H e (.lst []) = Ha at sm0
  have hae : Ha e = some (.lst []) := by rw [← hHa]; exact upd_same
  refine ⟨_, _, Dp.lst (sm0.seq ha) (dp_ints ns), Dp.lst (SqL.of hae) .nil, shaped_ints ns, by decide +kernel, _, rfl, ?_⟩
  -- what is done once the cells stand at c
  have go : ∀ (cs : List Int) (c : Addr) (Hb : Hp), cs ≠ [] → cs.length ≤ 63 → Same H Hb → H c = none → Hb c = some (.lst (cs.map .int)) →
      tRet (tDisp [(tC (.str "cells"), tVar 1), (tC (.str "lefts"), tLc (iList K (tVar 1)) (gName 2) tYes (tIf (tTest (tOp (rI0 fun i j => .bl (decide (j ≤ i))) (tVar 2) (tOp (rI CPow fun i j => .int (i ^ j.toNat)) (tC (.int 10)) (tC (.int 18))))) (tVar 2) (tC (.int 0))) [2]), (tC (.str "at"), tC (.int 0))])
        { nx := fun _ h' => Q .non h', rt := Q } [some (.ref a), some (.ref c), none] Hb := by
    intro cs c Hb hne hcl sm hc hbc p hp
    have hpc : p ≠ c := (ne_of_none hbc hp).symm
    have smp : Same Hb (upd Hb p (.dK [])) := Same.mono_new hp
    have hHp : upd Hb p (.dK []) p = some (.dK []) := upd_same
    generalize upd Hb p (.dK []) = Hc at smp hHp
    have hcc : Hc c = some (.lst (cs.map .int)) := smp _ _ hbc
    refine ⟨_, rfl, _, rfl, c, rfl, ⟨_, SqL.of hcc⟩, fun Dl hD => ?_⟩
    have hDp : Dl ≠ p := (ne_of_none hHp hD).symm
    have hDc : Dl ≠ c := (ne_of_none hcc hD).symm
    refine lc_list (xs := cs.map .int) (fun i H' => ∃ ls : List Int, ls.length = i ∧ H' Dl = some (.lst (ls.map .int)) ∧ Same Hc H') ⟨[], rfl, upd_same, Same.mono_new hD⟩ (fun i H' _ p => ?_) (fun i x H' hx p => ?_) (fun H' p => ?_)
    · obtain ⟨ls, _, _, q⟩ := p
      exact SqL.of (q _ _ hcc)
    · obtain ⟨ls, hi, hD', q⟩ := p
      have hil : i < cs.length := by simpa using (List.getElem?_eq_some_iff.mp hx).1
      obtain ⟨y, rfl⟩ : ∃ y, x = V.int y := by
        rw [List.getElem?_map, List.getElem?_eq_getElem hil] at hx
        exact ⟨_, (Option.some.inj hx).symm⟩
      have fin : ∀ t : Int, ∃ acc, H' Dl = some (.lst acc) ∧ acc.length < sizeLine ∧ ∃ ls : List Int, ls.length = i + 1 ∧ upd H' Dl (.lst (acc ++ [.int t])) Dl = some (.lst (ls.map .int)) ∧ Same Hc (upd H' Dl (.lst (acc ++ [.int t]))) := fun t =>
        ⟨ls.map .int, hD', by rw [List.length_map, hi]; exact Nat.lt_trans (Nat.lt_of_lt_of_le hil hcl) (by decide), ls ++ [t], by simp [hi], by rw [upd_same, List.map_append]; rfl, fun b u e => by rw [upd_ne (ne_of_none e hD)]; exact q b u e⟩
      refine ⟨rfl, ?_⟩
      refine ⟨_, rfl, _, _, rfl, rfl, ⟨by decide, by decide, by decide⟩, _, _, rfl, rfl, _, rfl, ?_⟩
      refine ite2 (fun _ => ⟨_, rfl, fin y⟩) (fun _ => fin 0)
    · obtain ⟨ls, hi, hD', q⟩ := p
      refine ⟨q _ _ hHp, [(.inr "cells", .ref c), (.inr "lefts", .ref Dl), (.inr "at", .int 0)], rfl, by show 3 ≤ 15; decide, ?_⟩
      have em : mergeK [] [((.inr "cells" : Key), V.ref c), (.inr "lefts", .ref Dl), (.inr "at", .int 0)] = [(.inr "cells", .ref c), (.inr "lefts", .ref Dl), (.inr "at", .int 0)] := by
        have e1 := ke1
        have e2 := ke2
        have e3 := ke3
        simp only [mergeK, List.foldl_cons, List.foldl_nil, putK, List.any_cons, List.any_nil, Bool.or_false, decide_eq_true_eq, if_neg e1, if_neg e2, if_neg e3, List.nil_append, List.cons_append, decide_eq_false e1, decide_eq_false e2, decide_eq_false e3, Bool.false_eq_true, if_false, Bool.or_self]
      rw [em]
      have smHc : Same H Hc := sm.trans smp
      have np : H p = none := sm.free hp
      have nD : H Dl = none := smHc.free hD
      refine k ⟨p, c, Dl, cs, hDp.symm, hDc.symm, hpc, hne, hcl⟩ _ (fun b u e => ?_) ⟨upd_same, ?_, ls, ?_, ?_⟩ np hc nD
      · rw [upd_ne (ne_of_none e np)]
        exact q _ _ (smHc _ _ e)
      · show upd H' p _ c = _
        rw [upd_ne hpc.symm]
        exact q _ _ hcc
      · show ls.length = cs.length
        rw [hi, List.length_map]
      · show upd H' p _ Dl = _
        rw [upd_ne hDp]
        exact hD'
  cases ns with
  | nil =>
    refine iteF ?_
    refine ⟨by decide, fun c hc => ?_⟩
    exact go [0] c _ (by simp) (by decide) (sm0.trans (Same.mono_new hc)) (sm0.free hc) upd_same
  | cons n r =>
    refine iteT ?_
    refine ⟨_, rfl, _, _, rfl, .inl (sm0.seq ha), fun c hc => ?_⟩
    exact go (n :: r) c _ (by simp) hl (sm0.trans (Same.mono_new hc)) (sm0.free hc) upd_same
end
end Law

/-! K5d -/
namespace Law
open PySem L2 DL
structure BltC (mg : Str → Option Value) : Prop where
  b_isinstance : mg "isinstance" = none
  b_int : mg "int" = none
  b_bool : mg "bool" = none
  b_str : mg "str" = none
  b_tuple : mg "tuple" = none
  b_len : mg "len" = none
  b_all : mg "all" = none
  b_zip : mg "zip" = none
  b_enumerate : mg "enumerate" = none
  b_sorted : mg "sorted" = none
  b_range : mg "range" = none
  b_list : mg "list" = none
  b_repr : mg "repr" = none
  b_min : mg "min" = none
/-! ### the constants -/
def regs : List Str := ["p", "q", "r", "s", "x", "y"]
abbrev k_REGISTERS : D := .tuple (regs.map .str)
abbrev k_MOST_CODE : D := .int 60
abbrev k_MOST_WORDS : D := .int 64
abbrev k_MOST_LETTERS : D := .int 8
def letters : Str := "abcdefghijklmnopqrstuvwxyz"
abbrev k_LETTERS : D := .str letters
abbrev k_ANY : D := .tuple [.str "any"]
abbrev k_HOME : D := .tuple [.str "back", .str "", .int 0]
def forms : List (Str × List Str) := [("push", ["R"]), ("pop", ["R"]), ("grow", ["MANY"]), ("shrink", ["MANY"]), ("move", ["R", "R"]), ("point", ["R", "N"]), ("setsp", ["R", "N"]), ("work", ["R"]),
  ("store", ["B", "N", "R"]), ("load", ["R", "B", "N"]), ("call", ["NAME"]), ("jump", ["I"]), ("branch", ["I"]), ("return", [])]
def t_FORMS : List (Str × D) := forms.map fun p => (p.1, .tuple (p.2.map .str))
theorem look_forms (s : Str) : t_FORMS.lookup s = (forms.lookup s).map fun ks => .tuple (ks.map .str) := by
  unfold t_FORMS
  generalize forms = l
  induction l with
  | nil => rfl
  | cons p r ih =>
    rw [List.map_cons, List.lookup_cons, List.lookup_cons]
    cases s == p.1 with
    | true => rfl
    | false => exact ih
/-! ### what is a part, an instruction -/
def isNumD (x : D) : Bool := isIntD x && !isBoolD x
def btwD (x : D) (lo hi : Int) : Bool := match x with
  | .int i => decide (lo ≤ i) && decide (i ≤ hi)
  | _ => false
def isReg (s : Str) : Bool := (regs.map PyData.str).any fun y => eqF y (.str s)
def regD : D → Bool
  | .str s => isReg s
  | _ => false
def basD : D → Bool
  | .str s => decide (s = "sp") || isReg s
  | _ => false
def letterB (c : Nat) : Bool := !(Builtin.Str.occurrences letters ⟨#[c]⟩ 0 letters.length 1).isEmpty
def namD : D → Bool
  | .str s => decide (1 ≤ (s.length : Int)) && decide ((s.length : Int) ≤ 8) && s.cps.toList.all letterB
  | _ => false
def fitD (x : D) (kind : Str) (many : Int) : Bool :=
  if kind = "R" then regD x else if kind = "B" then basD x else if kind = "NAME" then namD x else if kind = "I" then btwD x 0 (many - 1) else if kind = "MANY" then btwD x 1 64 else btwD x (-64) 64
def insD (x : D) (many : Int) : Bool := match x with
  | .tuple (.str w :: parts) => match forms.lookup w with
    | some ks => decide (parts.length = ks.length) && (parts.zip ks).all fun p => fitD p.1 p.2 many
    | none => false
  | _ => false
/-- what is asked of a thing that is looked at: texts and tuples of a size -/
def okT : D → Prop
  | .str s => s.length ≤ sizeLine
  | .tuple ds => ds.length ≤ 16000 ∧ ∀ d ∈ ds, ∀ s, d = .str s → s.length ≤ sizeLine
  | _ => True
section
variable {Z : Type}
def d_is_number (ds : List D) : WE Z := fun z Q => ∃ x, ds = [x] ∧ Q z (.bool (isNumD x))
def d_is_between (ds : List D) : WE Z := fun z Q => ∃ x lo hi, ds = [x, .int lo, .int hi] ∧ Q z (.bool (btwD x lo hi))
def d_is_register (ds : List D) : WE Z := fun z Q => ∃ x, ds = [x] ∧ Q z (.bool (regD x))
def d_is_basis (ds : List D) : WE Z := fun z Q => ∃ x, ds = [x] ∧ Q z (.bool (basD x))
def d_is_name (ds : List D) : WE Z := fun z Q => ∃ x, ds = [x] ∧ (∀ s, x = .str s → s.length ≤ sizeLine) ∧ Q z (.bool (namD x))
def d__fits (ds : List D) : WE Z := fun z Q => ∃ x k many, ds = [x, .str k, .int many] ∧ (∀ s, x = .str s → s.length ≤ sizeLine) ∧ Q z (.bool (fitD x k many))
def d__is_instruction (ds : List D) : WE Z := fun z Q => ∃ x many, ds = [x, .int many] ∧ okT x ∧ Q z (.bool (insD x many))
def d_need_code (ds : List D) : WE Z := fun z Q => ∃ xs, ds = [.tuple xs] ∧ 1 ≤ xs.length ∧ xs.length ≤ 60 ∧ (∀ x ∈ xs, okT x) ∧ (∀ x ∈ xs, insD x xs.length = true) ∧ Q z (.tuple xs)
variable {P : Program} {w : World} {K : PySem.W.Frag} {mg : Str → Option Value} {base : Heap} {G : Gd Z}
abbrev s_is_number : Stmt := top 11
abbrev n_is_number : List Str := ["thing"]
abbrev p_is_number : List Str := ["thing"]
theorem sc_is_number : FnScope n_is_number p_is_number (defScope s_is_number) := ⟨rfl, rfl, rfl, by decide +kernel, rfl, by decide +kernel, by decide +kernel⟩
theorem ok_is_number {f : Addr} {fd : FuncData} (F : Fd K mg "is_number" s_is_number p_is_number f fd) (T : BltC mg) :
    FnG P w K mg base CX0 1 f fd p_is_number (spD K G 1 d_is_number) := by
  refine fn_body0 F.fn sc_is_number (spD_len (ps := p_is_number)) (fun cdv A outer s H vs Q E hg hr h => ?_)
  refine ⟨_, (pss_one (ps_ret (pe_and (pe_callB call_isi (by rfl) T.b_isinstance (by decide +kernel) (pa_cons (pv 0) (pa_cons (pe_bltn (v := .ty "int") (by rfl) T.b_int (by decide +kernel) rfl) pa_nil))) (pe_one (pe_not (pe_callB call_isi (by rfl) T.b_isinstance (by decide +kernel) (pa_cons (pv 0) (pa_cons (pe_bltn (v := .ty "bool") (by rfl) T.b_bool (by decide +kernel) rfl) pa_nil)))))))),
    body_of (es_ret fun ρ => (ev_andV (ev_isi isIntD kit_int ev_pv) (ev_notV (ev_isi isBoolD kit_bool ev_pv)))) (by decide) (fun ds z Q' hl hf => ?_) h⟩
  obtain ⟨x, rfl, q⟩ := hf
  refine ⟨x, rfl, _, rfl, ?_⟩
  cases x <;> first | exact q | exact ⟨_, rfl, _, rfl, q⟩

abbrev s_is_between : Stmt := top 12
abbrev n_is_between : List Str := ["thing", "least", "most"]
abbrev p_is_between : List Str := ["thing", "least", "most"]
theorem sc_is_between : FnScope n_is_between p_is_between (defScope s_is_between) := ⟨rfl, rfl, rfl, by decide +kernel, rfl, by decide +kernel, by decide +kernel⟩
theorem ok_is_between {f : Addr} {fd : FuncData} (F : Fd K mg "is_between" s_is_between p_is_between f fd) (T : BltC mg) {f_is_number : Addr} {fd_is_number : FuncData} (F_is_number : Fd K mg "is_number" s_is_number p_is_number f_is_number fd_is_number) (G_is_number : FnG P w K mg base CX0 1 f_is_number fd_is_number p_is_number (spD K G 1 d_is_number)) :
    FnG P w K mg base CX0 2 f fd p_is_between (spD K G 3 d_is_between) := by
  refine fn_body0 F.fn sc_is_between (spD_len (ps := p_is_between)) (fun cdv A outer s H vs Q E hg hr h => ?_)
  refine ⟨_, (pss_one (ps_ret (pe_and (pe_callG G_is_number hg (hr.mono (by decide)) rfl F_is_number.mg F_is_number.fn.kp F_is_number.b .nil pass0 (pa_cons (pv 0) pa_nil)) (pe_one (pe_chain op_le op_le (pv 1) (pv 0) (pv 2)))))),
    body_of (es_ret fun ρ => (ev_andV (ev_callD (ea_cons ev_pv ea_nil)) (ev_chain (rw_I0 fun _ _ => sc_bl _) (rw_I0 fun _ _ => sc_bl _) ev_pv ev_pv ev_pv))) (by decide) (fun ds z Q' hl hf => ?_) h⟩
  obtain ⟨x, lo, hi, rfl, q⟩ := hf
  refine ⟨x, rfl, x, rfl, _, rfl, ?_⟩
  cases x with
  | int i =>
    refine ⟨_, rfl, _, rfl, _, rfl, ?_⟩
    have q : Q' z (.bool (decide (lo ≤ i) && decide (i ≤ hi))) := q
    cases e : decide (lo ≤ i) with
    | true => rw [e] at q; exact ⟨_, rfl, q⟩
    | false => rw [e] at q; exact q
  | _ => exact q

abbrev s_is_register : Stmt := top 13
abbrev n_is_register : List Str := ["thing"]
abbrev p_is_register : List Str := ["thing"]
theorem sc_is_register : FnScope n_is_register p_is_register (defScope s_is_register) := ⟨rfl, rfl, rfl, by decide +kernel, rfl, by decide +kernel, by decide +kernel⟩
theorem ok_is_register {f : Addr} {fd : FuncData} (F : Fd K mg "is_register" s_is_register p_is_register f fd) (T : BltC mg) {v_REGISTERS : V} {u_REGISTERS : Value} (c_REGISTERS : KC K mg "REGISTERS" k_REGISTERS v_REGISTERS u_REGISTERS) :
    FnG P w K mg base CX0 1 f fd p_is_register (spD K G 1 d_is_register) := by
  refine fn_body0 F.fn sc_is_register (spD_len (ps := p_is_register)) (fun cdv A outer s H vs Q E hg hr h => ?_)
  refine ⟨_, (pss_one (ps_ret (pe_and (pe_callB call_isi (by rfl) T.b_isinstance (by decide +kernel) (pa_cons (pv 0) (pa_cons (pe_bltn (v := .ty "str") (by rfl) T.b_str (by decide +kernel) rfl) pa_nil))) (pe_one (pe_cmpR op_inA (pv 0) (pe_glob rfl c_REGISTERS.m c_REGISTERS.r) (by rfl)))))),
    body_of (es_ret fun ρ => (ev_andV (ev_isi isStrD kit_str ev_pv) (ev_op rw_inA ev_pv (ev_k c_REGISTERS.d)))) (by decide) (fun ds z Q' hl hf => ?_) h⟩
  obtain ⟨x, rfl, q⟩ := hf
  refine ⟨x, rfl, _, rfl, ?_⟩
  cases x <;> first | exact q | exact ⟨_, rfl, rfl, by decide, q⟩

abbrev s_is_basis : Stmt := top 14
abbrev n_is_basis : List Str := ["thing"]
abbrev p_is_basis : List Str := ["thing"]
theorem sc_is_basis : FnScope n_is_basis p_is_basis (defScope s_is_basis) := ⟨rfl, rfl, rfl, by decide +kernel, rfl, by decide +kernel, by decide +kernel⟩
theorem ok_is_basis {f : Addr} {fd : FuncData} (F : Fd K mg "is_basis" s_is_basis p_is_basis f fd) (T : BltC mg) {v_REGISTERS : V} {u_REGISTERS : Value} (c_REGISTERS : KC K mg "REGISTERS" k_REGISTERS v_REGISTERS u_REGISTERS) :
    FnG P w K mg base CX0 1 f fd p_is_basis (spD K G 1 d_is_basis) := by
  refine fn_body0 F.fn sc_is_basis (spD_len (ps := p_is_basis)) (fun cdv A outer s H vs Q E hg hr h => ?_)
  refine ⟨_, (pss_one (ps_ret (pe_and (pe_callB call_isi (by rfl) T.b_isinstance (by decide +kernel) (pa_cons (pv 0) (pa_cons (pe_bltn (v := .ty "str") (by rfl) T.b_str (by decide +kernel) rfl) pa_nil))) (pe_one (pe_or (pe_cmpR (op_eqA hr.units) (pv 0) pe_str (nomark _)) (pe_one (pe_cmpR op_inA (pv 0) (pe_glob rfl c_REGISTERS.m c_REGISTERS.r) (by rfl)))))))),
    body_of (es_ret fun ρ => (ev_andV (ev_isi isStrD kit_str ev_pv) (ev_orV (ev_op rw_eq ev_pv (ev_c (sc_str _))) (ev_op rw_inA ev_pv (ev_k c_REGISTERS.d))))) (by decide) (fun ds z Q' hl hf => ?_) h⟩
  obtain ⟨x, rfl, q⟩ := hf
  refine ⟨x, rfl, _, rfl, ?_⟩
  cases x with
  | str s =>
    refine ⟨_, rfl, _, rfl, ?_⟩
    have q : Q' z (.bool (decide (s = "sp") || isReg s)) := q
    cases e : decide (s = "sp") with
    | true => rw [e] at q; exact q
    | false => rw [e] at q; exact ⟨_, rfl, rfl, by decide, q⟩
  | _ => exact q

abbrev s_is_name : Stmt := top 15
abbrev n_is_name : List Str := ["thing", "letter"]
abbrev p_is_name : List Str := ["thing"]
theorem sc_is_name : FnScope n_is_name p_is_name (defScope s_is_name) := ⟨rfl, rfl, rfl, by decide +kernel, rfl, by decide +kernel, by decide +kernel⟩
theorem ok_is_name {f : Addr} {fd : FuncData} (F : Fd K mg "is_name" s_is_name p_is_name f fd) (T : BltC mg) {v_LETTERS : V} {u_LETTERS : Value} (c_LETTERS : KC K mg "LETTERS" k_LETTERS v_LETTERS u_LETTERS) {v_MOST_LETTERS : V} {u_MOST_LETTERS : Value} (c_MOST_LETTERS : KC K mg "MOST_LETTERS" k_MOST_LETTERS v_MOST_LETTERS u_MOST_LETTERS) :
    FnG P w K mg base CX0 1 f fd p_is_name (spD K G 1 d_is_name) := by
  refine fn_body0 F.fn sc_is_name (spD_len (ps := p_is_name)) (fun cdv A outer s H vs Q E hg hr h => ?_)
  refine ⟨_, (pss_cons (ps_if (PW.pt (pw_or (pt_not (pt_val (pe_callB call_isi (by rfl) T.b_isinstance (by decide +kernel) (pa_cons (pv 0) (pa_cons (pe_bltn (v := .ty "str") (by rfl) T.b_str (by decide +kernel) rfl) pa_nil))))) (pw_or1 (pt_not (pt_chain op_le op_le pe_int (pe_callB call_len (by rfl) T.b_len (by decide +kernel) (pa_cons (pv 0) pa_nil)) (pe_glob rfl c_MOST_LETTERS.m c_MOST_LETTERS.r)))))) (pss_one (ps_ret pe_bl)) pss_nil)
      (pss_one (ps_ret (pe_callB (cr_all rfl) (by rfl) T.b_all (by decide +kernel) (pa_cons (pe_lc (own := [("letter", 1)]) rfl sc_is_name.nd (pi_any (pv 0)) (blkOk_by (own := [("letter", 1)]) (N := n_is_name) (sc := defScope s_is_name) (by decide +kernel)) (fun _ _ _ _ _ => (pg_name (i := 1) sc_is_name.nd rfl (by first | exact Or.inl rfl | exact Or.inr rfl))) (fun _ _ _ _ _ => pts_nil) (fun _ _ _ _ _ => (pe_cmpR op_inA (pv 1) (pe_glob rfl c_LETTERS.m c_LETTERS.r) (by rfl)))) pa_nil))))),
    body_of (es_seq (es_if (fun ρ => (et_or (et_not (et_B (ev_isi isStrD kit_str ev_pv))) (et_not (et_test (ev_chain (rw_I0 fun _ _ => sc_bl _) (rw_I0 fun _ _ => sc_bl _) (ev_c (sc_int _)) (ev_call rws_len (ea_cons ev_pv ea_nil)) (ev_k c_MOST_LETTERS.d)))))) (es_ret fun ρ => (ev_c (sc_bl _))) es_next)
      (es_ret fun ρ => (ev_call rws_all (ea_cons (ev_lc (ei_any ev_pv) eg_name (fun ρ => et_yes) (fun ρ => (ev_op rw_inA ev_pv (ev_k c_LETTERS.d)))) ea_nil)))) (by decide) (fun ds z Q' hl hf => ?_) h⟩
  obtain ⟨x, rfl, hs, q⟩ := hf
  refine ⟨x, rfl, ?_⟩
  cases x with
  | str s =>
    have hs := hs s rfl
    refine ⟨true, rfl, .str s, rfl, hs, _, rfl, ?_⟩
    have q : Q' z (.bool (decide (1 ≤ (s.length : Int)) && decide ((s.length : Int) ≤ 8) && s.cps.toList.all letterB)) := q
    refine iteD (fun e1 => ?_) (fun e1 => ?_)
    · refine ⟨_, rfl, ?_⟩
      rw [decide_eq_true e1, Bool.true_and] at q
      by_cases e2 : (s.length : Int) ≤ 8
      · rw [decide_eq_true e2, Bool.true_and] at q
        rw [decide_eq_true e2]
        refine ⟨.str s, rfl, _, rfl, lc_pure (fun d => .bool (match d with | .str t => !(Builtin.Str.occurrences letters t 0 letters.length 1).isEmpty | _ => false)) (fun d m Y y => ?_) ?_ ⟨s.cps.toList.map letterB, ?_, ?_⟩⟩
        · obtain ⟨c, _, rfl⟩ := List.mem_map.mp m
          exact ⟨_, rfl, _, rfl, y⟩
        · rw [List.length_nil, List.length_map]
          have : s.cps.toList.length = s.length := rfl
          omega
        · rw [List.nil_append, List.map_map, List.map_map]
          rfl
        · rw [List.all_map]
          exact q
      · rw [decide_eq_false e2, Bool.false_and] at q
        rw [decide_eq_false e2]
        exact q
    · rw [decide_eq_false e1, Bool.false_and, Bool.false_and] at q
      exact ⟨_, rfl, q⟩
  | _ => exact ⟨false, rfl, q⟩

abbrev s__fits : Stmt := top 16
abbrev n__fits : List Str := ["part", "kind", "many"]
abbrev p__fits : List Str := ["part", "kind", "many"]
theorem sc__fits : FnScope n__fits p__fits (defScope s__fits) := ⟨rfl, rfl, rfl, by decide +kernel, rfl, by decide +kernel, by decide +kernel⟩
theorem ok__fits {f : Addr} {fd : FuncData} (F : Fd K mg "_fits" s__fits p__fits f fd) (T : BltC mg) {f_is_basis : Addr} {fd_is_basis : FuncData} (F_is_basis : Fd K mg "is_basis" s_is_basis p_is_basis f_is_basis fd_is_basis) (G_is_basis : FnG P w K mg base CX0 1 f_is_basis fd_is_basis p_is_basis (spD K G 1 d_is_basis)) {f_is_between : Addr} {fd_is_between : FuncData} (F_is_between : Fd K mg "is_between" s_is_between p_is_between f_is_between fd_is_between) (G_is_between : FnG P w K mg base CX0 2 f_is_between fd_is_between p_is_between (spD K G 3 d_is_between)) {f_is_name : Addr} {fd_is_name : FuncData} (F_is_name : Fd K mg "is_name" s_is_name p_is_name f_is_name fd_is_name) (G_is_name : FnG P w K mg base CX0 1 f_is_name fd_is_name p_is_name (spD K G 1 d_is_name)) {f_is_register : Addr} {fd_is_register : FuncData} (F_is_register : Fd K mg "is_register" s_is_register p_is_register f_is_register fd_is_register) (G_is_register : FnG P w K mg base CX0 1 f_is_register fd_is_register p_is_register (spD K G 1 d_is_register)) {v_MOST_WORDS : V} {u_MOST_WORDS : Value} (c_MOST_WORDS : KC K mg "MOST_WORDS" k_MOST_WORDS v_MOST_WORDS u_MOST_WORDS) :
    FnG P w K mg base CX0 3 f fd p__fits (spD K G 3 d__fits) := by
  refine fn_body0 F.fn sc__fits (spD_len (ps := p__fits)) (fun cdv A outer s H vs Q E hg hr h => ?_)
  refine ⟨_, (pss_cons (ps_if (pt_cmpR (op_eqA hr.units) (pv 1) pe_str (nomark _)) (pss_one (ps_ret (pe_callG G_is_register hg (hr.mono (by decide)) rfl F_is_register.mg F_is_register.fn.kp F_is_register.b .nil pass0 (pa_cons (pv 0) pa_nil)))) pss_nil)
      (pss_cons (ps_if (pt_cmpR (op_eqA hr.units) (pv 1) pe_str (nomark _)) (pss_one (ps_ret (pe_callG G_is_basis hg (hr.mono (by decide)) rfl F_is_basis.mg F_is_basis.fn.kp F_is_basis.b .nil pass0 (pa_cons (pv 0) pa_nil)))) pss_nil)
      (pss_cons (ps_if (pt_cmpR (op_eqA hr.units) (pv 1) pe_str (nomark _)) (pss_one (ps_ret (pe_callG G_is_name hg (hr.mono (by decide)) rfl F_is_name.mg F_is_name.fn.kp F_is_name.b .nil pass0 (pa_cons (pv 0) pa_nil)))) pss_nil)
      (pss_cons (ps_if (pt_cmpR (op_eqA hr.units) (pv 1) pe_str (nomark _)) (pss_one (ps_ret (pe_callG G_is_between hg (hr.mono (by decide)) rfl F_is_between.mg F_is_between.fn.kp F_is_between.b .nil pass0 (pa_cons (pv 0) (pa_cons pe_int (pa_cons (pe_op op_sub (pv 2) pe_int) pa_nil)))))) pss_nil)
      (pss_cons (ps_if (pt_cmpR (op_eqA hr.units) (pv 1) pe_str (nomark _)) (pss_one (ps_ret (pe_callG G_is_between hg (hr.mono (by decide)) rfl F_is_between.mg F_is_between.fn.kp F_is_between.b .nil pass0 (pa_cons (pv 0) (pa_cons pe_int (pa_cons (pe_glob rfl c_MOST_WORDS.m c_MOST_WORDS.r) pa_nil)))))) pss_nil)
      (pss_one (ps_ret (pe_callG G_is_between hg (hr.mono (by decide)) rfl F_is_between.mg F_is_between.fn.kp F_is_between.b .nil pass0 (pa_cons (pv 0) (pa_cons (pe_un un_neg (pe_glob rfl c_MOST_WORDS.m c_MOST_WORDS.r)) (pa_cons (pe_glob rfl c_MOST_WORDS.m c_MOST_WORDS.r) pa_nil))))))))))),
    body_of (es_seq (es_if (fun ρ => (et_test (ev_op rw_eq ev_pv (ev_c (sc_str _))))) (es_ret fun ρ => (ev_callD (ea_cons ev_pv ea_nil))) es_next)
      (es_seq (es_if (fun ρ => (et_test (ev_op rw_eq ev_pv (ev_c (sc_str _))))) (es_ret fun ρ => (ev_callD (ea_cons ev_pv ea_nil))) es_next)
      (es_seq (es_if (fun ρ => (et_test (ev_op rw_eq ev_pv (ev_c (sc_str _))))) (es_ret fun ρ => (ev_callD (ea_cons ev_pv ea_nil))) es_next)
      (es_seq (es_if (fun ρ => (et_test (ev_op rw_eq ev_pv (ev_c (sc_str _))))) (es_ret fun ρ => (ev_callD (ea_cons ev_pv (ea_cons (ev_c (sc_int _)) (ea_cons (ev_op (rw_I0 fun _ _ => sc_int _) ev_pv (ev_c (sc_int _))) ea_nil))))) es_next)
      (es_seq (es_if (fun ρ => (et_test (ev_op rw_eq ev_pv (ev_c (sc_str _))))) (es_ret fun ρ => (ev_callD (ea_cons ev_pv (ea_cons (ev_c (sc_int _)) (ea_cons (ev_k c_MOST_WORDS.d) ea_nil))))) es_next)
      (es_ret fun ρ => (ev_callD (ea_cons ev_pv (ea_cons (ev_un ru_neg (ev_k c_MOST_WORDS.d)) (ea_cons (ev_k c_MOST_WORDS.d) ea_nil)))))))))) (by decide) (fun ds z Q' hl hf => ?_) h⟩
  obtain ⟨x, kd, many, rfl, hs, q⟩ := hf
  unfold fitD at q
  refine ⟨_, rfl, _, rfl, iteD (fun e => ?_) (fun e => ?_)⟩
  · rw [if_pos e] at q
    exact ⟨x, rfl, x, rfl, q⟩
  rw [if_neg e] at q
  refine ⟨_, rfl, _, rfl, iteD (fun e => ?_) (fun e => ?_)⟩
  · rw [if_pos e] at q
    exact ⟨x, rfl, x, rfl, q⟩
  rw [if_neg e] at q
  refine ⟨_, rfl, _, rfl, iteD (fun e => ?_) (fun e => ?_)⟩
  · rw [if_pos e] at q
    exact ⟨x, rfl, x, rfl, hs, q⟩
  rw [if_neg e] at q
  refine ⟨_, rfl, _, rfl, iteD (fun e => ?_) (fun e => ?_)⟩
  · rw [if_pos e] at q
    exact ⟨x, rfl, _, rfl, x, _, _, rfl, q⟩
  rw [if_neg e] at q
  refine ⟨_, rfl, _, rfl, iteD (fun e => ?_) (fun e => ?_)⟩
  · rw [if_pos e] at q
    exact ⟨x, rfl, x, _, _, rfl, q⟩
  rw [if_neg e] at q
  exact ⟨x, rfl, _, rfl, x, _, _, rfl, q⟩

abbrev s__is_instruction : Stmt := top 17
abbrev n__is_instruction : List Str := ["thing", "many", "kinds", "word", "parts", "part", "kind"]
abbrev p__is_instruction : List Str := ["thing", "many"]
theorem sc__is_instruction : FnScope n__is_instruction p__is_instruction (defScope s__is_instruction) := ⟨rfl, rfl, rfl, by decide +kernel, rfl, by decide +kernel, by decide +kernel⟩
theorem ok__is_instruction {f : Addr} {fd : FuncData} (F : Fd K mg "_is_instruction" s__is_instruction p__is_instruction f fd) (T : BltC mg) {f__fits : Addr} {fd__fits : FuncData} (F__fits : Fd K mg "_fits" s__fits p__fits f__fits fd__fits) (G__fits : FnG P w K mg base CX0 3 f__fits fd__fits p__fits (spD K G 3 d__fits)) {a_FORMS : Addr} (D_FORMS : KD K w mg "FORMS" t_FORMS a_FORMS) :
    FnG P w K mg base CX0 4 f fd p__is_instruction (spD K G 2 d__is_instruction) := by
  refine fn_body0 F.fn sc__is_instruction (spD_len (ps := p__is_instruction)) (fun cdv A outer s H vs Q E hg hr h => ?_)
  refine ⟨_, (pss_cons (ps_if (PW.pt (pw_or (pt_not (pt_val (pe_callB call_isi (by rfl) T.b_isinstance (by decide +kernel) (pa_cons (pv 0) (pa_cons (pe_bltn (v := .ty "tuple") (by rfl) T.b_tuple (by decide +kernel) rfl) pa_nil))))) (pw_or1 (pt_not (pt_truth (pv 0) (by intro _; rfl)))))) (pss_one (ps_ret pe_bl)) pss_nil)
      (pss_cons (ps_asg (pv 0) (pg_star rfl (pgs_cons (pg_name (i := 3) sc__is_instruction.nd rfl (by first | exact Or.inl rfl | exact Or.inr rfl)) (pgs_cons (pg_name (i := 4) sc__is_instruction.nd rfl (by first | exact Or.inl rfl | exact Or.inr rfl)) pgs_nil))))
      (pss_cons (ps_if (PW.pt (pw_or (pt_not (pt_val (pe_callB call_isi (by rfl) T.b_isinstance (by decide +kernel) (pa_cons (pv 3) (pa_cons (pe_bltn (v := .ty "str") (by rfl) T.b_str (by decide +kernel) rfl) pa_nil))))) (pw_or1 (pt_cmpR (op_notInK D_FORMS.d) (pv 3) (pe_glob (v := .ref a_FORMS) rfl D_FORMS.m rfl) (by rfl))))) (pss_one (ps_ret pe_bl)) pss_nil)
      (pss_cons (ps_set (i := 2) sc__is_instruction.nd rfl (by first | exact Or.inl rfl | exact Or.inr rfl) (pe_ix ix_kdict (pe_glob (v := .ref a_FORMS) rfl D_FORMS.m rfl) (pv 3) (fun _ _ => rfl)))
      (pss_cons (ps_if (pt_cmpR (op_neA hr.units) (pe_callB call_len (by rfl) T.b_len (by decide +kernel) (pa_cons (pv 4) pa_nil)) (pe_callB call_len (by rfl) T.b_len (by decide +kernel) (pa_cons (pv 2) pa_nil)) (nomark _)) (pss_one (ps_ret pe_bl)) pss_nil)
      (pss_one (ps_ret (pe_callB (cr_all rfl) (by rfl) T.b_all (by decide +kernel) (pa_cons (pe_lc (own := [("part", 5), ("kind", 6)]) rfl sc__is_instruction.nd (pi_zipB (by rfl) T.b_zip (pa_cons (pv 4) (pa_cons (pv 2) pa_nil))) (blkOk_by (own := [("part", 5), ("kind", 6)]) (N := n__is_instruction) (sc := defScope s__is_instruction) (by decide +kernel)) (fun _ _ _ _ _ => (pg_tup (n := 2) rfl (pgs_cons (pg_name (i := 5) sc__is_instruction.nd rfl (by first | exact Or.inl rfl | exact Or.inr rfl)) (pgs_cons (pg_name (i := 6) sc__is_instruction.nd rfl (by first | exact Or.inl rfl | exact Or.inr rfl)) pgs_nil)))) (fun _ _ _ _ _ => pts_nil) (fun _ _ _ _ _ => (pe_callG G__fits hg (hr.mono (by decide)) rfl F__fits.mg F__fits.fn.kp F__fits.b .nil pass0 (pa_cons (pv 5) (pa_cons (pv 6) (pa_cons (pv 1) pa_nil)))))) pa_nil))))))))),
    body_of (es_seq (es_if (fun ρ => (et_or (et_not (et_B (ev_isi isTupD kit_tuple ev_pv))) (et_not (et_truth ev_pv)))) (es_ret fun ρ => (ev_c (sc_bl _))) es_next)
      (es_seq (es_star (i := 3) (j := 4) fun ρ => ev_pv)
      (es_seq (es_if (fun ρ => (et_or (et_not (et_B (ev_isi isStrD kit_str ev_pv))) (et_test (ev_inK D_FORMS.d ev_pv)))) (es_ret fun ρ => (ev_c (sc_bl _))) es_next)
      (es_seq (es_asg (fun ρ => (ev_ixK D_FORMS.d ev_pv)) eg_name)
      (es_seq (es_if (fun ρ => (et_test (ev_op rw_ne (ev_call rws_len (ea_cons ev_pv ea_nil)) (ev_call rws_len (ea_cons ev_pv ea_nil))))) (es_ret fun ρ => (ev_c (sc_bl _))) es_next)
      (es_ret fun ρ => (ev_call rws_all (ea_cons (ev_lc (ei_zipB (ea_cons ev_pv (ea_cons ev_pv ea_nil))) (eg_tup (egs_cons eg_name (egs_cons eg_name egs_nil))) (fun ρ => et_yes) (fun ρ => (ev_callD (ea_cons ev_pv (ea_cons ev_pv (ea_cons ev_pv ea_nil)))))) ea_nil)))))))) (by decide) (fun ds z Q' hl hf => ?_) h⟩
  obtain ⟨x, many, rfl, hs, q⟩ := hf
  refine ⟨x, rfl, ?_⟩
  cases x with
  | tuple ds =>
    refine ⟨true, rfl, .tuple ds, rfl, (fun s z => by cases z), _, rfl, ?_⟩
    cases ds with
    | nil => exact q
    | cons x0 parts =>
      refine ⟨_, rfl, x0, parts, rfl, (by have := hs.1; rw [List.length_cons] at this; omega), x0, rfl, ?_⟩
      cases x0 with
      | str wd =>
        refine ⟨true, rfl, .str wd, rfl, wd, rfl, _, rfl, ?_⟩
        have q : Q' z (.bool (match forms.lookup wd with | some ks => decide (parts.length = ks.length) && (parts.zip ks).all fun p => fitD p.1 p.2 many | none => false)) := q
        cases e : forms.lookup wd with
        | none =>
          rw [e] at q
          have e' : t_FORMS.lookup wd = none := by rw [look_forms, e]; rfl
          rw [e']
          exact q
        | some ks =>
          rw [e] at q
          have e' : t_FORMS.lookup wd = some (.tuple (ks.map .str)) := by rw [look_forms, e]; rfl
          rw [e']
          refine ⟨.str wd, rfl, wd, _, rfl, e', .list parts, rfl, .tuple (ks.map .str), rfl, _, rfl, ?_⟩
          have q : Q' z (.bool (decide (parts.length = ks.length) && (parts.zip ks).all fun p => fitD p.1 p.2 many)) := q
          by_cases hl2 : parts.length = ks.length
          · rw [decide_eq_true hl2, Bool.true_and] at q
            rw [decide_eq_true (show (parts.length : Int) = ((ks.map PyData.str).length : Int) by rw [List.length_map, hl2])]
            refine ⟨.list parts, rfl, .tuple (ks.map .str), rfl, _, _, parts, ks.map .str, rfl, rfl, rfl, (by rw [List.length_map, hl2]), lc_pure (fun d => .bool (match d with | .tuple [x, .str k] => fitD x k many | _ => false)) (fun d m Y y => ?_) ?_ ⟨(parts.zip ks).map fun p => fitD p.1 p.2 many, ?_, ?_⟩⟩
            · obtain ⟨p, hp, rfl⟩ := List.mem_map.mp m
              rw [List.zip_map_right] at hp
              obtain ⟨⟨px, pk⟩, hp2, rfl⟩ := List.mem_map.mp hp
              refine ⟨_, rfl, rfl, px, _, rfl, .str pk, _, rfl, rfl, px, rfl, .str pk, rfl, .int many, rfl, px, pk, many, rfl, fun s es => ?_, y⟩
              exact hs.2 px (List.mem_cons_of_mem _ (List.of_mem_zip hp2).1) s es
            · have := hs.1
              rw [List.length_cons] at this
              rw [List.length_nil, List.length_map, List.length_zip, List.length_map, ← hl2, Nat.min_self]
              have : sizeLine = 16777216 := sizeLine_eq
              omega
            · rw [List.nil_append, List.map_map, List.zip_map_right, List.map_map, List.map_map]
              rfl
            · rw [List.all_map]
              exact q
          · rw [decide_eq_false hl2, Bool.false_and] at q
            rw [decide_eq_false (show ¬ (parts.length : Int) = ((ks.map PyData.str).length : Int) by rw [List.length_map]; omega)]
            exact q
      | _ => exact ⟨false, rfl, q⟩
  | _ => exact ⟨false, rfl, q⟩

abbrev s_need_code : Stmt := top 18
abbrev n_need_code : List Str := ["thing", "place", "item"]
abbrev p_need_code : List Str := ["thing"]
theorem sc_need_code : FnScope n_need_code p_need_code (defScope s_need_code) := ⟨rfl, rfl, rfl, by decide +kernel, rfl, by decide +kernel, by decide +kernel⟩
theorem ok_need_code {f : Addr} {fd : FuncData} (F : Fd K mg "need_code" s_need_code p_need_code f fd) (T : BltC mg) {f__is_instruction : Addr} {fd__is_instruction : FuncData} (F__is_instruction : Fd K mg "_is_instruction" s__is_instruction p__is_instruction f__is_instruction fd__is_instruction) (G__is_instruction : FnG P w K mg base CX0 4 f__is_instruction fd__is_instruction p__is_instruction (spD K G 2 d__is_instruction)) {v_MOST_CODE : V} {u_MOST_CODE : Value} (c_MOST_CODE : KC K mg "MOST_CODE" k_MOST_CODE v_MOST_CODE u_MOST_CODE) :
    FnG P w K mg base CX0 5 f fd p_need_code (spD K G 1 d_need_code) := by
  refine fn_body0 F.fn sc_need_code (spD_len (ps := p_need_code)) (fun cdv A outer s H vs Q E hg hr h => ?_)
  refine ⟨_, (pss_cons (ps_if (PW.pt (pw_or (pt_not (pt_val (pe_callB call_isi (by rfl) T.b_isinstance (by decide +kernel) (pa_cons (pv 0) (pa_cons (pe_bltn (v := .ty "tuple") (by rfl) T.b_tuple (by decide +kernel) rfl) pa_nil))))) (pw_or1 (pt_not (pt_chain op_le op_le pe_int (pe_callB call_len (by rfl) T.b_len (by decide +kernel) (pa_cons (pv 0) pa_nil)) (pe_glob rfl c_MOST_CODE.m c_MOST_CODE.r)))))) (pss_one ps_never) pss_nil)
      (pss_cons (ps_for PassesOwn.never rfl (pi_enumA (by rfl) T.b_enumerate (pa_cons (pv 0) pa_nil)) (pg_tup (n := 2) rfl (pgs_cons (pg_name (i := 1) sc_need_code.nd rfl (by first | exact Or.inl rfl | exact Or.inr rfl)) (pgs_cons (pg_name (i := 2) sc_need_code.nd rfl (by first | exact Or.inl rfl | exact Or.inr rfl)) pgs_nil)))
      (pss_one (ps_if (pt_not (pt_val (pe_callG G__is_instruction hg (hr.mono (by decide)) rfl F__is_instruction.mg F__is_instruction.fn.kp F__is_instruction.b .nil pass0 (pa_cons (pv 2) (pa_cons (pe_callB call_len (by rfl) T.b_len (by decide +kernel) (pa_cons (pv 0) pa_nil)) pa_nil))))) (pss_one ps_never) pss_nil)))
      (pss_one (ps_ret (pv 0))))),
    body_of (es_seq (es_if (fun ρ => (et_or (et_not (et_B (ev_isi isTupD kit_tuple ev_pv))) (et_not (et_test (ev_chain (rw_I0 fun _ _ => sc_bl _) (rw_I0 fun _ _ => sc_bl _) (ev_c (sc_int _)) (ev_call rws_len (ea_cons ev_pv ea_nil)) (ev_k c_MOST_CODE.d)))))) es_never es_next)
      (es_seq (es_for (fun ρ => (ei_enumA (ea_cons ev_pv ea_nil))) (eg_tup (egs_cons eg_name (egs_cons eg_name egs_nil)))
      (es_if (fun ρ => (et_not (et_B (ev_callD (ea_cons ev_pv (ea_cons (ev_call rws_len (ea_cons ev_pv ea_nil)) ea_nil)))))) es_never es_next))
      (es_ret fun ρ => ev_pv))) (by decide) (fun ds z Q' hl hf => ?_) h⟩
  obtain ⟨xs, rfl, h1, h2, h3, h4, q⟩ := hf
  refine ⟨.tuple xs, rfl, true, rfl, .tuple xs, rfl, _, rfl, ?_⟩
  refine iteD (fun _ => ?_) (fun e => absurd (show (1 : Int) ≤ (xs.length : Int) by omega) e)
  refine ⟨_, rfl, ?_⟩
  rw [decide_eq_true (show (xs.length : Int) ≤ 60 by omega)]
  refine ⟨.tuple xs, rfl, _, _, rfl, rfl, for_ind (fun r ρ z' => z' = z ∧ (∀ d ∈ r, ∃ i x, d = .tuple [.int i, x] ∧ x ∈ xs) ∧ ∃ s1 s2, ρ = [.dat (.tuple xs), s1, s2]) (fun d r ρ z' h ih => ?_) (fun ρ z' h => ?_) _ _ _ ⟨rfl, fun d m => ?_, _, _, rfl⟩⟩
  · obtain ⟨rfl, hr', s1, s2, rfl⟩ := h
    obtain ⟨i, x, rfl, hx⟩ := hr' d (List.mem_cons_self ..)
    refine ⟨_, rfl, rfl, _, _, rfl, _, _, rfl, rfl, x, rfl, .tuple xs, rfl, x, _, rfl, h3 x hx, insD x xs.length, rfl, ?_⟩
    rw [h4 x hx]
    exact ih _ _ ⟨rfl, fun d m => hr' d (List.mem_cons_of_mem _ m), _, _, rfl⟩
  · obtain ⟨rfl, _, s1, s2, rfl⟩ := h
    exact ⟨_, rfl, q⟩
  · unfold DL.numbered at m
    obtain ⟨⟨x, i⟩, hm, rfl⟩ := List.mem_map.mp m
    exact ⟨_, x, rfl, (List.mem_zipIdx hm).2.2 ▸ List.getElem_mem _⟩

end
end Law

/-! K5m -/
namespace Law
open PySem L2 DL
/-! ### the machine over data -/
inductive Val : D → Prop
  | any : Val (.tuple [.str "any"])
  | first (r : Str) (h : PyData.strOk r = true) : Val (.tuple [.str "first", .str r])
  | back (f : Str) (i : Int) (h : PyData.strOk f = true) : Val (.tuple [.str "back", .str f, .int i])
  | word (n k : Int) : Val (.tuple [.str "word", .int n, .int k])
theorem Val.flat {d : D} (v : Val d) : flat d = true := by cases v <;> rfl
theorem Val.shaped {d : D} (v : Val d) : SeqAt.shaped d = true := by
  cases v with
  | any => decide +kernel
  | first r h => simp [SeqAt.shaped, PyData.canLay0, PyData.canLayAll0, PyData.depth, PyData.depthAll, h]; decide +kernel
  | back f i h => simp [SeqAt.shaped, PyData.canLay0, PyData.canLayAll0, PyData.depth, PyData.depthAll, h]; decide +kernel
  | word n k => simp [SeqAt.shaped, PyData.canLay0, PyData.canLayAll0, PyData.depth, PyData.depthAll]; decide +kernel
theorem dEq_none {Z : Type} {x y : D} {z : Z} {Q : DK Z} (h : scEq x y = none) (a : flat x = true) (b : flat y = true) (c : SeqAt.shaped x = true) (d : SeqAt.shaped y = true) (q : Q z (.bool (PyData.eqv x y))) : dEq x y z Q := by
  unfold dEq
  rw [h]
  exact ⟨a, b, c, d, q⟩
theorem dNe_none {Z : Type} {x y : D} {z : Z} {Q : DK Z} (h : scEq x y = none) (a : flat x = true) (b : flat y = true) (c : SeqAt.shaped x = true) (d : SeqAt.shaped y = true) (q : Q z (.bool (!PyData.eqv x y))) : dNe x y z Q := by
  unfold dNe
  rw [h]
  exact ⟨a, b, c, d, q⟩
def anyD : D := .tuple [.str "any"]
def isAny (d : D) : Bool := PyData.eqv d anyD
theorem ka : ¬ ("any" : Str) = "word" := by decide +kernel
theorem kf : ¬ ("first" : Str) = "word" := by decide +kernel
theorem kb : ¬ ("back" : Str) = "word" := by decide +kernel
def inB (m : MS) (a : Int) : Bool := decide (m.base - 64 ≤ a) && decide (a ≤ m.base)
def putW (m : MS) (a : Int) (v : D) : MS := if isAny v = true then { m with words := dropKD m.words (.inl a) } else { m with words := putKD m.words (.inl a) v }
def getH (m : MS) (r : Str) : D := (lookK m.held (.inr r)).getD anyD
def getW (m : MS) (a : Int) : D := (lookK m.words (.inl a)).getD anyD
def setH (m : MS) (r : Str) (v : D) : MS := { m with held := putKD m.held (.inr r) v }
def adrV (n : Int) : D → Option Int
  | .tuple [.str w, .int m, .int k] => if w = "word" then (if m = n then some k else none) else none
  | _ => none
def adr (m : MS) (r : Str) : Option Int := adrV m.num (getH m r)
def wordFor (m : MS) (b : Str) (o : Int) : Option Int := match (if b = "sp" then some m.sp else adr m b) with
  | some s => if inB m (s + o) = true then some (s + o) else none
  | none => none
def mvSp (m : MS) (n : Int) : MS × D := if inB m n = true then ({ m with sp := n }, .none) else (m, .str "sp")
def optD : Option Int → D
  | some i => .int i
  | none => .none
structure MOk (m : MS) : Prop where
  hk : m.held.map (·.1) = regs.map Sum.inr
  hv : ∀ q ∈ m.held, Val q.2
  wv : ∀ q ∈ m.words, Val q.2
  wl : m.words.length < 1000
  bv : Val m.back
theorem look_mem {kds : List (Key × D)} {k : Key} {d : D} (h : lookK kds k = some d) : ∃ q ∈ kds, q.2 = d := by
  unfold lookK at h
  cases e : kds.find? fun kv => decide (kv.1 = k) with
  | none => (rw [e] at h; cases h)
  | some q => rw [e] at h; exact ⟨q, List.mem_of_find?_eq_some e, Option.some.inj h⟩
theorem look_some {kds : List (Key × D)} {k : Key} (h : k ∈ kds.map (·.1)) : ∃ d, lookK kds k = some d := by
  obtain ⟨q, hq, rfl⟩ := List.mem_map.mp h
  unfold lookK
  cases e : kds.find? fun kv => decide (kv.1 = q.1) with
  | none => exact absurd (decide_eq_true rfl) (List.find?_eq_none.mp e q hq)
  | some q => exact ⟨_, rfl⟩
theorem isReg_mem {r : Str} (h : isReg r = true) : r ∈ regs := by
  unfold isReg at h
  obtain ⟨y, hy, e⟩ := List.any_eq_true.mp h
  obtain ⟨t, ht, rfl⟩ := List.mem_map.mp hy
  have e : (t == r) = true := e
  rw [← eq_of_beq e]; exact ht
theorem MOk.reg {m : MS} (h : MOk m) {r : Str} (hr : isReg r = true) : lookK m.held (.inr r) = some (getH m r) ∧ Val (getH m r) := by
  obtain ⟨d, e⟩ := look_some (kds := m.held) (k := .inr r) (by rw [h.hk]; exact List.mem_map_of_mem (isReg_mem hr))
  have e2 : getH m r = d := by unfold getH; rw [e]; rfl
  rw [e2]
  obtain ⟨q, hq, rfl⟩ := look_mem e
  exact ⟨e, h.hv q hq⟩
theorem MOk.len {m : MS} (h : MOk m) : m.held.length < sizeLine := by
  have := congrArg List.length h.hk
  rw [List.length_map, List.length_map] at this
  rw [this]
  decide
theorem MOk.word {m : MS} (h : MOk m) (a : Int) : Val (getW m a) := by
  unfold getW
  cases e : lookK m.words (.inl a) with
  | none => exact Val.any
  | some d => obtain ⟨q, hq, rfl⟩ := look_mem e; exact h.wv q hq
theorem MOk.wlen {m : MS} (h : MOk m) : m.words.length < sizeLine := by
  have : sizeLine = 16777216 := sizeLine_eq
  have := h.wl
  omega
def pushM (m : MS) (r : Str) : MS × D := if inB m (m.sp - 1) = true then (putW { m with sp := m.sp - 1 } (m.sp - 1) (getH m r), .none) else (m, .str "sp")
def popM (m : MS) (r : Str) : MS × D := if inB m (m.sp + 1) = true then (setH { m with sp := m.sp + 1 } r (getW m m.sp), .none) else (m, .str "sp")
def growM (m : MS) (n : Int) : MS × D := mvSp m (m.sp - n)
def shrinkM (m : MS) (n : Int) : MS × D := mvSp m (m.sp + n)
def moveM (m : MS) (t s : Str) : MS × D := (setH m t (getH m s), .none)
def pointM (m : MS) (t : Str) (o : Int) : MS × D := (setH m t (.tuple [.str "word", .int m.num, .int (m.sp + o)]), .none)
def setspM (m : MS) (r : Str) (o : Int) : MS × D := match adr m r with
  | none => (m, .str "wild")
  | some s => mvSp m (s + o)
def workM (m : MS) (t : Str) : MS × D := (setH m t anyD, .none)
def storeM (m : MS) (b : Str) (o : Int) (r : Str) : MS × D := match wordFor m b o with
  | none => (m, .str "wild")
  | some a => (putW m a (getH m r), .none)
def loadM (m : MS) (t b : Str) (o : Int) : MS × D := match wordFor m b o with
  | none => (m, .str "wild")
  | some a => (setH m t (getW m a), .none)
def leaveM (m : MS) : MS × D := if (!decide (m.sp = m.base)) = true then (m, .str "return") else if (!PyData.eqv (getW m m.base) m.back) = true then (m, .str "return") else (m, .none)
section
variable {Z : Type}
abbrev ZM (Z : Type) := Z × MS
/-- ends with the machine's step s -/
def ends (Q : DK (ZM Z)) (z : ZM Z) (s : MS × D) : Prop := Q (z.1, s.1) s.2
def d__in_bounds (ds : List D) : WE (ZM Z) := fun z Q => ∃ a, ds = [.int a] ∧ Q z (.bool (inB z.2 a))
def d__put (ds : List D) : WE (ZM Z) := fun z Q => ∃ a v, ds = [.int a, v] ∧ Val v ∧ z.2.words.length < sizeLine ∧ Q (z.1, putW z.2 a v) .none
def d__address (ds : List D) : WE (ZM Z) := fun z Q => ∃ r, ds = [.str r] ∧ isReg r = true ∧ MOk z.2 ∧ Q z (optD (adr z.2 r))
def d__word_for (ds : List D) : WE (ZM Z) := fun z Q => ∃ b o, ds = [.str b, .int o] ∧ (b = "sp" ∨ isReg b = true) ∧ MOk z.2 ∧ Q z (optD (wordFor z.2 b o))
def d__move_sp (ds : List D) : WE (ZM Z) := fun z Q => ∃ n, ds = [.int n] ∧ ends Q z (mvSp z.2 n)
abbrev Bas (b : Str) : Prop := b = "sp" ∨ isReg b = true
def d__push (ds : List D) : WE (ZM Z) := fun z Q => ∃ w r, ds = [.tuple [.str w, .str r]] ∧ isReg r = true ∧ MOk z.2 ∧ ends Q z (pushM z.2 r)
def d__pop (ds : List D) : WE (ZM Z) := fun z Q => ∃ w r, ds = [.tuple [.str w, .str r]] ∧ isReg r = true ∧ MOk z.2 ∧ ends Q z (popM z.2 r)
def d__grow (ds : List D) : WE (ZM Z) := fun z Q => ∃ w n, ds = [.tuple [.str w, .int n]] ∧ ends Q z (growM z.2 n)
def d__shrink (ds : List D) : WE (ZM Z) := fun z Q => ∃ w n, ds = [.tuple [.str w, .int n]] ∧ ends Q z (shrinkM z.2 n)
def d__move (ds : List D) : WE (ZM Z) := fun z Q => ∃ w t s, ds = [.tuple [.str w, .str t, .str s]] ∧ isReg t = true ∧ isReg s = true ∧ MOk z.2 ∧ ends Q z (moveM z.2 t s)
def d__point (ds : List D) : WE (ZM Z) := fun z Q => ∃ w t o, ds = [.tuple [.str w, .str t, .int o]] ∧ isReg t = true ∧ MOk z.2 ∧ ends Q z (pointM z.2 t o)
def d__setsp (ds : List D) : WE (ZM Z) := fun z Q => ∃ w r o, ds = [.tuple [.str w, .str r, .int o]] ∧ isReg r = true ∧ MOk z.2 ∧ ends Q z (setspM z.2 r o)
def d__work (ds : List D) : WE (ZM Z) := fun z Q => ∃ w t, ds = [.tuple [.str w, .str t]] ∧ isReg t = true ∧ MOk z.2 ∧ ends Q z (workM z.2 t)
def d__store (ds : List D) : WE (ZM Z) := fun z Q => ∃ w b o r, ds = [.tuple [.str w, .str b, .int o, .str r]] ∧ Bas b ∧ isReg r = true ∧ MOk z.2 ∧ ends Q z (storeM z.2 b o r)
def d__load (ds : List D) : WE (ZM Z) := fun z Q => ∃ w t b o, ds = [.tuple [.str w, .str t, .str b, .int o]] ∧ isReg t = true ∧ Bas b ∧ MOk z.2 ∧ ends Q z (loadM z.2 t b o)
def d__leave (ds : List D) : WE (ZM Z) := fun z Q => ∃ x, ds = [x] ∧ MOk z.2 ∧ ends Q z (leaveM z.2)
def d__stay (ds : List D) : WE (ZM Z) := fun z Q => ∃ x, ds = [x] ∧ ends Q z (z.2, .none)
variable {P : Program} {w : World} {K : PySem.W.Frag} {mg : Str → Option Value} {base : Heap} {G : Gd Z} {C p dx hd : Addr}
abbrev s__in_bounds : Stmt := top 23
abbrev n__in_bounds : List Str := ["state", "at"]
abbrev p__in_bounds : List Str := ["state", "at"]
theorem sc__in_bounds : FnScope n__in_bounds p__in_bounds (defScope s__in_bounds) := ⟨rfl, rfl, rfl, by decide +kernel, rfl, by decide +kernel, by decide +kernel⟩
theorem ok__in_bounds {f : Addr} {fd : FuncData} (F : Fd K mg "_in_bounds" s__in_bounds p__in_bounds f fd) (MK : MC K C) {v_MOST_WORDS : V} {u_MOST_WORDS : Value} (c_MOST_WORDS : KC K mg "MOST_WORDS" k_MOST_WORDS v_MOST_WORDS u_MOST_WORDS) :
    FnG P w K mg base CX0 1 f fd p__in_bounds (spS K (GM G K C p dx hd) (.ref p) 1 d__in_bounds) := by
  refine fn_body0 F.fn sc__in_bounds spS_len (fun cdv A outer s H vs Q E hg hr h => ?_)
  refine ⟨_, (pss_one (ps_ret (pe_chain op_le op_le (pe_op op_sub (pe_fld (pv 0) rfl) (pe_glob rfl c_MOST_WORDS.m c_MOST_WORDS.r)) (pv 1) (pe_fld (pv 0) rfl)))),
    body_ofS (es_ret fun ρ => (ev_chain (rw_I0 fun _ _ => sc_bl _) (rw_I0 fun _ _ => sc_bl _) (ev_op (rw_I0 fun _ _ => sc_int _) (ep_base MK).ev (ev_k c_MOST_WORDS.d)) ev_pv (ep_base MK).ev)) (fun ds z Q' hl hf => ?_) h (by decide)⟩
  obtain ⟨a, rfl, q⟩ := hf
  refine ⟨rfl, _, rfl, ?_⟩
  have q : Q' z (.bool (decide (z.2.base - 64 ≤ a) && decide (a ≤ z.2.base))) := q
  refine ⟨_, rfl, ?_⟩
  cases e : decide (z.2.base - 64 ≤ a) with
  | true => rw [e] at q; exact ⟨rfl, q⟩
  | false => rw [e] at q; exact q

abbrev s__put : Stmt := top 24
abbrev n__put : List Str := ["state", "at", "value"]
abbrev p__put : List Str := ["state", "at", "value"]
theorem sc__put : FnScope n__put p__put (defScope s__put) := ⟨rfl, rfl, rfl, by decide +kernel, rfl, by decide +kernel, by decide +kernel⟩
theorem ok__put {f : Addr} {fd : FuncData} (F : Fd K mg "_put" s__put p__put f fd) (MK : MC K C) {v_ANY : V} {u_ANY : Value} (c_ANY : KC K mg "ANY" k_ANY v_ANY u_ANY) :
    FnG P w K mg base CX0 1 f fd p__put (spS K (GM G K C p dx hd) (.ref p) 2 d__put) := by
  refine fn_body0 F.fn sc__put spS_len (fun cdv A outer s H vs Q E hg hr h => ?_)
  refine ⟨_, (pss_one (ps_if (pt_cmpR (op_eqA hr.units) (pv 2) (pe_glob rfl c_ANY.m c_ANY.r) (nomark _)) (pss_one (ps_expr (pe_dpop2 (pe_fld (pv 0) rfl) (pv 1) pe_non ⟨rfl, rfl, rfl, rfl⟩))) (pss_one (ps_dput (hu_of hr) (pe_fld (pv 0) rfl) (pv 1) (pv 2) rfl)))),
    body_ofS (es_if (fun ρ => (et_test (ev_op rw_eq ev_pv (ev_k c_ANY.d)))) (es_drop fun ρ => (ev_wpop MK ep_pv)) (es_wput MK (fun ρ => ev_pv) (fun ρ => ep_pv))) (fun ds z Q' hl hf => ?_) h (by decide)⟩
  obtain ⟨a, v, rfl, vv, hl', q⟩ := hf
  unfold putW at q
  refine ⟨_, rfl, ?_⟩
  have hsc : scEq v k_ANY = none := by cases vv <;> rfl
  refine dEq_none hsc vv.flat rfl vv.shaped Val.any.shaped ⟨_, rfl, ?_⟩
  have e0 : PyData.eqv v k_ANY = isAny v := rfl
  rw [e0]
  cases e : isAny v with
  | true => rw [e] at q; exact ⟨rfl, _, rfl, _, rfl, q⟩
  | false => rw [e] at q; exact ⟨_, rfl, rfl, _, rfl, _, rfl, hl', q⟩

abbrev s__address : Stmt := top 25
abbrev n__address : List Str := ["state", "name", "value"]
abbrev p__address : List Str := ["state", "name"]
theorem sc__address : FnScope n__address p__address (defScope s__address) := ⟨rfl, rfl, rfl, by decide +kernel, rfl, by decide +kernel, by decide +kernel⟩
theorem ok__address {f : Addr} {fd : FuncData} (F : Fd K mg "_address" s__address p__address f fd) (MK : MC K C) :
    FnG P w K mg base CX0 1 f fd p__address (spS K (GM G K C p dx hd) (.ref p) 1 d__address) := by
  refine fn_body0 F.fn sc__address spS_len (fun cdv A outer s H vs Q E hg hr h => ?_)
  refine ⟨_, (pss_cons (ps_set (i := 2) sc__address.nd rfl (by first | exact Or.inl rfl | exact Or.inr rfl) (pe_dget (hu_of hr) (pe_fld (pv 0) rfl) (pv 1) (fun _ _ => rfl)))
      (pss_cons (ps_if (PW.pt (pw_and (pt_cmpR (op_eqA hr.units) (pe_ix ix_seq (pv 2) pe_int (fun _ _ => rfl)) pe_str (nomark _)) (pw_and1 (pt_cmpR (op_eqA hr.units) (pe_ix ix_seq (pv 2) pe_int (fun _ _ => rfl)) (pe_fld (pv 0) rfl) (nomark _))))) (pss_one (ps_ret (pe_ix ix_seq (pv 2) pe_int (fun _ _ => rfl)))) pss_nil)
      (pss_one (ps_ret pe_non)))),
    body_ofS (es_seq (es_asg (fun ρ => (ep_held MK ep_pv).ev) eg_name)
      (es_seq (es_if (fun ρ => (et_and (et_test (ev_op rw_eq (ev_op rw_ix ev_pv (ev_c (sc_int _))) (ev_c (sc_str _)))) (et_test (ev_op rw_eq (ev_op rw_ix ev_pv (ev_c (sc_int _))) (ep_number MK).ev)))) (es_ret fun ρ => (ev_op rw_ix ev_pv (ev_c (sc_int _)))) es_next)
      (es_ret fun ρ => (ev_c sc_non)))) (fun ds z Q' hl hf => ?_) h (by decide)⟩
  obtain ⟨r, rfl, hr', ok, q⟩ := hf
  obtain ⟨e1, vv⟩ := ok.reg hr'
  refine ⟨rfl, _, rfl, _, _, rfl, e1, ?_⟩
  unfold adr at q
  generalize getH z.2 r = v at e1 vv q
  cases vv with
  | any => exact ⟨_, rfl, _, rfl, _, rfl, iteD (fun e => absurd e ka) fun _ => q⟩
  | first r h => exact ⟨_, rfl, _, rfl, _, rfl, iteD (fun e => absurd e kf) fun _ => q⟩
  | back f i h => exact ⟨_, rfl, _, rfl, _, rfl, iteD (fun e => absurd e kb) fun _ => q⟩
  | word n k =>
    refine ⟨_, rfl, _, rfl, _, rfl, iteD (fun _ => ?_) fun e => absurd rfl e⟩
    have q : Q' z (optD (if ("word" : Str) = "word" then (if n = z.2.num then some k else none) else none)) := q
    rw [if_pos rfl] at q
    refine ⟨_, rfl, _, rfl, rfl, _, rfl, iteD (fun e => ?_) fun e => ?_⟩
    · rw [if_pos e] at q
      exact ⟨_, rfl, _, rfl, q⟩
    · rw [if_neg e] at q
      exact q

abbrev s__word_for : Stmt := top 26
abbrev n__word_for : List Str := ["state", "basis", "offset", "start"]
abbrev p__word_for : List Str := ["state", "basis", "offset"]
theorem sc__word_for : FnScope n__word_for p__word_for (defScope s__word_for) := ⟨rfl, rfl, rfl, by decide +kernel, rfl, by decide +kernel, by decide +kernel⟩
theorem ok__word_for {f : Addr} {fd : FuncData} (F : Fd K mg "_word_for" s__word_for p__word_for f fd) (MK : MC K C) {f__address : Addr} {fd__address : FuncData} (F__address : Fd K mg "_address" s__address p__address f__address fd__address) (G__address : FnG P w K mg base CX0 1 f__address fd__address p__address (spS K (GM G K C p dx hd) (.ref p) 1 d__address)) {f__in_bounds : Addr} {fd__in_bounds : FuncData} (F__in_bounds : Fd K mg "_in_bounds" s__in_bounds p__in_bounds f__in_bounds fd__in_bounds) (G__in_bounds : FnG P w K mg base CX0 1 f__in_bounds fd__in_bounds p__in_bounds (spS K (GM G K C p dx hd) (.ref p) 1 d__in_bounds)) :
    FnG P w K mg base CX0 2 f fd p__word_for (spS K (GM G K C p dx hd) (.ref p) 2 d__word_for) := by
  refine fn_body0 F.fn sc__word_for spS_len (fun cdv A outer s H vs Q E hg hr h => ?_)
  refine ⟨_, (pss_cons (ps_set (i := 3) sc__word_for.nd rfl (by first | exact Or.inl rfl | exact Or.inr rfl) (pe_ifExp (pt_cmpR (op_eqA hr.units) (pv 1) pe_str (nomark _)) (pe_fld (pv 0) rfl) (pe_callG G__address hg (hr.mono (by decide)) rfl F__address.mg F__address.fn.kp F__address.b .nil pass0 (pa_cons (pv 0) (pa_cons (pv 1) pa_nil)))))
      (pss_cons (ps_if (PW.pt (pw_or (pt_cmpR op_isN (pv 3) pe_non (nomark _)) (pw_or1 (pt_not (pt_val (pe_callG G__in_bounds hg (hr.mono (by decide)) rfl F__in_bounds.mg F__in_bounds.fn.kp F__in_bounds.b .nil pass0 (pa_cons (pv 0) (pa_cons (pe_op op_addA (pv 3) (pv 2)) pa_nil)))))))) (pss_one (ps_ret pe_non)) pss_nil)
      (pss_one (ps_ret (pe_op op_addA (pv 3) (pv 2)))))),
    body_ofS (es_seq (es_asg (fun ρ => (ev_if (et_test (ev_op rw_eq ev_pv (ev_c (sc_str _)))) (ep_sp MK).ev (ev_callSt (ea_cons ev_pv ea_nil)))) eg_name)
      (es_seq (es_if (fun ρ => (et_or (et_test (ev_op rw_isN ev_pv (ev_c sc_non))) (et_not (et_B (ev_callSt (ea_cons (ev_op rw_add ev_pv ev_pv) ea_nil)))))) (es_ret fun ρ => (ev_c sc_non)) es_next)
      (es_ret fun ρ => (ev_op rw_add ev_pv ev_pv)))) (fun ds z Q' hl hf => ?_) h (by decide)⟩
  obtain ⟨b, o, rfl, hb, ok, q⟩ := hf
  unfold wordFor at q
  refine ⟨_, rfl, _, rfl, iteD (fun e => ?_) (fun e => ?_)⟩
  · rw [if_pos e] at q
    have q : Q' z (optD (if inB z.2 (z.2.sp + o) = true then some (z.2.sp + o) else none)) := q
    refine ⟨rfl, _, rfl, rfl, _, rfl, rfl, _, rfl, _, rfl, _, rfl, _, rfl, ?_⟩
    cases e2 : inB z.2 (z.2.sp + o) with
    | true => rw [e2] at q; exact ⟨_, rfl, _, rfl, q⟩
    | false => rw [e2] at q; exact q
  · rw [if_neg e] at q
    refine ⟨rfl, _, rfl, b, rfl, hb.resolve_left e, ok, ?_⟩
    cases e3 : adr z.2 b with
    | none => rw [e3] at q; exact ⟨_, rfl, rfl, _, rfl, q⟩
    | some s' =>
      rw [e3] at q
      have q : Q' z (optD (if inB z.2 (s' + o) = true then some (s' + o) else none)) := q
      refine ⟨_, rfl, rfl, _, rfl, rfl, _, rfl, _, rfl, _, rfl, _, rfl, ?_⟩
      cases e2 : inB z.2 (s' + o) with
      | true => rw [e2] at q; exact ⟨_, rfl, _, rfl, q⟩
      | false => rw [e2] at q; exact q

abbrev s__move_sp : Stmt := top 27
abbrev n__move_sp : List Str := ["state", "sp"]
abbrev p__move_sp : List Str := ["state", "sp"]
theorem sc__move_sp : FnScope n__move_sp p__move_sp (defScope s__move_sp) := ⟨rfl, rfl, rfl, by decide +kernel, rfl, by decide +kernel, by decide +kernel⟩
theorem ok__move_sp {f : Addr} {fd : FuncData} (F : Fd K mg "_move_sp" s__move_sp p__move_sp f fd) (MK : MC K C) {f__in_bounds : Addr} {fd__in_bounds : FuncData} (F__in_bounds : Fd K mg "_in_bounds" s__in_bounds p__in_bounds f__in_bounds fd__in_bounds) (G__in_bounds : FnG P w K mg base CX0 1 f__in_bounds fd__in_bounds p__in_bounds (spS K (GM G K C p dx hd) (.ref p) 1 d__in_bounds)) :
    FnG P w K mg base CX0 2 f fd p__move_sp (spS K (GM G K C p dx hd) (.ref p) 1 d__move_sp) := by
  refine fn_body0 F.fn sc__move_sp spS_len (fun cdv A outer s H vs Q E hg hr h => ?_)
  refine ⟨_, (pss_cons (ps_if (pt_not (pt_val (pe_callG G__in_bounds hg (hr.mono (by decide)) rfl F__in_bounds.mg F__in_bounds.fn.kp F__in_bounds.b .nil pass0 (pa_cons (pv 0) (pa_cons (pv 1) pa_nil))))) (pss_one (ps_ret pe_str)) pss_nil)
      (pss_cons (ps_fld (pv 0) (pv 1) rfl)
      (pss_one (ps_ret pe_non)))),
    body_ofS (es_seq (es_if (fun ρ => (et_not (et_B (ev_callSt (ea_cons ev_pv ea_nil))))) (es_ret fun ρ => (ev_c (sc_str _))) es_next)
      (es_seq (es_sp MK fun ρ => ev_pv)
      (es_ret fun ρ => (ev_c sc_non)))) (fun ds z Q' hl hf => ?_) h (by decide)⟩
  obtain ⟨n, rfl, q⟩ := hf
  unfold mvSp ends at q
  refine ⟨rfl, _, rfl, _, rfl, _, rfl, ?_⟩
  cases e : inB z.2 n with
  | true => rw [e] at q; exact ⟨_, rfl, _, rfl, rfl, q⟩
  | false => rw [e] at q; exact q

abbrev s__push : Stmt := top 28
abbrev n__push : List Str := ["state", "instruction", "broken", "_", "source"]
abbrev p__push : List Str := ["state", "instruction"]
theorem sc__push : FnScope n__push p__push (defScope s__push) := ⟨rfl, rfl, rfl, by decide +kernel, rfl, by decide +kernel, by decide +kernel⟩
theorem ok__push {f : Addr} {fd : FuncData} (F : Fd K mg "_push" s__push p__push f fd) (MK : MC K C) {f__move_sp : Addr} {fd__move_sp : FuncData} (F__move_sp : Fd K mg "_move_sp" s__move_sp p__move_sp f__move_sp fd__move_sp) (G__move_sp : FnG P w K mg base CX0 2 f__move_sp fd__move_sp p__move_sp (spS K (GM G K C p dx hd) (.ref p) 1 d__move_sp)) {f__put : Addr} {fd__put : FuncData} (F__put : Fd K mg "_put" s__put p__put f__put fd__put) (G__put : FnG P w K mg base CX0 1 f__put fd__put p__put (spS K (GM G K C p dx hd) (.ref p) 2 d__put)) :
    FnG P w K mg base CX0 3 f fd p__push (spS K (GM G K C p dx hd) (.ref p) 1 d__push) := by
  refine fn_body0 F.fn sc__push spS_len (fun cdv A outer s H vs Q E hg hr h => ?_)
  refine ⟨_, (pss_cons (ps_asg (pv 1) (pg_tup (n := 2) rfl (pgs_cons (pg_name (i := 3) sc__push.nd rfl (by first | exact Or.inl rfl | exact Or.inr rfl)) (pgs_cons (pg_name (i := 4) sc__push.nd rfl (by first | exact Or.inl rfl | exact Or.inr rfl)) pgs_nil))))
      (pss_cons (ps_set (i := 2) sc__push.nd rfl (by first | exact Or.inl rfl | exact Or.inr rfl) (pe_callG G__move_sp hg (hr.mono (by decide)) rfl F__move_sp.mg F__move_sp.fn.kp F__move_sp.b .nil pass0 (pa_cons (pv 0) (pa_cons (pe_op op_sub (pe_fld (pv 0) rfl) pe_int) pa_nil))))
      (pss_cons (ps_if (pt_cmpR op_isN (pv 2) pe_non (nomark _)) (pss_one (ps_expr (pe_callG G__put hg (hr.mono (by decide)) rfl F__put.mg F__put.fn.kp F__put.b .nil pass0 (pa_cons (pv 0) (pa_cons (pe_fld (pv 0) rfl) (pa_cons (pe_dget (hu_of hr) (pe_fld (pv 0) rfl) (pv 4) (fun _ _ => rfl)) pa_nil)))))) pss_nil)
      (pss_one (ps_ret (pv 2)))))),
    body_ofS (es_seq (es_asg (fun ρ => ev_pv) (eg_tup (egs_cons eg_name (egs_cons eg_name egs_nil))))
      (es_seq (es_asg (fun ρ => (ev_callSt (ea_cons (ev_op (rw_I0 fun _ _ => sc_int _) (ep_sp MK).ev (ev_c (sc_int _))) ea_nil))) eg_name)
      (es_seq (es_if (fun ρ => (et_test (ev_op rw_isN ev_pv (ev_c sc_non)))) (es_drop fun ρ => (ev_callSt (ea_cons (ep_sp MK).ev (ea_cons (ep_held MK ep_pv).ev ea_nil)))) es_next)
      (es_ret fun ρ => ev_pv)))) (fun ds z Q' hl hf => ?_) h (by decide)⟩
  obtain ⟨w, r, rfl, hr', ok, q⟩ := hf
  obtain ⟨e1, vv⟩ := ok.reg hr'
  unfold pushM ends at q
  refine ⟨_, rfl, _, rfl, rfl, _, _, rfl, _, _, rfl, rfl, rfl, rfl, _, rfl, ?_⟩
  unfold mvSp ends
  cases e : inB z.2 (z.2.sp - 1) with
  | true =>
    rw [e] at q
    refine ⟨_, rfl, rfl, _, rfl, rfl, rfl, rfl, _, rfl, _, _, rfl, e1, _, _, rfl, vv, ok.wlen, _, rfl, q⟩
  | false =>
    rw [e] at q
    exact ⟨_, rfl, rfl, _, rfl, _, rfl, q⟩

abbrev s__pop : Stmt := top 29
abbrev n__pop : List Str := ["state", "instruction", "value", "broken", "_", "target"]
abbrev p__pop : List Str := ["state", "instruction"]
theorem sc__pop : FnScope n__pop p__pop (defScope s__pop) := ⟨rfl, rfl, rfl, by decide +kernel, rfl, by decide +kernel, by decide +kernel⟩
theorem ok__pop {f : Addr} {fd : FuncData} (F : Fd K mg "_pop" s__pop p__pop f fd) (MK : MC K C) {f__move_sp : Addr} {fd__move_sp : FuncData} (F__move_sp : Fd K mg "_move_sp" s__move_sp p__move_sp f__move_sp fd__move_sp) (G__move_sp : FnG P w K mg base CX0 2 f__move_sp fd__move_sp p__move_sp (spS K (GM G K C p dx hd) (.ref p) 1 d__move_sp)) {v_ANY : V} {u_ANY : Value} (c_ANY : KC K mg "ANY" k_ANY v_ANY u_ANY) :
    FnG P w K mg base CX0 3 f fd p__pop (spS K (GM G K C p dx hd) (.ref p) 1 d__pop) := by
  refine fn_body0 F.fn sc__pop spS_len (fun cdv A outer s H vs Q E hg hr h => ?_)
  refine ⟨_, (pss_cons (ps_asg (pv 1) (pg_tup (n := 2) rfl (pgs_cons (pg_name (i := 4) sc__pop.nd rfl (by first | exact Or.inl rfl | exact Or.inr rfl)) (pgs_cons (pg_name (i := 5) sc__pop.nd rfl (by first | exact Or.inl rfl | exact Or.inr rfl)) pgs_nil))))
      (pss_cons (ps_set (i := 2) sc__pop.nd rfl (by first | exact Or.inl rfl | exact Or.inr rfl) (pe_dget2 (hu_of hr) (pe_fld (pv 0) rfl) (pe_fld (pv 0) rfl) (pe_glob rfl c_ANY.m c_ANY.r) ⟨rfl, rfl, rfl, rfl⟩))
      (pss_cons (ps_set (i := 3) sc__pop.nd rfl (by first | exact Or.inl rfl | exact Or.inr rfl) (pe_callG G__move_sp hg (hr.mono (by decide)) rfl F__move_sp.mg F__move_sp.fn.kp F__move_sp.b .nil pass0 (pa_cons (pv 0) (pa_cons (pe_op op_addA (pe_fld (pv 0) rfl) pe_int) pa_nil))))
      (pss_cons (ps_if (pt_cmpR op_isN (pv 3) pe_non (nomark _)) (pss_one (ps_dput (hu_of hr) (pe_fld (pv 0) rfl) (pv 5) (pv 2) rfl)) pss_nil)
      (pss_one (ps_ret (pv 3))))))),
    body_ofS (es_seq (es_asg (fun ρ => ev_pv) (eg_tup (egs_cons eg_name (egs_cons eg_name egs_nil))))
      (es_seq (es_asg (fun ρ => (ep_wget MK (ep_sp MK) (ep_k c_ANY.d)).ev) eg_name)
      (es_seq (es_asg (fun ρ => (ev_callSt (ea_cons (ev_op rw_add (ep_sp MK).ev (ev_c (sc_int _))) ea_nil))) eg_name)
      (es_seq (es_if (fun ρ => (et_test (ev_op rw_isN ev_pv (ev_c sc_non)))) (es_hput MK (fun ρ => ev_pv) (fun ρ => ep_pv)) es_next)
      (es_ret fun ρ => ev_pv))))) (fun ds z Q' hl hf => ?_) h (by decide)⟩
  obtain ⟨w, r, rfl, hr', ok, q⟩ := hf
  unfold popM ends at q
  refine ⟨_, rfl, _, rfl, rfl, _, _, rfl, _, _, rfl, rfl, rfl, rfl, _, rfl, rfl, rfl, _, rfl, ?_⟩
  unfold mvSp ends
  cases e : inB z.2 (z.2.sp + 1) with
  | true =>
    rw [e] at q
    refine ⟨_, rfl, rfl, _, rfl, _, rfl, rfl, _, rfl, _, rfl, ok.len, _, rfl, q⟩
  | false =>
    rw [e] at q
    exact ⟨_, rfl, rfl, _, rfl, _, rfl, q⟩

abbrev s__grow : Stmt := top 30
abbrev n__grow : List Str := ["state", "instruction", "_", "many"]
abbrev p__grow : List Str := ["state", "instruction"]
theorem sc__grow : FnScope n__grow p__grow (defScope s__grow) := ⟨rfl, rfl, rfl, by decide +kernel, rfl, by decide +kernel, by decide +kernel⟩
theorem ok__grow {f : Addr} {fd : FuncData} (F : Fd K mg "_grow" s__grow p__grow f fd) (MK : MC K C) {f__move_sp : Addr} {fd__move_sp : FuncData} (F__move_sp : Fd K mg "_move_sp" s__move_sp p__move_sp f__move_sp fd__move_sp) (G__move_sp : FnG P w K mg base CX0 2 f__move_sp fd__move_sp p__move_sp (spS K (GM G K C p dx hd) (.ref p) 1 d__move_sp)) :
    FnG P w K mg base CX0 3 f fd p__grow (spS K (GM G K C p dx hd) (.ref p) 1 d__grow) := by
  refine fn_body0 F.fn sc__grow spS_len (fun cdv A outer s H vs Q E hg hr h => ?_)
  refine ⟨_, (pss_cons (ps_asg (pv 1) (pg_tup (n := 2) rfl (pgs_cons (pg_name (i := 2) sc__grow.nd rfl (by first | exact Or.inl rfl | exact Or.inr rfl)) (pgs_cons (pg_name (i := 3) sc__grow.nd rfl (by first | exact Or.inl rfl | exact Or.inr rfl)) pgs_nil))))
      (pss_one (ps_ret (pe_callG G__move_sp hg (hr.mono (by decide)) rfl F__move_sp.mg F__move_sp.fn.kp F__move_sp.b .nil pass0 (pa_cons (pv 0) (pa_cons (pe_op op_sub (pe_fld (pv 0) rfl) (pv 3)) pa_nil)))))),
    body_ofS (es_seq (es_asg (fun ρ => ev_pv) (eg_tup (egs_cons eg_name (egs_cons eg_name egs_nil))))
      (es_ret fun ρ => (ev_callSt (ea_cons (ev_op (rw_I0 fun _ _ => sc_int _) (ep_sp MK).ev ev_pv) ea_nil)))) (fun ds z Q' hl hf => ?_) h (by decide)⟩
  obtain ⟨w, n, rfl, q⟩ := hf
  exact ⟨_, rfl, _, rfl, rfl, _, _, rfl, _, _, rfl, rfl, rfl, rfl, _, rfl, _, rfl, q⟩

abbrev s__shrink : Stmt := top 31
abbrev n__shrink : List Str := ["state", "instruction", "_", "many"]
abbrev p__shrink : List Str := ["state", "instruction"]
theorem sc__shrink : FnScope n__shrink p__shrink (defScope s__shrink) := ⟨rfl, rfl, rfl, by decide +kernel, rfl, by decide +kernel, by decide +kernel⟩
theorem ok__shrink {f : Addr} {fd : FuncData} (F : Fd K mg "_shrink" s__shrink p__shrink f fd) (MK : MC K C) {f__move_sp : Addr} {fd__move_sp : FuncData} (F__move_sp : Fd K mg "_move_sp" s__move_sp p__move_sp f__move_sp fd__move_sp) (G__move_sp : FnG P w K mg base CX0 2 f__move_sp fd__move_sp p__move_sp (spS K (GM G K C p dx hd) (.ref p) 1 d__move_sp)) :
    FnG P w K mg base CX0 3 f fd p__shrink (spS K (GM G K C p dx hd) (.ref p) 1 d__shrink) := by
  refine fn_body0 F.fn sc__shrink spS_len (fun cdv A outer s H vs Q E hg hr h => ?_)
  refine ⟨_, (pss_cons (ps_asg (pv 1) (pg_tup (n := 2) rfl (pgs_cons (pg_name (i := 2) sc__shrink.nd rfl (by first | exact Or.inl rfl | exact Or.inr rfl)) (pgs_cons (pg_name (i := 3) sc__shrink.nd rfl (by first | exact Or.inl rfl | exact Or.inr rfl)) pgs_nil))))
      (pss_one (ps_ret (pe_callG G__move_sp hg (hr.mono (by decide)) rfl F__move_sp.mg F__move_sp.fn.kp F__move_sp.b .nil pass0 (pa_cons (pv 0) (pa_cons (pe_op op_addA (pe_fld (pv 0) rfl) (pv 3)) pa_nil)))))),
    body_ofS (es_seq (es_asg (fun ρ => ev_pv) (eg_tup (egs_cons eg_name (egs_cons eg_name egs_nil))))
      (es_ret fun ρ => (ev_callSt (ea_cons (ev_op rw_add (ep_sp MK).ev ev_pv) ea_nil)))) (fun ds z Q' hl hf => ?_) h (by decide)⟩
  obtain ⟨w, n, rfl, q⟩ := hf
  exact ⟨_, rfl, _, rfl, rfl, _, _, rfl, _, _, rfl, rfl, rfl, rfl, _, rfl, _, rfl, q⟩

abbrev s__move : Stmt := top 32
abbrev n__move : List Str := ["state", "instruction", "_", "target", "source"]
abbrev p__move : List Str := ["state", "instruction"]
theorem sc__move : FnScope n__move p__move (defScope s__move) := ⟨rfl, rfl, rfl, by decide +kernel, rfl, by decide +kernel, by decide +kernel⟩
theorem ok__move {f : Addr} {fd : FuncData} (F : Fd K mg "_move" s__move p__move f fd) (MK : MC K C) :
    FnG P w K mg base CX0 1 f fd p__move (spS K (GM G K C p dx hd) (.ref p) 1 d__move) := by
  refine fn_body0 F.fn sc__move spS_len (fun cdv A outer s H vs Q E hg hr h => ?_)
  refine ⟨_, (pss_cons (ps_asg (pv 1) (pg_tup (n := 3) rfl (pgs_cons (pg_name (i := 2) sc__move.nd rfl (by first | exact Or.inl rfl | exact Or.inr rfl)) (pgs_cons (pg_name (i := 3) sc__move.nd rfl (by first | exact Or.inl rfl | exact Or.inr rfl)) (pgs_cons (pg_name (i := 4) sc__move.nd rfl (by first | exact Or.inl rfl | exact Or.inr rfl)) pgs_nil)))))
      (pss_cons (ps_dput (hu_of hr) (pe_fld (pv 0) rfl) (pv 3) (pe_dget (hu_of hr) (pe_fld (pv 0) rfl) (pv 4) (fun _ _ => rfl)) rfl)
      (pss_one (ps_ret pe_non)))),
    body_ofS (es_seq (es_asg (fun ρ => ev_pv) (eg_tup (egs_cons eg_name (egs_cons eg_name (egs_cons eg_name egs_nil)))))
      (es_seq (es_hput MK (fun ρ => (ep_held MK ep_pv).ev) (fun ρ => ep_pv))
      (es_ret fun ρ => (ev_c sc_non)))) (fun ds z Q' hl hf => ?_) h (by decide)⟩
  obtain ⟨w, t, s', rfl, ht, hs, ok, q⟩ := hf
  obtain ⟨e1, vv⟩ := ok.reg hs
  exact ⟨_, rfl, _, rfl, rfl, _, _, rfl, _, _, rfl, _, _, rfl, rfl, rfl, _, rfl, _, _, rfl, e1, rfl, _, rfl, _, rfl, ok.len, q⟩

abbrev s__point : Stmt := top 33
abbrev n__point : List Str := ["state", "instruction", "_", "target", "offset"]
abbrev p__point : List Str := ["state", "instruction"]
theorem sc__point : FnScope n__point p__point (defScope s__point) := ⟨rfl, rfl, rfl, by decide +kernel, rfl, by decide +kernel, by decide +kernel⟩
theorem ok__point {f : Addr} {fd : FuncData} (F : Fd K mg "_point" s__point p__point f fd) (MK : MC K C) :
    FnG P w K mg base CX0 1 f fd p__point (spS K (GM G K C p dx hd) (.ref p) 1 d__point) := by
  refine fn_body0 F.fn sc__point spS_len (fun cdv A outer s H vs Q E hg hr h => ?_)
  refine ⟨_, (pss_cons (ps_asg (pv 1) (pg_tup (n := 3) rfl (pgs_cons (pg_name (i := 2) sc__point.nd rfl (by first | exact Or.inl rfl | exact Or.inr rfl)) (pgs_cons (pg_name (i := 3) sc__point.nd rfl (by first | exact Or.inl rfl | exact Or.inr rfl)) (pgs_cons (pg_name (i := 4) sc__point.nd rfl (by first | exact Or.inl rfl | exact Or.inr rfl)) pgs_nil)))))
      (pss_cons (ps_dput (hu_of hr) (pe_fld (pv 0) rfl) (pv 3) (pe_tup (pa_cons pe_str (pa_cons (pe_fld (pv 0) rfl) (pa_cons (pe_op op_addA (pe_fld (pv 0) rfl) (pv 4)) pa_nil)))) rfl)
      (pss_one (ps_ret pe_non)))),
    body_ofS (es_seq (es_asg (fun ρ => ev_pv) (eg_tup (egs_cons eg_name (egs_cons eg_name (egs_cons eg_name egs_nil)))))
      (es_seq (es_hput MK (fun ρ => (ev_tup (ea_cons (ev_c (sc_str _)) (ea_cons (ep_number MK).ev (ea_cons (ev_op rw_add (ep_sp MK).ev ev_pv) ea_nil))))) (fun ρ => ep_pv))
      (es_ret fun ρ => (ev_c sc_non)))) (fun ds z Q' hl hf => ?_) h (by decide)⟩
  obtain ⟨w, t, o, rfl, ht, ok, q⟩ := hf
  exact ⟨_, rfl, _, rfl, rfl, _, _, rfl, _, _, rfl, _, _, rfl, rfl, rfl, rfl, _, rfl, rfl, _, rfl, _, rfl, ok.len, q⟩

abbrev s__setsp : Stmt := top 34
abbrev n__setsp : List Str := ["state", "instruction", "start", "_", "source", "offset"]
abbrev p__setsp : List Str := ["state", "instruction"]
theorem sc__setsp : FnScope n__setsp p__setsp (defScope s__setsp) := ⟨rfl, rfl, rfl, by decide +kernel, rfl, by decide +kernel, by decide +kernel⟩
theorem ok__setsp {f : Addr} {fd : FuncData} (F : Fd K mg "_setsp" s__setsp p__setsp f fd) (MK : MC K C) {f__address : Addr} {fd__address : FuncData} (F__address : Fd K mg "_address" s__address p__address f__address fd__address) (G__address : FnG P w K mg base CX0 1 f__address fd__address p__address (spS K (GM G K C p dx hd) (.ref p) 1 d__address)) {f__move_sp : Addr} {fd__move_sp : FuncData} (F__move_sp : Fd K mg "_move_sp" s__move_sp p__move_sp f__move_sp fd__move_sp) (G__move_sp : FnG P w K mg base CX0 2 f__move_sp fd__move_sp p__move_sp (spS K (GM G K C p dx hd) (.ref p) 1 d__move_sp)) :
    FnG P w K mg base CX0 3 f fd p__setsp (spS K (GM G K C p dx hd) (.ref p) 1 d__setsp) := by
  refine fn_body0 F.fn sc__setsp spS_len (fun cdv A outer s H vs Q E hg hr h => ?_)
  refine ⟨_, (pss_cons (ps_asg (pv 1) (pg_tup (n := 3) rfl (pgs_cons (pg_name (i := 3) sc__setsp.nd rfl (by first | exact Or.inl rfl | exact Or.inr rfl)) (pgs_cons (pg_name (i := 4) sc__setsp.nd rfl (by first | exact Or.inl rfl | exact Or.inr rfl)) (pgs_cons (pg_name (i := 5) sc__setsp.nd rfl (by first | exact Or.inl rfl | exact Or.inr rfl)) pgs_nil)))))
      (pss_cons (ps_set (i := 2) sc__setsp.nd rfl (by first | exact Or.inl rfl | exact Or.inr rfl) (pe_callG G__address hg (hr.mono (by decide)) rfl F__address.mg F__address.fn.kp F__address.b .nil pass0 (pa_cons (pv 0) (pa_cons (pv 4) pa_nil))))
      (pss_cons (ps_if (pt_cmpR op_isN (pv 2) pe_non (nomark _)) (pss_one (ps_ret pe_str)) pss_nil)
      (pss_one (ps_ret (pe_callG G__move_sp hg (hr.mono (by decide)) rfl F__move_sp.mg F__move_sp.fn.kp F__move_sp.b .nil pass0 (pa_cons (pv 0) (pa_cons (pe_op op_addA (pv 2) (pv 5)) pa_nil)))))))),
    body_ofS (es_seq (es_asg (fun ρ => ev_pv) (eg_tup (egs_cons eg_name (egs_cons eg_name (egs_cons eg_name egs_nil)))))
      (es_seq (es_asg (fun ρ => (ev_callSt (ea_cons ev_pv ea_nil))) eg_name)
      (es_seq (es_if (fun ρ => (et_test (ev_op rw_isN ev_pv (ev_c sc_non)))) (es_ret fun ρ => (ev_c (sc_str _))) es_next)
      (es_ret fun ρ => (ev_callSt (ea_cons (ev_op rw_add ev_pv ev_pv) ea_nil)))))) (fun ds z Q' hl hf => ?_) h (by decide)⟩
  obtain ⟨w, r, o, rfl, hr', ok, q⟩ := hf
  unfold setspM at q
  refine ⟨_, rfl, _, rfl, rfl, _, _, rfl, _, _, rfl, _, _, rfl, rfl, rfl, _, rfl, _, rfl, hr', ok, ?_⟩
  cases e : adr z.2 r with
  | none => rw [e] at q; exact ⟨_, rfl, rfl, _, rfl, q⟩
  | some s' => rw [e] at q; exact ⟨_, rfl, rfl, _, rfl, rfl, _, rfl, _, rfl, _, rfl, q⟩

abbrev s__work : Stmt := top 35
abbrev n__work : List Str := ["state", "instruction", "_", "target"]
abbrev p__work : List Str := ["state", "instruction"]
theorem sc__work : FnScope n__work p__work (defScope s__work) := ⟨rfl, rfl, rfl, by decide +kernel, rfl, by decide +kernel, by decide +kernel⟩
theorem ok__work {f : Addr} {fd : FuncData} (F : Fd K mg "_work" s__work p__work f fd) (MK : MC K C) {v_ANY : V} {u_ANY : Value} (c_ANY : KC K mg "ANY" k_ANY v_ANY u_ANY) :
    FnG P w K mg base CX0 1 f fd p__work (spS K (GM G K C p dx hd) (.ref p) 1 d__work) := by
  refine fn_body0 F.fn sc__work spS_len (fun cdv A outer s H vs Q E hg hr h => ?_)
  refine ⟨_, (pss_cons (ps_asg (pv 1) (pg_tup (n := 2) rfl (pgs_cons (pg_name (i := 2) sc__work.nd rfl (by first | exact Or.inl rfl | exact Or.inr rfl)) (pgs_cons (pg_name (i := 3) sc__work.nd rfl (by first | exact Or.inl rfl | exact Or.inr rfl)) pgs_nil))))
      (pss_cons (ps_dput (hu_of hr) (pe_fld (pv 0) rfl) (pv 3) (pe_glob rfl c_ANY.m c_ANY.r) rfl)
      (pss_one (ps_ret pe_non)))),
    body_ofS (es_seq (es_asg (fun ρ => ev_pv) (eg_tup (egs_cons eg_name (egs_cons eg_name egs_nil))))
      (es_seq (es_hput MK (fun ρ => (ev_k c_ANY.d)) (fun ρ => ep_pv))
      (es_ret fun ρ => (ev_c sc_non)))) (fun ds z Q' hl hf => ?_) h (by decide)⟩
  obtain ⟨w, t, rfl, ht, ok, q⟩ := hf
  exact ⟨_, rfl, _, rfl, rfl, _, _, rfl, _, _, rfl, rfl, rfl, _, rfl, _, rfl, ok.len, q⟩

abbrev s__store : Stmt := top 36
abbrev n__store : List Str := ["state", "instruction", "at", "_", "basis", "offset", "source"]
abbrev p__store : List Str := ["state", "instruction"]
theorem sc__store : FnScope n__store p__store (defScope s__store) := ⟨rfl, rfl, rfl, by decide +kernel, rfl, by decide +kernel, by decide +kernel⟩
theorem ok__store {f : Addr} {fd : FuncData} (F : Fd K mg "_store" s__store p__store f fd) (MK : MC K C) {f__put : Addr} {fd__put : FuncData} (F__put : Fd K mg "_put" s__put p__put f__put fd__put) (G__put : FnG P w K mg base CX0 1 f__put fd__put p__put (spS K (GM G K C p dx hd) (.ref p) 2 d__put)) {f__word_for : Addr} {fd__word_for : FuncData} (F__word_for : Fd K mg "_word_for" s__word_for p__word_for f__word_for fd__word_for) (G__word_for : FnG P w K mg base CX0 2 f__word_for fd__word_for p__word_for (spS K (GM G K C p dx hd) (.ref p) 2 d__word_for)) :
    FnG P w K mg base CX0 3 f fd p__store (spS K (GM G K C p dx hd) (.ref p) 1 d__store) := by
  refine fn_body0 F.fn sc__store spS_len (fun cdv A outer s H vs Q E hg hr h => ?_)
  refine ⟨_, (pss_cons (ps_asg (pv 1) (pg_tup (n := 4) rfl (pgs_cons (pg_name (i := 3) sc__store.nd rfl (by first | exact Or.inl rfl | exact Or.inr rfl)) (pgs_cons (pg_name (i := 4) sc__store.nd rfl (by first | exact Or.inl rfl | exact Or.inr rfl)) (pgs_cons (pg_name (i := 5) sc__store.nd rfl (by first | exact Or.inl rfl | exact Or.inr rfl)) (pgs_cons (pg_name (i := 6) sc__store.nd rfl (by first | exact Or.inl rfl | exact Or.inr rfl)) pgs_nil))))))
      (pss_cons (ps_set (i := 2) sc__store.nd rfl (by first | exact Or.inl rfl | exact Or.inr rfl) (pe_callG G__word_for hg (hr.mono (by decide)) rfl F__word_for.mg F__word_for.fn.kp F__word_for.b .nil pass0 (pa_cons (pv 0) (pa_cons (pv 4) (pa_cons (pv 5) pa_nil)))))
      (pss_cons (ps_if (pt_cmpR op_isN (pv 2) pe_non (nomark _)) (pss_one (ps_ret pe_str)) pss_nil)
      (pss_cons (ps_expr (pe_callG G__put hg (hr.mono (by decide)) rfl F__put.mg F__put.fn.kp F__put.b .nil pass0 (pa_cons (pv 0) (pa_cons (pv 2) (pa_cons (pe_dget (hu_of hr) (pe_fld (pv 0) rfl) (pv 6) (fun _ _ => rfl)) pa_nil)))))
      (pss_one (ps_ret pe_non)))))),
    body_ofS (es_seq (es_asg (fun ρ => ev_pv) (eg_tup (egs_cons eg_name (egs_cons eg_name (egs_cons eg_name (egs_cons eg_name egs_nil))))))
      (es_seq (es_asg (fun ρ => (ev_callSt (ea_cons ev_pv (ea_cons ev_pv ea_nil)))) eg_name)
      (es_seq (es_if (fun ρ => (et_test (ev_op rw_isN ev_pv (ev_c sc_non)))) (es_ret fun ρ => (ev_c (sc_str _))) es_next)
      (es_seq (es_drop fun ρ => (ev_callSt (ea_cons ev_pv (ea_cons (ep_held MK ep_pv).ev ea_nil))))
      (es_ret fun ρ => (ev_c sc_non)))))) (fun ds z Q' hl hf => ?_) h (by decide)⟩
  obtain ⟨w, b, o, r, rfl, hb, hr', ok, q⟩ := hf
  obtain ⟨e1, vv⟩ := ok.reg hr'
  unfold storeM at q
  refine ⟨_, rfl, _, rfl, rfl, _, _, rfl, _, _, rfl, _, _, rfl, _, _, rfl, rfl, rfl, _, rfl, _, rfl, _, _, rfl, hb, ok, ?_⟩
  cases e : wordFor z.2 b o with
  | none => rw [e] at q; exact ⟨_, rfl, rfl, _, rfl, q⟩
  | some a => rw [e] at q; exact ⟨_, rfl, rfl, _, rfl, rfl, _, rfl, rfl, _, rfl, _, _, rfl, e1, _, _, rfl, vv, ok.wlen, q⟩

abbrev s__load : Stmt := top 37
abbrev n__load : List Str := ["state", "instruction", "at", "_", "target", "basis", "offset"]
abbrev p__load : List Str := ["state", "instruction"]
theorem sc__load : FnScope n__load p__load (defScope s__load) := ⟨rfl, rfl, rfl, by decide +kernel, rfl, by decide +kernel, by decide +kernel⟩
theorem ok__load {f : Addr} {fd : FuncData} (F : Fd K mg "_load" s__load p__load f fd) (MK : MC K C) {f__word_for : Addr} {fd__word_for : FuncData} (F__word_for : Fd K mg "_word_for" s__word_for p__word_for f__word_for fd__word_for) (G__word_for : FnG P w K mg base CX0 2 f__word_for fd__word_for p__word_for (spS K (GM G K C p dx hd) (.ref p) 2 d__word_for)) {v_ANY : V} {u_ANY : Value} (c_ANY : KC K mg "ANY" k_ANY v_ANY u_ANY) :
    FnG P w K mg base CX0 3 f fd p__load (spS K (GM G K C p dx hd) (.ref p) 1 d__load) := by
  refine fn_body0 F.fn sc__load spS_len (fun cdv A outer s H vs Q E hg hr h => ?_)
  refine ⟨_, (pss_cons (ps_asg (pv 1) (pg_tup (n := 4) rfl (pgs_cons (pg_name (i := 3) sc__load.nd rfl (by first | exact Or.inl rfl | exact Or.inr rfl)) (pgs_cons (pg_name (i := 4) sc__load.nd rfl (by first | exact Or.inl rfl | exact Or.inr rfl)) (pgs_cons (pg_name (i := 5) sc__load.nd rfl (by first | exact Or.inl rfl | exact Or.inr rfl)) (pgs_cons (pg_name (i := 6) sc__load.nd rfl (by first | exact Or.inl rfl | exact Or.inr rfl)) pgs_nil))))))
      (pss_cons (ps_set (i := 2) sc__load.nd rfl (by first | exact Or.inl rfl | exact Or.inr rfl) (pe_callG G__word_for hg (hr.mono (by decide)) rfl F__word_for.mg F__word_for.fn.kp F__word_for.b .nil pass0 (pa_cons (pv 0) (pa_cons (pv 5) (pa_cons (pv 6) pa_nil)))))
      (pss_cons (ps_if (pt_cmpR op_isN (pv 2) pe_non (nomark _)) (pss_one (ps_ret pe_str)) pss_nil)
      (pss_cons (ps_dput (hu_of hr) (pe_fld (pv 0) rfl) (pv 4) (pe_dget2 (hu_of hr) (pe_fld (pv 0) rfl) (pv 2) (pe_glob rfl c_ANY.m c_ANY.r) ⟨rfl, rfl, rfl, rfl⟩) rfl)
      (pss_one (ps_ret pe_non)))))),
    body_ofS (es_seq (es_asg (fun ρ => ev_pv) (eg_tup (egs_cons eg_name (egs_cons eg_name (egs_cons eg_name (egs_cons eg_name egs_nil))))))
      (es_seq (es_asg (fun ρ => (ev_callSt (ea_cons ev_pv (ea_cons ev_pv ea_nil)))) eg_name)
      (es_seq (es_if (fun ρ => (et_test (ev_op rw_isN ev_pv (ev_c sc_non)))) (es_ret fun ρ => (ev_c (sc_str _))) es_next)
      (es_seq (es_hput MK (fun ρ => (ep_wget MK ep_pv (ep_k c_ANY.d)).ev) (fun ρ => ep_pv))
      (es_ret fun ρ => (ev_c sc_non)))))) (fun ds z Q' hl hf => ?_) h (by decide)⟩
  obtain ⟨w, t, b, o, rfl, ht, hb, ok, q⟩ := hf
  unfold loadM at q
  refine ⟨_, rfl, _, rfl, rfl, _, _, rfl, _, _, rfl, _, _, rfl, _, _, rfl, rfl, rfl, _, rfl, _, rfl, _, _, rfl, hb, ok, ?_⟩
  cases e : wordFor z.2 b o with
  | none => rw [e] at q; exact ⟨_, rfl, rfl, _, rfl, q⟩
  | some a => rw [e] at q; exact ⟨_, rfl, rfl, _, rfl, rfl, _, rfl, _, rfl, rfl, _, rfl, _, rfl, ok.len, q⟩

abbrev s__leave : Stmt := top 40
abbrev n__leave : List Str := ["state", "instruction"]
abbrev p__leave : List Str := ["state", "instruction"]
theorem sc__leave : FnScope n__leave p__leave (defScope s__leave) := ⟨rfl, rfl, rfl, by decide +kernel, rfl, by decide +kernel, by decide +kernel⟩
theorem ok__leave {f : Addr} {fd : FuncData} (F : Fd K mg "_leave" s__leave p__leave f fd) (MK : MC K C) {v_ANY : V} {u_ANY : Value} (c_ANY : KC K mg "ANY" k_ANY v_ANY u_ANY) :
    FnG P w K mg base CX0 1 f fd p__leave (spS K (GM G K C p dx hd) (.ref p) 1 d__leave) := by
  refine fn_body0 F.fn sc__leave spS_len (fun cdv A outer s H vs Q E hg hr h => ?_)
  refine ⟨_, (pss_cons (ps_if (PW.pt (pw_or (pt_cmpR (op_neA hr.units) (pe_fld (pv 0) rfl) (pe_fld (pv 0) rfl) (nomark _)) (pw_or1 (pt_cmpR (op_neA hr.units) (pe_dget2 (hu_of hr) (pe_fld (pv 0) rfl) (pe_fld (pv 0) rfl) (pe_glob rfl c_ANY.m c_ANY.r) ⟨rfl, rfl, rfl, rfl⟩) (pe_fld (pv 0) rfl) (nomark _))))) (pss_one (ps_ret pe_str)) pss_nil)
      (pss_one (ps_ret pe_non))),
    body_ofS (es_seq (es_if (fun ρ => (et_or (et_test (ev_op rw_ne (ep_sp MK).ev (ep_base MK).ev)) (et_test (ev_op rw_ne (ep_wget MK (ep_base MK) (ep_k c_ANY.d)).ev (ep_back MK).ev)))) (es_ret fun ρ => (ev_c (sc_str _))) es_next)
      (es_ret fun ρ => (ev_c sc_non))) (fun ds z Q' hl hf => ?_) h (by decide)⟩
  obtain ⟨x, rfl, ok, q⟩ := hf
  unfold leaveM ends at q
  refine ⟨rfl, rfl, _, rfl, ?_⟩
  by_cases e : z.2.sp = z.2.base
  · rw [decide_eq_true e] at q ⊢
    have vv := ok.word z.2.base
    have hsc : scEq (getW z.2 z.2.base) z.2.back = none := by
      have bv := ok.bv
      generalize getW z.2 z.2.base = v at vv
      generalize z.2.back = b at bv
      cases vv <;> cases bv <;> rfl
    refine ⟨rfl, rfl, _, rfl, rfl, dNe_none hsc vv.flat ok.bv.flat vv.shaped ok.bv.shaped ⟨_, rfl, ?_⟩⟩
    cases e2 : PyData.eqv (getW z.2 z.2.base) z.2.back with
    | true => rw [e2] at q; rw [show PyData.eqv ((lookK z.2.words (Sum.inl z.2.base)).getD k_ANY) z.2.back = true from e2]; exact q
    | false => rw [e2] at q; rw [show PyData.eqv ((lookK z.2.words (Sum.inl z.2.base)).getD k_ANY) z.2.back = false from e2]; exact q
  · rw [decide_eq_false e] at q ⊢
    exact q

abbrev s__stay : Stmt := top 41
abbrev n__stay : List Str := ["state", "instruction"]
abbrev p__stay : List Str := ["state", "instruction"]
theorem sc__stay : FnScope n__stay p__stay (defScope s__stay) := ⟨rfl, rfl, rfl, by decide +kernel, rfl, by decide +kernel, by decide +kernel⟩
theorem ok__stay {f : Addr} {fd : FuncData} (F : Fd K mg "_stay" s__stay p__stay f fd) (MK : MC K C) :
    FnG P w K mg base CX0 1 f fd p__stay (spS K (GM G K C p dx hd) (.ref p) 1 d__stay) := by
  refine fn_body0 F.fn sc__stay spS_len (fun cdv A outer s H vs Q E hg hr h => ?_)
  refine ⟨_, (pss_one (ps_ret pe_non)),
    body_ofS (es_ret fun ρ => (ev_c sc_non)) (fun ds z Q' hl hf => ?_) h (by decide)⟩
  obtain ⟨x, rfl, q⟩ := hf
  exact q

end
end Law

/-! K5n -/
namespace Law
open PySem L2 DL L2.DX
def loseM (m : MS) : MS := { setH (setH m "x" anyD) "y" anyD with words := m.words.filter fun q => fromK m.sp q.1 }
/-- the words' keys are ints, each once -/
structure WOk (m : MS) : Prop where
  nd : (m.words.map (·.1)).Nodup
  int : ∀ q ∈ m.words, ∃ a, q.1 = .inl a
def stopD (m : MS) (ws : List (Key × D)) : D := .tuple [.int m.place, .int m.sp, .tuple (regs.map (getH m)), .tuple (ws.map pairK)]
theorem putKD_len (kds : List (Key × D)) (k : Key) (d : D) : (putKD kds k d).length ≤ kds.length + 1 := by
  unfold putKD
  split
  · rw [List.length_map]; omega
  · rw [List.length_append]; exact Nat.le_refl _
theorem MOk.six {m : MS} (h : MOk m) : m.held.length = 6 := by
  have := congrArg List.length h.hk
  rw [List.length_map, List.length_map] at this
  exact this
theorem regs_are : ∀ r ∈ regs, isReg r = true := by decide +kernel
theorem Val.tup {d : D} (v : Val d) : ∃ ds, d = .tuple ds := by cases v <;> exact ⟨_, rfl⟩
section
variable {Z : Type}
def d_lose (ds : List D) : WE (ZM Z) := fun z Q => ds = [] ∧ MOk z.2 ∧ WOk z.2 ∧ Q (z.1, loseM z.2) .none
def d__call (ds : List D) : WE (ZM Z) := fun z Q => ∃ x, ds = [x] ∧ MOk z.2 ∧ WOk z.2 ∧ Q (z.1, loseM z.2) .none
def d_stop_of (ds : List D) : WE (ZM Z) := fun z Q => ds = [] ∧ MOk z.2 ∧ WOk z.2 ∧ ∀ ws : List (Key × D), ws.Perm z.2.words → ws.Pairwise leK → Q z (stopD z.2 ws)
variable {P : Program} {w : World} {K : PySem.W.Frag} {mg : Str → Option Value} {base : Heap} {G : Gd Z} {C p dx hd : Addr}
abbrev s_lose : Stmt := top 38
abbrev n_lose : List Str := ["state", "name", "at", "value"]
abbrev p_lose : List Str := ["state"]
theorem sc_lose : FnScope n_lose p_lose (defScope s_lose) := ⟨rfl, rfl, rfl, by decide +kernel, rfl, by decide +kernel, by decide +kernel⟩
theorem ok_lose {f : Addr} {fd : FuncData} (F : Fd K mg "lose" s_lose p_lose f fd) (T : BltC mg) (MK : MC K C) {v_ANY : V} {u_ANY : Value} (c_ANY : KC K mg "ANY" k_ANY v_ANY u_ANY) :
    FnG P w K mg base CX0 1 f fd p_lose (spS K (GM G K C p dx hd) (.ref p) 0 d_lose) := by
  refine fn_body0 F.fn sc_lose spS_len (fun cdv A outer s H vs Q E hg hr h => ?_)
  refine ⟨_, (pss_cons (ps_for PassesOwn.never rfl (pi_any (pe_tup (pa_cons pe_str (pa_cons pe_str pa_nil)))) (pg_name (i := 1) sc_lose.nd rfl (by first | exact Or.inl rfl | exact Or.inr rfl))
      (pss_one (ps_dput (hu_of hr) (pe_fld (pv 0) rfl) (pv 1) (pe_glob rfl c_ANY.m c_ANY.r) rfl)))
      (pss_one (ps_fld (pv 0) (pe_lock (pe_dc (own := [("at", 2), ("value", 3)]) rfl sc_lose.nd (pi_items (pe_fld (pv 0) rfl)) (blkOk_by (own := [("at", 2), ("value", 3)]) (N := n_lose) (sc := defScope s_lose) (by decide +kernel)) (fun _ _ _ _ _ => (pg_tup (n := 2) rfl (pgs_cons (pg_name (i := 2) sc_lose.nd rfl (by first | exact Or.inl rfl | exact Or.inr rfl)) (pgs_cons (pg_name (i := 3) sc_lose.nd rfl (by first | exact Or.inl rfl | exact Or.inr rfl)) pgs_nil)))) (fun _ _ _ _ _ => (pts_one (pt_cmpR op_ge (pv 2) (pe_fld (pv 0) rfl) (nomark _)))) (fun _ _ _ _ _ => (pv 2)) (fun _ _ _ _ _ => (pv 3)))) rfl))),
    body_ofS (es_seq (es_for (fun ρ => (ei_any (ev_tup (ea_cons (ev_c (sc_str _)) (ea_cons (ev_c (sc_str _)) ea_nil))))) eg_name
      (es_hput MK (fun ρ => (ev_k c_ANY.d)) (fun ρ => ep_pv)))
      (es_wfrom MK (by decide) (by decide) (by decide))) (fun ds z Q' hl hf => ?_) h (by decide)⟩
  obtain ⟨rfl, ok, wk, q⟩ := hf
  have h6 := ok.six
  have hl2 := putKD_len z.2.held (Sum.inr ("x" : Str)) k_ANY
  have hz : 16777216 = sizeLine := sizeLine_eq.symm
  exact ⟨_, rfl, rfl, _, rfl, _, rfl, ok.len, rfl, _, rfl, _, rfl, (by show (putKD z.2.held (Sum.inr ("x" : Str)) k_ANY).length < sizeLine; omega), rfl, (by show 2 < 4; decide), (by show 3 < 4; decide), wk.nd, wk.int, ok.wlen, q⟩

abbrev s__call : Stmt := top 39
abbrev n__call : List Str := ["state", "instruction"]
abbrev p__call : List Str := ["state", "instruction"]
theorem sc__call : FnScope n__call p__call (defScope s__call) := ⟨rfl, rfl, rfl, by decide +kernel, rfl, by decide +kernel, by decide +kernel⟩
theorem ok__call {f : Addr} {fd : FuncData} (F : Fd K mg "_call" s__call p__call f fd) (T : BltC mg) (MK : MC K C) {f_lose : Addr} {fd_lose : FuncData} (F_lose : Fd K mg "lose" s_lose p_lose f_lose fd_lose) (G_lose : FnG P w K mg base CX0 1 f_lose fd_lose p_lose (spS K (GM G K C p dx hd) (.ref p) 0 d_lose)) :
    FnG P w K mg base CX0 2 f fd p__call (spS K (GM G K C p dx hd) (.ref p) 1 d__call) := by
  refine fn_body0 F.fn sc__call spS_len (fun cdv A outer s H vs Q E hg hr h => ?_)
  refine ⟨_, (pss_cons (ps_expr (pe_callG G_lose hg (hr.mono (by decide)) rfl F_lose.mg F_lose.fn.kp F_lose.b .nil pass0 (pa_cons (pv 0) pa_nil)))
      (pss_one (ps_ret pe_non))),
    body_ofS (es_seq (es_drop fun ρ => (ev_callSt ea_nil))
      (es_ret fun ρ => (ev_c sc_non))) (fun ds z Q' hl hf => ?_) h (by decide)⟩
  obtain ⟨x, rfl, ok, wk, q⟩ := hf
  exact ⟨rfl, rfl, ok, wk, q⟩

end
end Law

/-! K5p -/
namespace Law
open PySem L2 DL L2.DX
def tgtD : List D → Int
  | [.int t] => t
  | _ => 0
/-- the places to which an instruction leads -/
def placesB (w : Str) (rest : List D) (pl : Int) : List Int := if w = "return" then [] else if w = "jump" then [tgtD rest] else if w = "branch" then sort2 (tgtD rest) (pl + 1) else [pl + 1]
/-- the parts of an instruction are such as its word asks -/
def insR (w : Str) (rest : List D) (many : Int) : Prop := insD (.tuple (.str w :: rest)) many = true
theorem at0 {α : Type} {x : α} {r : List α} : atI (x :: r) 0 = some x := by
  unfold atI ixN
  simp
theorem btw_int {x : D} {lo hi : Int} (h : btwD x lo hi = true) : ∃ i, x = .int i ∧ lo ≤ i ∧ i ≤ hi := by
  cases x <;> simp [btwD] at h
  exact ⟨_, rfl, h.1, h.2⟩
theorem ins_kinds {w : Str} {rest : List D} {many : Int} (h : insR w rest many) : ∃ ks, forms.lookup w = some ks ∧ rest.length = ks.length ∧ ∀ p ∈ rest.zip ks, fitD p.1 p.2 many = true := by
  unfold insR insD at h
  cases e : forms.lookup w with
  | none => simp [e] at h
  | some ks =>
    simp only [e, Bool.and_eq_true, decide_eq_true_eq, List.all_eq_true] at h
    exact ⟨ks, rfl, h.1, h.2⟩
theorem tgt_of {w : Str} {rest : List D} {many : Int} (hw : w = "jump" ∨ w = "branch") (h : insR w rest many) : ∃ t, rest = [.int t] := by
  obtain ⟨ks, e1, e2, e3⟩ := ins_kinds h
  have ek : ks = [("I" : Str)] := by
    rcases hw with rfl | rfl
    · have : forms.lookup ("jump" : Str) = some [("I" : Str)] := by decide +kernel
      rw [this] at e1; exact (Option.some.inj e1).symm
    · have : forms.lookup ("branch" : Str) = some [("I" : Str)] := by decide +kernel
      rw [this] at e1; exact (Option.some.inj e1).symm
  subst ek
  match rest, e2, e3 with
  | [x], _, e3 =>
    have h := e3 (x, "I") (by simp)
    have k1 : ¬ ("I" : Str) = "R" := by decide +kernel
    have k2 : ¬ ("I" : Str) = "B" := by decide +kernel
    have k3 : ¬ ("I" : Str) = "NAME" := by decide +kernel
    unfold fitD at h
    rw [if_neg k1, if_neg k2, if_neg k3, if_pos rfl] at h
    obtain ⟨i, rfl, _⟩ := btw_int h
    exact ⟨i, rfl⟩
section
variable {Z : Type}
def d__places_behind (ds : List D) : WE Z := fun z Q => ∃ code pl w rest many, ds = [.tuple code, .int pl] ∧ atI code pl = some (.tuple (.str w :: rest)) ∧ insR w rest many ∧ Q z (.tuple ((placesB w rest pl).map .int))
variable {P : Program} {w : World} {K : PySem.W.Frag} {mg : Str → Option Value} {base : Heap} {G : Gd Z} {C p dx hd : Addr}
abbrev s__places_behind : Stmt := top 43
abbrev n__places_behind : List Str := ["code", "place", "instruction"]
abbrev p__places_behind : List Str := ["code", "place"]
theorem sc__places_behind : FnScope n__places_behind p__places_behind (defScope s__places_behind) := ⟨rfl, rfl, rfl, by decide +kernel, rfl, by decide +kernel, by decide +kernel⟩
theorem ok__places_behind {f : Addr} {fd : FuncData} (F : Fd K mg "_places_behind" s__places_behind p__places_behind f fd) (T : BltC mg) :
    FnG P w K mg base CX0 1 f fd p__places_behind (spD K G 2 d__places_behind) := by
  refine fn_body0C F.fn sc__places_behind (spD_len (ps := p__places_behind)) (fun cdv A outer s H vs Q E hcd hg hr h => ?_)
  refine ⟨_, (pss_cons (ps_set (i := 2) sc__places_behind.nd rfl (by first | exact Or.inl rfl | exact Or.inr rfl) (pe_ix ix_seq (pv 0) (pv 1) (fun _ _ => rfl)))
      (pss_cons (ps_if (pt_cmpR (op_eqA hr.units) (pe_ix ix_seq (pv 2) pe_int (fun _ _ => rfl)) pe_str (nomark _)) (pss_one (ps_ret (pe_tup pa_nil))) pss_nil)
      (pss_cons (ps_if (pt_cmpR (op_eqA hr.units) (pe_ix ix_seq (pv 2) pe_int (fun _ _ => rfl)) pe_str (nomark _)) (pss_one (ps_ret (pe_tup (pa_cons (pe_ix ix_seq (pv 2) pe_int (fun _ _ => rfl)) pa_nil)))) pss_nil)
      (pss_cons (ps_if (pt_cmpR (op_eqA hr.units) (pe_ix ix_seq (pv 2) pe_int (fun _ _ => rfl)) pe_str (nomark _)) (pss_one (ps_ret (pe_callTy call_tuple_of (by rfl) T.b_tuple (by decide +kernel) (pa_cons (pe_callB (cr_sortedSet rfl) (by rfl) T.b_sorted (by decide +kernel) (pa_cons (pe_set2 (kds_of_code hcd) (pe_ix ix_seq (pv 2) pe_int (fun _ _ => rfl)) (pe_op op_addA (pv 1) pe_int)) pa_nil)) pa_nil)))) pss_nil)
      (pss_one (ps_ret (pe_tup (pa_cons (pe_op op_addA (pv 1) pe_int) pa_nil)))))))),
    body_of (es_seq (es_asg (fun ρ => (ev_op rw_ix ev_pv ev_pv)) eg_name)
      (es_seq (es_if (fun ρ => (et_test (ev_op rw_eq (ev_op rw_ix ev_pv (ev_c (sc_int _))) (ev_c (sc_str _))))) (es_ret fun ρ => (ev_tup ea_nil)) es_next)
      (es_seq (es_if (fun ρ => (et_test (ev_op rw_eq (ev_op rw_ix ev_pv (ev_c (sc_int _))) (ev_c (sc_str _))))) (es_ret fun ρ => (ev_tup (ea_cons (ev_op rw_ix ev_pv (ev_c (sc_int _))) ea_nil))) es_next)
      (es_seq (es_if (fun ρ => (et_test (ev_op rw_eq (ev_op rw_ix ev_pv (ev_c (sc_int _))) (ev_c (sc_str _))))) (es_ret fun ρ => (ev_call rws_tup (ea_cons (ev_sort2 (ev_op rw_ix ev_pv (ev_c (sc_int _))) (ev_op rw_add ev_pv (ev_c (sc_int _)))) ea_nil))) es_next)
      (es_ret fun ρ => (ev_tup (ea_cons (ev_op rw_add ev_pv (ev_c (sc_int _))) ea_nil))))))) (by decide) (fun ds z Q' hl hf => ?_) h⟩
  obtain ⟨code, pl, w', rest, many, rfl, hat, hin, q⟩ := hf
  unfold placesB at q
  refine ⟨_, rfl, _, rfl, _, hat, _, rfl, _, at0, _, rfl, iteD (fun e => ?_) (fun e => ?_)⟩
  · rw [if_pos e] at q
    exact q
  rw [if_neg e] at q
  refine ⟨_, rfl, _, at0, _, rfl, iteD (fun e => ?_) (fun e => ?_)⟩
  · rw [if_pos e] at q
    obtain ⟨t, rfl⟩ := tgt_of (.inl e) hin
    exact ⟨_, rfl, _, rfl, q⟩
  rw [if_neg e] at q
  refine ⟨_, rfl, _, at0, _, rfl, iteD (fun e => ?_) (fun e => ?_)⟩
  · rw [if_pos e] at q
    obtain ⟨t, rfl⟩ := tgt_of (.inr e) hin
    exact ⟨_, rfl, _, rfl, _, rfl, _, _, rfl, rfl, q⟩
  rw [if_neg e] at q
  exact ⟨_, rfl, q⟩

end
end Law

/-! K5q -/
namespace Law
open PySem L2 DL L2.DX
def actM (m : MS) (w : Str) (rest : List D) : MS × D := match rest with
  | [.str r] => if w = "push" then pushM m r else if w = "pop" then popM m r else if w = "work" then workM m r else (loseM m, .none)
  | [.int n] => if w = "grow" then growM m n else if w = "shrink" then shrinkM m n else (m, .none)
  | [.str a, .str b] => moveM m a b
  | [.str a, .int n] => if w = "point" then pointM m a n else setspM m a n
  | [.str b, .int o, .str r] => storeM m b o r
  | [.str t, .str b, .int o] => loadM m t b o
  | [] => leaveM m
  | _ => (m, .none)
/-- what advance tells of a state behind the step -/
def advD (code : List D) (w : Str) (rest : List D) (s : MS × D) : D :=
  if (!isNon s.2) = true then .tuple [.tuple [], .tuple [s.2]]
  else if ((placesB w rest s.1.place).map PyData.int).any (fun y => eqF y (.int code.length)) = true then .tuple [.tuple (cutD ((placesB w rest s.1.place).map .int) none (some (-1))), .tuple [.str "end"]]
  else .tuple [.tuple ((placesB w rest s.1.place).map .int), .tuple []]
section
variable {Z : Type}
def dAct (w : Str) (ds : List D) : WE (ZM Z) := fun z Q => ∃ rest many, ds = [.tuple (.str w :: rest)] ∧ insR w rest many ∧ MOk z.2 ∧ WOk z.2 ∧ ends Q z (actM z.2 w rest)
def d_advance (ds : List D) : WE (ZM Z) := fun z Q => ∃ code w rest, ds = [.tuple code] ∧ atI code z.2.place = some (.tuple (.str w :: rest)) ∧ insR w rest code.length ∧ MOk z.2 ∧ WOk z.2 ∧ atI code (actM z.2 w rest).1.place = some (.tuple (.str w :: rest)) ∧
  Q (z.1, (actM z.2 w rest).1) (advD code w rest (actM z.2 w rest))
variable {P : Program} {w : World} {K : PySem.W.Frag} {mg : Str → Option Value} {base : Heap} {G : Gd Z} {C p dx hd : Addr}
abbrev s_advance : Stmt := top 44
abbrev n_advance : List Str := ["code", "state", "instruction", "action", "broken", "places"]
abbrev p_advance : List Str := ["code", "state"]
theorem sc_advance : FnScope n_advance p_advance (defScope s_advance) := ⟨rfl, rfl, rfl, by decide +kernel, rfl, by decide +kernel, by decide +kernel⟩

theorem ok_advance {f : Addr} {fd : FuncData} (F : Fd K mg "advance" s_advance p_advance f fd) (T : BltC mg) (MK : MC K C) {a_ACTIONS : Addr} (m_ACTIONS : mg "ACTIONS" = some (.ref a_ACTIONS))
    (acts : ∀ (wd : Str) (ks : List Str), forms.lookup wd = some ks → ∃ f, KDct K w a_ACTIONS wd (.ref f) ∧ HeldG P w K mg base 3 f (spS K (GM G K C p dx hd) (.ref p) 1 (dAct wd)))
    {f__places_behind : Addr} {fd__places_behind : FuncData} (F__places_behind : Fd K mg "_places_behind" s__places_behind p__places_behind f__places_behind fd__places_behind)
    (G__places_behind : FnG P w K mg base CX0 1 f__places_behind fd__places_behind p__places_behind (spD K (GM G K C p dx hd) 2 d__places_behind)) :
    FnG P w K mg base CX0 4 f fd p_advance (spT K (GM G K C p dx hd) (.ref p) d_advance) := by
  refine fn_body0 F.fn sc_advance spT_len (fun cdv A outer s H vs Q E hg hr h => ?_)
  refine ⟨_, (pss_cons (ps_set (i := 2) sc_advance.nd rfl (by first | exact Or.inl rfl | exact Or.inr rfl) (pe_ix ix_seq (pv 0) (pe_fld (pv 1) rfl) (fun _ _ => rfl)))
      (pss_cons (ps_set (i := 3) sc_advance.nd rfl (by first | exact Or.inl rfl | exact Or.inr rfl) (pe_ix ix_kdict (pe_glob (v := .ref a_ACTIONS) rfl m_ACTIONS rfl) (pe_ix ix_seq (pv 2) pe_int (fun _ _ => rfl)) (fun _ _ => rfl)))
      (pss_cons (ps_set (i := 4) sc_advance.nd rfl (by first | exact Or.inl rfl | exact Or.inr rfl) (pe_callH (k := 3) (i := 3) hg (hr.mono (by decide)) rfl (by first | exact Or.inl rfl | exact Or.inr (Or.inl rfl) | exact Or.inr (Or.inr rfl)) (pa_cons (pv 1) (pa_cons (pv 2) pa_nil))))
      (pss_cons (ps_if (pt_cmpR op_notN (pv 4) pe_non (nomark _)) (pss_one (ps_ret (pe_tup (pa_cons (pe_tup pa_nil) (pa_cons (pe_tup (pa_cons (pv 4) pa_nil)) pa_nil))))) pss_nil)
      (pss_cons (ps_set (i := 5) sc_advance.nd rfl (by first | exact Or.inl rfl | exact Or.inr rfl) (pe_callG G__places_behind hg (hr.mono (by decide)) rfl F__places_behind.mg F__places_behind.fn.kp F__places_behind.b .nil pass0 (pa_cons (pv 0) (pa_cons (pe_fld (pv 1) rfl) pa_nil))))
      (pss_cons (ps_if (pt_cmpR op_inA (pe_callB call_len (by rfl) T.b_len (by decide +kernel) (pa_cons (pv 0) pa_nil)) (pv 5) (by rfl)) (pss_one (ps_ret (pe_tup (pa_cons (pe_slice sl_any (pv 5) po_none (po_some (pe_un un_neg pe_int))) (pa_cons (pe_tup (pa_cons pe_str pa_nil)) pa_nil))))) pss_nil)
      (pss_one (ps_ret (pe_tup (pa_cons (pv 5) (pa_cons (pe_tup pa_nil) pa_nil))))))))))),
    body_ofT (es_seq (es_asg (fun ρ => (ev_op rw_ix ev_pv (ep_place MK).ev)) eg_name)
      (es_seq (es_setF (fun ρ => (ev_op rw_ix ev_pv (ev_c (sc_int _)))))
      (es_seq (es_asg (fun ρ => ev_callH) eg_name)
      (es_seq (es_if (fun ρ => (et_test (ev_op rw_notN ev_pv (ev_c sc_non)))) (es_ret fun ρ => (ev_tup (ea_cons (ev_tup ea_nil) (ea_cons (ev_tup (ea_cons ev_pv ea_nil)) ea_nil)))) es_next)
      (es_seq (es_asg (fun ρ => (ev_callD (ea_cons ev_pv (ea_cons (ep_place MK).ev ea_nil)))) eg_name)
      (es_seq (es_if (fun ρ => (et_test (ev_op rw_inA (ev_call rws_len (ea_cons ev_pv ea_nil)) ev_pv))) (es_ret fun ρ => (ev_tup (ea_cons (ev_slice ev_pv eo_none (eo_some (ev_un ru_neg (ev_c (sc_int _))))) (ea_cons (ev_tup (ea_cons (ev_c (sc_str _)) ea_nil)) ea_nil)))) es_next)
      (es_ret fun ρ => (ev_tup (ea_cons ev_pv (ea_cons (ev_tup ea_nil) ea_nil)))))))))) (fun d z Q' hf => ?_) h (by decide)⟩
  obtain ⟨code, w', rest, hd', hat, hin, ok, wk, hat2, q⟩ := hf
  obtain rfl : d = .tuple code := by simpa using hd'
  obtain ⟨ks, hks, _⟩ := ins_kinds hin
  obtain ⟨fA, hkd, hheld⟩ := acts w' ks hks
  refine ⟨_, rfl, rfl, _, hat, _, rfl, _, at0, w', fA, rfl, hkd, fA, .ref p, dAct w', _, rfl, rfl, rfl, hheld, rest, _, rfl, hin, ok, wk, ?_⟩
  unfold ends
  generalize actM z.2 w' rest = st at q hat2
  unfold advD at q
  refine ⟨_, rfl, rfl, _, rfl, ?_⟩
  cases e : (!isNon st.2) with
  | true =>
    rw [e] at q
    exact ⟨_, rfl, q⟩
  | false =>
    rw [e] at q
    refine ⟨_, rfl, rfl, _, _, _, _, _, rfl, hat2, hin, ?_⟩
    have hsc : ∀ l : List Int, (l.map PyData.int).all isSc = true := fun l => by rw [List.all_map, List.all_eq_true]; intro x _; rfl
    refine ⟨.tuple code, rfl, _, rfl, rfl, hsc _, _, rfl, ?_⟩
    have q : Q' (z.1, st.1) (if ((placesB w' rest st.1.place).map PyData.int).any (fun y => eqF y (.int code.length)) = true then .tuple [.tuple (cutD ((placesB w' rest st.1.place).map .int) none (some (-1))), .tuple [.str "end"]]
      else .tuple [.tuple ((placesB w' rest st.1.place).map .int), .tuple []]) := q
    cases e2 : ((placesB w' rest st.1.place).map PyData.int).any (fun y => eqF y (.int code.length)) with
    | true =>
      rw [e2] at q
      exact ⟨_, rfl, _, rfl, _, rfl, q⟩
    | false =>
      rw [e2] at q
      exact ⟨_, rfl, q⟩

end
end Law

/-! K5r -/
namespace Law
open PySem L2 DL L2.DX
abbrev s_init : Stmt := inClass (top 22) 0
abbrev n_init : List Str := ["self", "name"]
theorem sc_init : FnScope n_init ["self"] (defScope s_init) := ⟨rfl, rfl, rfl, by decide +kernel, rfl, by decide +kernel, by decide +kernel⟩
def home : D := .tuple [.str "back", .str "", .int 0]
def firstD (r : Str) : D := .tuple [.str "first", .str r]
def m0 : MS := { num := 0, base := 0, back := home, place := 0, sp := 0, held := regs.map fun r => (.inr r, firstD r), words := [(.inl 0, home)] }
def firstK (ts : List (Str × Addr)) : List (Key × V) := ts.map fun q => (.inr q.1, .ref q.2)
/-- __init__: what stands behind it -/
def spInit (C : Addr) (vb : V) : Sp := fun vs H Q _ => ∃ (p dx : Addr), vs = [.ref p] ∧ H p = some (.ins C dx []) ∧ ∀ (hd wd : Addr) (ts : List (Str × Addr)) (H' : Hp), (∀ b o, H b = some o → b ≠ p → H' b = some o) → H hd = none → H wd = none → hd ≠ wd → ts.map (·.1) = regs →
  (∀ q ∈ ts, H q.2 = none ∧ q.2 ≠ hd ∧ q.2 ≠ wd ∧ H' q.2 = some (.tup [.str "first", .str q.1])) → H' p = some (.ins C dx (mflds m0 vb hd wd)) → H' hd = some (.dK (firstK ts)) → H' wd = some (.dK [(.inl 0, vb)]) → Q .non H'
theorem regs_nd : regs.Nodup := by decide +kernel
section
variable {P : Program} {w : World} {K : PySem.W.Frag} {mg : Str → Option Value} {base : Heap} {C : Addr}
theorem ok_init {f : Addr} {fd : FuncData} (F : Fun K "__init__" "State.__init__" s_init f fd) (MK : MC K C) {v_REGISTERS : V} {u_REGISTERS : Value} (c_REGISTERS : KC K mg "REGISTERS" k_REGISTERS v_REGISTERS u_REGISTERS)
    {v_HOME : V} {u_HOME : Value} (c_HOME : KC K mg "HOME" k_HOME v_HOME u_HOME) : FnOk P w K mg base CX0 1 f fd ["self"] (spInit C v_HOME) := by
  refine F.ok sc_init (fun vs H Q E h => ?_) (fun cdv A outer s H vs Q E hr h => ?_)
  · obtain ⟨p, dx, rfl, _⟩ := h
    rfl
  obtain ⟨p, dx, rfl, hp, k⟩ := h
  have nd := sc_init.nd
  obtain ⟨a, xs, rfl, hreg, hx⟩ : ∃ a xs, v_REGISTERS = .ref a ∧ (∀ H, SqT K H a xs) ∧ xs = regs.map V.str := by
    have all : ∀ H, ∃ a xs, v_REGISTERS = .ref a ∧ SqT K H a xs ∧ xs = regs.map V.str := fun H => by
      have h := c_REGISTERS.d H
      generalize hd : k_REGISTERS = d at h
      cases h with
      | @tup a xs ds h r =>
        cases hd
        refine ⟨a, xs, rfl, h, ?_⟩
        clear h
        have key : ∀ (l : List Str) (xs : List V), DvAll K H xs (l.map PyData.str) → xs = l.map V.str := by
          intro l
          induction l with
          | nil => intro xs r; cases r; rfl
          | cons x l ih => intro xs r; cases r with
            | cons r1 r2 => cases r1; rw [ih _ r2]; rfl
        exact key regs xs r
      | _ => cases hd
    obtain ⟨a, xs, e1, _, e3⟩ := all (fun _ => none)
    refine ⟨a, xs, e1, fun H => ?_, e3⟩
    obtain ⟨a', xs', e1', h', e3'⟩ := all H
    rw [e1] at e1'
    cases e1'
    rw [e3, ← e3']
    exact h'
  subst hx
  refine ⟨_, pss_cons (ps_fld (pv 0) pe_int rfl) (pss_cons (ps_fld (pv 0) pe_int rfl) (pss_cons (ps_fld (pv 0) (pe_glob rfl c_HOME.m c_HOME.r) rfl) (pss_cons (ps_fld (pv 0) pe_int rfl) (pss_cons (ps_fld (pv 0) pe_int rfl)
    (pss_cons (ps_fld (pv 0) (pe_dc (own := [("name", 1)]) rfl nd (pi_tup (pe_glob rfl c_REGISTERS.m c_REGISTERS.r)) (blkOk_by (own := [("name", 1)]) (N := n_init) (sc := defScope s_init) (by decide +kernel)) (fun _ _ _ _ _ => pg_name (i := 1) nd rfl (by first | exact Or.inl rfl | exact Or.inr rfl)) (fun _ _ _ _ _ => pts_nil) (fun _ _ _ _ _ => pv 1) (fun _ _ _ _ _ => pe_tup (pa_cons pe_str (pa_cons (pv 1) pa_nil)))) rfl)
    (pss_one (ps_fld (pv 0) (pe_disp (pps_cons pe_int (pe_glob rfl c_HOME.m c_HOME.r) pps_nil) (by rfl) (by rfl) (fun z => by cases z) (by decide)) rfl))))))), ?_⟩
  refine ⟨_, rfl, p, C, dx, [], rfl, hp, MK.cl, MK.number, (by decide), ?_⟩
  refine ⟨_, rfl, p, C, dx, _, rfl, upd_same, MK.cl, MK.base, (by decide), ?_⟩
  refine ⟨_, rfl, p, C, dx, _, rfl, upd_same, MK.cl, MK.back, (by decide), ?_⟩
  refine ⟨_, rfl, p, C, dx, _, rfl, upd_same, MK.cl, MK.place, (by show 3 < 1000; decide), ?_⟩
  refine ⟨_, rfl, p, C, dx, _, rfl, upd_same, MK.cl, MK.sp, (by show 4 < 1000; decide), ?_⟩
  generalize hH5 : upd _ p _ = H5
  have e5 : H5 p = some (.ins C dx [("number", .int 0), ("base", .int 0), ("back", v_HOME), ("place", .int 0), ("sp", .int 0)]) := by rw [← hH5, upd_same]; rfl
  have f5 : ∀ b, b ≠ p → H5 b = H b := fun b hb => by rw [← hH5, upd_ne hb, upd_ne hb, upd_ne hb, upd_ne hb, upd_ne hb]
  clear hH5
  -- held
  refine ⟨a, rfl, ⟨_, hreg H5⟩, fun Dh hDh => ?_⟩
  have nDp : Dh ≠ p := fun e => by rw [e, e5] at hDh; cases hDh
  have hl6 : (regs.map V.str).length = 6 := rfl
  refine dc_tup (K := K) (a := a) (xs := regs.map V.str) (fun i H' => ∃ ts : List (Str × Addr), ts.map (·.1) = regs.take i ∧ H' Dh = some (.dK (firstK ts)) ∧ (∀ q ∈ ts, H5 q.2 = none ∧ q.2 ≠ Dh ∧ H' q.2 = some (.tup [.str "first", .str q.1])) ∧ ∀ b o, H5 b = some o → H' b = some o)
    ⟨[], rfl, upd_same, fun q hq => (by cases hq), fun b o e => by rw [upd_ne (ne_of_none e hDh)]; exact e⟩ (fun i H' _ _ => hreg H') (fun i x H' hx pv' => ?_) (fun H' pv' => ?_)
  · obtain ⟨ts, e1, e2, e3, e4⟩ := pv'
    rw [List.getElem?_map] at hx
    obtain ⟨r, hr', rfl⟩ : ∃ r, regs[i]? = some r ∧ x = V.str r := by
      cases e : regs[i]? with
      | none => rw [e] at hx; cases hx
      | some r => rw [e] at hx; exact ⟨r, rfl, (Option.some.inj hx).symm⟩
    obtain ⟨hil, her⟩ := List.getElem?_eq_some_iff.mp hr'
    have htake : regs.take (i + 1) = regs.take i ++ [r] := by rw [List.take_succ_eq_append_getElem hil, her]
    refine ⟨rfl, ?_⟩
    refine ⟨_, rfl, _, rfl, (by show 2 ≤ sizeLine; decide), fun t ht => ?_⟩
    have nDt : Dh ≠ t := ne_of_none e2 ht
    have hnew : valV (firstK ts) (Sum.inr r : Key) = none := by
      unfold valV
      rw [Option.map_eq_none_iff, List.find?_eq_none]
      intro y hy
      obtain ⟨q, hq, rfl⟩ := List.mem_map.mp hy
      simp only [decide_eq_true_eq, Sum.inr.injEq]
      intro e
      have hm : q.1 ∈ regs.take i := by rw [← e1]; exact List.mem_map_of_mem hq
      have hnd := regs_nd
      rw [← List.take_append_drop (i + 1) regs, htake] at hnd
      exact (List.nodup_append.mp (List.nodup_append.mp hnd).1).2.2 _ hm r (by simp) e
    have hle : ts.length ≤ 6 := by
      have := congrArg List.length e1
      rw [List.length_map, List.length_take] at this
      have : regs.length = 6 := rfl
      omega
    have hsz : sizeLine = 16777216 := sizeLine_eq
    have t5 : H5 t = none := by
      cases e : H5 t with
      | none => rfl
      | some o => rw [e4 t o e] at ht; cases ht
    refine ⟨firstK ts, .inr r, rfl, by rw [upd_ne nDt]; exact e2, by unfold firstK; rw [List.length_map]; omega, ts ++ [(r, t)], by rw [List.map_append, e1, htake]; rfl, ?_, fun q hq => ?_, fun b o e => ?_⟩
    · rw [upd_same, putK_new _ hnew]
      unfold firstK
      rw [List.map_append]
      rfl
    · rcases List.mem_append.mp hq with hq1 | hq1
      · obtain ⟨g1, g2, g3⟩ := e3 q hq1
        exact ⟨g1, g2, by rw [upd_ne g2, upd_ne (ne_of_none g3 ht)]; exact g3⟩
      · obtain rfl : q = (r, t) := by simpa using hq1
        exact ⟨t5, nDt.symm, by rw [upd_ne nDt.symm, upd_same]⟩
    · rw [upd_ne (ne_of_none e hDh), upd_ne (ne_of_none (e4 b o e) ht)]
      exact e4 b o e
  · obtain ⟨ts, e1, e2, e3, e4⟩ := pv'
    rw [hl6, show regs.take 6 = regs from rfl] at e1
    refine ⟨_, rfl, p, C, dx, _, rfl, e4 p _ e5, MK.cl, MK.held, (by show 5 < 1000; decide), ?_⟩
    generalize hH6 : upd H' p _ = H6
    have e6 : H6 p = some (.ins C dx [("number", .int 0), ("base", .int 0), ("back", v_HOME), ("place", .int 0), ("sp", .int 0), ("held", .ref Dh)]) := by rw [← hH6, upd_same]; rfl
    have f6 : ∀ b, b ≠ p → H6 b = H' b := fun b hb => by rw [← hH6, upd_ne hb]
    clear hH6
    intro wd hwd
    have nwp : wd ≠ p := fun e => by rw [e, e6] at hwd; cases hwd
    have nwD : wd ≠ Dh := fun e => by rw [e, f6 Dh nDp, e2] at hwd; cases hwd
    refine ⟨upd_same, [(.inl 0, v_HOME)], rfl, (by show 1 ≤ 15; decide), ?_⟩
    refine ⟨_, rfl, p, C, dx, _, rfl, (by rw [upd_ne nwp.symm, upd_ne nwp.symm]; exact e6), MK.cl, MK.words, (by show 6 < 1000; decide), ?_⟩
    have hw' : H' wd = none := by rw [← f6 wd nwp]; exact hwd
    have h5w : H5 wd = none := by
      cases e : H5 wd with
      | none => rfl
      | some o => rw [e4 wd o e] at hw'; cases hw'
    refine k Dh wd ts _ (fun b o e hb => ?_) (by rw [← f5 Dh nDp]; exact hDh) (by rw [← f5 wd nwp]; exact h5w) nwD.symm e1 (fun q hq => ?_) ?_ ?_ ?_
    · have e' : H5 b = some o := by rw [f5 b hb]; exact e
      have nbw : b ≠ wd := ne_of_none e' h5w
      rw [upd_ne hb, upd_ne nbw, upd_ne nbw, f6 b hb]
      exact e4 b o e'
    · obtain ⟨g1, g2, g3⟩ := e3 q hq
      have gp : q.2 ≠ p := fun e => by rw [e, e5] at g1; cases g1
      have gw : q.2 ≠ wd := fun e => by rw [e, hw'] at g3; cases g3
      exact ⟨by rw [← f5 q.2 gp]; exact g1, g2, gw, by rw [upd_ne gp, upd_ne gw, upd_ne gw, f6 _ gp]; exact g3⟩
    · rw [upd_same]; rfl
    · rw [upd_ne nDp, upd_ne nwD.symm, upd_ne nwD.symm, f6 Dh nDp]
      exact e2
    · rw [upd_ne nwp, upd_same]
      rfl
end
end Law

/-! K5s -/
namespace Law
open PySem PySem.Spec PyProof.Rows L2 DL L2.DX
variable {Z : Type}
/-- from (B, H) of G to (B', H') with a run's object beside -/
structure GoM (G : Gd Z) (K : PySem.W.Frag) (C p dx hd : Addr) (B H : Hp) (z' : Z × MS) (B' H' : Hp) : Prop where
  bb : Same B B'
  ok : Ok (GM G K C p dx hd) z' B' H'
  fr : ∀ a o, ¬ G.S H a → H a = some o → H' a = some o
  gr : ∀ a, (GM G K C p dx hd).S H' a → G.S H a ∨ H a = none
  ex : ∀ a, H a ≠ none → H' a ≠ none
  sep : ∀ a, B a = none → H a ≠ none → B' a = none
section
variable {G : Gd Z} {K : PySem.W.Frag} {C p dx hd : Addr} {B H B' H' B2 H2 : Hp} {z : Z} {z' z2 : Z × MS}
theorem GoM.step (a : GoM G K C p dx hd B H z' B' H') (b : Go (GM G K C p dx hd) B' H' z2 B2 H2) : GoM G K C p dx hd B H z2 B2 H2 := by
  have nS : ∀ x, ¬ G.S H x → H x ≠ none → ¬ (GM G K C p dx hd).S H' x := fun x n h s => by
    rcases a.gr x s with q | q
    · exact n q
    · exact h q
  refine ⟨a.bb.trans b.bb, b.ok, fun x o n h => b.fr x o (nS x n (by rw [h]; intro q; cases q)) (a.fr x o n h), fun x s => ?_, fun x h => b.ex x (a.ex x h), fun x h1 h2 => b.sep x (a.sep x h1 h2) (a.ex x h2)⟩
  rcases b.gr x s with q | q
  · exact a.gr x q
  · cases e : H x with
    | none => exact .inr rfl
    | some o => exact absurd q (a.ex x (by rw [e]; intro z; cases z))
theorem GoM.out (a : GoM G K C p dx hd B H z' B' H') : Go G B H z'.1 B' H' :=
  ⟨a.bb, ⟨a.ok.sub, fun x s => a.ok.off x (.inl s), a.ok.inv.1⟩, a.fr, fun x s => a.gr x (.inl s), a.ex, a.sep⟩
theorem GoM.pre {B0 H0 : Hp} (g : Go G B0 H0 z B H) (a : GoM G K C p dx hd B H z' B' H') : GoM G K C p dx hd B0 H0 z' B' H' := by
  refine ⟨g.bb.trans a.bb, a.ok, fun x o n h => a.fr x o (g.notS n (by rw [h]; intro q; cases q)) (g.fr x o n h), fun x s => ?_, fun x h => a.ex x (g.ex x h), fun x h1 h2 => a.sep x (g.sep x h1 h2) (g.ex x h2)⟩
  rcases a.gr x s with q | q
  · exact g.gr x q
  · cases e : H0 x with
    | none => exact .inr rfl
    | some o => exact absurd q (g.ex x (by rw [e]; intro z; cases z))
theorem kdv_first : ∀ (ts : List (Str × Addr)) (l : List Str), ts.map (·.1) = l → (∀ q ∈ ts, B q.2 = some (.tup [.str "first", .str q.1])) → KDv K B (firstK ts) (l.map fun r => (.inr r, firstD r))
  | [], _, e, _ => by subst e; exact .nil
  | q :: r, _, e, h => by
    subst e
    exact .cons (.tup (SqT.of (h q (List.mem_cons_self ..))) (.cons (.str _) (.cons (.str _) .nil))) (kdv_first r _ rfl fun x m => h x (List.mem_cons_of_mem _ m))
/-- a new run's object -/
theorem made {vb : V} (hvb : ∀ H, Dv K H vb home) (o : Ok G z B H) {wd : Addr} {ts : List (Str × Addr)} (hp : H p = none) (hdx : H dx = none) (ne : dx ≠ p)
    (fr : ∀ b u, upd (upd H dx (.own p)) p (.ins C dx []) b = some u → b ≠ p → H' b = some u) (h1 : upd (upd H dx (.own p)) p (.ins C dx []) hd = none) (h2 : upd (upd H dx (.own p)) p (.ins C dx []) wd = none) (nhw : hd ≠ wd) (e : ts.map (·.1) = regs)
    (ht : ∀ q ∈ ts, upd (upd H dx (.own p)) p (.ins C dx []) q.2 = none ∧ q.2 ≠ hd ∧ q.2 ≠ wd ∧ H' q.2 = some (.tup [.str "first", .str q.1])) (ep : H' p = some (.ins C dx (mflds m0 vb hd wd))) (eh : H' hd = some (.dK (firstK ts))) (ew : H' wd = some (.dK [(.inl 0, vb)])) :
    ∃ B', GoM G K C p dx hd B H (z, m0) B' H' := by
  have H0 : ∀ x, upd (upd H dx (.own p)) p (.ins C dx []) x = none → H x = none ∧ x ≠ p ∧ x ≠ dx := fun x h => by
    have n1 : x ≠ p := fun e => by rw [e, upd_same] at h; cases h
    rw [upd_ne n1] at h
    have n2 : x ≠ dx := fun e => by rw [e, upd_same] at h; cases h
    rw [upd_ne n2] at h
    exact ⟨h, n1, n2⟩
  have keep : ∀ b u, H b = some u → H' b = some u := fun b u e' => by
    have n1 := ne_of_none e' hp
    exact fr b u (by rw [upd_ne n1, upd_ne (ne_of_none e' hdx)]; exact e') n1
  obtain ⟨hh1, nhp, nhx⟩ := H0 hd h1
  obtain ⟨hw1, nwp, nwx⟩ := H0 wd h2
  have g := go_ext o (fun a => ∃ q ∈ ts, q.2 = a) (fun a ⟨q, m, e'⟩ => by rw [← e']; exact (H0 _ (ht q m).1).1) keep
  have nG : ∀ x, H x = none → ¬ G.S H' x := fun x hx s => by
    rcases g.gr x s with q | q
    · exact G.dom z B H x o.inv q hx
    · exact absurd s (by
        intro s
        obtain ⟨_, l2⟩ := G.loc z B B H H' (Same.refl _) (fun a s' => by
          cases e' : H a with
          | none => exact absurd e' (G.dom z B H a o.inv s')
          | some u => exact keep a u e') o.inv
        exact G.dom z B H x o.inv (l2 x s) hx)
  have edx : H' dx = some (.own p) := fr dx _ (by rw [upd_ne ne, upd_same]) ne
  have notN : ∀ x, (∀ q ∈ ts, q.2 ≠ x) → H x = none → extB (fun a => ∃ q ∈ ts, q.2 = a) H' B x = none := fun x hx hn => by
    have : ¬ ∃ q ∈ ts, q.2 = x := fun ⟨q, m, e'⟩ => hx q m e'
    unfold extB
    rw [if_neg this]
    exact o.gone hn
  have mem_wd : ∀ a, wdOf H' p a → a = wd := fun a h => by
    obtain ⟨C', dx', fs, g1, g2⟩ := h
    rw [ep] at g1
    cases g1
    have g2 : some (V.ref wd) = some (V.ref a) := g2
    cases g2
    rfl
  refine ⟨extB (fun a => ∃ q ∈ ts, q.2 = a) H' B, g.bb, ⟨g.ok.sub, fun a s => ?_, g.ok.inv, wd, vb, firstK ts, [(.inl 0, vb)], ⟨ep, edx, hvb _, eh, kdv_first ts regs e fun q m => ?_, ew, .cons (hvb _) .nil, nhw⟩, nG p hp, nG dx hdx, nG hd hh1, nG wd hw1⟩, g.fr, fun a s => ?_, g.ex, g.sep⟩
  · rcases s with s | s | s | s | s
    · exact g.ok.off a s
    · rw [s]; exact notN p (fun q m e' => (H0 _ (ht q m).1).2.1 e') hp
    · rw [s]; exact notN dx (fun q m e' => (H0 _ (ht q m).1).2.2 e') hdx
    · rw [s]; exact notN hd (fun q m e' => (ht q m).2.1 e') hh1
    · rw [mem_wd a s]; exact notN wd (fun q m e' => (ht q m).2.2.1 e') hw1
  · rw [extB_pos ⟨q, m, rfl⟩]
    exact (ht q m).2.2.2
  · rcases s with s | s | s | s | s
    · exact g.gr a s
    · rw [s]; exact .inr hp
    · rw [s]; exact .inr hdx
    · rw [s]; exact .inr hh1
    · rw [mem_wd a s]; exact .inr hw1
end
end Law

/-! K5t -/
namespace Law
open PySem PySem.Spec PyProof.Rows L2 DL L2.DX
/-! ### the pure machine keeps what it must -/
theorem put_mem {kds : List (Key × D)} {k : Key} {d : D} {q : Key × D} (h : q ∈ putKD kds k d) : q ∈ kds ∨ (q.2 = d ∧ q.1 = k) := by
  unfold putKD at h
  split at h
  · obtain ⟨y, hyk, rfl⟩ := List.mem_map.mp h
    by_cases e : y.1 = k
    · rw [if_pos e]; exact .inr ⟨rfl, e⟩
    · rw [if_neg e]; exact .inl hyk
  · rcases List.mem_append.mp h with h1 | h1
    · exact .inl h1
    · obtain rfl : q = (k, d) := by simpa using h1
      exact .inr ⟨rfl, rfl⟩
theorem put_keys {kds : List (Key × D)} {k : Key} {d : D} (h : k ∈ kds.map (·.1)) : (putKD kds k d).map (·.1) = kds.map (·.1) := by
  unfold putKD
  obtain ⟨y, hy, e⟩ := List.mem_map.mp h
  rw [if_pos (List.any_eq_true.mpr ⟨y, hy, decide_eq_true e⟩), List.map_map]
  refine List.map_congr_left (fun x _ => ?_)
  by_cases e : x.1 = k
  · simp [e]
  · simp [e]
theorem put_nodup {kds : List (Key × D)} {k : Key} {d : D} (h : (kds.map (·.1)).Nodup) : ((putKD kds k d).map (·.1)).Nodup := by
  by_cases hk : k ∈ kds.map (·.1)
  · rw [put_keys hk]; exact h
  · unfold putKD
    rw [if_neg (fun e => by
      obtain ⟨y, hy, e2⟩ := List.any_eq_true.mp e
      exact hk (by rw [← of_decide_eq_true e2]; exact List.mem_map_of_mem hy)), List.map_append]
    refine List.nodup_append.mpr ⟨h, by simp, fun a ha b hb => ?_⟩
    obtain rfl : b = k := by simpa using hb
    exact fun e => hk (e ▸ ha)
theorem setH_ok {m : MS} {r : Str} {v : D} (h : MOk m) (hr : isReg r = true) (hv : Val v) : MOk (setH m r v) := by
  refine ⟨?_, fun q hq => ?_, h.wv, h.wl, h.bv⟩
  · show (putKD m.held (.inr r) v).map (·.1) = _
    rw [put_keys (by rw [h.hk]; exact List.mem_map_of_mem (isReg_mem hr))]
    exact h.hk
  · rcases put_mem hq with e | ⟨e, _⟩
    · exact h.hv q e
    · rw [e]; exact hv
theorem putW_ok {m : MS} {a : Int} {v : D} (h : MOk m) (w : WOk m) (hv : Val v) (hl : m.words.length + 1 < 1000) : MOk (putW m a v) ∧ WOk (putW m a v) ∧ (putW m a v).words.length ≤ m.words.length + 1 := by
  unfold putW
  split
  · have hle : (dropKD m.words (.inl a)).length ≤ m.words.length := List.length_filter_le _ _
    refine ⟨⟨h.hk, h.hv, fun q hq => h.wv q (List.mem_filter.mp hq).1, by show (dropKD m.words (.inl a)).length < 1000; omega, h.bv⟩, ⟨?_, fun q hq => w.int q (List.mem_filter.mp hq).1⟩, by show (dropKD m.words (.inl a)).length ≤ _; omega⟩
    exact w.nd.sublist (List.Sublist.map _ List.filter_sublist)
  · have hle := putKD_len m.words (.inl a) v
    refine ⟨⟨h.hk, h.hv, fun q hq => ?_, by show (putKD m.words (.inl a) v).length < 1000; omega, h.bv⟩, ⟨put_nodup w.nd, fun q hq => ?_⟩, hle⟩
    · rcases put_mem hq with e | ⟨e, _⟩
      · exact h.wv q e
      · rw [e]; exact hv
    · rcases put_mem hq with e | ⟨_, e⟩
      · exact w.int q e
      · exact ⟨a, e⟩
theorem MOk.sp {m : MS} (h : MOk m) (n : Int) : MOk { m with sp := n } := ⟨h.hk, h.hv, h.wv, h.wl, h.bv⟩
theorem WOk.sp {m : MS} (h : WOk m) (n : Int) : WOk { m with sp := n } := ⟨h.nd, h.int⟩
theorem MOk.place {m : MS} (h : MOk m) (n : Int) : MOk { m with place := n } := ⟨h.hk, h.hv, h.wv, h.wl, h.bv⟩
theorem WOk.place {m : MS} (h : WOk m) (n : Int) : WOk { m with place := n } := ⟨h.nd, h.int⟩
/-- what a step keeps -/
structure Keeps (m m' : MS) : Prop where
  ok : MOk m'
  wk : WOk m'
  len : m'.words.length ≤ m.words.length + 1
  pl : m'.place = m.place
theorem mvSp_keeps {m : MS} (h : MOk m) (w : WOk m) (n : Int) : Keeps m (mvSp m n).1 := by
  unfold mvSp
  split
  · exact ⟨h.sp n, w.sp n, Nat.le_succ _, rfl⟩
  · exact ⟨h, w, Nat.le_succ _, rfl⟩
theorem putW_place {m : MS} {a : Int} {v : D} : (putW m a v).place = m.place := by unfold putW; split <;> rfl
theorem Keeps.self {m : MS} (h : MOk m) (w : WOk m) : Keeps m m := ⟨h, w, Nat.le_succ _, rfl⟩
theorem setH_keeps {m : MS} {r : Str} {v : D} (h : MOk m) (w : WOk m) (hr : isReg r = true) (hv : Val v) : Keeps m (setH m r v) := ⟨setH_ok h hr hv, ⟨w.nd, w.int⟩, Nat.le_succ _, rfl⟩
theorem putW_keeps {m : MS} {a : Int} {v : D} (h : MOk m) (w : WOk m) (hv : Val v) (hl : m.words.length + 1 < 1000) : Keeps m (putW m a v) := by
  obtain ⟨h1, h2, h3⟩ := putW_ok (a := a) h w hv hl
  exact ⟨h1, h2, h3, putW_place⟩
theorem lose_keeps {m : MS} (h : MOk m) (w : WOk m) : Keeps m (loseM m) := by
  have h2 : MOk (setH (setH m "x" anyD) "y" anyD) := setH_ok (setH_ok h (by decide +kernel) Val.any) (by decide +kernel) Val.any
  have hle : (m.words.filter fun q => fromK m.sp q.1).length ≤ m.words.length := List.length_filter_le _ _
  refine ⟨⟨h2.hk, h2.hv, fun q hq => h.wv q (List.mem_filter.mp hq).1, by have := h.wl; show (m.words.filter fun q => fromK m.sp q.1).length < 1000; omega, h.bv⟩, ⟨?_, fun q hq => w.int q (List.mem_filter.mp hq).1⟩, by show (m.words.filter fun q => fromK m.sp q.1).length ≤ _; omega, rfl⟩
  exact w.nd.sublist (List.Sublist.map _ List.filter_sublist)
theorem k_R {x : D} {many : Int} (h : fitD x "R" many = true) : ∃ r, x = .str r ∧ isReg r = true := by
  unfold fitD at h
  rw [if_pos rfl] at h
  cases x <;> simp [regD] at h
  exact ⟨_, rfl, h⟩
theorem k_B {x : D} {many : Int} (h : fitD x "B" many = true) : ∃ r, x = .str r ∧ Bas r := by
  have k1 : ¬ ("B" : Str) = "R" := by decide +kernel
  unfold fitD at h
  rw [if_neg k1, if_pos rfl] at h
  cases x <;> simp [basD] at h
  exact ⟨_, rfl, h⟩
theorem k_NAME {x : D} {many : Int} (h : fitD x "NAME" many = true) : ∃ r, x = .str r := by
  have k1 : ¬ ("NAME" : Str) = "R" := by decide +kernel
  have k2 : ¬ ("NAME" : Str) = "B" := by decide +kernel
  unfold fitD at h
  rw [if_neg k1, if_neg k2, if_pos rfl] at h
  cases x <;> simp [namD] at h
  exact ⟨_, rfl⟩
theorem k_int {x : D} {k : Str} {many : Int} (hk : k = "I" ∨ k = "MANY" ∨ k = "N") (h : fitD x k many = true) : ∃ i, x = .int i := by
  have k1 : ¬ k = "R" := by rcases hk with rfl | rfl | rfl <;> decide +kernel
  have k2 : ¬ k = "B" := by rcases hk with rfl | rfl | rfl <;> decide +kernel
  have k3 : ¬ k = "NAME" := by rcases hk with rfl | rfl | rfl <;> decide +kernel
  unfold fitD at h
  rw [if_neg k1, if_neg k2, if_neg k3] at h
  split at h
  · obtain ⟨i, rfl, _⟩ := btw_int h; exact ⟨i, rfl⟩
  · split at h
    · obtain ⟨i, rfl, _⟩ := btw_int h; exact ⟨i, rfl⟩
    · obtain ⟨i, rfl, _⟩ := btw_int h; exact ⟨i, rfl⟩
/-- the parts, by the word -/
inductive Parts : Str → List D → Prop
  | push (r : Str) : isReg r = true → Parts "push" [.str r]
  | pop (r : Str) : isReg r = true → Parts "pop" [.str r]
  | grow (n : Int) : Parts "grow" [.int n]
  | shrink (n : Int) : Parts "shrink" [.int n]
  | move (t s : Str) : isReg t = true → isReg s = true → Parts "move" [.str t, .str s]
  | point (t : Str) (n : Int) : isReg t = true → Parts "point" [.str t, .int n]
  | setsp (t : Str) (n : Int) : isReg t = true → Parts "setsp" [.str t, .int n]
  | work (r : Str) : isReg r = true → Parts "work" [.str r]
  | store (b : Str) (n : Int) (r : Str) : Bas b → isReg r = true → Parts "store" [.str b, .int n, .str r]
  | load (t b : Str) (n : Int) : isReg t = true → Bas b → Parts "load" [.str t, .str b, .int n]
  | call (n : Str) : Parts "call" [.str n]
  | jump (n : Int) : Parts "jump" [.int n]
  | branch (n : Int) : Parts "branch" [.int n]
  | ret : Parts "return" []
theorem len1 {α : Type} {l : List α} (h : l.length = 1) : ∃ a, l = [a] := by match l, h with | [a], _ => exact ⟨a, rfl⟩
theorem len2 {α : Type} {l : List α} (h : l.length = 2) : ∃ a b, l = [a, b] := by match l, h with | [a, b], _ => exact ⟨a, b, rfl⟩
theorem len3 {α : Type} {l : List α} (h : l.length = 3) : ∃ a b c, l = [a, b, c] := by match l, h with | [a, b, c], _ => exact ⟨a, b, c, rfl⟩
theorem parts_of {w : Str} {rest : List D} {many : Int} (h : insR w rest many) : Parts w rest := by
  obtain ⟨ks, e1, e2, e3⟩ := ins_kinds h
  have hm : (w, ks) ∈ forms := by
    have : ∀ l : List (Str × List Str), l.lookup w = some ks → (w, ks) ∈ l := by
      intro l
      induction l with
      | nil => intro e; cases e
      | cons p r ih =>
        intro e
        rw [List.lookup_cons] at e
        cases q : w == p.1 with
        | true => rw [q] at e; have e := Option.some.inj e; have := eq_of_beq q; rw [← e, this]; exact List.mem_cons_self ..
        | false => rw [q] at e; exact List.mem_cons_of_mem _ (ih e)
    exact this forms e1
  simp only [forms, List.mem_cons, Prod.mk.injEq, List.mem_nil_iff, or_false] at hm
  rcases hm with h | h | h | h | h | h | h | h | h | h | h | h | h | h <;> obtain ⟨rfl, rfl⟩ := h
  · obtain ⟨a, rfl⟩ := len1 e2; obtain ⟨r, rfl, hr⟩ := k_R (e3 (a, "R") (by simp)); exact .push r hr
  · obtain ⟨a, rfl⟩ := len1 e2; obtain ⟨r, rfl, hr⟩ := k_R (e3 (a, "R") (by simp)); exact .pop r hr
  · obtain ⟨a, rfl⟩ := len1 e2; obtain ⟨i, rfl⟩ := k_int (.inr (.inl rfl)) (e3 (a, "MANY") (by simp)); exact .grow i
  · obtain ⟨a, rfl⟩ := len1 e2; obtain ⟨i, rfl⟩ := k_int (.inr (.inl rfl)) (e3 (a, "MANY") (by simp)); exact .shrink i
  · obtain ⟨a, b, rfl⟩ := len2 e2; obtain ⟨r, rfl, hr⟩ := k_R (e3 (a, "R") (by simp)); obtain ⟨s, rfl, hs⟩ := k_R (e3 (b, "R") (by simp)); exact .move r s hr hs
  · obtain ⟨a, b, rfl⟩ := len2 e2; obtain ⟨r, rfl, hr⟩ := k_R (e3 (a, "R") (by simp)); obtain ⟨i, rfl⟩ := k_int (.inr (.inr rfl)) (e3 (b, "N") (by simp)); exact .point r i hr
  · obtain ⟨a, b, rfl⟩ := len2 e2; obtain ⟨r, rfl, hr⟩ := k_R (e3 (a, "R") (by simp)); obtain ⟨i, rfl⟩ := k_int (.inr (.inr rfl)) (e3 (b, "N") (by simp)); exact .setsp r i hr
  · obtain ⟨a, rfl⟩ := len1 e2; obtain ⟨r, rfl, hr⟩ := k_R (e3 (a, "R") (by simp)); exact .work r hr
  · obtain ⟨a, b, c, rfl⟩ := len3 e2; obtain ⟨r, rfl, hr⟩ := k_B (e3 (a, "B") (by simp)); obtain ⟨i, rfl⟩ := k_int (.inr (.inr rfl)) (e3 (b, "N") (by simp)); obtain ⟨s, rfl, hs⟩ := k_R (e3 (c, "R") (by simp)); exact .store r i s hr hs
  · obtain ⟨a, b, c, rfl⟩ := len3 e2; obtain ⟨r, rfl, hr⟩ := k_R (e3 (a, "R") (by simp)); obtain ⟨s, rfl, hs⟩ := k_B (e3 (b, "B") (by simp)); obtain ⟨i, rfl⟩ := k_int (.inr (.inr rfl)) (e3 (c, "N") (by simp)); exact .load r s i hr hs
  · obtain ⟨a, rfl⟩ := len1 e2; obtain ⟨r, rfl⟩ := k_NAME (e3 (a, "NAME") (by simp)); exact .call r
  · obtain ⟨a, rfl⟩ := len1 e2; obtain ⟨i, rfl⟩ := k_int (.inl rfl) (e3 (a, "I") (by simp)); exact .jump i
  · obtain ⟨a, rfl⟩ := len1 e2; obtain ⟨i, rfl⟩ := k_int (.inl rfl) (e3 (a, "I") (by simp)); exact .branch i
  · obtain rfl := List.length_eq_zero_iff.mp e2; exact .ret
end Law

/-! K5u -/
namespace Law
open PySem PySem.Spec PyProof.Rows L2 DL L2.DX
theorem actM_push (m : MS) (r : Str) : actM m "push" [.str r] = pushM m r := by
  rfl
theorem actM_pop (m : MS) (r : Str) : actM m "pop" [.str r] = popM m r := by
  rfl
theorem actM_work (m : MS) (r : Str) : actM m "work" [.str r] = workM m r := by
  rfl
theorem actM_call (m : MS) (r : Str) : actM m "call" [.str r] = (loseM m, .none) := by
  rfl
theorem actM_grow (m : MS) (n : Int) : actM m "grow" [.int n] = growM m n := by
  rfl
theorem actM_shrink (m : MS) (n : Int) : actM m "shrink" [.int n] = shrinkM m n := by
  rfl
theorem actM_jump (m : MS) (n : Int) : actM m "jump" [.int n] = (m, .none) := by
  rfl
theorem actM_branch (m : MS) (n : Int) : actM m "branch" [.int n] = (m, .none) := by
  rfl
theorem actM_move (m : MS) (t s : Str) : actM m "move" [.str t, .str s] = moveM m t s := by
  rfl
theorem actM_point (m : MS) (t : Str) (n : Int) : actM m "point" [.str t, .int n] = pointM m t n := by
  rfl
theorem actM_setsp (m : MS) (t : Str) (n : Int) : actM m "setsp" [.str t, .int n] = setspM m t n := by
  rfl
theorem actM_store (m : MS) (b : Str) (n : Int) (r : Str) : actM m "store" [.str b, .int n, .str r] = storeM m b n r := by
  rfl
theorem actM_load (m : MS) (t b : Str) (n : Int) : actM m "load" [.str t, .str b, .int n] = loadM m t b n := by
  rfl
theorem actM_return (m : MS)  : actM m "return" [] = leaveM m := by
  rfl
theorem act_keeps {m : MS} {w : Str} {rest : List D} (h : Parts w rest) (ok : MOk m) (wk : WOk m) (hl : m.words.length + 1 < 1000) : Keeps m (actM m w rest).1 := by
  cases h with
  | push r hr =>
    rw [actM_push]; unfold pushM; split
    · have ok' := ok.sp (m.sp - 1); have wk' := wk.sp (m.sp - 1)
      have k := putW_keeps (m := { m with sp := m.sp - 1 }) (a := m.sp - 1) ok' wk' (ok.reg hr).2 hl
      exact ⟨k.ok, k.wk, k.len, k.pl⟩
    · exact Keeps.self ok wk
  | pop r hr =>
    rw [actM_pop]; unfold popM; split
    · have k := setH_keeps (m := { m with sp := m.sp + 1 }) (ok.sp _) (wk.sp _) hr (ok.word m.sp)
      exact ⟨k.ok, k.wk, k.len, k.pl⟩
    · exact Keeps.self ok wk
  | grow n => rw [actM_grow]; exact mvSp_keeps ok wk _
  | shrink n => rw [actM_shrink]; exact mvSp_keeps ok wk _
  | move t s ht hs => rw [actM_move]; exact setH_keeps ok wk ht (ok.reg hs).2
  | point t n ht => rw [actM_point]; exact setH_keeps ok wk ht (.word _ _)
  | setsp t n ht =>
    rw [actM_setsp]; unfold setspM; split
    · exact Keeps.self ok wk
    · exact mvSp_keeps ok wk _
  | work r hr => rw [actM_work]; exact setH_keeps ok wk hr .any
  | store b n r hb hr =>
    rw [actM_store]; unfold storeM; split
    · exact Keeps.self ok wk
    · exact putW_keeps ok wk (ok.reg hr).2 hl
  | load t b n ht hb =>
    rw [actM_load]; unfold loadM; split
    · exact Keeps.self ok wk
    · exact setH_keeps ok wk ht (ok.word _)
  | call n => rw [actM_call]; exact lose_keeps ok wk
  | jump n => rw [actM_jump]; exact Keeps.self ok wk
  | branch n => rw [actM_branch]; exact Keeps.self ok wk
  | ret =>
    rw [actM_return]; unfold leaveM; split
    · exact Keeps.self ok wk
    · split
      · exact Keeps.self ok wk
      · exact Keeps.self ok wk
section
variable {Z : Type}
theorem spS_sub {K : PySem.W.Frag} {G : Gd Z} {s : V} {n : Nat} {f g : List D → WE Z} (h : ∀ ds z Q, f ds z Q → g ds z Q) : ∀ xs H q e, spS K G s n f xs H q e → spS K G s n g xs H q e := by
  rintro xs H q e ⟨ys, e1, hl, B, z, ds, Q', o, r, hf, k⟩
  exact ⟨ys, e1, hl, B, z, ds, Q', o, r, h ds z Q' hf, k⟩
theorem sub_push (ds : List D) (z : ZM Z) (Q : DK (ZM Z)) (h : dAct "push" ds z Q) : d__push ds z Q := by
  obtain ⟨rest, many, rfl, hin, ok, wk, q⟩ := h
  have hp := parts_of hin
  clear hin
  generalize hw : ("push" : Str) = w at hp
  cases hp <;> first | exact absurd hw (by decide +kernel) | exact ⟨_, _, rfl, by assumption, ok, by rw [← actM_push]; exact q⟩
theorem sub_pop (ds : List D) (z : ZM Z) (Q : DK (ZM Z)) (h : dAct "pop" ds z Q) : d__pop ds z Q := by
  obtain ⟨rest, many, rfl, hin, ok, wk, q⟩ := h
  have hp := parts_of hin
  clear hin
  generalize hw : ("pop" : Str) = w at hp
  cases hp <;> first | exact absurd hw (by decide +kernel) | exact ⟨_, _, rfl, by assumption, ok, by rw [← actM_pop]; exact q⟩
theorem sub_work (ds : List D) (z : ZM Z) (Q : DK (ZM Z)) (h : dAct "work" ds z Q) : d__work ds z Q := by
  obtain ⟨rest, many, rfl, hin, ok, wk, q⟩ := h
  have hp := parts_of hin
  clear hin
  generalize hw : ("work" : Str) = w at hp
  cases hp <;> first | exact absurd hw (by decide +kernel) | exact ⟨_, _, rfl, by assumption, ok, by rw [← actM_work]; exact q⟩
theorem sub_call (ds : List D) (z : ZM Z) (Q : DK (ZM Z)) (h : dAct "call" ds z Q) : d__call ds z Q := by
  obtain ⟨rest, many, rfl, hin, ok, wk, q⟩ := h
  have hp := parts_of hin
  clear hin
  generalize hw : ("call" : Str) = w at hp
  cases hp <;> first | exact absurd hw (by decide +kernel) | exact ⟨_, rfl, ok, wk, by rw [actM_call] at q; exact q⟩
theorem sub_grow (ds : List D) (z : ZM Z) (Q : DK (ZM Z)) (h : dAct "grow" ds z Q) : d__grow ds z Q := by
  obtain ⟨rest, many, rfl, hin, ok, wk, q⟩ := h
  have hp := parts_of hin
  clear hin
  generalize hw : ("grow" : Str) = w at hp
  cases hp <;> first | exact absurd hw (by decide +kernel) | exact ⟨_, _, rfl, by rw [← actM_grow]; exact q⟩
theorem sub_shrink (ds : List D) (z : ZM Z) (Q : DK (ZM Z)) (h : dAct "shrink" ds z Q) : d__shrink ds z Q := by
  obtain ⟨rest, many, rfl, hin, ok, wk, q⟩ := h
  have hp := parts_of hin
  clear hin
  generalize hw : ("shrink" : Str) = w at hp
  cases hp <;> first | exact absurd hw (by decide +kernel) | exact ⟨_, _, rfl, by rw [← actM_shrink]; exact q⟩
theorem sub_jump (ds : List D) (z : ZM Z) (Q : DK (ZM Z)) (h : dAct "jump" ds z Q) : d__stay ds z Q := by
  obtain ⟨rest, many, rfl, hin, ok, wk, q⟩ := h
  have hp := parts_of hin
  clear hin
  generalize hw : ("jump" : Str) = w at hp
  cases hp <;> first | exact absurd hw (by decide +kernel) | exact ⟨_, rfl, by rw [actM_jump] at q; exact q⟩
theorem sub_branch (ds : List D) (z : ZM Z) (Q : DK (ZM Z)) (h : dAct "branch" ds z Q) : d__stay ds z Q := by
  obtain ⟨rest, many, rfl, hin, ok, wk, q⟩ := h
  have hp := parts_of hin
  clear hin
  generalize hw : ("branch" : Str) = w at hp
  cases hp <;> first | exact absurd hw (by decide +kernel) | exact ⟨_, rfl, by rw [actM_branch] at q; exact q⟩
theorem sub_move (ds : List D) (z : ZM Z) (Q : DK (ZM Z)) (h : dAct "move" ds z Q) : d__move ds z Q := by
  obtain ⟨rest, many, rfl, hin, ok, wk, q⟩ := h
  have hp := parts_of hin
  clear hin
  generalize hw : ("move" : Str) = w at hp
  cases hp <;> first | exact absurd hw (by decide +kernel) | exact ⟨_, _, _, rfl, by assumption, by assumption, ok, by rw [← actM_move]; exact q⟩
theorem sub_point (ds : List D) (z : ZM Z) (Q : DK (ZM Z)) (h : dAct "point" ds z Q) : d__point ds z Q := by
  obtain ⟨rest, many, rfl, hin, ok, wk, q⟩ := h
  have hp := parts_of hin
  clear hin
  generalize hw : ("point" : Str) = w at hp
  cases hp <;> first | exact absurd hw (by decide +kernel) | exact ⟨_, _, _, rfl, by assumption, ok, by rw [← actM_point]; exact q⟩
theorem sub_setsp (ds : List D) (z : ZM Z) (Q : DK (ZM Z)) (h : dAct "setsp" ds z Q) : d__setsp ds z Q := by
  obtain ⟨rest, many, rfl, hin, ok, wk, q⟩ := h
  have hp := parts_of hin
  clear hin
  generalize hw : ("setsp" : Str) = w at hp
  cases hp <;> first | exact absurd hw (by decide +kernel) | exact ⟨_, _, _, rfl, by assumption, ok, by rw [← actM_setsp]; exact q⟩
theorem sub_store (ds : List D) (z : ZM Z) (Q : DK (ZM Z)) (h : dAct "store" ds z Q) : d__store ds z Q := by
  obtain ⟨rest, many, rfl, hin, ok, wk, q⟩ := h
  have hp := parts_of hin
  clear hin
  generalize hw : ("store" : Str) = w at hp
  cases hp <;> first | exact absurd hw (by decide +kernel) | exact ⟨_, _, _, _, rfl, by assumption, by assumption, ok, by rw [← actM_store]; exact q⟩
theorem sub_load (ds : List D) (z : ZM Z) (Q : DK (ZM Z)) (h : dAct "load" ds z Q) : d__load ds z Q := by
  obtain ⟨rest, many, rfl, hin, ok, wk, q⟩ := h
  have hp := parts_of hin
  clear hin
  generalize hw : ("load" : Str) = w at hp
  cases hp <;> first | exact absurd hw (by decide +kernel) | exact ⟨_, _, _, _, rfl, by assumption, by assumption, ok, by rw [← actM_load]; exact q⟩
theorem sub_return (ds : List D) (z : ZM Z) (Q : DK (ZM Z)) (h : dAct "return" ds z Q) : d__leave ds z Q := by
  obtain ⟨rest, many, rfl, hin, ok, wk, q⟩ := h
  have hp := parts_of hin
  clear hin
  generalize hw : ("return" : Str) = w at hp
  cases hp <;> first | exact absurd hw (by decide +kernel) | exact ⟨_, rfl, ok, by rw [← actM_return]; exact q⟩
end
end Law

/-! K5w -/
namespace Law
open PySem PySem.Spec PyProof.Rows L2 DL L2.DX
/-! ### a promise for each of many guards -/
def spX {ι : Type 1} (sp : ι → Sp) : Sp := fun xs H Q e => ∃ i, sp i xs H Q e
theorem fnG_ex {P : Program} {w : World} {K : PySem.W.Frag} {mg : Str → Option Value} {base : Heap} {CX : CXT} {k : Nat} {f : Addr} {fd : FuncData} {ps : List Str} {ι : Type 1} {sp : ι → Sp} (h : ∀ i, FnG P w K mg base CX k f fd ps (sp i)) : FnG P w K mg base CX k f fd ps (spX sp) :=
  ⟨fun xs H q e ⟨i, z⟩ => (h i).len xs H q e z, fun A o s H args us xs q e hg hr e0 hb rv ⟨i, z⟩ => (h i).go A o s H args us xs q e hg hr e0 hb rv z⟩
abbrev AnyG := Σ Z : Type, Gd Z
variable {Z : Type}
section
variable {G : Gd Z} {K : PySem.W.Frag} {ρ : Rho}
theorem ev_callD_x {ta : TA} {n : Nat} {wa : Z → (Z → List D → Prop) → Prop} {f : (Z : Type) → List D → WE Z} {e' : XK} (h : EvA G K ta ρ n wa) : EvE G K (tCall (spX fun i : AnyG => spD K i.2 n (f i.1)) [] e' ta) ρ (fun z Q => wa z fun z1 ds => f Z ds z1 Q) :=
  fun σ B H z E o Q' hw Q k => h σ B H z E o _ hw _ fun vs z1 B1 H1 ds hl g1 r1 q1 => by
    rw [List.append_nil]
    exact ⟨⟨Z, G⟩, by rw [r1.length, hl], B1, z1, ds, Q', g1.ok, r1, q1, fun v z2 B2 H2 d g2 r2 q2 => k v z2 B2 H2 d (g1.trans g2) r2 q2⟩
abbrev Adr := ULift.{1} (Addr × Addr × Addr)
variable {C p dx hd : Addr}
theorem ev_callTx {ta : TE} {wa : WE (Z × MS)} {j : Nat} {f : List D → WE (Z × MS)} {e' : XK} (h : EvE (GM G K C p dx hd) K ta ρ wa) :
    EvE (GM G K C p dx hd) K (tCall (spX fun i : Adr => spT K (GM G K C i.down.1 i.down.2.1 i.down.2.2) (.ref i.down.1) f) [] e' (tCons ta (tCons (tVar j) tNil))) ρ (fun z Q => IsM ρ j p ∧ wa z fun z1 d => f [d] z1 Q) := fun σ B H z E o Q' hw Q k => by
  obtain ⟨hs, hw⟩ := hw
  refine h σ B H z E o _ hw _ fun v z1 B1 H1 d g1 r1 q1 => ⟨.ref p, E.val j _ hs, ?_⟩
  show spX _ ([v, .ref p] ++ []) H1 Q e'
  exact ⟨⟨p, dx, hd⟩, v, rfl, rfl, B1, z1, [d], Q', g1.ok, .cons r1 .nil, q1, fun v' z' B' H' d' g r q => k v' z' B' H' d' (g1.trans g) r q⟩
end
/-- a statement, then the rest by hand -/
theorem es_then {G : Gd Z} {K : PySem.W.Frag} {t rest : TS} {wt : WS Z} (h : EvS G K t wt) {B0 H0 : Hp} {Dn : Ends} (Pn : Rho → Z → Prop) (hrest : ∀ ρ z σ H, At G K B0 H0 ρ z σ H → Pn ρ z → rest Dn σ H)
    {ρ : Rho} {z : Z} {σ : L2.St} {H : Hp} (a : At G K B0 H0 ρ z σ H) (q : wt { nx := Pn, rt := fun _ _ => False } ρ z) : tSeq t rest Dn σ H :=
  h B0 H0 { nx := Pn, rt := fun _ _ => False } { Dn with nx := rest Dn } ⟨hrest, fun _ _ _ _ _ q => q.elim, fun _ _ _ _ _ q => q.elim, fun _ _ _ _ _ _ _ q => q.elim⟩ ρ z σ H a q
/-! ### a run along a path -/
structure CodeOk (code : List D) : Prop where
  l1 : 1 ≤ code.length
  l2 : code.length ≤ 60
  ok : ∀ x ∈ code, okT x
  ins : ∀ x ∈ code, insD x code.length = true
def stepW (code : List D) (m : MS) (i : Int) : Option MS := match atI code m.place with
  | some (.tuple (.str w :: rest)) => match advD code w rest (actM m w rest) with
    | .tuple [.tuple ps, _] => if ps.any (fun y => eqF y (.int i)) = true then some { (actM m w rest).1 with place := i } else none
    | _ => none
  | _ => none
def walkW (code : List D) : List Int → MS → Option MS
  | [], m => some m
  | i :: r, m => match stepW code m i with
    | some m' => walkW code r m'
    | none => none
theorem at_mem {α : Type} {xs : List α} {i : Int} {x : α} (h : atI xs i = some x) : x ∈ xs := by
  unfold atI at h
  cases e0 : ixN xs.length i with
  | none => (rw [e0] at h; cases h)
  | some j => rw [e0] at h; exact List.mem_of_getElem? h
theorem adv_form (code : List D) (w : Str) (rest : List D) (s : MS × D) : ∃ ps ws, advD code w rest s = .tuple [.tuple ps, .tuple ws] ∧ ps.all isSc = true := by
  have hsc : ∀ l : List Int, (l.map PyData.int).all isSc = true := fun l => by rw [List.all_map, List.all_eq_true]; intro x _; rfl
  unfold advD
  split
  · exact ⟨_, _, rfl, rfl⟩
  · split
    · refine ⟨_, _, rfl, ?_⟩
      rw [List.all_eq_true]
      intro x hx
      unfold DL.cutD at hx
      exact List.all_eq_true.mp (hsc _) x (List.mem_of_mem_drop (List.mem_of_mem_take hx))
    · exact ⟨_, _, rfl, hsc _⟩
theorem step_of {code : List D} {m m' : MS} {i : Int} (h : stepW code m i = some m') (c : CodeOk code) : ∃ w rest ps ws, atI code m.place = some (.tuple (.str w :: rest)) ∧ insR w rest code.length ∧ advD code w rest (actM m w rest) = .tuple [.tuple ps, .tuple ws] ∧ ps.all isSc = true ∧
    (ps.any fun y => eqF y (.int i)) = true ∧ m' = { (actM m w rest).1 with place := i } := by
  unfold stepW at h
  cases e : atI code m.place with
  | none => (rw [e] at h; cases h)
  | some x =>
    have hi := c.ins x (at_mem e)
    rw [e] at h
    match x, hi, h with
    | .tuple (.str w :: rest), hi, h =>
      obtain ⟨ps, ws, ea, es⟩ := adv_form code w rest (actM m w rest)
      have h : (match advD code w rest (actM m w rest) with | .tuple [.tuple ps, _] => (if ps.any (fun y => eqF y (.int i)) = true then some { (actM m w rest).1 with place := i } else none) | _ => none) = some m' := h
      rw [ea] at h
      have h : (if ps.any (fun y => eqF y (.int i)) = true then some { (actM m w rest).1 with place := i } else none) = some m' := h
      by_cases q : ps.any (fun y => eqF y (.int i)) = true
      · rw [if_pos q] at h
        exact ⟨w, rest, ps, ws, rfl, hi, ea, es, q, (Option.some.inj h).symm⟩
      · rw [if_neg q] at h; cases h
end Law

/-! K5x -/
namespace Law
open PySem PySem.Spec PyProof.Rows L2 DL L2.DX
theorem ok_m0 : MOk m0 where
  hk := rfl
  hv := fun q hq => by
    obtain ⟨r, hr, rfl⟩ := List.mem_map.mp hq
    have : ∀ r ∈ regs, PyData.strOk r = true := by decide +kernel
    exact .first r (this r hr)
  wv := fun q hq => by
    obtain rfl : q = (.inl 0, home) := by simpa [m0] using hq
    exact .back "" 0 (by decide +kernel)
  wl := by show 1 < 1000; decide
  bv := .back "" 0 (by decide +kernel)
theorem wk_m0 : WOk m0 where
  nd := by show ([Sum.inl 0] : List Key).Nodup; simp
  int := fun q hq => by
    obtain rfl : q = (.inl 0, home) := by simpa [m0] using hq
    exact ⟨0, rfl⟩
theorem numb : ∀ (l : List Int) (n : Nat), ((l.map PyData.int).zipIdx n).map (fun p => PyData.tuple [.int (p.2 : Nat), p.1]) = (l.zipIdx n).map fun q => PyData.tuple [.int (q.2 : Nat), .int q.1]
  | [], _ => rfl
  | i :: r, n => by rw [List.map_cons, List.zipIdx_cons, List.zipIdx_cons, List.map_cons, List.map_cons, numb r (n + 1)]
/-- a run along a path, from the beginning -/
def walkS (code : List D) (path : List Int) : Option MS := match path with
  | [] => none
  | i :: r => if i = 0 then walkW code r m0 else none
variable {Z : Type}
def spWalked (K : PySem.W.Frag) (G : Gd Z) (C : Addr) : Sp := fun xs H Q _ => ∃ (vc vp : V) (B : Hp) (z : Z) (code : List D) (path : List Int) (mE : MS), xs = [vc, vp] ∧ Ok G z B H ∧ Dv K B vc (.tuple code) ∧ Dv K B vp (.tuple (path.map .int)) ∧ CodeOk code ∧ path.length ≤ 500 ∧ walkS code path = some mE ∧
  ∀ p dx hd B' H', GoM G K C p dx hd B H (z, mE) B' H' → MOk mE → WOk mE → Q (.ref p) H'
section
variable {P : Program} {w : World} {K : PySem.W.Frag} {mg : Str → Option Value} {base : Heap} {G : Gd Z} {C : Addr}

abbrev s__walked : Stmt := top 46
abbrev n__walked : List Str := ["code", "path", "state", "places", "index", "item", "_"]
abbrev p__walked : List Str := ["code", "path"]
theorem sc__walked : FnScope n__walked p__walked (defScope s__walked) := ⟨rfl, rfl, rfl, by decide +kernel, rfl, by decide +kernel, by decide +kernel⟩

theorem ok__walked {f : Addr} {fd : FuncData} (F : Fd K mg "_walked" s__walked p__walked f fd) (T : BltC mg) (MK : MC K C) {v_HOME : V} {u_HOME : Value} (c_HOME : KC K mg "HOME" k_HOME v_HOME u_HOME)
    {f_need_code : Addr} {fd_need_code : FuncData} (F_need_code : Fd K mg "need_code" s_need_code p_need_code f_need_code fd_need_code) (G_need_code : FnG P w K mg base CX0 5 f_need_code fd_need_code p_need_code (spD K G 1 d_need_code))
    {f_is_number : Addr} {fd_is_number : FuncData} (F_is_number : Fd K mg "is_number" s_is_number p_is_number f_is_number fd_is_number) (G_is_number : FnG P w K mg base CX0 1 f_is_number fd_is_number p_is_number (spX fun i : AnyG => spD K i.2 1 (d_is_number (Z := i.1))))
    {f_advance : Addr} {fd_advance : FuncData} (F_advance : Fd K mg "advance" s_advance p_advance f_advance fd_advance) (G_advance : FnG P w K mg base CX0 4 f_advance fd_advance p_advance (spX fun i : Adr => spT K (GM G K C i.down.1 i.down.2.1 i.down.2.2) (.ref i.down.1) d_advance))
    {f_State : Addr} {fd_State : FuncData} (M_State : Mk K C f_State) (GI_State : FnOk P w K mg base CX0 1 f_State fd_State ["self"] (spInit C v_HOME)) (m_State : mg "State" = some (.ref C)) (b_State : Binds K fd_State ["self"] []) :
    FnG P w K mg base CX0 6 f fd p__walked (spWalked K G C) := by
  refine fn_body0 F.fn sc__walked (fun xs H Q E h => ?_) (fun cdv A outer s H vs Q E hg hr h => ?_)
  · obtain ⟨vc, vp, _, _, _, _, _, rfl, _⟩ := h
    rfl
  obtain ⟨vc, vp, B, z, code, path, mE, rfl, o, rc, rp, cok, hpl, hw, k⟩ := h
  refine ⟨_, (pss_cons (ps_expr (pe_callG G_need_code hg (hr.mono (by decide)) rfl F_need_code.mg F_need_code.fn.kp F_need_code.b .nil pass0 (pa_cons (pv 0) pa_nil)))
      (pss_cons (ps_if (PW.pt (pw_or (pt_not (pt_val (pe_callB call_isi (by rfl) T.b_isinstance (by decide +kernel) (pa_cons (pv 1) (pa_cons (pe_bltn (v := .ty "tuple") (by rfl) T.b_tuple (by decide +kernel) rfl) pa_nil))))) (pw_or1 (pt_not (pt_truth (pv 1) (by intro _; rfl)))))) (pss_one ps_never) pss_nil)
      (pss_cons (ps_set (i := 2) sc__walked.nd rfl (by first | exact Or.inl rfl | exact Or.inr rfl) (pe_make0 M_State GI_State (hr.mono (by decide)) rfl m_State b_State .nil pass0))
      (pss_cons (ps_set (i := 3) sc__walked.nd rfl (by first | exact Or.inl rfl | exact Or.inr rfl) (pe_tup (pa_cons pe_int pa_nil)))
      (pss_cons (ps_for PassesOwn.never rfl (pi_enumA (by rfl) T.b_enumerate (pa_cons (pv 1) pa_nil)) (pg_tup (n := 2) rfl (pgs_cons (pg_name (i := 4) sc__walked.nd rfl (by first | exact Or.inl rfl | exact Or.inr rfl)) (pgs_cons (pg_name (i := 5) sc__walked.nd rfl (by first | exact Or.inl rfl | exact Or.inr rfl)) pgs_nil)))
      (pss_cons (ps_if (pt_cmpR op_gt (pv 4) pe_int (nomark _)) (pss_one (ps_asg (pe_callG G_advance hg (hr.mono (by decide)) rfl F_advance.mg F_advance.fn.kp F_advance.b .nil pass0 (pa_cons (pv 0) (pa_cons (pv 2) pa_nil))) (pg_tup (n := 2) rfl (pgs_cons (pg_name (i := 3) sc__walked.nd rfl (by first | exact Or.inl rfl | exact Or.inr rfl)) (pgs_cons (pg_name (i := 6) sc__walked.nd rfl (by first | exact Or.inl rfl | exact Or.inr rfl)) pgs_nil))))) pss_nil)
      (pss_cons (ps_if (PW.pt (pw_or (pt_not (pt_val (pe_callG G_is_number hg (hr.mono (by decide)) rfl F_is_number.mg F_is_number.fn.kp F_is_number.b .nil pass0 (pa_cons (pv 5) pa_nil)))) (pw_or1 (pt_cmpR op_notInA (pv 5) (pv 3) (by rfl))))) (pss_one ps_never) pss_nil)
      (pss_one (ps_fld (pv 2) (pv 5) rfl)))))
      (pss_one (ps_ret (pv 2)))))))), ?_⟩
  -- up to the object
  have E0 : EnvOk K B (L2.start n__walked [vc, vp]) [.dat (.tuple code), .dat (.tuple (path.map .int)), .any, .any, .any, .any, .any] := by
    refine ⟨rfl, fun i d e => ?_, fun i v e => ?_⟩
    · match i with
      | 0 => cases e; exact ⟨vc, rfl, rc⟩
      | 1 => cases e; exact ⟨vp, rfl, rp⟩
      | 2 | 3 | 4 | 5 | 6 => cases e
      | i + 7 => cases e
    · match i with
      | 0 | 1 | 2 | 3 | 4 | 5 | 6 => cases e
      | i + 7 => cases e
  refine es_then (G := G) (K := K) (es_drop fun ρ => (ev_callD (ea_cons ev_pv ea_nil))) (fun ρ z' => ρ = [.dat (.tuple code), .dat (.tuple (path.map .int)), .any, .any, .any, .any, .any] ∧ z' = z) (fun ρ z1 σ H1 a h => ?_) ⟨B, Go.refl o, E0⟩ ⟨_, rfl, code, rfl, cok.l1, cok.l2, cok.ok, cok.ins, rfl, rfl⟩
  obtain ⟨rfl, rfl⟩ := h
  refine es_then (G := G) (K := K) (es_if (fun ρ => (et_or (et_not (et_B (ev_isi isTupD kit_tuple ev_pv))) (et_not (et_truth ev_pv)))) es_never es_next) (fun ρ z' => ρ = [.dat (.tuple code), .dat (.tuple (path.map .int)), .any, .any, .any, .any, .any] ∧ z' = z1) (fun ρ z2 σ2 H1 a2 h => ?_) a ?_
  rotate_left
  · refine ⟨_, rfl, true, rfl, _, rfl, (fun s z => by cases z), _, rfl, ?_⟩
    cases path with
    | nil => cases hw
    | cons i r => exact ⟨rfl, rfl⟩
  obtain ⟨rfl, rfl⟩ := h
  obtain ⟨B1, g1, E1⟩ := a2
  -- the object
  intro p dx np ndx ne
  refine ⟨p, dx, rfl, upd_same, fun hd wd ts H2 fr h1 h2 nhw e ht ep eh ew => ⟨rfl, ?_⟩⟩
  obtain ⟨B2, gm⟩ := made (K := K) (C := C) (c_HOME.d) g1.ok np ndx ne fr h1 h2 nhw e ht ep eh ew
  have E2 := (E1.mono gm.bb).setV (i := 2) (v := .ref p)
  have gm0 := gm.pre g1
  refine es_then (G := GM G K C p dx hd) (K := K) (es_asg (fun ρ => (ev_tup (ea_cons (ev_c (sc_int _)) ea_nil))) eg_name) (fun ρ z' => ρ = [.dat (.tuple code), .dat (.tuple (path.map .int)), .val (.ref p), .dat (.tuple [.int 0]), .any, .any, .any] ∧ z' = (z2, m0)) (fun ρ z3 σ3 H3 a3 h => ?_) ⟨B2, Go.refl gm.ok, E2⟩ ⟨rfl, rfl⟩
  obtain ⟨rfl, rfl⟩ := h
  refine es_then (G := GM G K C p dx hd) (K := K) (es_for (fun ρ => (ei_enumA (ea_cons ev_pv ea_nil))) (eg_tup (egs_cons eg_name (egs_cons eg_name egs_nil)))
      (es_seq (es_if (fun ρ => (et_test (ev_op (rw_I0 fun _ _ => sc_bl _) ev_pv (ev_c (sc_int _))))) (es_asg (fun ρ => (ev_callTx (f := d_advance) ev_pv)) (eg_tup (egs_cons eg_name (egs_cons eg_name egs_nil)))) es_next)
      (es_seq (es_if (fun ρ => (et_or (et_not (et_B (ev_callD_x (f := fun Z => d_is_number (Z := Z)) (ea_cons ev_pv ea_nil)))) (et_test (ev_op rw_inA ev_pv ev_pv)))) es_never es_next)
      (es_place MK fun ρ => ev_pv)))) (fun ρ z' => ρ[2]? = some (.val (.ref p)) ∧ z' = (z2, mE) ∧ MOk mE ∧ WOk mE) (fun ρ z4 σ4 H4 a4 h => ?_) a3 ?_
  · obtain ⟨hi, rfl, hok, hwk⟩ := h
    obtain ⟨B4, g4, E4⟩ := a4
    exact ⟨_, E4.val 2 _ hi, k p dx hd B4 H4 (gm0.step g4) hok hwk⟩
  refine ⟨_, rfl, _, _, rfl, rfl, for_ind (fun r ρ z' => ∃ (j : Nat) (m : MS) (rem : List Int) (s3 s4 s5 s6 : Sl), z' = (z2, m) ∧ r = (rem.zipIdx j).map (fun q => PyData.tuple [.int (q.2 : Nat), .int q.1]) ∧ MOk m ∧ WOk m ∧ m.words.length + rem.length ≤ 900 ∧
    ρ = [.dat (.tuple code), .dat (.tuple (path.map .int)), .val (.ref p), s3, s4, s5, s6] ∧ ((j = 0 ∧ m = m0 ∧ s3 = .dat (.tuple [.int 0]) ∧ ∃ r', rem = 0 :: r' ∧ walkW code r' m0 = some mE) ∨ (j ≠ 0 ∧ walkW code rem m = some mE))) (fun d r ρ z' h ih => ?_) (fun ρ z' h => ?_) _ _ _ ?_⟩
  · obtain ⟨j, m, rem, s3, s4, s5, s6, rfl, hr', ok, wk, hl, rfl, hc⟩ := h
    cases rem with
    | nil => cases hr'
    | cons i rem =>
    rw [List.zipIdx_cons, List.map_cons] at hr'
    obtain ⟨rfl, rfl⟩ := List.cons.inj hr'
    rw [List.length_cons] at hl
    refine ⟨_, rfl, rfl, _, _, rfl, _, _, rfl, rfl, _, rfl, _, rfl, iteD (fun hj => ?_) (fun hj => ?_)⟩
    · rcases hc with ⟨rfl, _⟩ | ⟨_, hw2⟩
      · exact absurd hj (by simp)
      have hw2 : (match stepW code m i with | some m' => walkW code rem m' | none => none) = some mE := hw2
      cases es : stepW code m i with
      | none => rw [es] at hw2; cases hw2
      | some m' =>
        rw [es] at hw2
        have hw2 : walkW code rem m' = some mE := hw2
        obtain ⟨w', rest, ps, ws, hat, hin, ea, esc, hany, rfl⟩ := step_of es cok
        have kp := act_keeps (parts_of hin) ok wk (by omega)
        refine ⟨rfl, _, rfl, code, w', rest, rfl, hat, hin, ok, wk, by rw [kp.pl]; exact hat, ?_⟩
        rw [ea]
        refine ⟨_, rfl, rfl, _, _, rfl, _, _, rfl, rfl, ?_⟩
        refine ⟨_, rfl, _, rfl, true, rfl, _, rfl, _, rfl, rfl, esc, _, rfl, ?_⟩
        rw [hany]
        have hlen := kp.len
        exact ⟨_, rfl, i, rfl, rfl, ih _ _ ⟨j + 1, { (actM m w' rest).1 with place := i }, rem, _, _, _, _, rfl, rfl, kp.ok.place i, kp.wk.place i, (by show (actM m w' rest).1.words.length + rem.length ≤ 900; omega), rfl, .inr ⟨by omega, hw2⟩⟩⟩
    · rcases hc with ⟨rfl, rfl, rfl, r', hrem, hw2⟩ | ⟨hj', _⟩
      · obtain ⟨rfl, rfl⟩ := List.cons.inj hrem
        refine ⟨_, rfl, _, rfl, true, rfl, _, rfl, _, rfl, rfl, rfl, _, rfl, ?_⟩
        exact ⟨_, rfl, 0, rfl, rfl, ih _ _ ⟨1, m0, rem, _, _, _, _, rfl, rfl, ok, wk, by omega, rfl, .inr ⟨by omega, hw2⟩⟩⟩
      · exact absurd (by omega : (0 : Int) < (j : Int)) hj
  · obtain ⟨j, m, rem, s3, s4, s5, s6, rfl, hr', ok, wk, hl, rfl, hc⟩ := h
    cases rem with
    | cons i rem => rw [List.zipIdx_cons, List.map_cons] at hr'; cases hr'
    | nil =>
      rcases hc with ⟨_, _, _, r', hrem, _⟩ | ⟨_, hw2⟩
      · cases hrem
      · obtain rfl : m = mE := Option.some.inj hw2
        exact ⟨rfl, rfl, ok, wk⟩
  · cases path with
    | nil => cases hw
    | cons i r =>
      have hw : (if i = 0 then walkW code r m0 else none) = some mE := hw
      by_cases e0 : i = 0
      · subst e0
        rw [if_pos rfl] at hw
        refine ⟨0, m0, 0 :: r, _, _, _, _, rfl, ?_, ok_m0, wk_m0, ?_, rfl, .inl ⟨rfl, rfl, rfl, r, rfl, hw⟩⟩
        · exact numb (0 :: r) 0
        · have : m0.words.length = 1 := rfl
          omega
      · rw [if_neg e0] at hw; cases hw
end
end Law


/-! DLsz -/
namespace DL
open PySem PySem.Spec PyProof.Rows L2
/-! ### how long a shown text is, at most -/
mutual
def szB : D → Nat
  | .none => 4
  | .bool _ => 5
  | .int _ => 1921
  | .str x => 10 * x.length + 2
  | .list xs => 4 + szAll xs
  | .tuple xs => 4 + szAll xs
  | .dict _ => 0
def szAll : List D → Nat
  | [] => 0
  | x :: xs => szB x + 2 + szAll xs
end
mutual
/-- all that repr asks, and the signs of the texts -/
def fitS : D → Bool
  | .none => true
  | .bool _ => true
  | .int i => decide (i.natAbs.log2 < (1920 : Nat))
  | .str x => PyData.strOk x
  | .list xs => fitAll xs
  | .tuple xs => fitAll xs
  | .dict _ => false
def fitAll : List D → Bool
  | [] => true
  | x :: xs => fitS x && fitAll xs
end
theorem join_le (ts : List Str) : (Str.join ", " ts).length ≤ piled ts := by
  cases ts with
  | nil => exact Nat.zero_le _
  | cons x r => have := join_length_add (x :: r) (by simp); omega
theorem textFrom_le : ∀ (ts : List Str) (k : Nat) (acc : Str), (textFrom k acc ts).length ≤ acc.length + piled ts
  | [], _, _ => Nat.le_add_right _ _
  | t :: r, k, acc => by
    have ih := textFrom_le r (k + 1) (acc ++ (if k > 0 then ", " else "" : String) ++ t)
    rw [strLen_append (_ ++ _) t, strLen_append acc] at ih
    have e : ((if k > 0 then ", " else "" : String) : Str).length ≤ 2 := by split <;> decide
    rw [piled_cons]
    refine Nat.le_trans ih ?_
    omega
theorem list_le (ts : List Str) : (listText ts).length ≤ 4 + piled ts := by
  have h := textFrom_le ts 0 "["
  have e1 : ((("[" : String) : Str)).length = 1 := rfl
  have e2 : ((("]" : String) : Str)).length = 1 := rfl
  show (textFrom 0 "[" ts ++ ("]" : String)).length ≤ _
  rw [strLen_append, e2]
  omega
theorem tuple_le (ts : List Str) : (tupleText ts).length ≤ 4 + piled ts := by
  unfold tupleText
  rw [strLen_append, strLen_append, show ((("(" : String) : Str)).length = 1 from rfl]
  have e3 : (((if ts.length == 1 then ",)" else ")" : String) : Str)).length ≤ 2 := by split <;> decide
  have := join_le ts
  omega
mutual
theorem shown_le : ∀ {d : D}, fitS d = true → flat d = true ∧ PyData.showable d = true ∧ d.shown.length ≤ szB d
  | .none, _ => ⟨rfl, rfl, by show (("None" : String) : Str).length ≤ 4; decide⟩
  | .bool b, _ => ⟨rfl, rfl, by cases b <;> (show Str.length _ ≤ 5; decide)⟩
  | .int i, h => by
    have h1 : i.natAbs.log2 < 1920 := by simpa [fitS] using h
    refine ⟨rfl, by simpa [PyData.showable] using h1, ?_⟩
    have := int_text_length_le (a := i) (k := 1920) (by decide) h1
    show (Str.ofString (toString i)).length ≤ 1921
    rw [PySem.ofString_length]
    exact this
  | .str x, h => by
    refine ⟨rfl, rfl, ?_⟩
    have h1 : PyData.strOk x = true := by simpa [fitS] using h
    show (reprText x).length ≤ 10 * x.length + 2
    refine StrLaws.reprText_len x fun c hc => ?_
    unfold PyData.strOk at h1
    rw [← Array.all_toList, List.all_eq_true] at h1
    exact Nat.lt_of_lt_of_le (of_decide_eq_true (h1 c hc)) (by decide)
  | .list xs, h => by
    obtain ⟨a, b, c⟩ := all_le (ds := xs) (by simpa [fitS] using h)
    refine ⟨by simpa [flat] using a, by simpa [PyData.showable] using b, ?_⟩
    have := list_le (PyData.shownAll xs)
    simp only [PyData.shown, szB]
    omega
  | .tuple xs, h => by
    obtain ⟨a, b, c⟩ := all_le (ds := xs) (by simpa [fitS] using h)
    refine ⟨by simpa [flat] using a, by simpa [PyData.showable] using b, ?_⟩
    have := tuple_le (PyData.shownAll xs)
    simp only [PyData.shown, szB]
    omega
  | .dict _, h => by simp [fitS] at h
theorem all_le : ∀ {ds : List D}, fitAll ds = true → flatAll ds = true ∧ PyData.showableAll ds = true ∧ piled (PyData.shownAll ds) ≤ szAll ds
  | [], _ => ⟨rfl, rfl, Nat.le_refl _⟩
  | d :: ds, h => by
    rw [fitAll, Bool.and_eq_true] at h
    obtain ⟨a, b, c⟩ := shown_le h.1
    obtain ⟨a2, b2, c2⟩ := all_le h.2
    refine ⟨by rw [flatAll, a, a2]; rfl, by rw [PyData.showableAll, b, b2]; rfl, ?_⟩
    rw [PyData.shownAll, piled_cons, szAll]
    omega
end
theorem shows_of {d : D} (h : fitS d = true) (h1 : Nat.ble (szB d) 16777216 = true) (h2 : Nat.ble d.depth 50 = true) : Shows d := by
  obtain ⟨a, b, c⟩ := shown_le h
  refine ⟨a, b, Nat.le_trans c ?_, Nat.le_of_ble_eq_true h2⟩
  rw [sizeLine_eq]
  exact Nat.le_of_ble_eq_true h1
end DL

/-! K8a -/
namespace Law
open PySem PySem.Spec PyProof.Rows L2 DL L2.DX
mutual
/-- the same data, without dicts and lists -/
def eqX : D → D → Bool
  | .none, .none => true
  | .int a, .int b => decide (a = b)
  | .str a, .str b => decide (a = b)
  | .tuple a, .tuple b => eqXs a b
  | _, _ => false
def eqXs : List D → List D → Bool
  | [], [] => true
  | a :: r, b :: s => eqX a b && eqXs r s
  | _, _ => false
end
mutual
theorem eqX_of : ∀ {a b : D}, eqX a b = true → a = b
  | .none, .none, _ => rfl
  | .int a, .int b, h => by rw [of_decide_eq_true (show decide (a = b) = true by simpa [eqX] using h)]
  | .str a, .str b, h => by rw [of_decide_eq_true (show decide (a = b) = true by simpa [eqX] using h)]
  | .tuple a, .tuple b, h => by rw [eqXs_of (show eqXs a b = true by simpa [eqX] using h)]
  | .none, .bool _, h | .none, .int _, h | .none, .str _, h | .none, .list _, h | .none, .tuple _, h | .none, .dict _, h => by simp [eqX] at h
  | .int _, .none, h | .int _, .bool _, h | .int _, .str _, h | .int _, .list _, h | .int _, .tuple _, h | .int _, .dict _, h => by simp [eqX] at h
  | .str _, .none, h | .str _, .bool _, h | .str _, .int _, h | .str _, .list _, h | .str _, .tuple _, h | .str _, .dict _, h => by simp [eqX] at h
  | .tuple _, .none, h | .tuple _, .bool _, h | .tuple _, .int _, h | .tuple _, .list _, h | .tuple _, .str _, h | .tuple _, .dict _, h => by simp [eqX] at h
  | .bool _, _, h => by simp [eqX] at h
  | .list _, _, h => by simp [eqX] at h
  | .dict _, _, h => by simp [eqX] at h
theorem eqXs_of : ∀ {a b : List D}, eqXs a b = true → a = b
  | [], [], _ => rfl
  | a :: r, b :: s, h => by
    rw [eqXs, Bool.and_eq_true] at h
    rw [eqX_of h.1, eqXs_of h.2]
  | [], _ :: _, h => by simp [eqXs] at h
  | _ :: _, [], h => by simp [eqXs] at h
end
/-! words, in the order of their numbers -/
def kI (x : Key × D) : Int := match x.1 with
  | .inl i => i
  | .inr _ => 0
def isI (x : Key × D) : Bool := match x.1 with
  | .inl _ => true
  | .inr _ => false
def insW (x : Key × D) : List (Key × D) → List (Key × D)
  | [] => [x]
  | y :: r => if kI x ≤ kI y then x :: y :: r else y :: insW x r
def sortW : List (Key × D) → List (Key × D)
  | [] => []
  | x :: r => insW x (sortW r)
theorem insW_perm (x : Key × D) : ∀ l, (insW x l).Perm (x :: l)
  | [] => List.Perm.refl _
  | y :: r => by
    unfold insW
    split
    · exact List.Perm.refl _
    · exact ((insW_perm x r).cons y).trans (List.Perm.swap x y r)
theorem sortW_perm : ∀ l, (sortW l).Perm l
  | [] => List.Perm.refl _
  | x :: r => (insW_perm x _).trans ((sortW_perm r).cons x)
def ascW : List (Key × D) → Bool
  | [] => true
  | x :: r => isI x && r.all (fun y => decide (kI x < kI y)) && ascW r
theorem leK_kI {a b : Key × D} (h : leK a b) : kI a ≤ kI b := by
  obtain ⟨i, j, e1, e2, h⟩ := h
  unfold kI
  rw [e1, e2]
  exact h
theorem asc_eq : ∀ {l ws : List (Key × D)}, ascW l = true → ws.Perm l → ws.Pairwise leK → ws = l
  | [], ws, _, p, _ => p.eq_nil
  | x :: r, ws, h, p, q => by
    rw [ascW, Bool.and_eq_true, Bool.and_eq_true, List.all_eq_true] at h
    cases ws with
    | nil => exact absurd p.symm.eq_nil (by simp)
    | cons y s =>
      have hy : y ∈ x :: r := p.subset (List.mem_cons_self ..)
      have hx : x ∈ y :: s := p.symm.subset (List.mem_cons_self ..)
      by_cases e : y = x
      · subst e
        rw [asc_eq h.2 p.cons_inv (List.pairwise_cons.mp q).2]
      · have hy' : y ∈ r := by
          rcases List.mem_cons.mp hy with z | z
          · exact absurd z e
          · exact z
        have hx' : x ∈ s := by
          rcases List.mem_cons.mp hx with z | z
          · exact absurd z.symm e
          · exact z
        have h1 := of_decide_eq_true (h.1.2 y hy')
        have h2 := leK_kI ((List.pairwise_cons.mp q).1 x hx')
        omega
theorem sort_eq {ws ms : List (Key × D)} (h : ascW (sortW ms) = true) (p : ws.Perm ms) (q : ws.Pairwise leK) : ws = sortW ms :=
  asc_eq h (p.trans (sortW_perm ms).symm) q
/-! a code, by computing -/
def okTB : D → Bool
  | .tuple ds => decide (ds.length ≤ 16000) && ds.all fun d => match d with | .str s => Nat.ble s.length 1000 | _ => true
  | _ => false
theorem okT_of {x : D} (h : okTB x = true) : okT x := by
  cases x with
  | tuple ds =>
    rw [okTB, Bool.and_eq_true, List.all_eq_true] at h
    refine ⟨of_decide_eq_true h.1, fun d hd s e => ?_⟩
    subst e
    have h1 : s.length ≤ 1000 := Nat.le_of_ble_eq_true (h.2 _ hd)
    rw [sizeLine_eq]
    omega
  | _ => simp [okTB] at h
def codeB (code : List D) : Bool := Nat.ble 1 code.length && Nat.ble code.length 60 && code.all okTB && code.all fun x => insD x code.length
theorem code_of {code : List D} (h : codeB code = true) : CodeOk code := by
  simp only [codeB, Bool.and_eq_true, List.all_eq_true] at h
  exact ⟨Nat.le_of_ble_eq_true h.1.1.1, Nat.le_of_ble_eq_true h.1.1.2, fun x hx => okT_of (h.1.2 x hx), fun x hx => h.2 x hx⟩
def showB (d : D) : Bool := fitS d && Nat.ble (szB d) 16777216 && Nat.ble d.depth 50
theorem show_of {d : D} (h : showB d = true) : Shows d := by
  rw [showB, Bool.and_eq_true, Bool.and_eq_true] at h
  exact shows_of h.1.1 h.1.2 h.2
def retD : D := .tuple [.str "return"]
def pathN (n : Nat) : List Int := (List.range n).map fun (i : Nat) => (i : Int)

theorem walkW_keeps {code : List D} (c : CodeOk code) : ∀ (l : List Int) (m mE : MS), MOk m → WOk m → m.words.length + l.length ≤ 900 → walkW code l m = some mE → MOk mE ∧ WOk mE ∧ mE.words.length ≤ m.words.length + l.length
  | [], m, mE, ok, wk, hl, h => by
    obtain rfl : m = mE := Option.some.inj h
    exact ⟨ok, wk, Nat.le_refl _⟩
  | i :: r, m, mE, ok, wk, hl, h => by
    have h : (match stepW code m i with | some m' => walkW code r m' | none => none) = some mE := h
    rw [List.length_cons] at hl ⊢
    cases e : stepW code m i with
    | none => (rw [e] at h; cases h)
    | some m' =>
      rw [e] at h
      obtain ⟨w', rest, ps, ws, hat, hin, ea, esc, hany, e2⟩ := step_of e c
      have kp := act_keeps (parts_of hin) ok wk (by omega)
      have hlen := kp.len
      subst e2
      obtain ⟨x, y, z⟩ := walkW_keeps c r _ mE (kp.ok.place i) (kp.wk.place i) (by show (actM m w' rest).1.words.length + r.length ≤ 900; omega) h
      refine ⟨x, y, Nat.le_trans z ?_⟩
      show (actM m w' rest).1.words.length + r.length ≤ _
      omega
theorem walkS_words {code : List D} {path : List Int} {mE : MS} (c : CodeOk code) (hp : path.length ≤ 500) (h : walkS code path = some mE) : mE.words.length ≤ 501 := by
  cases path with
  | nil => cases h
  | cons i r =>
    have h : (if i = 0 then walkW code r m0 else none) = some mE := h
    split at h
    · rw [List.length_cons] at hp
      have h1 : m0.words.length = 1 := rfl
      have := (walkW_keeps c r m0 mE ok_m0 wk_m0 (by omega) h).2.2
      omega
    · cases h
/-- what advance tells at a state -/
def advW (code : List D) (m : MS) : D := match atI code m.place with
  | some (.tuple (.str w :: rest)) => advD code w rest (actM m w rest)
  | _ => .none
theorem advW_of {code : List D} {m : MS} {d : List D} (c : CodeOk code) (h : advW code m = .tuple d) : ∃ w rest, atI code m.place = some (.tuple (.str w :: rest)) ∧ insR w rest code.length ∧ advD code w rest (actM m w rest) = .tuple d := by
  unfold advW at h
  split at h
  · rename_i w rest e
    exact ⟨w, rest, e, c.ins _ (at_mem e), h⟩
  · cases h
end Law

/-! K8l -/
namespace Law
open PySem PySem.Spec PyProof.Rows L2 DL L2.DX
def d__law_of (ds : List D) : WE Nat := fun z Q => z < 2 ^ 40 ∧ ((∃ xs, ds = [.list xs] ∧ 0 < xs.length ∧ xs.length ≤ 1000000 ∧ ∀ y ∈ xs, Q (z + 1) y) ∨ ∃ t : Str, ds = [.str t] ∧ 0 < t.length ∧ t.length ≤ 1000000 ∧ ∀ c ∈ t.cps.toList, Q (z + 1) (.str ⟨#[c]⟩))
section
variable {P : Program} {w : World} {K : PySem.W.Frag} {base : Heap} {mg : Str → Option Value}

abbrev s__law_of : Stmt := top 53
abbrev n__law_of : List Str := ["state", "some"]
abbrev p__law_of : List Str := ["state", "some"]
theorem sc__law_of : FnScope n__law_of p__law_of (defScope s__law_of) := ⟨rfl, rfl, rfl, by decide +kernel, rfl, by decide +kernel, by decide +kernel⟩

theorem ok__law_of {f : Addr} {fd : FuncData} (s0 : StA) (F : Fd K mg "_law_of" s__law_of p__law_of f fd) (T : BltC mg) {f__law_draw : Addr} {fd__law_draw : FuncData} (F__law_draw : Fd K mg "_law_draw" s__law_draw p__law_draw f__law_draw fd__law_draw)
    (G__law_draw : FnG P w K mg base CX0 2 f__law_draw fd__law_draw p__law_draw (spS K (GS s0) (.ref s0.sd) 1 dDraw)) : FnG P w K mg base CX0 3 f fd p__law_of (spS K (GS s0) (.ref s0.sd) 1 d__law_of) := by
  refine fn_body0 F.fn sc__law_of spS_len (fun cdv A outer s H vs Q E hg hr h => ?_)
  refine ⟨_, (pss_one (ps_ret (pe_ix ix_seq (pv 1) (pe_callG G__law_draw hg (hr.mono (by decide)) rfl F__law_draw.mg F__law_draw.fn.kp F__law_draw.b .nil pass0 (pa_cons (pv 0) (pa_cons (pe_callB call_len (by rfl) T.b_len (by decide +kernel) (pa_cons (pv 1) pa_nil)) pa_nil))) (fun _ _ => rfl)))),
    body_ofS (es_ret fun ρ => (ev_op rw_ix ev_pv (ev_callSt (ea_cons (ev_call rws_len (ea_cons ev_pv ea_nil)) ea_nil)))) (fun ds z Q' hl hf => ?_) h (by decide)⟩
  obtain ⟨hz, hf⟩ := hf
  rcases hf with ⟨xs, rfl, h0, h1, hq⟩ | ⟨t, rfl, h0, h1, hq⟩
  · refine ⟨_, rfl, rfl, _, rfl, (xs.length : Int), rfl, by omega, by omega, hz, fun r r0 r1 => ?_⟩
    obtain ⟨i, rfl⟩ : ∃ i : Nat, r = (i : Int) := ⟨r.toNat, by omega⟩
    have hi : i < xs.length := by omega
    exact ⟨xs[i], atI_nat (List.getElem?_eq_getElem hi), hq _ (List.getElem_mem hi)⟩
  · have hs : t.length ≤ sizeLine := by have := sizeLine_eq; omega
    refine ⟨_, rfl, rfl, _, rfl, hs, (t.length : Int), rfl, by omega, by omega, hz, fun r r0 r1 => ?_⟩
    obtain ⟨i, rfl⟩ : ∃ i : Nat, r = (i : Int) := ⟨r.toNat, by omega⟩
    have hi : i < t.cps.toList.length := by
      have : t.cps.toList.length = t.length := rfl
      omega
    exact ⟨hs, _, atI_nat (List.getElem?_eq_getElem hi), hq _ (List.getElem_mem hi)⟩

end
end Law

/-! DLgw -/
namespace DL
open PySem PySem.Spec PyProof.Rows L2 Law
variable {Z : Type}
section
variable {G : Gd Z} {J : Hp → Prop} {z z' : Z} {B H B' H' : Hp} {hJ : ∀ B B', Same B B' → J B → J B'}
/-- a guard, and something that is known besides -/
def GW (G : Gd Z) (J : Hp → Prop) (hJ : ∀ B B', Same B B' → J B → J B') : Gd Z where
  S := G.S
  inv := fun z B H => G.inv z B H ∧ J B
  loc := fun z B B' H H' e f i => ⟨⟨(G.loc z B B' H H' e f i.1).1, hJ B B' e i.2⟩, (G.loc z B B' H H' e f i.1).2⟩
  dom := fun z B H a i s => G.dom z B H a i.1 s
theorem Ok.gw (o : Ok G z B H) (j : J B) : Ok (GW G J hJ) z B H := ⟨o.sub, o.off, o.inv, j⟩
theorem Ok.un (o : Ok (GW G J hJ) z B H) : Ok G z B H := ⟨o.sub, o.off, o.inv.1⟩
theorem Go.gw (g : Go G B H z' B' H') (j : J B) : Go (GW G J hJ) B H z' B' H' := ⟨g.bb, g.ok.gw (hJ _ _ g.bb j), g.fr, g.gr, g.ex, g.sep⟩
end
section
variable {K : PySem.W.Frag} {ρ : Rho} {J : Hp → Prop} {hJ : ∀ B B', Same B B' → J B → J B'}
/-- a call that draws, whatever the draws lean on -/
theorem ev_callSx {s : StA} {ta : TA} {n i : Nat} {wa : Nat → (Nat → List D → Prop) → Prop} {f : List D → WE Nat} {e' : XK} (h : EvA (GW (GS s) J hJ) K ta ρ n wa) :
    EvE (GW (GS s) J hJ) K (tCall (spX fun i : ULift.{1} StA => spS K (GS i.down) (.ref i.down.sd) n f) [] e' (tCons (tVar i) ta)) ρ (fun z Q => ρ[i]? = some (.val (.ref s.sd)) ∧ wa z fun z1 ds => f ds z1 Q) :=
  fun σ B H z E o Q' hw Q k => ⟨.ref s.sd, E.val i _ hw.1, h σ B H z E o _ hw.2 _ fun vs z1 B1 H1 ds hl g1 r1 q1 => by
    show spX _ ((.ref s.sd :: vs) ++ []) H1 Q e'
    rw [List.append_nil]
    exact ⟨⟨s⟩, vs, rfl, by rw [r1.length, hl], B1, z1, ds, Q', g1.ok.un, r1, q1, fun v z2 B2 H2 d g2 r2 q2 => k v z2 B2 H2 d (g1.trans (g2.gw g1.ok.inv.2)) r2 q2⟩⟩
/-- the length of a list that stands, no data -/
theorem ev_lenS {G : Gd Z} {a : Addr} {xs : List V} {i : Nat} (hj : ∀ B, J B → SqL K B a xs) : EvE (GW G J hJ) K (tCB (rLenA K) (tCons (tVar i) tNil)) ρ (fun z Q => ρ[i]? = some (.val (.ref a)) ∧ Q z (.int xs.length)) :=
  fun σ B H z E o Q' hw Q k => ⟨.ref a, E.val i _ hw.1, _, _, rfl, .inl ⟨xs, same_l o.sub (hj B o.inv.2), rfl⟩, k _ z B H _ (Go.refl o) (.int _) hw.2⟩
theorem rg_dv {K : PySem.W.Frag} {B : Hp} (n : Nat) : ∀ l : List Nat, DvAll K B (l.map fun i => V.int (0 + (i : Nat))) ((l.map fun (i : Nat) => (i : Int)).map PyData.int)
  | [] => .nil
  | x :: r => by
    rw [List.map_cons, List.map_cons, List.map_cons, Int.zero_add]
    exact .cons (.int _) (rg_dv n r)
/-- tuple(range(n)) -/
theorem ev_tupRg {G : Gd Z} {ta : TE} {wa : WE Z} (ha : EvE G K ta ρ wa) : EvE G K (tTupRg (tRg1 ta)) ρ (fun z Q => wa z fun z1 x => ∃ n : Nat, x = .int n ∧ n ≤ 1000000 ∧ Q z1 (.tuple ((pathN n).map .int))) :=
  fun σ B H z E o Q' hw Q k => ha σ B H z E o _ hw _ fun x z1 B1 H1 dx g1 r1 q1 => by
    obtain ⟨n, rfl, hn, q⟩ := q1
    cases r1
    refine ⟨_, rfl, RgOk.of_le (by decide) (by omega) (by decide) (by omega), fun p hp => ?_⟩
    obtain ⟨g, r⟩ := mk_tup (K := K) g1.ok hp (xs := rgV 0 n) (ds := (pathN n).map .int) (by
      have e : ((n : Int) - 0).toNat = n := by omega
      unfold rgV pathN
      rw [e]
      exact rg_dv n _)
    exact k _ z1 _ _ _ (g1.trans g) r q
theorem rw_neS {G : Gd Z} : RW G K rNe (fun x y z Q => ∃ b, scEq x y = some b ∧ Q z (.bool (!b))) := fun B H z x y dx dy o rx ry Q' hw Q k => by
  obtain ⟨b, e, q⟩ := hw
  obtain ⟨h1, h2⟩ := scEq_of rx ry e
  exact ⟨h1, by rw [h2]; exact k _ z B H _ (Go.refl o) (.bl _) q⟩
theorem rw_eqS {G : Gd Z} : RW G K rEq (fun x y z Q => ∃ b, scEq x y = some b ∧ Q z (.bool b)) := fun B H z x y dx dy o rx ry Q' hw Q k => by
  obtain ⟨b, e, q⟩ := hw
  obtain ⟨h1, h2⟩ := scEq_of rx ry e
  exact ⟨h1, by rw [h2]; exact k _ z B H _ (Go.refl o) (.bl _) q⟩
/-- a comprehension with a test, whose items hang on nothing but the thing -/
theorem lc_sift {wg : D → Rho → (Rho → Prop) → Prop} {wt : Rho → Z → (Z → Bool → Prop) → Prop} {we : Rho → WE Z} {ρ : Rho} {Q : DK Z} {z : Z} (p : D → Bool) (g : D → D) : ∀ {ds : List D} {acc : List D},
    (∀ d ∈ ds, ∀ (Y : DK Z) (N : Z → Prop), (p d = true → Y z (g d)) → (p d = false → N z) → wg d ρ fun ρ1 => wt ρ1 z fun z1 b => if b = true then we ρ1 z1 Y else N z1) →
    acc.length + ds.length ≤ sizeLine → Q z (.list (acc ++ (ds.filter p).map g)) → wLc wg wt we ρ Q ds z acc
  | [], acc, _, _, q => by rw [List.filter_nil, List.map_nil, List.append_nil] at q; exact q
  | d :: r, acc, h, hl, q => by
    rw [List.length_cons] at hl
    refine h d (List.mem_cons_self ..) (fun z2 y => acc.length < sizeLine ∧ wLc wg wt we ρ Q r z2 (acc ++ [y])) (fun z1 => wLc wg wt we ρ Q r z1 acc) (fun e => ⟨by omega, ?_⟩) (fun e => ?_)
    · refine lc_sift p g (fun d' m => h d' (List.mem_cons_of_mem _ m)) (by rw [List.length_append, List.length_singleton]; omega) ?_
      rw [List.filter_cons, if_pos e, List.map_cons] at q
      rw [List.append_assoc]
      exact q
    · refine lc_sift p g (fun d' m => h d' (List.mem_cons_of_mem _ m)) (by omega) ?_
      rw [List.filter_cons, if_neg (by rw [e]; decide)] at q
      exact q
end
end DL

/-! DLend -/
namespace DL
open PySem PySem.Spec PyProof.Rows L2
/-! ### the end of a law whose def has its promise where no repr is under way -/
section
variable {P : Program} {w : World} {K : PySem.W.Frag} {mg mb : Str → Option Value} {CX : CXT} {k : Nat} {fa a : Addr} {fd : FuncData} {x : Str} {sp : Sp} {s : Shared} {us : List Value} {ns : List Int}
/-- no dict is hidden -/
def NoHid (h : Heap) (H : Hp) : Prop := ∀ (b : Addr) (o : Obj) (es : Array DictEntry) (ep : Nat), h.get? b = some o → o.data = .dict es ep → H b = none
theorem NoHid.lift {h : Heap} {H : Hp} (n : NoHid h H) {b : Addr} {m : Str → Option Value} (z : h.Ns b m) : (hidT h H).Ns b m := by
  obtain ⟨o, es, ep, e, d, r⟩ := z
  exact ⟨o, es, ep, hidT_get e (n b o es ep e d), d, r⟩
/-- what is wanted of the call -/
abbrev TrueOf (s : Shared) : Result → Shared → Prop := fun r s' => r = .ok (.ret (.bool true)) ∧ OldK s.heap s'.heap ∧ s'.os = s.os ∧ AllBare s'.gens
/-- from a heap that tells nothing but the script -/
theorem true_of {H : Hp} (hK : K.In s.heap) (hm : s.heap.Ns mainGlobals mg) (hb : s.heap.Ns builtinsNs mb) (hbb : ∀ y : Str, y ≠ "__name__" → mb y = bootBuiltins y) (hlim : s.heap.NoLimit) (hg : s.gens = #[])
    (hr : Room k callerA) (F : ∀ base : Heap, K.In base → base.Ns mainGlobals mg → FnG P w K mg base CX k fa fd [x] sp) (hbi : BindsTo s fd ⟨[.ref a], []⟩ [(x, .ref a)])
    (hO : Only H) (hok : HOk P w H s.heap) (hN : NoHid s.heap H) (hKH : ∀ b, K.lookup b ≠ none → H b = none) (hs : sp [.ref a] H (fun v _ => v = .bl true) fun _ _ _ => False)
    (hC : ∀ e s', CX [] H s (fun _ _ _ => False) e s' → False) : codeAny (model P w) callerA (.call (.ref fa) ⟨[.ref a], []⟩) (TrueOf s) s := by
  have kb : K.In (hidT s.heap H) := fun b o e => hidT_get (hK b o e) (hKH b (by rw [e]; intro z; cases z))
  obtain ⟨mc, l1, l2⟩ := hlim
  have e0 : Env0 P w K mg (hidT s.heap H) callerA [] s H :=
    ⟨rfl, ⟨kb, hN.lift hm, ⟨mb, hN.lift hb, hbb⟩, ⟨mc, hN.lift l1, l2⟩⟩, fun b o e => of_hidT e, Nat.le_of_eq (hidT_size _ _), trivial, fun b m => (nomatch m), hok, .of_eq hg⟩
  have run := (F _ kb (hN.lift hm)).go callerA [] s H ⟨[.ref a], []⟩ [.ref a] [.ref a] _ _ rfl hr e0 hbi (.cons rfl .nil) hs
  refine codeAny_mono run fun r s' z => ?_
  match r, z with
  | .error e, z => exact (hC e s' z).elim
  | .ok .next, z => exact (z : False).elim
  | .ok .brk, z => exact (z : False).elim
  | .ok .cont, z => exact (z : False).elim
  | .ok (.ret u), ⟨v, H', os, bare, un, ok', rv, q⟩ =>
    have q : v = .bl true := q
    rw [q] at rv
    have rv : u = Value.bool true := rv
    rw [rv]
    refine And.intro rfl ⟨OldK.of_keep fun b o e => ?_, os, bare⟩
    cases hb : H b with
    | none => exact un.keep b o e hb (fun z => by cases z) (by simp)
    | some t =>
      rcases hO b with z | ⟨ob, l, z⟩
      · exact absurd (hb.symm.trans z) (by intro z; cases z)
      · have c1 := (hok b _ z).1
        have c2 := (ok' b _ (un.frzs b ob _ z)).1
        rw [c1] at e
        exact e ▸ c2
/-- the call of the law -/
theorem call_true (hK : K.In s.heap) (hm : s.heap.Ns mainGlobals mg) (hb : s.heap.Ns builtinsNs mb) (hbb : ∀ y : Str, y ≠ "__name__" → mb y = bootBuiltins y) (hlim : s.heap.NoLimit) (hg : s.gens = #[])
    (ho : s.heap.get? a = some { cls := .type "list", data := .seq us.toArray }) (hi : IntsAre us ns) (hl : ns.length ≤ sizeLine)
    (hr : Room k callerA) (F : ∀ base : Heap, K.In base → base.Ns mainGlobals mg → FnG P w K mg base CX k fa fd [x] sp) (hbi : ∀ (s : Shared) (u : Value), BindsTo s fd ⟨[u], []⟩ [(x, u)])
    (hs : ∀ H : Hp, SqL K H a (ns.map V.int) → sp [.ref a] H (fun v _ => v = .bl true) fun _ _ _ => False) (hC : ∀ H e s', CX [] H s (fun _ _ _ => False) e s' → False) :
    codeAny (model P w) callerA (.call (.ref fa) ⟨[.ref a], []⟩) (TrueOf s) s := by
  have rv := vals_ints hi
  cases hk : K.lookup a with
  | some o =>
    have e := hK a o hk
    rw [ho] at e
    obtain rfl := Option.some.inj e
    exact true_of (H := fun _ => none) hK hm hb hbb hlim hg hr F (hbi s _) (fun _ => .inl rfl) (fun b t z => by cases z) (fun _ _ _ _ _ _ => rfl) (fun _ _ => rfl)
      (hs _ (.inr ⟨_, us.toArray, _, hk, rfl, rfl, rfl, by rw [List.size_toArray, hi.length]; exact hl, by simpa using rv⟩)) (hC _)
  | none =>
    have here : (fun b => if b = a then some (HO.frz { cls := .type "list", data := .seq us.toArray } (.lst (ns.map V.int))) else none : Hp) a = some (.frz { cls := .type "list", data := .seq us.toArray } (.lst (ns.map V.int))) := if_pos rfl
    generalize hH : (fun b => if b = a then some (HO.frz { cls := .type "list", data := .seq us.toArray } (.lst (ns.map V.int))) else none : Hp) = H at here
    have away : ∀ b, b ≠ a → H b = none := fun b n => by rw [← hH]; exact if_neg n
    refine true_of (H := H) hK hm hb hbb hlim hg hr F (hbi s _) (fun b => ?_) (fun b t z => ?_) (fun b o es ep e d => ?_) (fun b n => ?_) (hs _ (.inl (.inr ⟨_, here⟩))) (hC _)
    · by_cases q : b = a
      · rw [q]; exact .inr ⟨_, _, here⟩
      · exact .inl (away b q)
    · by_cases q : b = a
      · rw [q] at z ⊢
        obtain rfl := Option.some.inj (here.symm.trans z)
        exact ⟨ho, by rw [List.length_map]; exact hl, us, _, rv, ho⟩
      · exact absurd ((away b q).symm.trans z) (by intro z; cases z)
    · by_cases q : b = a
      · rw [q, ho] at e
        obtain rfl := Option.some.inj e
        cases d
      · exact away b q
    · by_cases q : b = a
      · rw [q] at n; exact absurd hk n
      · exact away b q
end
/-- the walk that the head asks for -/
theorem walk_true {l : PySem.W.OpenLaw} {n k : Nat} {q : Program} {loose : List Str} {XP : (Str → Option Value) → Heap → Prop} {YP : World → Heap → Prop} {d : DefRec} {K : Params → PySem.W.Frag} {sp : World → Sp} {x : Str}
    (hn : l.most = some n) (hn2 : n ≤ sizeLine) (hd : d.params.defaults = []) (hr : Room k callerA) (hY : ∀ (w : World) (h : Heap), YP w h → (K w.params).In h)
    (F : ∀ (w : World) (mg : Str → Option Value) (fa : Addr) (h : Heap), (K w.params).In h → h.Ns mainGlobals mg → mg d.name = some (.ref fa) → ∃ fd : FuncData, (∀ (s : Shared) (u : Value), BindsTo s fd ⟨[u], []⟩ [(x, u)]) ∧ ∀ base : Heap, (K w.params).In base → base.Ns mainGlobals mg → FnG l.prog w (K w.params) mg base CX0 k fa fd [x] (sp w))
    (hs : ∀ (w : World) (H : Hp) (a : Addr) (ns : List Int), ns.length ≤ n → SqL (K w.params) H a (ns.map V.int) → sp w [.ref a] H (fun v _ => v = .bl true) fun _ _ _ => False) :
    PySem.W.WalkO q loose XP YP l.row.toRowW d [] (fun f vs => PySem.call f vs) := Att.attach_call hn hd fun w s₀ s₁ mg mb fa o pm cd doc a vs ns G Y ho hdd hcd hmg hobj hints hlen hg => by
    have KX := hY w _ Y
    obtain ⟨fd, hb, F1⟩ := F w mg fa _ KX G.T.g hmg
    exact call_true KX G.T.g G.T.b G.T.builtins G.T.nolimit hg hobj hints (Nat.le_trans hlen hn2) hr F1 hb (fun H hS => hs w H a ns hlen hS) fun _ _ _ z => z
end DL

/-! DLhd -/
namespace DL
open PySem PySem.Spec PyProof.Rows L2
/-! ### what the top has made: one fact after another -/
section
variable {R : Prop} {K : PySem.W.Frag} {h : Heap} {mg : Str → Option Value} {w : World}
/-- how the arguments of a def of the text are bound -/
def ArgsOk (x : Str) (st : Stmt) (ps : List Str) : Prop := ∀ (kV doc pm : Value) (an : Option Addr) (cdv ct : Value) (us : List Value), us.length = ps.length → bindArgs (PySem.W.fnOf x x (defArgs st) (defBody st) (defScope st) .none kV doc pm an cdv ct) ⟨us, []⟩ = pure (ps.zip us)
theorem with_def {x : Str} {st : Stmt} {ps : List Str} (hb : ArgsOk x st ps) (X : K.In h) (G : h.Ns mainGlobals mg) {f : Addr} {oc : Value} {od an : Option Addr} {sl : Array (Option Value)} {kV dc pm cd ct : Value}
    (a : PySem.W.nsIn K mainGlobals x = some (some (.ref f))) (l : K.lookup f = some ⟨oc, od, .func (PySem.W.fnOf x x (defArgs st) (defBody st) (defScope st) .none kV dc pm an cd ct), sl⟩)
    (c : PySem.W.codeIn K cd x = true) (k : PySem.W.keepIn K (.ref f) = true) (r : ∀ fd, Fd K mg x st ps f fd → R) : R :=
  r _ ⟨fun_mk (st := st) l c k, PySem.W.mg_of X G a, (fun_mk (st := st) l c k).binds hb⟩
theorem with_none {x : Str} (X : K.In h) (G : h.Ns mainGlobals mg) (a : PySem.W.nsIn K mainGlobals x = some none) (r : mg x = none → R) : R := r (PySem.W.mg_none_of X G a)
theorem with_int {x : Str} {i : Int} {t : Tok} (X : K.In h) (G : h.Ns mainGlobals mg) (a : PySem.W.nsIn K mainGlobals x = some (some (.int i t))) (r : ∀ u, KC K mg x (.int i) (.int i) u → R) : R :=
  r _ ⟨PySem.W.mg_of X G a, ⟨t, rfl⟩, fun _ => .int i⟩
theorem with_str {x : Str} {i : Str} {t : Tok} (X : K.In h) (G : h.Ns mainGlobals mg) (a : PySem.W.nsIn K mainGlobals x = some (some (.str i t))) (r : ∀ u, KC K mg x (.str i) (.str i) u → R) : R :=
  r _ ⟨PySem.W.mg_of X G a, ⟨t, rfl⟩, fun _ => .str i⟩
/-- plain items of a written tuple -/
inductive Plain : List Value → List D → Prop
  | nil : Plain [] []
  | int {i : Int} {t : Tok} {us : List Value} {ds : List D} : Plain us ds → Plain (.int i t :: us) (.int i :: ds)
  | str {x : Str} {t : Tok} {us : List Value} {ds : List D} : Plain us ds → Plain (.str x t :: us) (.str x :: ds)
theorem Plain.vals {us : List Value} {ds : List D} (h : Plain us ds) : ∃ vs : List V, Vals vs us ∧ ∀ H, DvAll K H vs ds := by
  induction h with
  | nil => exact ⟨[], .nil, fun _ => .nil⟩
  | @int i t us ds _ ih => obtain ⟨vs, a, b⟩ := ih; exact ⟨.int i :: vs, .cons ⟨t, rfl⟩ a, fun H => .cons (.int i) (b H)⟩
  | @str x t us ds _ ih => obtain ⟨vs, a, b⟩ := ih; exact ⟨.str x :: vs, .cons ⟨t, rfl⟩ a, fun H => .cons (.str x) (b H)⟩
theorem tup_of {a : Addr} {o : Obj} {its : Array Value} {n : Nat} {ds : List D} (l : K.lookup a = some o) (hc : o.cls = .type "tuple") (hs : o.data = .seq its n) (hz : Nat.ble its.size 1000 = true) (p : Plain its.toList ds) : ∀ H, Dv K H (.ref a) (.tuple ds) := by
  obtain ⟨vs, rv, dv⟩ := p.vals (K := K)
  have hz' : its.size ≤ sizeLine := by
    have := Nat.le_of_ble_eq_true hz
    rw [sizeLine_eq]; omega
  exact fun H => .tup (.inr ⟨o, its, n, l, hc, hs, hz', rv⟩) (dv H)
theorem with_tup {x : Str} {a : Addr} {c : Value} {its : Array Value} {n : Nat} {sl : Array (Option Value)} {ds : List D} (X : K.In h) (G : h.Ns mainGlobals mg) (e : PySem.W.nsIn K mainGlobals x = some (some (.ref a)))
    (l : K.lookup a = some ⟨c, none, .seq its n, sl⟩) (hc : c = .type "tuple") (hz : Nat.ble its.size 1000 = true) (p : Plain its.toList ds) (r : KC K mg x (.tuple ds) (.ref a) (.ref a) → R) : R :=
  r ⟨PySem.W.mg_of X G e, rfl, tup_of l hc rfl hz p⟩
/-- the keys of a written dict are some texts -/
def KeysOf (tab : List (Str × D)) : List DictEntry → Prop
  | [] => True
  | e :: r => (∃ x t, e.key = .str x t ∧ (tab.lookup x).isSome = true) ∧ KeysOf tab r
theorem KeysOf.no {tab : List (Str × D)} {x : Str} (hx : tab.lookup x = none) : ∀ {l : List DictEntry}, KeysOf tab l → l.find? (·.key.isStr x) = none ∧ l.any (·.refKey) = false
  | [], _ => ⟨rfl, rfl⟩
  | e :: r, ⟨⟨y, t, e1, e2⟩, hr⟩ => by
    obtain ⟨h1, h2⟩ := KeysOf.no hx hr
    have ny : (e.key.isStr x) = false := by
      rw [e1]
      cases q : (Value.str y t).isStr x with
      | false => rfl
      | true =>
        have : y = x := by
          have q' : (x == y) = true ∨ (y == x) = true := by
            first | exact .inl q | exact .inr q
          rcases q' with z | z
          · exact (eq_of_beq z).symm
          · exact eq_of_beq z
        rw [this, hx] at e2; cases e2
    have nr : e.refKey = false := by unfold DictEntry.refKey; rw [e1]
    exact ⟨by rw [List.find?_cons, ny]; exact h1, by rw [List.any_cons, nr, h2]; rfl⟩
theorem with_name {x : Str} {a : Addr} (X : K.In h) (G : h.Ns mainGlobals mg) (e : PySem.W.nsIn K mainGlobals x = some (some (.ref a))) (r : mg x = some (.ref a) → R) : R := r (PySem.W.mg_of X G e)
/-- what a written dict holds under a text -/
def Word (K : PySem.W.Frag) (a : Addr) (x : Str) (d : D) : Prop := ∃ u v, PySem.W.nsIn K a x = some (some u) ∧ RelV v u ∧ ∀ H, Dv K H v d
theorem with_word {x : Str} {a b : Addr} {c : Value} {its : Array Value} {n : Nat} {sl : Array (Option Value)} {ds : List D} {y : Str} (X : K.In h) (m : mg y = some (.ref a)) (e : PySem.W.nsIn K a x = some (some (.ref b)))
    (l : K.lookup b = some ⟨c, none, .seq its n, sl⟩) (hc : c = .type "tuple") (hz : Nat.ble its.size 1000 = true) (p : Plain its.toList ds) (r : Word K a x (.tuple ds) → R) : R :=
  r ⟨.ref b, .ref b, e, rfl, tup_of l hc rfl hz p⟩
theorem with_dict {a : Addr} {es : Array DictEntry} {n : Nat} {y : Str} (X : K.In h) (m : mg y = some (.ref a)) (l : K.lookup a = some ⟨.type "dict", none, .dict es n, #[]⟩) (lit : PySem.W.KeysLit w.params es.toList) (r : (∀ x f, PySem.W.nsIn K a x = some (some (.ref f)) → KDct K w a x (.ref f)) → R) : R :=
  r fun x f e => ⟨es, n, _, l, lit, e, rfl⟩
theorem with_key {a f : Addr} {x : Str} (X : K.In h) (H : ∀ x f, PySem.W.nsIn K a x = some (some (.ref f)) → KDct K w a x (.ref f)) (e : PySem.W.nsIn K a x = some (some (.ref f))) (r : KDct K w a x (.ref f) → R) : R := r (H x f e)
theorem with_tab {x : Str} {a : Addr} {es : Array DictEntry} {n : Nat} {tab : List (Str × D)} (X : K.In h) (m : mg x = some (.ref a)) (hit : ∀ p ∈ tab, Word K a p.1 p.2)
    (l : K.lookup a = some ⟨.type "dict", none, .dict es n, #[]⟩) (lit : PySem.W.KeysLit w.params es.toList) (low : (a == sysModules) = false) (ks : KeysOf tab es.toList) (r : KD K w mg x tab a → R) : R :=
  r ⟨m, ⟨es, n, l, lit, low⟩, fun y d q => hit (y, d) (mem_of_lookup q), fun y q => by
    obtain ⟨h1, h2⟩ := ks.no q
    unfold PySem.W.nsIn
    rw [l]
    show (match es.toList.find? (·.key.isStr y) with | some e => some (some e.val) | none => if es.toList.any (·.refKey) then none else some none) = some none
    rw [h1]
    show (if es.toList.any (·.refKey) then none else some none) = some none
    rw [h2]
    rfl⟩
  where mem_of_lookup {y : Str} {d : D} : ∀ {tab : List (Str × D)}, tab.lookup y = some d → (y, d) ∈ tab
    | [], q => by cases q
    | (k, v) :: r, q => by
      rw [List.lookup_cons] at q
      cases b : y == k with
      | true =>
        rw [b] at q
        cases q
        rw [eq_of_beq b]
        exact List.mem_cons_self ..
      | false => rw [b] at q; exact List.mem_cons_of_mem _ (mem_of_lookup q)
/-- the law's own def, at last -/
theorem fin_of {P : Program} {k : Nat} {x p : Str} {st : Stmt} {f fa : Addr} {fd : FuncData} {sp : Sp} (hb : ArgsOk x st [p]) (F : Fd K mg x st [p] f fd) (hm : mg x = some (.ref fa)) (g : ∀ base : Heap, FnG P w K mg base CX0 k f fd [p] sp) :
    ∃ fd : FuncData, (∀ (s : Shared) (u : Value), BindsTo s fd ⟨[u], []⟩ [(p, u)]) ∧ ∀ base : Heap, K.In base → base.Ns mainGlobals mg → FnG P w K mg base CX0 k fa fd [p] sp := by
  have e := hm.symm.trans F.mg
  cases e
  obtain ⟨oc, od, kV, doc, pm, an, cd, ct, sl, rfl, l, c⟩ := F.fn.ex
  exact ⟨_, fun s u => .of_eq (hb _ _ _ _ _ _ [u] rfl), fun base _ _ => g base⟩
end
end DL

/-! K8ro -/
namespace Law
open PySem PySem.Spec PyProof.Rows L2 DL L2.DX
variable {Z : Type}
theorem es_newL {G : Gd Z} {K : PySem.W.Frag} {tA : TA} {ρ : Rho} {n i : Nat} {wA : Z → (Z → List D → Prop) → Prop} (hA : EvA G K tA ρ n wA) {rest : TS} {Dn : Ends} {σ : L2.St} {B H : Hp} {z : Z} (E : EnvOk K B σ ρ) (o : Ok G z B H) (Q' : Z → List D → Prop) (hw : wA z Q')
    (k : ∀ vs z2 B2 H2 ds, ds.length = n → Go G B H z2 B2 H2 → DvAll K B2 vs ds → Q' z2 ds → ∀ l, H2 l = none → rest Dn (σ.set i (some (.ref l))) (upd H2 l (.lst vs))) (hn : n ≤ sizeLine) : tSeq (tAsg (tLst tA) (gName i)) rest Dn σ H :=
  hA σ B H z E o Q' hw _ fun vs z2 B2 H2 ds hl g r q => ⟨by rw [r.length, hl]; exact hn, fun l h => k vs z2 B2 H2 ds hl g r q l h⟩
theorem small_len {n : Nat} (h : Nat.ble n 100 = true) : n < sizeLine := by
  have h1 := Nat.le_of_ble_eq_true h
  have h2 := sizeLine_eq
  omega
theorem es_top {Z : Type} {G : Gd Z} {K : PySem.W.Frag} {t : TS} {wt : WS Z} (h : EvS G K t wt) {B0 H0 : Hp} (W : WEnds Z) {Dn : Ends} (R : Rel G K B0 H0 W Dn) {ρ : Rho} {z : Z} {σ : L2.St} {H : Hp} (a : At G K B0 H0 ρ z σ H) (q : wt W ρ z) : t Dn σ H := h B0 H0 W Dn R ρ z σ H a q
theorem env_asD {K : PySem.W.Frag} {B : Hp} {σ : L2.St} {ρ : Rho} {i : Nat} {v : V} {d : D} (E : EnvOk K B σ ρ) (h : σ[i]? = some (some v)) (dv : Dv K B v d) : EnvOk K B σ (ρ.set i (.dat d)) := by
  refine ⟨by rw [List.length_set]; exact E.len, fun j e q => ?_, fun j w q => ?_⟩
  · by_cases hj : i = j
    · subst hj
      by_cases hi : i < ρ.length
      · rw [List.getElem?_set_self hi] at q; cases q; exact ⟨v, h, dv⟩
      · rw [List.getElem?_eq_none (by simpa using Nat.le_of_not_lt hi)] at q; cases q
    · rw [List.getElem?_set_ne hj] at q; exact E.dat j e q
  · by_cases hj : i = j
    · subst hj
      by_cases hi : i < ρ.length
      · rw [List.getElem?_set_self hi] at q; cases q
      · rw [List.getElem?_eq_none (by simpa using Nat.le_of_not_lt hi)] at q; cases q
    · rw [List.getElem?_set_ne hj] at q; exact E.val j w q
theorem env_any {K : PySem.W.Frag} {B : Hp} {σ : L2.St} {n : Nat} (h : σ.length = n) : EnvOk K B σ (List.replicate n .any) := by
  refine ⟨by rw [List.length_replicate]; exact h, fun i d e => ?_, fun i v e => ?_⟩
  · rw [List.getElem?_replicate] at e; split at e <;> cases e
  · rw [List.getElem?_replicate] at e; split at e <;> cases e
def rowsD (one two : Str) (n : Int) : List D := [
  .tuple [.list [.tuple [.str "grow", .int 64], .tuple [.str "push", .str one]], .str "sp"],
  .tuple [.list [.tuple [.str "grow", .int 63], .tuple [.str "push", .str one]], .str ""],
  .tuple [.list [.tuple [.str "pop", .str one]], .str "sp"],
  .tuple [.list [.tuple [.str "push", .str two], .tuple [.str "pop", .str one]], .str ""],
  .tuple [.list [.tuple [.str "shrink", .int n]], .str "sp"],
  .tuple [.list [.tuple [.str "grow", .int n], .tuple [.str "shrink", .int n]], .str ""],
  .tuple [.list [.tuple [.str "grow", .int n], .tuple [.str "shrink", .int (n + 1)]], .str "sp"],
  .tuple [.list [.tuple [.str "grow", .int n], .tuple [.str "grow", .int (64 - n)]], .str ""],
  .tuple [.list [.tuple [.str "grow", .int n], .tuple [.str "grow", .int 64]], .str "sp"],
  .tuple [.list [.tuple [.str "store", .str "sp", .int (-64), .str one]], .str ""],
  .tuple [.list [.tuple [.str "grow", .int 1], .tuple [.str "store", .str "sp", .int (-64), .str one]], .str "wild"],
  .tuple [.list [.tuple [.str "store", .str "sp", .int 1, .str one]], .str "wild"],
  .tuple [.list [.tuple [.str "load", .str one, .str "sp", .int 1]], .str "wild"],
  .tuple [.list [.tuple [.str "grow", .int n], .tuple [.str "load", .str one, .str "sp", .int n]], .str ""],
  .tuple [.list [.tuple [.str "grow", .int n], .tuple [.str "load", .str one, .str "sp", .int (n + 1)]], .str "wild"],
  .tuple [.list [.tuple [.str "store", .str one, .int 0, .str two]], .str "wild"],
  .tuple [.list [.tuple [.str "load", .str two, .str one, .int 0]], .str "wild"],
  .tuple [.list [.tuple [.str "setsp", .str one, .int 0]], .str "wild"],
  .tuple [.list [.tuple [.str "point", .str one, .int n], .tuple [.str "load", .str two, .str one, .int (0 - n)]], .str ""],
  .tuple [.list [.tuple [.str "point", .str one, .int 0], .tuple [.str "work", .str one]], .str ""],
  .tuple [.list [.tuple [.str "point", .str one, .int n], .tuple [.str "load", .str two, .str one, .int (1 - n)]], .str "wild"],
  .tuple [.list [.tuple [.str "point", .str one, .int n], .tuple [.str "setsp", .str one, .int (1 - n)]], .str "sp"],
  .tuple [.list [.tuple [.str "point", .str one, .int n], .tuple [.str "setsp", .str one, .int (0 - n)]], .str ""],
  .tuple [.list [.tuple [.str "point", .str one, .int (-64)], .tuple [.str "setsp", .str one, .int (-1)]], .str "sp"],
  .tuple [.list [.tuple [.str "point", .str one, .int (-64)], .tuple [.str "setsp", .str one, .int 0]], .str ""],
  .tuple [.list [.tuple [.str "load", .str one, .str "sp", .int 0], .tuple [.str "store", .str one, .int 0, .str two]], .str "wild"],
  .tuple [.list [.tuple [.str "point", .str one, .int 0], .tuple [.str "push", .str one], .tuple [.str "pop", .str two], .tuple [.str "store", .str two, .int (-3), .str one]], .str ""]]
def endsD (one : Str) (n : Int) : List D := [
  .tuple [.list [.tuple [.str "return"]], .tuple [.int 0], .tuple [], .tuple []],
  .tuple [.list [.tuple [.str "push", .str one], .tuple [.str "return"]], .tuple [.int 0, .int 1], .tuple [], .tuple [.str "return"]],
  .tuple [.list [.tuple [.str "store", .str "sp", .int 0, .str one], .tuple [.str "return"]], .tuple [.int 0, .int 1], .tuple [], .tuple [.str "return"]],
  .tuple [.list [.tuple [.str "load", .str one, .str "sp", .int 0], .tuple [.str "push", .str one], .tuple [.str "pop", .str one], .tuple [.str "store", .str "sp", .int 0, .str one], .tuple [.str "return"]], .tuple [.int 0, .int 1, .int 2, .int 3, .int 4], .tuple [], .tuple []],
  .tuple [.list [.tuple [.str "grow", .int n], .tuple [.str "shrink", .int n], .tuple [.str "return"]], .tuple [.int 0, .int 1, .int 2], .tuple [], .tuple []],
  .tuple [.list [.tuple [.str "work", .str one]], .tuple [.int 0], .tuple [], .tuple [.str "end"]],
  .tuple [.list [.tuple [.str "call", .str "f"]], .tuple [.int 0], .tuple [], .tuple [.str "end"]],
  .tuple [.list [.tuple [.str "branch", .int 0]], .tuple [.int 0, .int 0], .tuple [.int 0], .tuple [.str "end"]],
  .tuple [.list [.tuple [.str "jump", .int 0]], .tuple [.int 0, .int 0, .int 0], .tuple [.int 0], .tuple []],
  .tuple [.list [.tuple [.str "branch", .int 1], .tuple [.str "branch", .int 0]], .tuple [.int 0, .int 1], .tuple [.int 0], .tuple [.str "end"]],
  .tuple [.list [.tuple [.str "branch", .int 2], .tuple [.str "jump", .int 0], .tuple [.str "return"]], .tuple [.int 0], .tuple [.int 1, .int 2], .tuple []]]
def d__law_rows (ds : List D) : WE Z := fun z Q => ∃ (one two : Str) (n : Int), ds = [.str one, .str two, .int n] ∧ Q z (.list (rowsD one two n))
def d__law_ends (ds : List D) : WE Z := fun z Q => ∃ (one : Str) (n : Int), ds = [.str one, .int n] ∧ Q z (.list (endsD one n))
section
variable {P : Program} {w : World} {K : PySem.W.Frag} {base : Heap} {mg : Str → Option Value} {G : Gd Z}
abbrev s__law_rows : Stmt := top 54
abbrev n__law_rows : List Str := ["one", "two", "n", "rows"]
abbrev p__law_rows : List Str := ["one", "two", "n"]
theorem sc__law_rows : FnScope n__law_rows p__law_rows (defScope s__law_rows) := ⟨rfl, rfl, rfl, by decide +kernel, rfl, by decide +kernel, by decide +kernel⟩

theorem ok__law_rows {f : Addr} {fd : FuncData} (F : Fd K mg "_law_rows" s__law_rows p__law_rows f fd) : FnG P w K mg base CX0 1 f fd p__law_rows (spD K G 3 d__law_rows) := by
  refine fn_body0 F.fn sc__law_rows (spD_len (ps := p__law_rows)) (fun cdv A outer s H vs Q E hg hr h => ?_)
  obtain ⟨hl, B, z, ds, Q', o, r, ⟨one, two, n, rfl, q⟩, k⟩ := h
  cases r with
  | @cons v0 _ _ _ r0 r =>
  cases r with
  | @cons v1 _ _ _ r1 r =>
  cases r with
  | @cons v2 _ _ _ r2 r =>
  cases r
  refine ⟨_, (pss_cons (ps_set (i := 3) sc__law_rows.nd rfl (by first | exact Or.inl rfl | exact Or.inr rfl) (pe_lst (pa_cons (pe_tup (pa_cons (pe_lst (pa_cons (pe_tup (pa_cons pe_str (pa_cons pe_int pa_nil))) (pa_cons (pe_tup (pa_cons pe_str (pa_cons (pv 0) pa_nil))) pa_nil))) (pa_cons pe_str pa_nil))) (pa_cons (pe_tup (pa_cons (pe_lst (pa_cons (pe_tup (pa_cons pe_str (pa_cons pe_int pa_nil))) (pa_cons (pe_tup (pa_cons pe_str (pa_cons (pv 0) pa_nil))) pa_nil))) (pa_cons pe_str pa_nil))) pa_nil))))
      (pss_cons (ps_set (i := 3) sc__law_rows.nd rfl (by first | exact Or.inl rfl | exact Or.inr rfl) (pe_op op_addA (pv 3) (pe_lst (pa_cons (pe_tup (pa_cons (pe_lst (pa_cons (pe_tup (pa_cons pe_str (pa_cons (pv 0) pa_nil))) pa_nil)) (pa_cons pe_str pa_nil))) (pa_cons (pe_tup (pa_cons (pe_lst (pa_cons (pe_tup (pa_cons pe_str (pa_cons (pv 1) pa_nil))) (pa_cons (pe_tup (pa_cons pe_str (pa_cons (pv 0) pa_nil))) pa_nil))) (pa_cons pe_str pa_nil))) (pa_cons (pe_tup (pa_cons (pe_lst (pa_cons (pe_tup (pa_cons pe_str (pa_cons (pv 2) pa_nil))) pa_nil)) (pa_cons pe_str pa_nil))) pa_nil))))))
      (pss_cons (ps_set (i := 3) sc__law_rows.nd rfl (by first | exact Or.inl rfl | exact Or.inr rfl) (pe_op op_addA (pv 3) (pe_lst (pa_cons (pe_tup (pa_cons (pe_lst (pa_cons (pe_tup (pa_cons pe_str (pa_cons (pv 2) pa_nil))) (pa_cons (pe_tup (pa_cons pe_str (pa_cons (pv 2) pa_nil))) pa_nil))) (pa_cons pe_str pa_nil))) (pa_cons (pe_tup (pa_cons (pe_lst (pa_cons (pe_tup (pa_cons pe_str (pa_cons (pv 2) pa_nil))) (pa_cons (pe_tup (pa_cons pe_str (pa_cons (pe_op op_addA (pv 2) pe_int) pa_nil))) pa_nil))) (pa_cons pe_str pa_nil))) pa_nil)))))
      (pss_cons (ps_set (i := 3) sc__law_rows.nd rfl (by first | exact Or.inl rfl | exact Or.inr rfl) (pe_op op_addA (pv 3) (pe_lst (pa_cons (pe_tup (pa_cons (pe_lst (pa_cons (pe_tup (pa_cons pe_str (pa_cons (pv 2) pa_nil))) (pa_cons (pe_tup (pa_cons pe_str (pa_cons (pe_op op_sub pe_int (pv 2)) pa_nil))) pa_nil))) (pa_cons pe_str pa_nil))) (pa_cons (pe_tup (pa_cons (pe_lst (pa_cons (pe_tup (pa_cons pe_str (pa_cons (pv 2) pa_nil))) (pa_cons (pe_tup (pa_cons pe_str (pa_cons pe_int pa_nil))) pa_nil))) (pa_cons pe_str pa_nil))) pa_nil)))))
      (pss_cons (ps_set (i := 3) sc__law_rows.nd rfl (by first | exact Or.inl rfl | exact Or.inr rfl) (pe_op op_addA (pv 3) (pe_lst (pa_cons (pe_tup (pa_cons (pe_lst (pa_cons (pe_tup (pa_cons pe_str (pa_cons pe_str (pa_cons (pe_un un_neg pe_int) (pa_cons (pv 0) pa_nil))))) pa_nil)) (pa_cons pe_str pa_nil))) (pa_cons (pe_tup (pa_cons (pe_lst (pa_cons (pe_tup (pa_cons pe_str (pa_cons pe_int pa_nil))) (pa_cons (pe_tup (pa_cons pe_str (pa_cons pe_str (pa_cons (pe_un un_neg pe_int) (pa_cons (pv 0) pa_nil))))) pa_nil))) (pa_cons pe_str pa_nil))) pa_nil)))))
      (pss_cons (ps_set (i := 3) sc__law_rows.nd rfl (by first | exact Or.inl rfl | exact Or.inr rfl) (pe_op op_addA (pv 3) (pe_lst (pa_cons (pe_tup (pa_cons (pe_lst (pa_cons (pe_tup (pa_cons pe_str (pa_cons pe_str (pa_cons pe_int (pa_cons (pv 0) pa_nil))))) pa_nil)) (pa_cons pe_str pa_nil))) (pa_cons (pe_tup (pa_cons (pe_lst (pa_cons (pe_tup (pa_cons pe_str (pa_cons (pv 0) (pa_cons pe_str (pa_cons pe_int pa_nil))))) pa_nil)) (pa_cons pe_str pa_nil))) pa_nil)))))
      (pss_cons (ps_set (i := 3) sc__law_rows.nd rfl (by first | exact Or.inl rfl | exact Or.inr rfl) (pe_op op_addA (pv 3) (pe_lst (pa_cons (pe_tup (pa_cons (pe_lst (pa_cons (pe_tup (pa_cons pe_str (pa_cons (pv 2) pa_nil))) (pa_cons (pe_tup (pa_cons pe_str (pa_cons (pv 0) (pa_cons pe_str (pa_cons (pv 2) pa_nil))))) pa_nil))) (pa_cons pe_str pa_nil))) (pa_cons (pe_tup (pa_cons (pe_lst (pa_cons (pe_tup (pa_cons pe_str (pa_cons (pv 2) pa_nil))) (pa_cons (pe_tup (pa_cons pe_str (pa_cons (pv 0) (pa_cons pe_str (pa_cons (pe_op op_addA (pv 2) pe_int) pa_nil))))) pa_nil))) (pa_cons pe_str pa_nil))) pa_nil)))))
      (pss_cons (ps_set (i := 3) sc__law_rows.nd rfl (by first | exact Or.inl rfl | exact Or.inr rfl) (pe_op op_addA (pv 3) (pe_lst (pa_cons (pe_tup (pa_cons (pe_lst (pa_cons (pe_tup (pa_cons pe_str (pa_cons (pv 0) (pa_cons pe_int (pa_cons (pv 1) pa_nil))))) pa_nil)) (pa_cons pe_str pa_nil))) (pa_cons (pe_tup (pa_cons (pe_lst (pa_cons (pe_tup (pa_cons pe_str (pa_cons (pv 1) (pa_cons (pv 0) (pa_cons pe_int pa_nil))))) pa_nil)) (pa_cons pe_str pa_nil))) (pa_cons (pe_tup (pa_cons (pe_lst (pa_cons (pe_tup (pa_cons pe_str (pa_cons (pv 0) (pa_cons pe_int pa_nil)))) pa_nil)) (pa_cons pe_str pa_nil))) pa_nil))))))
      (pss_cons (ps_set (i := 3) sc__law_rows.nd rfl (by first | exact Or.inl rfl | exact Or.inr rfl) (pe_op op_addA (pv 3) (pe_lst (pa_cons (pe_tup (pa_cons (pe_lst (pa_cons (pe_tup (pa_cons pe_str (pa_cons (pv 0) (pa_cons (pv 2) pa_nil)))) (pa_cons (pe_tup (pa_cons pe_str (pa_cons (pv 1) (pa_cons (pv 0) (pa_cons (pe_op op_sub pe_int (pv 2)) pa_nil))))) pa_nil))) (pa_cons pe_str pa_nil))) (pa_cons (pe_tup (pa_cons (pe_lst (pa_cons (pe_tup (pa_cons pe_str (pa_cons (pv 0) (pa_cons pe_int pa_nil)))) (pa_cons (pe_tup (pa_cons pe_str (pa_cons (pv 0) pa_nil))) pa_nil))) (pa_cons pe_str pa_nil))) pa_nil)))))
      (pss_cons (ps_set (i := 3) sc__law_rows.nd rfl (by first | exact Or.inl rfl | exact Or.inr rfl) (pe_op op_addA (pv 3) (pe_lst (pa_cons (pe_tup (pa_cons (pe_lst (pa_cons (pe_tup (pa_cons pe_str (pa_cons (pv 0) (pa_cons (pv 2) pa_nil)))) (pa_cons (pe_tup (pa_cons pe_str (pa_cons (pv 1) (pa_cons (pv 0) (pa_cons (pe_op op_sub pe_int (pv 2)) pa_nil))))) pa_nil))) (pa_cons pe_str pa_nil))) pa_nil))))
      (pss_cons (ps_set (i := 3) sc__law_rows.nd rfl (by first | exact Or.inl rfl | exact Or.inr rfl) (pe_op op_addA (pv 3) (pe_lst (pa_cons (pe_tup (pa_cons (pe_lst (pa_cons (pe_tup (pa_cons pe_str (pa_cons (pv 0) (pa_cons (pv 2) pa_nil)))) (pa_cons (pe_tup (pa_cons pe_str (pa_cons (pv 0) (pa_cons (pe_op op_sub pe_int (pv 2)) pa_nil)))) pa_nil))) (pa_cons pe_str pa_nil))) (pa_cons (pe_tup (pa_cons (pe_lst (pa_cons (pe_tup (pa_cons pe_str (pa_cons (pv 0) (pa_cons (pv 2) pa_nil)))) (pa_cons (pe_tup (pa_cons pe_str (pa_cons (pv 0) (pa_cons (pe_op op_sub pe_int (pv 2)) pa_nil)))) pa_nil))) (pa_cons pe_str pa_nil))) pa_nil)))))
      (pss_cons (ps_set (i := 3) sc__law_rows.nd rfl (by first | exact Or.inl rfl | exact Or.inr rfl) (pe_op op_addA (pv 3) (pe_lst (pa_cons (pe_tup (pa_cons (pe_lst (pa_cons (pe_tup (pa_cons pe_str (pa_cons (pv 0) (pa_cons (pe_un un_neg pe_int) pa_nil)))) (pa_cons (pe_tup (pa_cons pe_str (pa_cons (pv 0) (pa_cons (pe_un un_neg pe_int) pa_nil)))) pa_nil))) (pa_cons pe_str pa_nil))) (pa_cons (pe_tup (pa_cons (pe_lst (pa_cons (pe_tup (pa_cons pe_str (pa_cons (pv 0) (pa_cons (pe_un un_neg pe_int) pa_nil)))) (pa_cons (pe_tup (pa_cons pe_str (pa_cons (pv 0) (pa_cons pe_int pa_nil)))) pa_nil))) (pa_cons pe_str pa_nil))) pa_nil)))))
      (pss_cons (ps_set (i := 3) sc__law_rows.nd rfl (by first | exact Or.inl rfl | exact Or.inr rfl) (pe_op op_addA (pv 3) (pe_lst (pa_cons (pe_tup (pa_cons (pe_lst (pa_cons (pe_tup (pa_cons pe_str (pa_cons (pv 0) (pa_cons pe_str (pa_cons pe_int pa_nil))))) (pa_cons (pe_tup (pa_cons pe_str (pa_cons (pv 0) (pa_cons pe_int (pa_cons (pv 1) pa_nil))))) pa_nil))) (pa_cons pe_str pa_nil))) pa_nil))))
      (pss_cons (ps_set (i := 3) sc__law_rows.nd rfl (by first | exact Or.inl rfl | exact Or.inr rfl) (pe_op op_addA (pv 3) (pe_lst (pa_cons (pe_tup (pa_cons (pe_lst (pa_cons (pe_tup (pa_cons pe_str (pa_cons (pv 0) (pa_cons pe_int pa_nil)))) (pa_cons (pe_tup (pa_cons pe_str (pa_cons (pv 0) pa_nil))) (pa_cons (pe_tup (pa_cons pe_str (pa_cons (pv 1) pa_nil))) (pa_cons (pe_tup (pa_cons pe_str (pa_cons (pv 1) (pa_cons (pe_un un_neg pe_int) (pa_cons (pv 0) pa_nil))))) pa_nil))))) (pa_cons pe_str pa_nil))) pa_nil))))
      (pss_one (ps_ret (pv 3))))))))))))))))), ?_⟩
  have E0 : EnvOk K B (L2.start n__law_rows [v0, v1, v2]) [.dat (.str one), .dat (.str two), .dat (.int n), .any] := by
    refine ⟨rfl, fun i d e => ?_, fun i v e => ?_⟩
    · match i with
      | 0 => cases e; exact ⟨v0, rfl, r0⟩
      | 1 => cases e; exact ⟨v1, rfl, r1⟩
      | 2 => cases e; exact ⟨v2, rfl, r2⟩
      | 3 => cases e
      | i + 4 => cases e
    · match i with
      | 0 | 1 | 2 | 3 => cases e
      | i + 4 => cases e
  refine es_then (G := G) (K := K) (es_asg (fun ρ => (ev_lst (ea_cons (ev_tup (ea_cons (ev_lst (ea_cons (ev_tup (ea_cons (ev_c (sc_str _)) (ea_cons (ev_c (sc_int _)) ea_nil))) (ea_cons (ev_tup (ea_cons (ev_c (sc_str _)) (ea_cons ev_pv ea_nil))) ea_nil))) (ea_cons (ev_c (sc_str _)) ea_nil))) (ea_cons (ev_tup (ea_cons (ev_lst (ea_cons (ev_tup (ea_cons (ev_c (sc_str _)) (ea_cons (ev_c (sc_int _)) ea_nil))) (ea_cons (ev_tup (ea_cons (ev_c (sc_str _)) (ea_cons ev_pv ea_nil))) ea_nil))) (ea_cons (ev_c (sc_str _)) ea_nil))) ea_nil)))) eg_name) (fun ρ z' => ρ = [.dat (.str one), .dat (.str two), .dat (.int n), .dat (.list ((rowsD one two n).take 2))] ∧ z' = z) (fun ρ z0 σ0 H0 a0 h0 => ?_) ⟨B, Go.refl o, E0⟩ (by repeat (first | exact ⟨rfl, rfl⟩ | refine ⟨_, rfl, ?_⟩ | refine ⟨rfl, ?_⟩ | refine ⟨_, _, rfl, ?_⟩ | refine ⟨small_len rfl, ?_⟩ | refine ⟨Nat.le_of_lt (small_len rfl), ?_⟩))
  obtain ⟨rfl, rfl⟩ := h0
  refine es_then (G := G) (K := K) (es_asg (fun ρ => (ev_op rw_add ev_pv (ev_lst (ea_cons (ev_tup (ea_cons (ev_lst (ea_cons (ev_tup (ea_cons (ev_c (sc_str _)) (ea_cons ev_pv ea_nil))) ea_nil)) (ea_cons (ev_c (sc_str _)) ea_nil))) (ea_cons (ev_tup (ea_cons (ev_lst (ea_cons (ev_tup (ea_cons (ev_c (sc_str _)) (ea_cons ev_pv ea_nil))) (ea_cons (ev_tup (ea_cons (ev_c (sc_str _)) (ea_cons ev_pv ea_nil))) ea_nil))) (ea_cons (ev_c (sc_str _)) ea_nil))) (ea_cons (ev_tup (ea_cons (ev_lst (ea_cons (ev_tup (ea_cons (ev_c (sc_str _)) (ea_cons ev_pv ea_nil))) ea_nil)) (ea_cons (ev_c (sc_str _)) ea_nil))) ea_nil)))))) eg_name) (fun ρ z' => ρ = [.dat (.str one), .dat (.str two), .dat (.int n), .dat (.list ((rowsD one two n).take 5))] ∧ z' = z0) (fun ρ z1 σ1 H1 a1 h1 => ?_) a0 (by repeat (first | exact ⟨rfl, rfl⟩ | refine ⟨_, rfl, ?_⟩ | refine ⟨rfl, ?_⟩ | refine ⟨_, _, rfl, ?_⟩ | refine ⟨small_len rfl, ?_⟩ | refine ⟨Nat.le_of_lt (small_len rfl), ?_⟩))
  obtain ⟨rfl, rfl⟩ := h1
  refine es_then (G := G) (K := K) (es_asg (fun ρ => (ev_op rw_add ev_pv (ev_lst (ea_cons (ev_tup (ea_cons (ev_lst (ea_cons (ev_tup (ea_cons (ev_c (sc_str _)) (ea_cons ev_pv ea_nil))) (ea_cons (ev_tup (ea_cons (ev_c (sc_str _)) (ea_cons ev_pv ea_nil))) ea_nil))) (ea_cons (ev_c (sc_str _)) ea_nil))) (ea_cons (ev_tup (ea_cons (ev_lst (ea_cons (ev_tup (ea_cons (ev_c (sc_str _)) (ea_cons ev_pv ea_nil))) (ea_cons (ev_tup (ea_cons (ev_c (sc_str _)) (ea_cons (ev_op rw_add ev_pv (ev_c (sc_int _))) ea_nil))) ea_nil))) (ea_cons (ev_c (sc_str _)) ea_nil))) ea_nil))))) eg_name) (fun ρ z' => ρ = [.dat (.str one), .dat (.str two), .dat (.int n), .dat (.list ((rowsD one two n).take 7))] ∧ z' = z1) (fun ρ z2 σ2 H2 a2 h2 => ?_) a1 (by repeat (first | exact ⟨rfl, rfl⟩ | refine ⟨_, rfl, ?_⟩ | refine ⟨rfl, ?_⟩ | refine ⟨_, _, rfl, ?_⟩ | refine ⟨small_len rfl, ?_⟩ | refine ⟨Nat.le_of_lt (small_len rfl), ?_⟩))
  obtain ⟨rfl, rfl⟩ := h2
  refine es_then (G := G) (K := K) (es_asg (fun ρ => (ev_op rw_add ev_pv (ev_lst (ea_cons (ev_tup (ea_cons (ev_lst (ea_cons (ev_tup (ea_cons (ev_c (sc_str _)) (ea_cons ev_pv ea_nil))) (ea_cons (ev_tup (ea_cons (ev_c (sc_str _)) (ea_cons (ev_op (rw_I0 fun _ _ => sc_int _) (ev_c (sc_int _)) ev_pv) ea_nil))) ea_nil))) (ea_cons (ev_c (sc_str _)) ea_nil))) (ea_cons (ev_tup (ea_cons (ev_lst (ea_cons (ev_tup (ea_cons (ev_c (sc_str _)) (ea_cons ev_pv ea_nil))) (ea_cons (ev_tup (ea_cons (ev_c (sc_str _)) (ea_cons (ev_c (sc_int _)) ea_nil))) ea_nil))) (ea_cons (ev_c (sc_str _)) ea_nil))) ea_nil))))) eg_name) (fun ρ z' => ρ = [.dat (.str one), .dat (.str two), .dat (.int n), .dat (.list ((rowsD one two n).take 9))] ∧ z' = z2) (fun ρ z3 σ3 H3 a3 h3 => ?_) a2 (by repeat (first | exact ⟨rfl, rfl⟩ | refine ⟨_, rfl, ?_⟩ | refine ⟨rfl, ?_⟩ | refine ⟨_, _, rfl, ?_⟩ | refine ⟨small_len rfl, ?_⟩ | refine ⟨Nat.le_of_lt (small_len rfl), ?_⟩))
  obtain ⟨rfl, rfl⟩ := h3
  refine es_then (G := G) (K := K) (es_asg (fun ρ => (ev_op rw_add ev_pv (ev_lst (ea_cons (ev_tup (ea_cons (ev_lst (ea_cons (ev_tup (ea_cons (ev_c (sc_str _)) (ea_cons (ev_c (sc_str _)) (ea_cons (ev_un ru_neg (ev_c (sc_int _))) (ea_cons ev_pv ea_nil))))) ea_nil)) (ea_cons (ev_c (sc_str _)) ea_nil))) (ea_cons (ev_tup (ea_cons (ev_lst (ea_cons (ev_tup (ea_cons (ev_c (sc_str _)) (ea_cons (ev_c (sc_int _)) ea_nil))) (ea_cons (ev_tup (ea_cons (ev_c (sc_str _)) (ea_cons (ev_c (sc_str _)) (ea_cons (ev_un ru_neg (ev_c (sc_int _))) (ea_cons ev_pv ea_nil))))) ea_nil))) (ea_cons (ev_c (sc_str _)) ea_nil))) ea_nil))))) eg_name) (fun ρ z' => ρ = [.dat (.str one), .dat (.str two), .dat (.int n), .dat (.list ((rowsD one two n).take 11))] ∧ z' = z3) (fun ρ z4 σ4 H4 a4 h4 => ?_) a3 (by repeat (first | exact ⟨rfl, rfl⟩ | refine ⟨_, rfl, ?_⟩ | refine ⟨rfl, ?_⟩ | refine ⟨_, _, rfl, ?_⟩ | refine ⟨small_len rfl, ?_⟩ | refine ⟨Nat.le_of_lt (small_len rfl), ?_⟩))
  obtain ⟨rfl, rfl⟩ := h4
  refine es_then (G := G) (K := K) (es_asg (fun ρ => (ev_op rw_add ev_pv (ev_lst (ea_cons (ev_tup (ea_cons (ev_lst (ea_cons (ev_tup (ea_cons (ev_c (sc_str _)) (ea_cons (ev_c (sc_str _)) (ea_cons (ev_c (sc_int _)) (ea_cons ev_pv ea_nil))))) ea_nil)) (ea_cons (ev_c (sc_str _)) ea_nil))) (ea_cons (ev_tup (ea_cons (ev_lst (ea_cons (ev_tup (ea_cons (ev_c (sc_str _)) (ea_cons ev_pv (ea_cons (ev_c (sc_str _)) (ea_cons (ev_c (sc_int _)) ea_nil))))) ea_nil)) (ea_cons (ev_c (sc_str _)) ea_nil))) ea_nil))))) eg_name) (fun ρ z' => ρ = [.dat (.str one), .dat (.str two), .dat (.int n), .dat (.list ((rowsD one two n).take 13))] ∧ z' = z4) (fun ρ z5 σ5 H5 a5 h5 => ?_) a4 (by repeat (first | exact ⟨rfl, rfl⟩ | refine ⟨_, rfl, ?_⟩ | refine ⟨rfl, ?_⟩ | refine ⟨_, _, rfl, ?_⟩ | refine ⟨small_len rfl, ?_⟩ | refine ⟨Nat.le_of_lt (small_len rfl), ?_⟩))
  obtain ⟨rfl, rfl⟩ := h5
  refine es_then (G := G) (K := K) (es_asg (fun ρ => (ev_op rw_add ev_pv (ev_lst (ea_cons (ev_tup (ea_cons (ev_lst (ea_cons (ev_tup (ea_cons (ev_c (sc_str _)) (ea_cons ev_pv ea_nil))) (ea_cons (ev_tup (ea_cons (ev_c (sc_str _)) (ea_cons ev_pv (ea_cons (ev_c (sc_str _)) (ea_cons ev_pv ea_nil))))) ea_nil))) (ea_cons (ev_c (sc_str _)) ea_nil))) (ea_cons (ev_tup (ea_cons (ev_lst (ea_cons (ev_tup (ea_cons (ev_c (sc_str _)) (ea_cons ev_pv ea_nil))) (ea_cons (ev_tup (ea_cons (ev_c (sc_str _)) (ea_cons ev_pv (ea_cons (ev_c (sc_str _)) (ea_cons (ev_op rw_add ev_pv (ev_c (sc_int _))) ea_nil))))) ea_nil))) (ea_cons (ev_c (sc_str _)) ea_nil))) ea_nil))))) eg_name) (fun ρ z' => ρ = [.dat (.str one), .dat (.str two), .dat (.int n), .dat (.list ((rowsD one two n).take 15))] ∧ z' = z5) (fun ρ z6 σ6 H6 a6 h6 => ?_) a5 (by repeat (first | exact ⟨rfl, rfl⟩ | refine ⟨_, rfl, ?_⟩ | refine ⟨rfl, ?_⟩ | refine ⟨_, _, rfl, ?_⟩ | refine ⟨small_len rfl, ?_⟩ | refine ⟨Nat.le_of_lt (small_len rfl), ?_⟩))
  obtain ⟨rfl, rfl⟩ := h6
  refine es_then (G := G) (K := K) (es_asg (fun ρ => (ev_op rw_add ev_pv (ev_lst (ea_cons (ev_tup (ea_cons (ev_lst (ea_cons (ev_tup (ea_cons (ev_c (sc_str _)) (ea_cons ev_pv (ea_cons (ev_c (sc_int _)) (ea_cons ev_pv ea_nil))))) ea_nil)) (ea_cons (ev_c (sc_str _)) ea_nil))) (ea_cons (ev_tup (ea_cons (ev_lst (ea_cons (ev_tup (ea_cons (ev_c (sc_str _)) (ea_cons ev_pv (ea_cons ev_pv (ea_cons (ev_c (sc_int _)) ea_nil))))) ea_nil)) (ea_cons (ev_c (sc_str _)) ea_nil))) (ea_cons (ev_tup (ea_cons (ev_lst (ea_cons (ev_tup (ea_cons (ev_c (sc_str _)) (ea_cons ev_pv (ea_cons (ev_c (sc_int _)) ea_nil)))) ea_nil)) (ea_cons (ev_c (sc_str _)) ea_nil))) ea_nil)))))) eg_name) (fun ρ z' => ρ = [.dat (.str one), .dat (.str two), .dat (.int n), .dat (.list ((rowsD one two n).take 18))] ∧ z' = z6) (fun ρ z7 σ7 H7 a7 h7 => ?_) a6 (by repeat (first | exact ⟨rfl, rfl⟩ | refine ⟨_, rfl, ?_⟩ | refine ⟨rfl, ?_⟩ | refine ⟨_, _, rfl, ?_⟩ | refine ⟨small_len rfl, ?_⟩ | refine ⟨Nat.le_of_lt (small_len rfl), ?_⟩))
  obtain ⟨rfl, rfl⟩ := h7
  refine es_then (G := G) (K := K) (es_asg (fun ρ => (ev_op rw_add ev_pv (ev_lst (ea_cons (ev_tup (ea_cons (ev_lst (ea_cons (ev_tup (ea_cons (ev_c (sc_str _)) (ea_cons ev_pv (ea_cons ev_pv ea_nil)))) (ea_cons (ev_tup (ea_cons (ev_c (sc_str _)) (ea_cons ev_pv (ea_cons ev_pv (ea_cons (ev_op (rw_I0 fun _ _ => sc_int _) (ev_c (sc_int _)) ev_pv) ea_nil))))) ea_nil))) (ea_cons (ev_c (sc_str _)) ea_nil))) (ea_cons (ev_tup (ea_cons (ev_lst (ea_cons (ev_tup (ea_cons (ev_c (sc_str _)) (ea_cons ev_pv (ea_cons (ev_c (sc_int _)) ea_nil)))) (ea_cons (ev_tup (ea_cons (ev_c (sc_str _)) (ea_cons ev_pv ea_nil))) ea_nil))) (ea_cons (ev_c (sc_str _)) ea_nil))) ea_nil))))) eg_name) (fun ρ z' => ρ = [.dat (.str one), .dat (.str two), .dat (.int n), .dat (.list ((rowsD one two n).take 20))] ∧ z' = z7) (fun ρ z8 σ8 H8 a8 h8 => ?_) a7 (by repeat (first | exact ⟨rfl, rfl⟩ | refine ⟨_, rfl, ?_⟩ | refine ⟨rfl, ?_⟩ | refine ⟨_, _, rfl, ?_⟩ | refine ⟨small_len rfl, ?_⟩ | refine ⟨Nat.le_of_lt (small_len rfl), ?_⟩))
  obtain ⟨rfl, rfl⟩ := h8
  refine es_then (G := G) (K := K) (es_asg (fun ρ => (ev_op rw_add ev_pv (ev_lst (ea_cons (ev_tup (ea_cons (ev_lst (ea_cons (ev_tup (ea_cons (ev_c (sc_str _)) (ea_cons ev_pv (ea_cons ev_pv ea_nil)))) (ea_cons (ev_tup (ea_cons (ev_c (sc_str _)) (ea_cons ev_pv (ea_cons ev_pv (ea_cons (ev_op (rw_I0 fun _ _ => sc_int _) (ev_c (sc_int _)) ev_pv) ea_nil))))) ea_nil))) (ea_cons (ev_c (sc_str _)) ea_nil))) ea_nil)))) eg_name) (fun ρ z' => ρ = [.dat (.str one), .dat (.str two), .dat (.int n), .dat (.list ((rowsD one two n).take 21))] ∧ z' = z8) (fun ρ z9 σ9 H9 a9 h9 => ?_) a8 (by repeat (first | exact ⟨rfl, rfl⟩ | refine ⟨_, rfl, ?_⟩ | refine ⟨rfl, ?_⟩ | refine ⟨_, _, rfl, ?_⟩ | refine ⟨small_len rfl, ?_⟩ | refine ⟨Nat.le_of_lt (small_len rfl), ?_⟩))
  obtain ⟨rfl, rfl⟩ := h9
  refine es_then (G := G) (K := K) (es_asg (fun ρ => (ev_op rw_add ev_pv (ev_lst (ea_cons (ev_tup (ea_cons (ev_lst (ea_cons (ev_tup (ea_cons (ev_c (sc_str _)) (ea_cons ev_pv (ea_cons ev_pv ea_nil)))) (ea_cons (ev_tup (ea_cons (ev_c (sc_str _)) (ea_cons ev_pv (ea_cons (ev_op (rw_I0 fun _ _ => sc_int _) (ev_c (sc_int _)) ev_pv) ea_nil)))) ea_nil))) (ea_cons (ev_c (sc_str _)) ea_nil))) (ea_cons (ev_tup (ea_cons (ev_lst (ea_cons (ev_tup (ea_cons (ev_c (sc_str _)) (ea_cons ev_pv (ea_cons ev_pv ea_nil)))) (ea_cons (ev_tup (ea_cons (ev_c (sc_str _)) (ea_cons ev_pv (ea_cons (ev_op (rw_I0 fun _ _ => sc_int _) (ev_c (sc_int _)) ev_pv) ea_nil)))) ea_nil))) (ea_cons (ev_c (sc_str _)) ea_nil))) ea_nil))))) eg_name) (fun ρ z' => ρ = [.dat (.str one), .dat (.str two), .dat (.int n), .dat (.list ((rowsD one two n).take 23))] ∧ z' = z9) (fun ρ z10 σ10 H10 a10 h10 => ?_) a9 (by repeat (first | exact ⟨rfl, rfl⟩ | refine ⟨_, rfl, ?_⟩ | refine ⟨rfl, ?_⟩ | refine ⟨_, _, rfl, ?_⟩ | refine ⟨small_len rfl, ?_⟩ | refine ⟨Nat.le_of_lt (small_len rfl), ?_⟩))
  obtain ⟨rfl, rfl⟩ := h10
  refine es_then (G := G) (K := K) (es_asg (fun ρ => (ev_op rw_add ev_pv (ev_lst (ea_cons (ev_tup (ea_cons (ev_lst (ea_cons (ev_tup (ea_cons (ev_c (sc_str _)) (ea_cons ev_pv (ea_cons (ev_un ru_neg (ev_c (sc_int _))) ea_nil)))) (ea_cons (ev_tup (ea_cons (ev_c (sc_str _)) (ea_cons ev_pv (ea_cons (ev_un ru_neg (ev_c (sc_int _))) ea_nil)))) ea_nil))) (ea_cons (ev_c (sc_str _)) ea_nil))) (ea_cons (ev_tup (ea_cons (ev_lst (ea_cons (ev_tup (ea_cons (ev_c (sc_str _)) (ea_cons ev_pv (ea_cons (ev_un ru_neg (ev_c (sc_int _))) ea_nil)))) (ea_cons (ev_tup (ea_cons (ev_c (sc_str _)) (ea_cons ev_pv (ea_cons (ev_c (sc_int _)) ea_nil)))) ea_nil))) (ea_cons (ev_c (sc_str _)) ea_nil))) ea_nil))))) eg_name) (fun ρ z' => ρ = [.dat (.str one), .dat (.str two), .dat (.int n), .dat (.list ((rowsD one two n).take 25))] ∧ z' = z10) (fun ρ z11 σ11 H11 a11 h11 => ?_) a10 (by repeat (first | exact ⟨rfl, rfl⟩ | refine ⟨_, rfl, ?_⟩ | refine ⟨rfl, ?_⟩ | refine ⟨_, _, rfl, ?_⟩ | refine ⟨small_len rfl, ?_⟩ | refine ⟨Nat.le_of_lt (small_len rfl), ?_⟩))
  obtain ⟨rfl, rfl⟩ := h11
  refine es_then (G := G) (K := K) (es_asg (fun ρ => (ev_op rw_add ev_pv (ev_lst (ea_cons (ev_tup (ea_cons (ev_lst (ea_cons (ev_tup (ea_cons (ev_c (sc_str _)) (ea_cons ev_pv (ea_cons (ev_c (sc_str _)) (ea_cons (ev_c (sc_int _)) ea_nil))))) (ea_cons (ev_tup (ea_cons (ev_c (sc_str _)) (ea_cons ev_pv (ea_cons (ev_c (sc_int _)) (ea_cons ev_pv ea_nil))))) ea_nil))) (ea_cons (ev_c (sc_str _)) ea_nil))) ea_nil)))) eg_name) (fun ρ z' => ρ = [.dat (.str one), .dat (.str two), .dat (.int n), .dat (.list ((rowsD one two n).take 26))] ∧ z' = z11) (fun ρ z12 σ12 H12 a12 h12 => ?_) a11 (by repeat (first | exact ⟨rfl, rfl⟩ | refine ⟨_, rfl, ?_⟩ | refine ⟨rfl, ?_⟩ | refine ⟨_, _, rfl, ?_⟩ | refine ⟨small_len rfl, ?_⟩ | refine ⟨Nat.le_of_lt (small_len rfl), ?_⟩))
  obtain ⟨rfl, rfl⟩ := h12
  refine es_then (G := G) (K := K) (es_asg (fun ρ => (ev_op rw_add ev_pv (ev_lst (ea_cons (ev_tup (ea_cons (ev_lst (ea_cons (ev_tup (ea_cons (ev_c (sc_str _)) (ea_cons ev_pv (ea_cons (ev_c (sc_int _)) ea_nil)))) (ea_cons (ev_tup (ea_cons (ev_c (sc_str _)) (ea_cons ev_pv ea_nil))) (ea_cons (ev_tup (ea_cons (ev_c (sc_str _)) (ea_cons ev_pv ea_nil))) (ea_cons (ev_tup (ea_cons (ev_c (sc_str _)) (ea_cons ev_pv (ea_cons (ev_un ru_neg (ev_c (sc_int _))) (ea_cons ev_pv ea_nil))))) ea_nil))))) (ea_cons (ev_c (sc_str _)) ea_nil))) ea_nil)))) eg_name) (fun ρ z' => ρ = [.dat (.str one), .dat (.str two), .dat (.int n), .dat (.list ((rowsD one two n).take 27))] ∧ z' = z12) (fun ρ z13 σ13 H13 a13 h13 => ?_) a12 (by repeat (first | exact ⟨rfl, rfl⟩ | refine ⟨_, rfl, ?_⟩ | refine ⟨rfl, ?_⟩ | refine ⟨_, _, rfl, ?_⟩ | refine ⟨small_len rfl, ?_⟩ | refine ⟨Nat.le_of_lt (small_len rfl), ?_⟩))
  obtain ⟨rfl, rfl⟩ := h13
  obtain ⟨B9, g9, E9⟩ := a13
  obtain ⟨v9, e9, d9⟩ := E9.dat 3 _ rfl
  exact ⟨v9, e9, k _ _ _ _ _ g9 d9 q⟩
abbrev s__law_ends : Stmt := top 55
abbrev n__law_ends : List Str := ["one", "n", "back", "rows"]
abbrev p__law_ends : List Str := ["one", "n"]
theorem sc__law_ends : FnScope n__law_ends p__law_ends (defScope s__law_ends) := ⟨rfl, rfl, rfl, by decide +kernel, rfl, by decide +kernel, by decide +kernel⟩

theorem ok__law_ends {f : Addr} {fd : FuncData} (F : Fd K mg "_law_ends" s__law_ends p__law_ends f fd) : FnG P w K mg base CX0 1 f fd p__law_ends (spD K G 2 d__law_ends) := by
  refine fn_body0 F.fn sc__law_ends (spD_len (ps := p__law_ends)) (fun cdv A outer s H vs Q E hg hr h => ?_)
  obtain ⟨hl, B, z, ds, Q', o, r, ⟨one, n, rfl, q⟩, k⟩ := h
  cases r with
  | @cons v0 _ _ _ r0 r =>
  cases r with
  | @cons v1 _ _ _ r1 r =>
  cases r
  refine ⟨_, (pss_cons (ps_set (i := 2) sc__law_ends.nd rfl (by first | exact Or.inl rfl | exact Or.inr rfl) (pe_lst (pa_cons (pe_tup (pa_cons pe_str (pa_cons (pv 0) (pa_cons pe_str (pa_cons pe_int pa_nil))))) (pa_cons (pe_tup (pa_cons pe_str (pa_cons (pv 0) pa_nil))) pa_nil))))
      (pss_cons (ps_set (i := 3) sc__law_ends.nd rfl (by first | exact Or.inl rfl | exact Or.inr rfl) (pe_lst (pa_cons (pe_tup (pa_cons (pe_lst (pa_cons (pe_tup (pa_cons pe_str pa_nil)) pa_nil)) (pa_cons (pe_tup (pa_cons pe_int pa_nil)) (pa_cons (pe_tup pa_nil) (pa_cons (pe_tup pa_nil) pa_nil))))) (pa_cons (pe_tup (pa_cons (pe_lst (pa_cons (pe_tup (pa_cons pe_str (pa_cons (pv 0) pa_nil))) (pa_cons (pe_tup (pa_cons pe_str pa_nil)) pa_nil))) (pa_cons (pe_tup (pa_cons pe_int (pa_cons pe_int pa_nil))) (pa_cons (pe_tup pa_nil) (pa_cons (pe_tup (pa_cons pe_str pa_nil)) pa_nil))))) pa_nil))))
      (pss_cons (ps_expr (pe_bm PySem.F.plainAttrs_list PySem.F.slot_list_append PySem.F.type_list_append mt_append (pv 3) (pa_cons (pe_tup (pa_cons (pe_lst (pa_cons (pe_tup (pa_cons pe_str (pa_cons pe_str (pa_cons pe_int (pa_cons (pv 0) pa_nil))))) (pa_cons (pe_tup (pa_cons pe_str pa_nil)) pa_nil))) (pa_cons (pe_tup (pa_cons pe_int (pa_cons pe_int pa_nil))) (pa_cons (pe_tup pa_nil) (pa_cons (pe_tup (pa_cons pe_str pa_nil)) pa_nil))))) pa_nil)))
      (pss_cons (ps_expr (pe_bm PySem.F.plainAttrs_list PySem.F.slot_list_append PySem.F.type_list_append mt_append (pv 3) (pa_cons (pe_tup (pa_cons (pe_op op_addA (pv 2) (pe_lst (pa_cons (pe_tup (pa_cons pe_str (pa_cons (pv 0) pa_nil))) (pa_cons (pe_tup (pa_cons pe_str (pa_cons pe_str (pa_cons pe_int (pa_cons (pv 0) pa_nil))))) (pa_cons (pe_tup (pa_cons pe_str pa_nil)) pa_nil))))) (pa_cons (pe_tup (pa_cons pe_int (pa_cons pe_int (pa_cons pe_int (pa_cons pe_int (pa_cons pe_int pa_nil)))))) (pa_cons (pe_tup pa_nil) (pa_cons (pe_tup pa_nil) pa_nil))))) pa_nil)))
      (pss_cons (ps_expr (pe_bm PySem.F.plainAttrs_list PySem.F.slot_list_append PySem.F.type_list_append mt_append (pv 3) (pa_cons (pe_tup (pa_cons (pe_lst (pa_cons (pe_tup (pa_cons pe_str (pa_cons (pv 1) pa_nil))) (pa_cons (pe_tup (pa_cons pe_str (pa_cons (pv 1) pa_nil))) (pa_cons (pe_tup (pa_cons pe_str pa_nil)) pa_nil)))) (pa_cons (pe_tup (pa_cons pe_int (pa_cons pe_int (pa_cons pe_int pa_nil)))) (pa_cons (pe_tup pa_nil) (pa_cons (pe_tup pa_nil) pa_nil))))) pa_nil)))
      (pss_cons (ps_expr (pe_bm PySem.F.plainAttrs_list PySem.F.slot_list_append PySem.F.type_list_append mt_append (pv 3) (pa_cons (pe_tup (pa_cons (pe_lst (pa_cons (pe_tup (pa_cons pe_str (pa_cons (pv 0) pa_nil))) pa_nil)) (pa_cons (pe_tup (pa_cons pe_int pa_nil)) (pa_cons (pe_tup pa_nil) (pa_cons (pe_tup (pa_cons pe_str pa_nil)) pa_nil))))) pa_nil)))
      (pss_cons (ps_expr (pe_bm PySem.F.plainAttrs_list PySem.F.slot_list_append PySem.F.type_list_append mt_append (pv 3) (pa_cons (pe_tup (pa_cons (pe_lst (pa_cons (pe_tup (pa_cons pe_str (pa_cons pe_str pa_nil))) pa_nil)) (pa_cons (pe_tup (pa_cons pe_int pa_nil)) (pa_cons (pe_tup pa_nil) (pa_cons (pe_tup (pa_cons pe_str pa_nil)) pa_nil))))) pa_nil)))
      (pss_cons (ps_expr (pe_bm PySem.F.plainAttrs_list PySem.F.slot_list_append PySem.F.type_list_append mt_append (pv 3) (pa_cons (pe_tup (pa_cons (pe_lst (pa_cons (pe_tup (pa_cons pe_str (pa_cons pe_int pa_nil))) pa_nil)) (pa_cons (pe_tup (pa_cons pe_int (pa_cons pe_int pa_nil))) (pa_cons (pe_tup (pa_cons pe_int pa_nil)) (pa_cons (pe_tup (pa_cons pe_str pa_nil)) pa_nil))))) pa_nil)))
      (pss_cons (ps_expr (pe_bm PySem.F.plainAttrs_list PySem.F.slot_list_append PySem.F.type_list_append mt_append (pv 3) (pa_cons (pe_tup (pa_cons (pe_lst (pa_cons (pe_tup (pa_cons pe_str (pa_cons pe_int pa_nil))) pa_nil)) (pa_cons (pe_tup (pa_cons pe_int (pa_cons pe_int (pa_cons pe_int pa_nil)))) (pa_cons (pe_tup (pa_cons pe_int pa_nil)) (pa_cons (pe_tup pa_nil) pa_nil))))) pa_nil)))
      (pss_cons (ps_expr (pe_bm PySem.F.plainAttrs_list PySem.F.slot_list_append PySem.F.type_list_append mt_append (pv 3) (pa_cons (pe_tup (pa_cons (pe_lst (pa_cons (pe_tup (pa_cons pe_str (pa_cons pe_int pa_nil))) (pa_cons (pe_tup (pa_cons pe_str (pa_cons pe_int pa_nil))) pa_nil))) (pa_cons (pe_tup (pa_cons pe_int (pa_cons pe_int pa_nil))) (pa_cons (pe_tup (pa_cons pe_int pa_nil)) (pa_cons (pe_tup (pa_cons pe_str pa_nil)) pa_nil))))) pa_nil)))
      (pss_one (ps_ret (pe_op op_addA (pv 3) (pe_lst (pa_cons (pe_tup (pa_cons (pe_lst (pa_cons (pe_tup (pa_cons pe_str (pa_cons pe_int pa_nil))) (pa_cons (pe_tup (pa_cons pe_str (pa_cons pe_int pa_nil))) (pa_cons (pe_tup (pa_cons pe_str pa_nil)) pa_nil)))) (pa_cons (pe_tup (pa_cons pe_int pa_nil)) (pa_cons (pe_tup (pa_cons pe_int (pa_cons pe_int pa_nil))) (pa_cons (pe_tup pa_nil) pa_nil))))) pa_nil))))))))))))))), ?_⟩
  have E0 : EnvOk K B (L2.start n__law_ends [v0, v1]) [.dat (.str one), .dat (.int n), .any, .any] := by
    refine ⟨rfl, fun i d e => ?_, fun i v e => ?_⟩
    · match i with
      | 0 => cases e; exact ⟨v0, rfl, r0⟩
      | 1 => cases e; exact ⟨v1, rfl, r1⟩
      | 2 | 3 => cases e
      | i + 4 => cases e
    · match i with
      | 0 | 1 | 2 | 3 => cases e
      | i + 4 => cases e
  refine es_then (G := G) (K := K) (es_asg (fun ρ => (ev_lst (ea_cons (ev_tup (ea_cons (ev_c (sc_str _)) (ea_cons ev_pv (ea_cons (ev_c (sc_str _)) (ea_cons (ev_c (sc_int _)) ea_nil))))) (ea_cons (ev_tup (ea_cons (ev_c (sc_str _)) (ea_cons ev_pv ea_nil))) ea_nil)))) eg_name) (fun ρ z' => ρ = [.dat (.str one), .dat (.int n), .dat (.list [.tuple [.str "load", .str one, .str "sp", .int 0], .tuple [.str "push", .str one]]), .any] ∧ z' = z) (fun ρ z1 σ1 H1 a1 h1 => ?_) ⟨B, Go.refl o, E0⟩ (by repeat (first | exact ⟨rfl, rfl⟩ | refine ⟨_, rfl, ?_⟩ | refine ⟨rfl, ?_⟩ | refine ⟨_, _, rfl, ?_⟩ | refine ⟨small_len rfl, ?_⟩ | refine ⟨Nat.le_of_lt (small_len rfl), ?_⟩))
  obtain ⟨rfl, rfl⟩ := h1
  obtain ⟨B1, g1, E1⟩ := a1
  refine es_newL (K := K) (ea_cons (ev_tup (ea_cons (ev_lst (ea_cons (ev_tup (ea_cons (ev_c (sc_str _)) ea_nil)) ea_nil)) (ea_cons (ev_tup (ea_cons (ev_c (sc_int _)) ea_nil)) (ea_cons (ev_tup ea_nil) (ea_cons (ev_tup ea_nil) ea_nil))))) (ea_cons (ev_tup (ea_cons (ev_lst (ea_cons (ev_tup (ea_cons (ev_c (sc_str _)) (ea_cons ev_pv ea_nil))) (ea_cons (ev_tup (ea_cons (ev_c (sc_str _)) ea_nil)) ea_nil))) (ea_cons (ev_tup (ea_cons (ev_c (sc_int _)) (ea_cons (ev_c (sc_int _)) ea_nil))) (ea_cons (ev_tup ea_nil) (ea_cons (ev_tup (ea_cons (ev_c (sc_str _)) ea_nil)) ea_nil))))) ea_nil)) E1 g1.ok (fun z' ds => z' = z1 ∧ ds = (endsD one n).take 2) (by repeat (first | exact ⟨rfl, rfl⟩ | refine ⟨_, rfl, ?_⟩ | refine ⟨rfl, ?_⟩ | refine ⟨_, _, rfl, ?_⟩ | refine ⟨small_len rfl, ?_⟩ | refine ⟨Nat.le_of_lt (small_len rfl), ?_⟩)) (fun vs z2 B2 H2 ds hds g2 r2 q2 l hl => ?_) (by decide)
  obtain ⟨rfl, rfl⟩ := q2
  have gl := GoL.start (G := G) (K := K) g2.ok hl r2
  have E2 := (E1.mono g2.bb).setV (i := 3) (v := .ref l)
  have a2 : At (GL G K l) K B2 (upd H2 l (.lst vs)) [.dat (.str one), .dat (.int n), .dat (.list [.tuple [.str "load", .str one, .str "sp", .int 0], .tuple [.str "push", .str one]]), .val (.ref l)] (z2, (endsD one n).take 2) (σ1.set 3 (some (.ref l))) (upd H2 l (.lst vs)) := ⟨B2, Go.refl gl.ok, E2⟩
  refine es_then (G := GL G K l) (K := K) (es_app (i := 3) fun ρ => (ev_tup (ea_cons (ev_lst (ea_cons (ev_tup (ea_cons (ev_c (sc_str _)) (ea_cons (ev_c (sc_str _)) (ea_cons (ev_c (sc_int _)) (ea_cons ev_pv ea_nil))))) (ea_cons (ev_tup (ea_cons (ev_c (sc_str _)) ea_nil)) ea_nil))) (ea_cons (ev_tup (ea_cons (ev_c (sc_int _)) (ea_cons (ev_c (sc_int _)) ea_nil))) (ea_cons (ev_tup ea_nil) (ea_cons (ev_tup (ea_cons (ev_c (sc_str _)) ea_nil)) ea_nil)))))) (fun ρ z' => ρ = [.dat (.str one), .dat (.int n), .dat (.list [.tuple [.str "load", .str one, .str "sp", .int 0], .tuple [.str "push", .str one]]), .val (.ref l)] ∧ z' = (z2, (endsD one n).take 3)) (fun ρ z' σ' H' a2 h => ?_) a2 (by repeat (first | exact ⟨rfl, rfl⟩ | refine ⟨_, rfl, ?_⟩ | refine ⟨rfl, ?_⟩ | refine ⟨_, _, rfl, ?_⟩ | refine ⟨small_len rfl, ?_⟩ | refine ⟨Nat.le_of_lt (small_len rfl), ?_⟩))
  obtain ⟨rfl, rfl⟩ := h
  refine es_then (G := GL G K l) (K := K) (es_app (i := 3) fun ρ => (ev_tup (ea_cons (ev_op rw_add ev_pv (ev_lst (ea_cons (ev_tup (ea_cons (ev_c (sc_str _)) (ea_cons ev_pv ea_nil))) (ea_cons (ev_tup (ea_cons (ev_c (sc_str _)) (ea_cons (ev_c (sc_str _)) (ea_cons (ev_c (sc_int _)) (ea_cons ev_pv ea_nil))))) (ea_cons (ev_tup (ea_cons (ev_c (sc_str _)) ea_nil)) ea_nil))))) (ea_cons (ev_tup (ea_cons (ev_c (sc_int _)) (ea_cons (ev_c (sc_int _)) (ea_cons (ev_c (sc_int _)) (ea_cons (ev_c (sc_int _)) (ea_cons (ev_c (sc_int _)) ea_nil)))))) (ea_cons (ev_tup ea_nil) (ea_cons (ev_tup ea_nil) ea_nil)))))) (fun ρ z' => ρ = [.dat (.str one), .dat (.int n), .dat (.list [.tuple [.str "load", .str one, .str "sp", .int 0], .tuple [.str "push", .str one]]), .val (.ref l)] ∧ z' = (z2, (endsD one n).take 4)) (fun ρ z' σ' H' a2 h => ?_) a2 (by repeat (first | exact ⟨rfl, rfl⟩ | refine ⟨_, rfl, ?_⟩ | refine ⟨rfl, ?_⟩ | refine ⟨_, _, rfl, ?_⟩ | refine ⟨small_len rfl, ?_⟩ | refine ⟨Nat.le_of_lt (small_len rfl), ?_⟩))
  obtain ⟨rfl, rfl⟩ := h
  refine es_then (G := GL G K l) (K := K) (es_app (i := 3) fun ρ => (ev_tup (ea_cons (ev_lst (ea_cons (ev_tup (ea_cons (ev_c (sc_str _)) (ea_cons ev_pv ea_nil))) (ea_cons (ev_tup (ea_cons (ev_c (sc_str _)) (ea_cons ev_pv ea_nil))) (ea_cons (ev_tup (ea_cons (ev_c (sc_str _)) ea_nil)) ea_nil)))) (ea_cons (ev_tup (ea_cons (ev_c (sc_int _)) (ea_cons (ev_c (sc_int _)) (ea_cons (ev_c (sc_int _)) ea_nil)))) (ea_cons (ev_tup ea_nil) (ea_cons (ev_tup ea_nil) ea_nil)))))) (fun ρ z' => ρ = [.dat (.str one), .dat (.int n), .dat (.list [.tuple [.str "load", .str one, .str "sp", .int 0], .tuple [.str "push", .str one]]), .val (.ref l)] ∧ z' = (z2, (endsD one n).take 5)) (fun ρ z' σ' H' a2 h => ?_) a2 (by repeat (first | exact ⟨rfl, rfl⟩ | refine ⟨_, rfl, ?_⟩ | refine ⟨rfl, ?_⟩ | refine ⟨_, _, rfl, ?_⟩ | refine ⟨small_len rfl, ?_⟩ | refine ⟨Nat.le_of_lt (small_len rfl), ?_⟩))
  obtain ⟨rfl, rfl⟩ := h
  refine es_then (G := GL G K l) (K := K) (es_app (i := 3) fun ρ => (ev_tup (ea_cons (ev_lst (ea_cons (ev_tup (ea_cons (ev_c (sc_str _)) (ea_cons ev_pv ea_nil))) ea_nil)) (ea_cons (ev_tup (ea_cons (ev_c (sc_int _)) ea_nil)) (ea_cons (ev_tup ea_nil) (ea_cons (ev_tup (ea_cons (ev_c (sc_str _)) ea_nil)) ea_nil)))))) (fun ρ z' => ρ = [.dat (.str one), .dat (.int n), .dat (.list [.tuple [.str "load", .str one, .str "sp", .int 0], .tuple [.str "push", .str one]]), .val (.ref l)] ∧ z' = (z2, (endsD one n).take 6)) (fun ρ z' σ' H' a2 h => ?_) a2 (by repeat (first | exact ⟨rfl, rfl⟩ | refine ⟨_, rfl, ?_⟩ | refine ⟨rfl, ?_⟩ | refine ⟨_, _, rfl, ?_⟩ | refine ⟨small_len rfl, ?_⟩ | refine ⟨Nat.le_of_lt (small_len rfl), ?_⟩))
  obtain ⟨rfl, rfl⟩ := h
  refine es_then (G := GL G K l) (K := K) (es_app (i := 3) fun ρ => (ev_tup (ea_cons (ev_lst (ea_cons (ev_tup (ea_cons (ev_c (sc_str _)) (ea_cons (ev_c (sc_str _)) ea_nil))) ea_nil)) (ea_cons (ev_tup (ea_cons (ev_c (sc_int _)) ea_nil)) (ea_cons (ev_tup ea_nil) (ea_cons (ev_tup (ea_cons (ev_c (sc_str _)) ea_nil)) ea_nil)))))) (fun ρ z' => ρ = [.dat (.str one), .dat (.int n), .dat (.list [.tuple [.str "load", .str one, .str "sp", .int 0], .tuple [.str "push", .str one]]), .val (.ref l)] ∧ z' = (z2, (endsD one n).take 7)) (fun ρ z' σ' H' a2 h => ?_) a2 (by repeat (first | exact ⟨rfl, rfl⟩ | refine ⟨_, rfl, ?_⟩ | refine ⟨rfl, ?_⟩ | refine ⟨_, _, rfl, ?_⟩ | refine ⟨small_len rfl, ?_⟩ | refine ⟨Nat.le_of_lt (small_len rfl), ?_⟩))
  obtain ⟨rfl, rfl⟩ := h
  refine es_then (G := GL G K l) (K := K) (es_app (i := 3) fun ρ => (ev_tup (ea_cons (ev_lst (ea_cons (ev_tup (ea_cons (ev_c (sc_str _)) (ea_cons (ev_c (sc_int _)) ea_nil))) ea_nil)) (ea_cons (ev_tup (ea_cons (ev_c (sc_int _)) (ea_cons (ev_c (sc_int _)) ea_nil))) (ea_cons (ev_tup (ea_cons (ev_c (sc_int _)) ea_nil)) (ea_cons (ev_tup (ea_cons (ev_c (sc_str _)) ea_nil)) ea_nil)))))) (fun ρ z' => ρ = [.dat (.str one), .dat (.int n), .dat (.list [.tuple [.str "load", .str one, .str "sp", .int 0], .tuple [.str "push", .str one]]), .val (.ref l)] ∧ z' = (z2, (endsD one n).take 8)) (fun ρ z' σ' H' a2 h => ?_) a2 (by repeat (first | exact ⟨rfl, rfl⟩ | refine ⟨_, rfl, ?_⟩ | refine ⟨rfl, ?_⟩ | refine ⟨_, _, rfl, ?_⟩ | refine ⟨small_len rfl, ?_⟩ | refine ⟨Nat.le_of_lt (small_len rfl), ?_⟩))
  obtain ⟨rfl, rfl⟩ := h
  refine es_then (G := GL G K l) (K := K) (es_app (i := 3) fun ρ => (ev_tup (ea_cons (ev_lst (ea_cons (ev_tup (ea_cons (ev_c (sc_str _)) (ea_cons (ev_c (sc_int _)) ea_nil))) ea_nil)) (ea_cons (ev_tup (ea_cons (ev_c (sc_int _)) (ea_cons (ev_c (sc_int _)) (ea_cons (ev_c (sc_int _)) ea_nil)))) (ea_cons (ev_tup (ea_cons (ev_c (sc_int _)) ea_nil)) (ea_cons (ev_tup ea_nil) ea_nil)))))) (fun ρ z' => ρ = [.dat (.str one), .dat (.int n), .dat (.list [.tuple [.str "load", .str one, .str "sp", .int 0], .tuple [.str "push", .str one]]), .val (.ref l)] ∧ z' = (z2, (endsD one n).take 9)) (fun ρ z' σ' H' a2 h => ?_) a2 (by repeat (first | exact ⟨rfl, rfl⟩ | refine ⟨_, rfl, ?_⟩ | refine ⟨rfl, ?_⟩ | refine ⟨_, _, rfl, ?_⟩ | refine ⟨small_len rfl, ?_⟩ | refine ⟨Nat.le_of_lt (small_len rfl), ?_⟩))
  obtain ⟨rfl, rfl⟩ := h
  refine es_then (G := GL G K l) (K := K) (es_app (i := 3) fun ρ => (ev_tup (ea_cons (ev_lst (ea_cons (ev_tup (ea_cons (ev_c (sc_str _)) (ea_cons (ev_c (sc_int _)) ea_nil))) (ea_cons (ev_tup (ea_cons (ev_c (sc_str _)) (ea_cons (ev_c (sc_int _)) ea_nil))) ea_nil))) (ea_cons (ev_tup (ea_cons (ev_c (sc_int _)) (ea_cons (ev_c (sc_int _)) ea_nil))) (ea_cons (ev_tup (ea_cons (ev_c (sc_int _)) ea_nil)) (ea_cons (ev_tup (ea_cons (ev_c (sc_str _)) ea_nil)) ea_nil)))))) (fun ρ z' => ρ = [.dat (.str one), .dat (.int n), .dat (.list [.tuple [.str "load", .str one, .str "sp", .int 0], .tuple [.str "push", .str one]]), .val (.ref l)] ∧ z' = (z2, (endsD one n).take 10)) (fun ρ z' σ' H' a2 h => ?_) a2 (by repeat (first | exact ⟨rfl, rfl⟩ | refine ⟨_, rfl, ?_⟩ | refine ⟨rfl, ?_⟩ | refine ⟨_, _, rfl, ?_⟩ | refine ⟨small_len rfl, ?_⟩ | refine ⟨Nat.le_of_lt (small_len rfl), ?_⟩))
  obtain ⟨rfl, rfl⟩ := h
  obtain ⟨B3, g3, E3⟩ := a2
  obtain ⟨B4, g4, rv⟩ := (gl.step g3).done hl
  have E5 := env_asD (i := 3) (env_any (K := K) (B := B4) (n := 4) E3.len) (E3.val 3 _ rfl) rv
  refine es_top (G := G) (K := K) (es_ret fun ρ => (ev_op rw_add ev_pv (ev_lst (ea_cons (ev_tup (ea_cons (ev_lst (ea_cons (ev_tup (ea_cons (ev_c (sc_str _)) (ea_cons (ev_c (sc_int _)) ea_nil))) (ea_cons (ev_tup (ea_cons (ev_c (sc_str _)) (ea_cons (ev_c (sc_int _)) ea_nil))) (ea_cons (ev_tup (ea_cons (ev_c (sc_str _)) ea_nil)) ea_nil)))) (ea_cons (ev_tup (ea_cons (ev_c (sc_int _)) ea_nil)) (ea_cons (ev_tup (ea_cons (ev_c (sc_int _)) (ea_cons (ev_c (sc_int _)) ea_nil))) (ea_cons (ev_tup ea_nil) ea_nil))))) ea_nil)))) (B0 := B) (H0 := H) { nx := fun _ _ => False, rt := fun z' d => z' = z2 ∧ d = .list (endsD one n) } ⟨fun _ _ _ _ _ q => q.elim, fun _ _ _ _ _ q => q.elim, fun _ _ _ _ _ q => q.elim, fun z' v d B' H' g rv' e => ?_⟩ ⟨B4, (g1.trans g2).trans g4, E5⟩ (by repeat (first | exact ⟨rfl, rfl⟩ | refine ⟨_, rfl, ?_⟩ | refine ⟨rfl, ?_⟩ | refine ⟨_, _, rfl, ?_⟩ | refine ⟨small_len rfl, ?_⟩ | refine ⟨Nat.le_of_lt (small_len rfl), ?_⟩))
  obtain ⟨rfl, rfl⟩ := e
  exact k v _ B' H' _ g rv' q
end
end Law

/-! K8y -/
namespace Law
open PySem PySem.Spec PyProof.Rows L2 DL L2.DX
variable {Z : Type}
def d_following (ds : List D) : WE Z := fun z Q => ∃ (code : List D) (path : List Int) (mE : MS) (ps ws : D), ds = [.tuple code, .tuple (path.map .int)] ∧ CodeOk code ∧ path.length ≤ 500 ∧ walkS code path = some mE ∧ advW code mE = .tuple [ps, ws] ∧ Q z ps
def d_breaking (ds : List D) : WE Z := fun z Q => ∃ (code : List D) (path : List Int) (mE : MS) (ps ws : D), ds = [.tuple code, .tuple (path.map .int)] ∧ CodeOk code ∧ path.length ≤ 500 ∧ walkS code path = some mE ∧ advW code mE = .tuple [ps, ws] ∧ Q z ws
section
variable {P : Program} {w : World} {K : PySem.W.Frag} {mg : Str → Option Value} {base : Heap} {G : Gd Z} {C : Addr}
abbrev s_following : Stmt := top 47
abbrev n_following : List Str := ["code", "path", "places", "_"]
abbrev p_following : List Str := ["code", "path"]
theorem sc_following : FnScope n_following p_following (defScope s_following) := ⟨rfl, rfl, rfl, by decide +kernel, rfl, by decide +kernel, by decide +kernel⟩

theorem ok_following {f : Addr} {fd : FuncData} (F : Fd K mg "following" s_following p_following f fd) {f__walked : Addr} {fd__walked : FuncData} (F__walked : Fd K mg "_walked" s__walked p__walked f__walked fd__walked) (G__walked : FnG P w K mg base CX0 6 f__walked fd__walked p__walked (spWalked K G C))
    {f_advance : Addr} {fd_advance : FuncData} (F_advance : Fd K mg "advance" s_advance p_advance f_advance fd_advance) (G_advance : FnG P w K mg base CX0 4 f_advance fd_advance p_advance (spX fun i : Adr => spT K (GM G K C i.down.1 i.down.2.1 i.down.2.2) (.ref i.down.1) d_advance)) :
    FnG P w K mg base CX0 7 f fd p_following (spD K G 2 d_following) := by
  refine fn_body0 F.fn sc_following (spD_len (ps := p_following)) (fun cdv A outer s H vs Q E hg hr h => ?_)
  obtain ⟨hl, B, z, ds, Q', o, r, hf, k⟩ := h
  obtain ⟨code, path, mE, ps, ws, rfl, cok, hpl, hw, ha, q⟩ := hf
  cases r with
  | @cons vc _ _ _ rc r =>
  cases r with
  | @cons vp _ _ _ rp r =>
  cases r
  refine ⟨_, (pss_cons (ps_asg (pe_callG G_advance hg (hr.mono (by decide)) rfl F_advance.mg F_advance.fn.kp F_advance.b .nil pass0 (pa_cons (pv 0) (pa_cons (pe_callG G__walked hg (hr.mono (by decide)) rfl F__walked.mg F__walked.fn.kp F__walked.b .nil pass0 (pa_cons (pv 0) (pa_cons (pv 1) pa_nil))) pa_nil))) (pg_tup (n := 2) rfl (pgs_cons (pg_name (i := 2) sc_following.nd rfl (by first | exact Or.inl rfl | exact Or.inr rfl)) (pgs_cons (pg_name (i := 3) sc_following.nd rfl (by first | exact Or.inl rfl | exact Or.inr rfl)) pgs_nil))))
      (pss_one (ps_ret (pv 2)))), ?_⟩
  refine ⟨vc, rfl, vc, rfl, vp, rfl, vc, vp, B, z, code, path, mE, rfl, o, rc, rp, cok, hpl, hw, fun p dx hd B' H' gm ok wk => ?_⟩
  obtain ⟨wd, rest, hat, hin, had⟩ := advW_of cok ha
  have hwl := walkS_words cok hpl hw
  have kp := act_keeps (parts_of hin) ok wk (by omega)
  refine ⟨⟨p, dx, hd⟩, vc, rfl, rfl, B', (z, mE), [.tuple code], (fun z' d => z'.1 = z ∧ d = .tuple [ps, ws]), gm.ok, .cons (rc.mono gm.bb) .nil, ⟨code, wd, rest, rfl, hat, hin, ok, wk, by rw [kp.pl]; exact hat, rfl, had⟩, fun v z' B2 H2 d g rv hq => ?_⟩
  obtain ⟨hz, rfl⟩ := hq
  have g2 := (gm.step g).out
  rw [hz] at g2
  have E0 : EnvOk K B2 (L2.start n_following [vc, vp]) [.any, .any, .any, .any] := by
    refine ⟨rfl, fun i d e => ?_, fun i v e => ?_⟩
    · match i with
      | 0 | 1 | 2 | 3 => cases e
      | i + 4 => cases e
    · match i with
      | 0 | 1 | 2 | 3 => cases e
      | i + 4 => cases e
  refine (eg_tup (egs_cons (eg_name (i := 2)) (egs_cons (eg_name (i := 3)) egs_nil)) : EvG K _ _ _) _ _ B2 H2 v _ g2.ok.sub E0 rv (fun ρ' => ρ'[2]? = some (.dat ps)) ⟨[ps, ws], rfl, rfl, ps, [ws], rfl, ws, [], rfl, rfl, rfl⟩ _ (fun σ' ρ' E' _ h' => ?_)
  obtain ⟨v', e, dv⟩ := E'.dat 2 _ h'
  exact ⟨v', e, k v' z B2 H2 ps g2 dv q⟩
abbrev s_breaking : Stmt := top 48
abbrev n_breaking : List Str := ["code", "path", "_", "words"]
abbrev p_breaking : List Str := ["code", "path"]
theorem sc_breaking : FnScope n_breaking p_breaking (defScope s_breaking) := ⟨rfl, rfl, rfl, by decide +kernel, rfl, by decide +kernel, by decide +kernel⟩

theorem ok_breaking {f : Addr} {fd : FuncData} (F : Fd K mg "breaking" s_breaking p_breaking f fd) {f__walked : Addr} {fd__walked : FuncData} (F__walked : Fd K mg "_walked" s__walked p__walked f__walked fd__walked) (G__walked : FnG P w K mg base CX0 6 f__walked fd__walked p__walked (spWalked K G C))
    {f_advance : Addr} {fd_advance : FuncData} (F_advance : Fd K mg "advance" s_advance p_advance f_advance fd_advance) (G_advance : FnG P w K mg base CX0 4 f_advance fd_advance p_advance (spX fun i : Adr => spT K (GM G K C i.down.1 i.down.2.1 i.down.2.2) (.ref i.down.1) d_advance)) :
    FnG P w K mg base CX0 7 f fd p_breaking (spD K G 2 d_breaking) := by
  refine fn_body0 F.fn sc_breaking (spD_len (ps := p_breaking)) (fun cdv A outer s H vs Q E hg hr h => ?_)
  obtain ⟨hl, B, z, ds, Q', o, r, hf, k⟩ := h
  obtain ⟨code, path, mE, ps, ws, rfl, cok, hpl, hw, ha, q⟩ := hf
  cases r with
  | @cons vc _ _ _ rc r =>
  cases r with
  | @cons vp _ _ _ rp r =>
  cases r
  refine ⟨_, (pss_cons (ps_asg (pe_callG G_advance hg (hr.mono (by decide)) rfl F_advance.mg F_advance.fn.kp F_advance.b .nil pass0 (pa_cons (pv 0) (pa_cons (pe_callG G__walked hg (hr.mono (by decide)) rfl F__walked.mg F__walked.fn.kp F__walked.b .nil pass0 (pa_cons (pv 0) (pa_cons (pv 1) pa_nil))) pa_nil))) (pg_tup (n := 2) rfl (pgs_cons (pg_name (i := 2) sc_breaking.nd rfl (by first | exact Or.inl rfl | exact Or.inr rfl)) (pgs_cons (pg_name (i := 3) sc_breaking.nd rfl (by first | exact Or.inl rfl | exact Or.inr rfl)) pgs_nil))))
      (pss_one (ps_ret (pv 3)))), ?_⟩
  refine ⟨vc, rfl, vc, rfl, vp, rfl, vc, vp, B, z, code, path, mE, rfl, o, rc, rp, cok, hpl, hw, fun p dx hd B' H' gm ok wk => ?_⟩
  obtain ⟨wd, rest, hat, hin, had⟩ := advW_of cok ha
  have hwl := walkS_words cok hpl hw
  have kp := act_keeps (parts_of hin) ok wk (by omega)
  refine ⟨⟨p, dx, hd⟩, vc, rfl, rfl, B', (z, mE), [.tuple code], (fun z' d => z'.1 = z ∧ d = .tuple [ps, ws]), gm.ok, .cons (rc.mono gm.bb) .nil, ⟨code, wd, rest, rfl, hat, hin, ok, wk, by rw [kp.pl]; exact hat, rfl, had⟩, fun v z' B2 H2 d g rv hq => ?_⟩
  obtain ⟨hz, rfl⟩ := hq
  have g2 := (gm.step g).out
  rw [hz] at g2
  have E0 : EnvOk K B2 (L2.start n_breaking [vc, vp]) [.any, .any, .any, .any] := by
    refine ⟨rfl, fun i d e => ?_, fun i v e => ?_⟩
    · match i with
      | 0 | 1 | 2 | 3 => cases e
      | i + 4 => cases e
    · match i with
      | 0 | 1 | 2 | 3 => cases e
      | i + 4 => cases e
  refine (eg_tup (egs_cons (eg_name (i := 2)) (egs_cons (eg_name (i := 3)) egs_nil)) : EvG K _ _ _) _ _ B2 H2 v _ g2.ok.sub E0 rv (fun ρ' => ρ'[3]? = some (.dat ws)) ⟨[ps, ws], rfl, rfl, ps, [ws], rfl, ws, [], rfl, rfl, rfl⟩ _ (fun σ' ρ' E' _ h' => ?_)
  obtain ⟨v', e, dv⟩ := E'.dat 3 _ h'
  exact ⟨v', e, k v' z B2 H2 ws g2 dv q⟩
end
end Law

/-! K8za -/
namespace Law
open PySem PySem.Spec PyProof.Rows L2 DL L2.DX
def intsOf : List D → Option (List Int)
  | [] => some []
  | .int i :: r => (intsOf r).map fun l => i :: l
  | _ :: _ => none
theorem intsOf_ok : ∀ {ds : List D} {l : List Int}, intsOf ds = some l → ds = l.map .int
  | [], l, h => by cases h; rfl
  | .int i :: r, l, h => by
    rw [intsOf] at h
    cases e : intsOf r with
    | none => (rw [e] at h; cases h)
    | some t => rw [e] at h; cases h; rw [intsOf_ok e]; rfl
  | .none :: _, _, h | .bool _ :: _, _, h | .str _ :: _, _, h | .list _ :: _, _, h | .tuple _ :: _, _, h | .dict _ :: _, _, h => by cases h
/-- what follows a path, and how it breaks there -/
def nextB (code : List D) (path : List Int) (ps ws : D) : Bool := codeB code && match walkS code path with
  | some m => eqX (advW code m) (.tuple [ps, ws])
  | none => false
theorem next_of {code : List D} {path : List Int} {ps ws : D} (h : nextB code path ps ws = true) : CodeOk code ∧ ∃ mE, walkS code path = some mE ∧ advW code mE = .tuple [ps, ws] := by
  rw [nextB, Bool.and_eq_true] at h
  refine ⟨code_of h.1, ?_⟩
  cases e : walkS code path with
  | none => rw [e] at h; simp at h
  | some m =>
    rw [e] at h
    exact ⟨m, rfl, eqX_of h.2⟩
def duesD (code : List D) (word : Str) : List D := if word = "" then [.tuple [.int code.length], .tuple []] else [.tuple [], .tuple [.str word]]
def pairB (code : List D) (word : Str) : Bool := match duesD code word with
  | [ps, ws] => nextB (code ++ [retD]) (pathN code.length) ps ws && showB (.list [ps, ws])
  | _ => false
def rowB : D → Bool
  | .tuple [.list code, .str word] => pairB code word && Nat.ble code.length 50 && Nat.ble word.length 50
  | _ => false
def endB : D → Bool
  | .tuple [.list code, .tuple path, .tuple ps, .tuple ws] => (match intsOf path with | some l => nextB code l (.tuple ps) (.tuple ws) && Nat.ble l.length 50 | none => false) && showB (.list [.tuple ps, .tuple ws])
  | _ => false
def pick (l : List D) (is : List Nat) : List D := is.filterMap fun i => l[i]?
def pairs : List (Str × Str) := regs.flatMap fun a => (regs.filter fun b => decide (b ≠ a)).map fun b => (a, b)
theorem rows_c : (pairs.all fun q => (pick (rowsD q.1 q.2 1) [0, 1, 2, 3, 9, 10, 11, 12, 15, 16, 17, 19, 23, 24, 25, 26]).all rowB) = true := by decide +kernel
theorem rows_n : (regs.all fun a => (List.range 62).all fun k => (pick (rowsD a a (1 + (k : Nat))) [4, 5, 6, 7, 8, 13, 14, 21, 22]).all rowB) = true := by decide +kernel
def rowsM (a b : Str) : Bool := (List.range 62).all fun k => (pick (rowsD a b (1 + (k : Nat))) [18, 20]).all rowB
theorem rows_m_p : ((regs.filter fun (b : Str) => decide (b ≠ ("p" : Str))).all fun b => rowsM "p" b) = true := by decide +kernel
theorem rows_m_q : ((regs.filter fun (b : Str) => decide (b ≠ ("q" : Str))).all fun b => rowsM "q" b) = true := by decide +kernel
theorem rows_m_r : ((regs.filter fun (b : Str) => decide (b ≠ ("r" : Str))).all fun b => rowsM "r" b) = true := by decide +kernel
theorem rows_m_s : ((regs.filter fun (b : Str) => decide (b ≠ ("s" : Str))).all fun b => rowsM "s" b) = true := by decide +kernel
theorem rows_m_x : ((regs.filter fun (b : Str) => decide (b ≠ ("x" : Str))).all fun b => rowsM "x" b) = true := by decide +kernel
theorem rows_m_y : ((regs.filter fun (b : Str) => decide (b ≠ ("y" : Str))).all fun b => rowsM "y" b) = true := by decide +kernel
theorem rows_m : ∀ a ∈ regs, ∀ b ∈ regs, b ≠ a → rowsM a b = true := by
  intro a ha b hb h
  have hm : ∀ c : Str, c = a → b ∈ regs.filter fun (b : Str) => decide (b ≠ c) := fun c e => List.mem_filter.mpr ⟨hb, by subst e; simpa using h⟩
  simp only [regs, List.mem_cons, List.not_mem_nil, or_false] at ha
  rcases ha with e | e | e | e | e | e
  · exact e ▸ List.all_eq_true.mp rows_m_p b (hm _ e.symm)
  · exact e ▸ List.all_eq_true.mp rows_m_q b (hm _ e.symm)
  · exact e ▸ List.all_eq_true.mp rows_m_r b (hm _ e.symm)
  · exact e ▸ List.all_eq_true.mp rows_m_s b (hm _ e.symm)
  · exact e ▸ List.all_eq_true.mp rows_m_x b (hm _ e.symm)
  · exact e ▸ List.all_eq_true.mp rows_m_y b (hm _ e.symm)
theorem mem_pairs {a b : Str} (h1 : a ∈ regs) (h2 : b ∈ regs) (h : b ≠ a) : (a, b) ∈ pairs := by
  unfold pairs
  rw [List.mem_flatMap]
  exact ⟨a, h1, List.mem_map.mpr ⟨b, List.mem_filter.mpr ⟨h2, by simpa using h⟩, rfl⟩⟩
theorem ends_c : (regs.all fun a => (pick (endsD a 1) [0, 1, 2, 3, 5, 6, 7, 8, 9, 10]).all endB) = true := by decide +kernel
theorem ends_n : (regs.all fun a => (List.range 62).all fun k => (pick (endsD a (1 + (k : Nat))) [4]).all endB) = true := by decide +kernel
theorem mem_pick {l : List D} {is : List Nat} {i : Nat} {d : D} (h : i ∈ is) (e : l[i]? = some d) : d ∈ pick l is := List.mem_filterMap.mpr ⟨i, h, e⟩
theorem rows_ok {one two : Str} (h1 : one ∈ regs) (h2 : two ∈ regs) (h : two ≠ one) {k : Nat} (hk : k < 62) : ∀ r ∈ rowsD one two (1 + (k : Nat)), rowB r = true := by
  have c := List.all_eq_true.mp (List.all_eq_true.mp rows_c _ (mem_pairs h1 h2 h))
  have n := List.all_eq_true.mp (List.all_eq_true.mp (List.all_eq_true.mp rows_n _ h1) k (List.mem_range.mpr hk))
  have m := List.all_eq_true.mp (List.all_eq_true.mp (rows_m _ h1 _ h2 h) k (List.mem_range.mpr hk))
  intro r hr
  unfold rowsD at hr
  simp only [List.mem_cons, List.not_mem_nil, or_false] at hr
  rcases hr with e | e | e | e | e | e | e | e | e | e | e | e | e | e | e | e | e | e | e | e | e | e | e | e | e | e | e
  · exact e ▸ c _ (mem_pick (i := 0) (by decide) rfl)
  · exact e ▸ c _ (mem_pick (i := 1) (by decide) rfl)
  · exact e ▸ c _ (mem_pick (i := 2) (by decide) rfl)
  · exact e ▸ c _ (mem_pick (i := 3) (by decide) rfl)
  · exact e ▸ n _ (mem_pick (i := 4) (by decide) rfl)
  · exact e ▸ n _ (mem_pick (i := 5) (by decide) rfl)
  · exact e ▸ n _ (mem_pick (i := 6) (by decide) rfl)
  · exact e ▸ n _ (mem_pick (i := 7) (by decide) rfl)
  · exact e ▸ n _ (mem_pick (i := 8) (by decide) rfl)
  · exact e ▸ c _ (mem_pick (i := 9) (by decide) rfl)
  · exact e ▸ c _ (mem_pick (i := 10) (by decide) rfl)
  · exact e ▸ c _ (mem_pick (i := 11) (by decide) rfl)
  · exact e ▸ c _ (mem_pick (i := 12) (by decide) rfl)
  · exact e ▸ n _ (mem_pick (i := 13) (by decide) rfl)
  · exact e ▸ n _ (mem_pick (i := 14) (by decide) rfl)
  · exact e ▸ c _ (mem_pick (i := 15) (by decide) rfl)
  · exact e ▸ c _ (mem_pick (i := 16) (by decide) rfl)
  · exact e ▸ c _ (mem_pick (i := 17) (by decide) rfl)
  · exact e ▸ m _ (mem_pick (i := 18) (by decide) rfl)
  · exact e ▸ c _ (mem_pick (i := 19) (by decide) rfl)
  · exact e ▸ m _ (mem_pick (i := 20) (by decide) rfl)
  · exact e ▸ n _ (mem_pick (i := 21) (by decide) rfl)
  · exact e ▸ n _ (mem_pick (i := 22) (by decide) rfl)
  · exact e ▸ c _ (mem_pick (i := 23) (by decide) rfl)
  · exact e ▸ c _ (mem_pick (i := 24) (by decide) rfl)
  · exact e ▸ c _ (mem_pick (i := 25) (by decide) rfl)
  · exact e ▸ c _ (mem_pick (i := 26) (by decide) rfl)
theorem ends_ok {one : Str} (h1 : one ∈ regs) {k : Nat} (hk : k < 62) : ∀ r ∈ endsD one (1 + (k : Nat)), endB r = true := by
  have c := List.all_eq_true.mp (List.all_eq_true.mp ends_c _ h1)
  have n := List.all_eq_true.mp (List.all_eq_true.mp (List.all_eq_true.mp ends_n _ h1) k (List.mem_range.mpr hk))
  intro r hr
  unfold endsD at hr
  simp only [List.mem_cons, List.not_mem_nil, or_false] at hr
  rcases hr with e | e | e | e | e | e | e | e | e | e | e
  · exact e ▸ c _ (mem_pick (i := 0) (by decide) rfl)
  · exact e ▸ c _ (mem_pick (i := 1) (by decide) rfl)
  · exact e ▸ c _ (mem_pick (i := 2) (by decide) rfl)
  · exact e ▸ c _ (mem_pick (i := 3) (by decide) rfl)
  · exact e ▸ n _ (mem_pick (i := 4) (by decide) rfl)
  · exact e ▸ c _ (mem_pick (i := 5) (by decide) rfl)
  · exact e ▸ c _ (mem_pick (i := 6) (by decide) rfl)
  · exact e ▸ c _ (mem_pick (i := 7) (by decide) rfl)
  · exact e ▸ c _ (mem_pick (i := 8) (by decide) rfl)
  · exact e ▸ c _ (mem_pick (i := 9) (by decide) rfl)
  · exact e ▸ c _ (mem_pick (i := 10) (by decide) rfl)
end Law

/-! K8z -/
namespace Law
open PySem PySem.Spec PyProof.Rows L2 DL L2.DX
abbrev s_law : Stmt := top 56
abbrev n_law : List Str := ["script", "state", "turn", "two", "one", "n", "some", "word", "due", "path", "places", "words", "code", "other"]
abbrev p_law : List Str := ["script"]
theorem sc_law : FnScope n_law p_law (defScope s_law) := ⟨rfl, rfl, rfl, by decide +kernel, rfl, by decide +kernel, by decide +kernel⟩

/-- law's: a list of at most 63 ints is handed in, True comes out -/
def spLaw (K : PySem.W.Frag) : Sp := fun vs H Q _ => ∃ (a : Addr) (ns : List Int), vs = [.ref a] ∧ SqL K H a (ns.map V.int) ∧ ns.length ≤ 63 ∧ ∀ H', Q (.bl true) H'
structure BltL (mg : Str → Option Value) : Prop where
  b_range : mg "range" = none
  b_min : mg "min" = none
  b_len : mg "len" = none
  b_tuple : mg "tuple" = none
  b_repr : mg "repr" = none
theorem regs_signs : ∀ c ∈ ("pqrsxy" : Str).cps.toList, (⟨#[c]⟩ : Str) ∈ regs := by decide +kernel
theorem regs_items : itemsD (.str "pqrsxy") = some (regs.map .str) := by
  have h : ("pqrsxy" : Str).cps.toList.map (fun c => (⟨#[c]⟩ : Str)) = regs := by decide +kernel
  show some (("pqrsxy" : Str).cps.toList.map fun c => PyData.str ⟨#[c]⟩) = some (regs.map .str)
  rw [← h, List.map_map]
  rfl
def notOne (one : Str) (d : D) : Bool := match d with
  | .str o => !decide (o = one)
  | _ => false
theorem some_other : ∀ one ∈ regs, 0 < ((regs.map PyData.str).filter (notOne one)).length := by
  have h : (regs.all fun one => Nat.blt 0 ((regs.map PyData.str).filter (notOne one)).length) = true := by decide +kernel
  exact fun one h1 => Nat.le_of_ble_eq_true (List.all_eq_true.mp h one h1)
theorem row_of {d : D} (h : rowB d = true) : ∃ ins word, d = .tuple [.list ins, .str word] ∧ ins.length ≤ 50 ∧ word.length ≤ 50 ∧ ∃ ps ws, duesD ins word = [ps, ws] ∧ CodeOk (ins ++ [retD]) ∧ Shows (.list [ps, ws]) ∧
    ∃ mE, walkS (ins ++ [retD]) (pathN ins.length) = some mE ∧ advW (ins ++ [retD]) mE = .tuple [ps, ws] := by
  unfold rowB at h
  split at h
  · rename_i ins word
    rw [Bool.and_eq_true, Bool.and_eq_true] at h
    obtain ⟨⟨h1, h2⟩, h3⟩ := h
    unfold pairB at h1
    split at h1
    · rename_i ps ws e
      rw [Bool.and_eq_true] at h1
      obtain ⟨a, mE, b, c⟩ := next_of h1.1
      exact ⟨ins, word, rfl, Nat.le_of_ble_eq_true h2, Nat.le_of_ble_eq_true h3, ps, ws, e, a, show_of h1.2, mE, b, c⟩
    · cases h1
  · cases h
theorem end_of {d : D} (h : endB d = true) : ∃ code l ps ws, d = .tuple [.list code, .tuple (l.map .int), .tuple ps, .tuple ws] ∧ l.length ≤ 50 ∧ CodeOk code ∧ Shows (.list [.tuple ps, .tuple ws]) ∧ ∃ mE, walkS code l = some mE ∧ advW code mE = .tuple [.tuple ps, .tuple ws] := by
  unfold endB at h
  split at h
  · rename_i code path ps ws
    rw [Bool.and_eq_true] at h
    obtain ⟨h1, h2⟩ := h
    cases e : intsOf path with
    | none => (rw [e] at h1; simp at h1)
    | some l =>
      rw [e] at h1
      have h1 : (nextB code l (.tuple ps) (.tuple ws) && Nat.ble l.length 50) = true := h1
      rw [Bool.and_eq_true] at h1
      obtain ⟨a, mE, b, c⟩ := next_of h1.1
      rw [intsOf_ok e]
      exact ⟨code, l, ps, ws, rfl, Nat.le_of_ble_eq_true h1.2, a, show_of h2, mE, b, c⟩
  · cases h
theorem dNe_self {Z : Type} {s : Str} {z : Z} {Q : DK Z} (q : Q z (.bool false)) : dNe (.str s) (.str s) z Q := by
  unfold dNe
  have e : scEq (.str s) (.str s) = some true := by simp [scEq]
  rw [e]
  exact q
theorem dEq_self {Z : Type} {s : Str} {z : Z} {Q : DK Z} (q : Q z (.bool true)) : dEq (.str s) (.str s) z Q := by
  unfold dEq
  have e : scEq (.str s) (.str s) = some true := by simp [scEq]
  rw [e]
  exact q
theorem dEq_str {Z : Type} {s t : Str} {z : Z} {Q : DK Z} (q : Q z (.bool (decide (s = t)))) : dEq (.str s) (.str t) z Q := by
  unfold dEq
  exact q
theorem ifF {A B : Prop} (b : B) : if false = true then A else B := b
theorem pathN_len (n : Nat) : (pathN n).length = n := by unfold pathN; rw [List.length_map, List.length_range]
section
variable {P : Program} {w : World} {K : PySem.W.Frag} {base : Heap} {mg : Str → Option Value}
abbrev spOf (K : PySem.W.Frag) (n : Nat) (f : List D → WE Nat) : Sp := spX fun i : ULift.{1} StA => spS K (GS i.down) (.ref i.down.sd) n f
abbrev spAny (K : PySem.W.Frag) (n : Nat) (f : (Z : Type) → List D → WE Z) : Sp := spX fun i : AnyG => spD K i.2 n (f i.1)
theorem ok_law {f : Addr} {fd : FuncData} (F : Fd K mg "law" s_law p_law f fd) (T : BltL mg)
    {f__law_begin : Addr} {fd__law_begin : FuncData} (F__law_begin : Fd K mg "_law_begin" s__law_begin p__law_begin f__law_begin fd__law_begin) (G__law_begin : FnG P w K mg base CX0 1 f__law_begin fd__law_begin p__law_begin (spBegin K))
    {f__law_draw : Addr} {fd__law_draw : FuncData} (F__law_draw : Fd K mg "_law_draw" s__law_draw p__law_draw f__law_draw fd__law_draw) (G__law_draw : FnG P w K mg base CX0 2 f__law_draw fd__law_draw p__law_draw (spOf K 1 dDraw))
    {f__law_of : Addr} {fd__law_of : FuncData} (F__law_of : Fd K mg "_law_of" s__law_of p__law_of f__law_of fd__law_of) (G__law_of : FnG P w K mg base CX0 3 f__law_of fd__law_of p__law_of (spOf K 1 d__law_of))
    {f__law_rows : Addr} {fd__law_rows : FuncData} (F__law_rows : Fd K mg "_law_rows" s__law_rows p__law_rows f__law_rows fd__law_rows) (G__law_rows : FnG P w K mg base CX0 1 f__law_rows fd__law_rows p__law_rows (spAny K 3 fun Z => d__law_rows (Z := Z)))
    {f__law_ends : Addr} {fd__law_ends : FuncData} (F__law_ends : Fd K mg "_law_ends" s__law_ends p__law_ends f__law_ends fd__law_ends) (G__law_ends : FnG P w K mg base CX0 1 f__law_ends fd__law_ends p__law_ends (spAny K 2 fun Z => d__law_ends (Z := Z)))
    {f_following : Addr} {fd_following : FuncData} (F_following : Fd K mg "following" s_following p_following f_following fd_following) (G_following : FnG P w K mg base CX0 7 f_following fd_following p_following (spAny K 2 fun Z => d_following (Z := Z)))
    {f_breaking : Addr} {fd_breaking : FuncData} (F_breaking : Fd K mg "breaking" s_breaking p_breaking f_breaking fd_breaking) (G_breaking : FnG P w K mg base CX0 7 f_breaking fd_breaking p_breaking (spAny K 2 fun Z => d_breaking (Z := Z))) :
    FnG P w K mg base CX0 8 f fd p_law (spLaw K) := by
  refine fn_body0 F.fn sc_law (fun vs H Q E h => ?_) (fun cdv A outer st H vs Q E hg hr h => ?_)
  · obtain ⟨a, ns, rfl, _⟩ := h
    rfl
  obtain ⟨a, ns, rfl, ha, hl, k⟩ := h
  refine ⟨_, (pss_cons (ps_set (i := 1) sc_law.nd rfl (by first | exact Or.inl rfl | exact Or.inr rfl) (pe_callG G__law_begin hg (hr.mono (by decide)) rfl F__law_begin.mg F__law_begin.fn.kp F__law_begin.b .nil pass0 (pa_cons (pv 0) pa_nil)))
      (pss_cons (ps_for PassesOwn.never rfl (pi_range1 (by rfl) T.b_range (pa_cons (pe_op op_addA pe_int (pe_callB (call_min2 rfl) (by rfl) T.b_min (by decide +kernel) (pa_cons pe_int (pa_cons (pe_callB call_len (by rfl) T.b_len (by decide +kernel) (pa_cons (pv 0) pa_nil)) pa_nil)))) pa_nil)) (pg_name (i := 2) sc_law.nd rfl (by first | exact Or.inl rfl | exact Or.inr rfl))
      (pss_cons (ps_asg (pe_tup (pa_cons (pe_callG G__law_of hg (hr.mono (by decide)) rfl F__law_of.mg F__law_of.fn.kp F__law_of.b .nil pass0 (pa_cons (pv 1) (pa_cons pe_str pa_nil))) (pa_cons (pe_op op_addA pe_int (pe_callG G__law_draw hg (hr.mono (by decide)) rfl F__law_draw.mg F__law_draw.fn.kp F__law_draw.b .nil pass0 (pa_cons (pv 1) (pa_cons pe_int pa_nil)))) pa_nil))) (pg_tup (n := 2) rfl (pgs_cons (pg_name (i := 4) sc_law.nd rfl (by first | exact Or.inl rfl | exact Or.inr rfl)) (pgs_cons (pg_name (i := 5) sc_law.nd rfl (by first | exact Or.inl rfl | exact Or.inr rfl)) pgs_nil))))
      (pss_cons (ps_set (i := 3) sc_law.nd rfl (by first | exact Or.inl rfl | exact Or.inr rfl) (pe_callG G__law_of hg (hr.mono (by decide)) rfl F__law_of.mg F__law_of.fn.kp F__law_of.b .nil pass0 (pa_cons (pv 1) (pa_cons (pe_lc (own := [("other", 13)]) rfl sc_law.nd (pi_any pe_str) (blkOk_by (own := [("other", 13)]) (N := n_law) (sc := defScope s_law) (by decide +kernel)) (fun _ _ _ _ _ => (pg_name (i := 13) sc_law.nd rfl (by first | exact Or.inl rfl | exact Or.inr rfl))) (fun _ _ _ _ _ => (pts_one (pt_cmpR op_ne (pv 13) (pv 4) (nomark _)))) (fun _ _ _ _ _ => (pv 13))) pa_nil))))
      (pss_cons (ps_for PassesOwn.never rfl (pi_any (pe_callG G__law_rows hg (hr.mono (by decide)) rfl F__law_rows.mg F__law_rows.fn.kp F__law_rows.b .nil pass0 (pa_cons (pv 4) (pa_cons (pv 3) (pa_cons (pv 5) pa_nil))))) (pg_tup (n := 2) rfl (pgs_cons (pg_name (i := 6) sc_law.nd rfl (by first | exact Or.inl rfl | exact Or.inr rfl)) (pgs_cons (pg_name (i := 7) sc_law.nd rfl (by first | exact Or.inl rfl | exact Or.inr rfl)) pgs_nil)))
      (pss_cons (ps_par (i := 12) (j := 9) (by rfl) sc_law.nd rfl rfl (by decide) rfl rfl (pa_cons (pe_callTy call_tuple_of (by rfl) T.b_tuple (by decide +kernel) (pa_cons (pe_op op_addA (pv 6) (pe_lst (pa_cons (pe_tup (pa_cons pe_str pa_nil)) pa_nil))) pa_nil)) (pa_cons (pe_tupRg rfl (by rfl) T.b_tuple (prg_1 (by rfl) T.b_range (pe_callB call_len (by rfl) T.b_len (by decide +kernel) (pa_cons (pv 6) pa_nil)))) pa_nil)) (by rfl))
      (pss_cons (ps_set (i := 8) sc_law.nd rfl (by first | exact Or.inl rfl | exact Or.inr rfl) (pe_ifExp (pt_cmpR (op_eqA hr.units) (pv 7) pe_str (nomark _)) (pe_lst (pa_cons (pe_tup (pa_cons (pe_callB call_len (by rfl) T.b_len (by decide +kernel) (pa_cons (pv 6) pa_nil)) pa_nil)) (pa_cons (pe_tup pa_nil) pa_nil))) (pe_lst (pa_cons (pe_tup pa_nil) (pa_cons (pe_tup (pa_cons (pv 7) pa_nil)) pa_nil)))))
      (pss_one (ps_if (pt_cmpR (op_neA hr.units) (pe_callB (call_repr hg hr.units) (by rfl) T.b_repr (by decide +kernel) (pa_cons (pe_lst (pa_cons (pe_callG G_following hg (hr.mono (by decide)) rfl F_following.mg F_following.fn.kp F_following.b .nil pass0 (pa_cons (pv 12) (pa_cons (pv 9) pa_nil))) (pa_cons (pe_callG G_breaking hg (hr.mono (by decide)) rfl F_breaking.mg F_breaking.fn.kp F_breaking.b .nil pass0 (pa_cons (pv 12) (pa_cons (pv 9) pa_nil))) pa_nil))) pa_nil)) (pe_callB (call_repr hg hr.units) (by rfl) T.b_repr (by decide +kernel) (pa_cons (pv 8) pa_nil)) (nomark _)) (pss_one (ps_ret pe_bl)) pss_nil)))))
      (pss_one (ps_for PassesOwn.never rfl (pi_any (pe_callG G__law_ends hg (hr.mono (by decide)) rfl F__law_ends.mg F__law_ends.fn.kp F__law_ends.b .nil pass0 (pa_cons (pv 4) (pa_cons (pv 5) pa_nil)))) (pg_tup (n := 4) rfl (pgs_cons (pg_name (i := 6) sc_law.nd rfl (by first | exact Or.inl rfl | exact Or.inr rfl)) (pgs_cons (pg_name (i := 9) sc_law.nd rfl (by first | exact Or.inl rfl | exact Or.inr rfl)) (pgs_cons (pg_name (i := 10) sc_law.nd rfl (by first | exact Or.inl rfl | exact Or.inr rfl)) (pgs_cons (pg_name (i := 11) sc_law.nd rfl (by first | exact Or.inl rfl | exact Or.inr rfl)) pgs_nil)))))
      (pss_one (ps_if (pt_cmpR (op_neA hr.units) (pe_callB (call_repr hg hr.units) (by rfl) T.b_repr (by decide +kernel) (pa_cons (pe_lst (pa_cons (pe_callG G_following hg (hr.mono (by decide)) rfl F_following.mg F_following.fn.kp F_following.b .nil pass0 (pa_cons (pe_callTy call_tuple_of (by rfl) T.b_tuple (by decide +kernel) (pa_cons (pv 6) pa_nil)) (pa_cons (pv 9) pa_nil))) (pa_cons (pe_callG G_breaking hg (hr.mono (by decide)) rfl F_breaking.mg F_breaking.fn.kp F_breaking.b .nil pass0 (pa_cons (pe_callTy call_tuple_of (by rfl) T.b_tuple (by decide +kernel) (pa_cons (pv 6) pa_nil)) (pa_cons (pv 9) pa_nil))) pa_nil))) pa_nil)) (pe_callB (call_repr hg hr.units) (by rfl) T.b_repr (by decide +kernel) (pa_cons (pe_lst (pa_cons (pv 10) (pa_cons (pv 11) pa_nil))) pa_nil)) (nomark _)) (pss_one (ps_ret pe_bl)) pss_nil))))))))
      (pss_one (ps_ret pe_bl)))) , ?_⟩
  -- state = _law_begin(script)
  refine ⟨.ref a, rfl, a, ns, rfl, ha, hl, fun s H' sm si n1 n2 n3 => ?_⟩
  have o : Ok (GW (GS s) (fun B => SqL K B a (ns.map .int)) (fun _ _ e => same_l e)) 0 H H' := by
    refine Ok.gw ⟨sm, fun b hb => ?_, si⟩ ha
    rcases hb with e | e | e
    · rw [e]; exact n1
    · rw [e]; exact n2
    · rw [e]; exact n3
  have E0 : EnvOk K H [some (.ref a), some (.ref s.sd), none, none, none, none, none, none, none, none, none, none, none, none] [.val (.ref a), .val (.ref s.sd), .any, .any, .any, .any, .any, .any, .any, .any, .any, .any, .any, .any] := by
    refine ⟨rfl, fun i d e => ?_, fun i v e => ?_⟩
    · match i with
      | 0 | 1 | 2 | 3 | 4 | 5 | 6 | 7 | 8 | 9 | 10 | 11 | 12 | 13 => cases e
      | i + 14 => cases e
    · match i with
      | 0 => cases e; rfl
      | 1 => cases e; rfl
      | 2 | 3 | 4 | 5 | 6 | 7 | 8 | 9 | 10 | 11 | 12 | 13 => cases e
      | i + 14 => cases e
  refine es_top (G := GW (GS s) (fun B => SqL K B a (ns.map .int)) (fun _ _ e => same_l e)) (K := K) ((es_seq (es_for (fun ρ => (ei_range1 (ea_cons (ev_op rw_add (ev_c (sc_int _)) (ev_call rws_min2 (ea_cons (ev_c (sc_int _)) (ea_cons (ev_lenS fun _ j => j) ea_nil)))) ea_nil))) eg_name
      (es_seq (es_asg (fun ρ => (ev_tup (ea_cons (ev_callSx (f := d__law_of) (ea_cons (ev_c (sc_str _)) ea_nil)) (ea_cons (ev_op rw_add (ev_c (sc_int _)) (ev_callSx (f := dDraw) (ea_cons (ev_c (sc_int _)) ea_nil))) ea_nil)))) (eg_tup (egs_cons eg_name (egs_cons eg_name egs_nil))))
      (es_seq (es_asg (fun ρ => (ev_callSx (f := d__law_of) (ea_cons (ev_lc (ei_any (ev_c (sc_str _))) eg_name (fun ρ => (et_test (ev_op rw_neS ev_pv ev_pv))) (fun ρ => ev_pv)) ea_nil))) eg_name)
      (es_seq (es_for (fun ρ => (ei_any (ev_callD_x (f := fun Z => d__law_rows (Z := Z)) (ea_cons ev_pv (ea_cons ev_pv (ea_cons ev_pv ea_nil)))))) (eg_tup (egs_cons eg_name (egs_cons eg_name egs_nil)))
      (es_seq (es_par fun ρ => (ea_cons (ev_call rws_tup (ea_cons (ev_op rw_add ev_pv (ev_lst (ea_cons (ev_tup (ea_cons (ev_c (sc_str _)) ea_nil)) ea_nil))) ea_nil)) (ea_cons (ev_tupRg (ev_call rws_len (ea_cons ev_pv ea_nil))) ea_nil)))
      (es_seq (es_asg (fun ρ => (ev_if (et_test (ev_op rw_eq ev_pv (ev_c (sc_str _)))) (ev_lst (ea_cons (ev_tup (ea_cons (ev_call rws_len (ea_cons ev_pv ea_nil)) ea_nil)) (ea_cons (ev_tup ea_nil) ea_nil))) (ev_lst (ea_cons (ev_tup ea_nil) (ea_cons (ev_tup (ea_cons ev_pv ea_nil)) ea_nil))))) eg_name)
      (es_if (fun ρ => (et_test (ev_op rw_ne (ev_call rws_repr (ea_cons (ev_lst (ea_cons (ev_callD_x (f := fun Z => d_following (Z := Z)) (ea_cons ev_pv (ea_cons ev_pv ea_nil))) (ea_cons (ev_callD_x (f := fun Z => d_breaking (Z := Z)) (ea_cons ev_pv (ea_cons ev_pv ea_nil))) ea_nil))) ea_nil)) (ev_call rws_repr (ea_cons ev_pv ea_nil))))) (es_ret fun ρ => (ev_c (sc_bl _))) es_next))))
      (es_for (fun ρ => (ei_any (ev_callD_x (f := fun Z => d__law_ends (Z := Z)) (ea_cons ev_pv (ea_cons ev_pv ea_nil))))) (eg_tup (egs_cons eg_name (egs_cons eg_name (egs_cons eg_name (egs_cons eg_name egs_nil)))))
      (es_if (fun ρ => (et_test (ev_op rw_ne (ev_call rws_repr (ea_cons (ev_lst (ea_cons (ev_callD_x (f := fun Z => d_following (Z := Z)) (ea_cons (ev_call rws_tup (ea_cons ev_pv ea_nil)) (ea_cons ev_pv ea_nil))) (ea_cons (ev_callD_x (f := fun Z => d_breaking (Z := Z)) (ea_cons (ev_call rws_tup (ea_cons ev_pv ea_nil)) (ea_cons ev_pv ea_nil))) ea_nil))) ea_nil)) (ev_call rws_repr (ea_cons (ev_lst (ea_cons ev_pv (ea_cons ev_pv ea_nil))) ea_nil))))) (es_ret fun ρ => (ev_c (sc_bl _))) es_next))))))
      (es_ret fun ρ => (ev_c (sc_bl _))))) (B0 := H) (H0 := H') { nx := fun _ _ => False, rt := fun _ d => d = .bool true } ⟨fun _ _ _ _ _ q => q.elim, fun _ _ _ _ _ q => q.elim, fun _ _ _ _ _ q => q.elim, fun z v d B H g r e => ?_⟩ ⟨H, Go.refl o, E0⟩ ?_
  · subst e
    cases r
    exact k H
  -- the turns
  refine ⟨rfl, _, _, rfl, _, rfl, ?_, ?_, for_ind (fun r ρ z => z + 3 * r.length ≤ 1000 ∧ ∃ s2 s3 s4 s5 s6 s7 s8 s9 s10 s11 s12 s13, ρ = [.val (.ref a), .val (.ref s.sd), s2, s3, s4, s5, s6, s7, s8, s9, s10, s11, s12, s13]) (fun d r ρ z h ih => ?_) (fun ρ z h => ?_) _ _ _ ?_⟩
  · show -(2 ^ 62) ≤ (2 : Int) + _
    split <;> omega
  · show (2 : Int) + _ < 2 ^ 62
    have : (ns.map V.int).length = ns.length := List.length_map ..
    split <;> omega
  rotate_left 2
  · refine ⟨?_, _, _, _, _, _, _, _, _, _, _, _, _, rfl⟩
    have : (ns.map V.int).length = ns.length := List.length_map ..
    unfold intsD
    rw [List.length_map (as := List.range _), List.length_range]
    split <;> omega
  · -- one, n
    rw [List.length_cons] at h
    obtain ⟨hz, s2, s3, s4, s5, s6, s7, s8, s9, s10, s11, s12, s13, rfl⟩ := h
    refine ⟨rfl, by omega, .inr ⟨_, rfl, by decide +kernel, by decide +kernel, fun c hc => ?_⟩⟩
    have h1 := regs_signs c hc
    generalize (⟨#[c]⟩ : Str) = one at h1
    refine ⟨rfl, 62, rfl, by decide, by decide, by omega, fun n hn0 hn1 => ⟨_, rfl, rfl, _, _, rfl, _, _, rfl, rfl, ?_⟩⟩
    -- two
    refine ⟨rfl, _, regs_items, lc_sift (notOne one) id (fun d hd Y N y1 y2 => ?_) (by decide) ?_⟩
    · obtain ⟨o, _, rfl⟩ := List.mem_map.mp hd
      refine ⟨_, rfl, _, rfl, _, rfl, _, rfl, ?_⟩
      cases e : decide (o = one) with
      | true => exact y2 (by show (!decide (o = one)) = false; rw [e]; rfl)
      | false => exact ⟨_, rfl, y1 (by show (!decide (o = one)) = true; rw [e]; rfl)⟩
    rw [List.map_id, List.nil_append]
    have hle : ((regs.map PyData.str).filter (notOne one)).length ≤ 6 := Nat.le_trans (List.length_filter_le _ _) (by decide)
    refine ⟨by omega, .inl ⟨_, rfl, some_other one h1, by omega, fun y hy => ?_⟩⟩
    obtain ⟨hy1, hy2⟩ := List.mem_filter.mp hy
    obtain ⟨two, h2, rfl⟩ := List.mem_map.mp hy1
    have h3 : two ≠ one := by
      intro e
      have hy2 : (!decide (two = one)) = true := hy2
      rw [e] at hy2
      simp at hy2
    -- the rows
    refine ⟨_, rfl, _, rfl, _, rfl, _, _, _, rfl, _, rfl, ?_⟩
    have hrows : ∀ d ∈ rowsD one two (1 + n), rowB d = true := by
      have := rows_ok h1 h2 h3 (k := n.toNat) (by omega)
      rw [Int.toNat_of_nonneg hn0] at this
      exact this
    have hends : ∀ d ∈ endsD one (1 + n), endB d = true := by
      have := ends_ok h1 (k := n.toNat) (by omega)
      rw [Int.toNat_of_nonneg hn0] at this
      exact this
    generalize rowsD one two (1 + n) = rs at hrows
    refine for_ind (fun r ρ z' => z' = z + 1 + 1 + 1 ∧ (∀ d ∈ r, rowB d = true) ∧ ∃ t2 t3 t6 t7 t8 t9 t10 t11 t12 t13, ρ = [.val (.ref a), .val (.ref s.sd), t2, t3, .dat (.str one), .dat (.int (1 + n)), t6, t7, t8, t9, t10, t11, t12, t13]) (fun d r ρ z' h ih => ?_) (fun ρ z' h => ?_) _ _ _ ⟨rfl, hrows, _, _, _, _, _, _, _, _, _, _, rfl⟩
    · obtain ⟨rfl, hd, t2, t3, t6, t7, t8, t9, t10, t11, t12, t13, rfl⟩ := h
      obtain ⟨ins, word, rfl, hl, hlw, ps, ws, hdu, cok, hsh, mE, hw, had⟩ := row_of (hd d (List.mem_cons_self ..))
      refine ⟨_, rfl, rfl, _, _, rfl, _, _, rfl, rfl, ?_⟩
      -- code, path
      refine ⟨_, rfl, ?_, _, rfl, ins.length, rfl, by omega, _, _, rfl, ?_⟩
      · show ins.length + 1 ≤ sizeLine
        rw [sizeLine_eq]; omega
      -- due
      refine ⟨_, rfl, dEq_str ⟨_, rfl, iteD (fun e => ?_) (fun e => ?_)⟩⟩
      · unfold duesD at hdu
        rw [if_pos e] at hdu
        cases hdu
        refine ⟨_, rfl, ?_⟩
        refine ⟨_, rfl, _, rfl, _, pathN ins.length, mE, _, _, rfl, cok, by rw [pathN_len]; omega, hw, had, ?_⟩
        refine ⟨_, rfl, _, rfl, _, pathN ins.length, mE, _, _, rfl, cok, by rw [pathN_len]; omega, hw, had, ?_⟩
        refine ⟨_, rfl, hsh, _, rfl, _, rfl, hsh, dNe_self ⟨false, rfl, ifF ?_⟩⟩
        exact ih _ _ ⟨rfl, fun d m => hd d (List.mem_cons_of_mem _ m), _, _, _, _, _, _, _, _, _, _, rfl⟩
      · unfold duesD at hdu
        rw [if_neg e] at hdu
        cases hdu
        refine ⟨_, rfl, ?_⟩
        refine ⟨_, rfl, _, rfl, _, pathN ins.length, mE, _, _, rfl, cok, by rw [pathN_len]; omega, hw, had, ?_⟩
        refine ⟨_, rfl, _, rfl, _, pathN ins.length, mE, _, _, rfl, cok, by rw [pathN_len]; omega, hw, had, ?_⟩
        refine ⟨_, rfl, hsh, _, rfl, _, rfl, hsh, dNe_self ⟨false, rfl, ifF ?_⟩⟩
        exact ih _ _ ⟨rfl, fun d m => hd d (List.mem_cons_of_mem _ m), _, _, _, _, _, _, _, _, _, _, rfl⟩
    · obtain ⟨rfl, _, t2, t3, t6, t7, t8, t9, t10, t11, t12, t13, rfl⟩ := h
      refine ⟨_, rfl, _, rfl, _, _, rfl, _, rfl, ?_⟩
      generalize endsD one (1 + n) = es at hends
      refine for_ind (fun r ρ z' => z' = z + 1 + 1 + 1 ∧ (∀ d ∈ r, endB d = true) ∧ ∃ t2 t3 t4 t5 t6 t7 t8 t9 t10 t11 t12 t13, ρ = [.val (.ref a), .val (.ref s.sd), t2, t3, t4, t5, t6, t7, t8, t9, t10, t11, t12, t13]) (fun d r ρ z' h ih2 => ?_) (fun ρ z' h => ?_) _ _ _ ⟨rfl, hends, _, _, _, _, _, _, _, _, _, _, _, _, rfl⟩
      · obtain ⟨rfl, hd, t2, t3, t4, t5, t6, t7, t8, t9, t10, t11, t12, t13, rfl⟩ := h
        obtain ⟨code, l, ps, ws, rfl, hl, cok, hsh, mE, hw, had⟩ := end_of (hd d (List.mem_cons_self ..))
        refine ⟨_, rfl, rfl, _, _, rfl, _, _, rfl, _, _, rfl, _, _, rfl, rfl, ?_⟩
        refine ⟨_, rfl, _, rfl, code, l, mE, _, _, rfl, cok, by omega, hw, had, ?_⟩
        refine ⟨_, rfl, _, rfl, code, l, mE, _, _, rfl, cok, by omega, hw, had, ?_⟩
        refine ⟨_, rfl, hsh, _, rfl, _, rfl, _, rfl, hsh, dNe_self ⟨false, rfl, ifF ?_⟩⟩
        exact ih2 _ _ ⟨rfl, fun d m => hd d (List.mem_cons_of_mem _ m), _, _, _, _, _, _, _, _, _, _, _, _, rfl⟩
      · obtain ⟨rfl, _, t2, t3, t4, t5, t6, t7, t8, t9, t10, t11, t12, t13, rfl⟩ := h
        exact ih _ _ ⟨by omega, _, _, _, _, _, _, _, _, _, _, _, _, rfl⟩
  · exact rfl
end
end Law

/-! K8fn -/
namespace Law
open PySem PySem.Spec PyProof.Rows L2 DL L2.DX
section
variable {P : Program} {w : World} {K : PySem.W.Frag} {base : Heap} {mg : Str → Option Value}
theorem mem_forms {α : Type} {y : Str} {d : α} : ∀ {tab : List (Str × α)}, tab.lookup y = some d → (y, d) ∈ tab
  | [], q => by cases q
  | (k, v) :: r, q => by
    rw [List.lookup_cons] at q
    cases b : y == k with
    | true => rw [b] at q; cases q; rw [eq_of_beq b]; exact List.mem_cons_self ..
    | false => rw [b] at q; exact List.mem_cons_of_mem _ (mem_forms q)
theorem law_fn (Ta : Blt mg) (Tb : Blt2 mg) (T : BltC mg) (TL : BltL mg)
    {f_is_number : Addr} {fd_is_number : FuncData} (F_is_number : Fd K mg "is_number" s_is_number p_is_number f_is_number fd_is_number)
    {f_is_between : Addr} {fd_is_between : FuncData} (F_is_between : Fd K mg "is_between" s_is_between p_is_between f_is_between fd_is_between)
    {f_is_register : Addr} {fd_is_register : FuncData} (F_is_register : Fd K mg "is_register" s_is_register p_is_register f_is_register fd_is_register)
    {f_is_basis : Addr} {fd_is_basis : FuncData} (F_is_basis : Fd K mg "is_basis" s_is_basis p_is_basis f_is_basis fd_is_basis)
    {f_is_name : Addr} {fd_is_name : FuncData} (F_is_name : Fd K mg "is_name" s_is_name p_is_name f_is_name fd_is_name)
    {f__fits : Addr} {fd__fits : FuncData} (F__fits : Fd K mg "_fits" s__fits p__fits f__fits fd__fits)
    {f__is_instruction : Addr} {fd__is_instruction : FuncData} (F__is_instruction : Fd K mg "_is_instruction" s__is_instruction p__is_instruction f__is_instruction fd__is_instruction)
    {f_need_code : Addr} {fd_need_code : FuncData} (F_need_code : Fd K mg "need_code" s_need_code p_need_code f_need_code fd_need_code)
    {f__in_bounds : Addr} {fd__in_bounds : FuncData} (F__in_bounds : Fd K mg "_in_bounds" s__in_bounds p__in_bounds f__in_bounds fd__in_bounds)
    {f__put : Addr} {fd__put : FuncData} (F__put : Fd K mg "_put" s__put p__put f__put fd__put)
    {f__address : Addr} {fd__address : FuncData} (F__address : Fd K mg "_address" s__address p__address f__address fd__address)
    {f__word_for : Addr} {fd__word_for : FuncData} (F__word_for : Fd K mg "_word_for" s__word_for p__word_for f__word_for fd__word_for)
    {f__move_sp : Addr} {fd__move_sp : FuncData} (F__move_sp : Fd K mg "_move_sp" s__move_sp p__move_sp f__move_sp fd__move_sp)
    {f__push : Addr} {fd__push : FuncData} (F__push : Fd K mg "_push" s__push p__push f__push fd__push)
    {f__pop : Addr} {fd__pop : FuncData} (F__pop : Fd K mg "_pop" s__pop p__pop f__pop fd__pop)
    {f__grow : Addr} {fd__grow : FuncData} (F__grow : Fd K mg "_grow" s__grow p__grow f__grow fd__grow)
    {f__shrink : Addr} {fd__shrink : FuncData} (F__shrink : Fd K mg "_shrink" s__shrink p__shrink f__shrink fd__shrink)
    {f__move : Addr} {fd__move : FuncData} (F__move : Fd K mg "_move" s__move p__move f__move fd__move)
    {f__point : Addr} {fd__point : FuncData} (F__point : Fd K mg "_point" s__point p__point f__point fd__point)
    {f__setsp : Addr} {fd__setsp : FuncData} (F__setsp : Fd K mg "_setsp" s__setsp p__setsp f__setsp fd__setsp)
    {f__work : Addr} {fd__work : FuncData} (F__work : Fd K mg "_work" s__work p__work f__work fd__work)
    {f__store : Addr} {fd__store : FuncData} (F__store : Fd K mg "_store" s__store p__store f__store fd__store)
    {f__load : Addr} {fd__load : FuncData} (F__load : Fd K mg "_load" s__load p__load f__load fd__load)
    {f_lose : Addr} {fd_lose : FuncData} (F_lose : Fd K mg "lose" s_lose p_lose f_lose fd_lose)
    {f__call : Addr} {fd__call : FuncData} (F__call : Fd K mg "_call" s__call p__call f__call fd__call)
    {f__leave : Addr} {fd__leave : FuncData} (F__leave : Fd K mg "_leave" s__leave p__leave f__leave fd__leave)
    {f__stay : Addr} {fd__stay : FuncData} (F__stay : Fd K mg "_stay" s__stay p__stay f__stay fd__stay)
    {f__places_behind : Addr} {fd__places_behind : FuncData} (F__places_behind : Fd K mg "_places_behind" s__places_behind p__places_behind f__places_behind fd__places_behind)
    {f_advance : Addr} {fd_advance : FuncData} (F_advance : Fd K mg "advance" s_advance p_advance f_advance fd_advance)
    {f__walked : Addr} {fd__walked : FuncData} (F__walked : Fd K mg "_walked" s__walked p__walked f__walked fd__walked)
    {f_following : Addr} {fd_following : FuncData} (F_following : Fd K mg "following" s_following p_following f_following fd_following)
    {f_breaking : Addr} {fd_breaking : FuncData} (F_breaking : Fd K mg "breaking" s_breaking p_breaking f_breaking fd_breaking)
    {f__law_mixed : Addr} {fd__law_mixed : FuncData} (F__law_mixed : Fd K mg "_law_mixed" s__law_mixed p__law_mixed f__law_mixed fd__law_mixed)
    {f__law_begin : Addr} {fd__law_begin : FuncData} (F__law_begin : Fd K mg "_law_begin" s__law_begin p__law_begin f__law_begin fd__law_begin)
    {f__law_draw : Addr} {fd__law_draw : FuncData} (F__law_draw : Fd K mg "_law_draw" s__law_draw p__law_draw f__law_draw fd__law_draw)
    {f__law_of : Addr} {fd__law_of : FuncData} (F__law_of : Fd K mg "_law_of" s__law_of p__law_of f__law_of fd__law_of)
    {f__law_rows : Addr} {fd__law_rows : FuncData} (F__law_rows : Fd K mg "_law_rows" s__law_rows p__law_rows f__law_rows fd__law_rows)
    {f__law_ends : Addr} {fd__law_ends : FuncData} (F__law_ends : Fd K mg "_law_ends" s__law_ends p__law_ends f__law_ends fd__law_ends)
    {f_law : Addr} {fd_law : FuncData} (F_law : Fd K mg "law" s_law p_law f_law fd_law)
    {v_REGISTERS : V} {u_REGISTERS : Value} (c_REGISTERS : KC K mg "REGISTERS" k_REGISTERS v_REGISTERS u_REGISTERS)
    {v_MOST_CODE : V} {u_MOST_CODE : Value} (c_MOST_CODE : KC K mg "MOST_CODE" k_MOST_CODE v_MOST_CODE u_MOST_CODE)
    {v_MOST_WORDS : V} {u_MOST_WORDS : Value} (c_MOST_WORDS : KC K mg "MOST_WORDS" k_MOST_WORDS v_MOST_WORDS u_MOST_WORDS)
    {v_MOST_LETTERS : V} {u_MOST_LETTERS : Value} (c_MOST_LETTERS : KC K mg "MOST_LETTERS" k_MOST_LETTERS v_MOST_LETTERS u_MOST_LETTERS)
    {v_LETTERS : V} {u_LETTERS : Value} (c_LETTERS : KC K mg "LETTERS" k_LETTERS v_LETTERS u_LETTERS)
    {v_ANY : V} {u_ANY : Value} (c_ANY : KC K mg "ANY" k_ANY v_ANY u_ANY)
    {v_HOME : V} {u_HOME : Value} (c_HOME : KC K mg "HOME" k_HOME v_HOME u_HOME)
    {a_FORMS : Addr} (D_FORMS : KD K w mg "FORMS" t_FORMS a_FORMS) {a_ACTIONS : Addr} (m_ACTIONS : mg "ACTIONS" = some (.ref a_ACTIONS))
    (A_push : KDct K w a_ACTIONS "push" (.ref f__push))
    (A_pop : KDct K w a_ACTIONS "pop" (.ref f__pop))
    (A_grow : KDct K w a_ACTIONS "grow" (.ref f__grow))
    (A_shrink : KDct K w a_ACTIONS "shrink" (.ref f__shrink))
    (A_move : KDct K w a_ACTIONS "move" (.ref f__move))
    (A_point : KDct K w a_ACTIONS "point" (.ref f__point))
    (A_setsp : KDct K w a_ACTIONS "setsp" (.ref f__setsp))
    (A_work : KDct K w a_ACTIONS "work" (.ref f__work))
    (A_store : KDct K w a_ACTIONS "store" (.ref f__store))
    (A_load : KDct K w a_ACTIONS "load" (.ref f__load))
    (A_call : KDct K w a_ACTIONS "call" (.ref f__call))
    (A_jump : KDct K w a_ACTIONS "jump" (.ref f__stay))
    (A_branch : KDct K w a_ACTIONS "branch" (.ref f__stay))
    (A_return : KDct K w a_ACTIONS "return" (.ref f__leave))
    {C : Addr} (MK : MC K C) {f_init : Addr} {fd_init : FuncData} (F_init : Fun K "__init__" "State.__init__" s_init f_init fd_init) (M_State : Mk K C f_init) (b_init : Binds K fd_init ["self"] []) (m_State : mg "State" = some (.ref C)) :
    FnG P w K mg base CX0 8 f_law fd_law p_law (spLaw K) := by
  have G_is_number : ∀ (Z : Type) (G : Gd Z), FnG P w K mg base CX0 1 f_is_number fd_is_number p_is_number (spD K G 1 d_is_number) := fun Z G => ok_is_number F_is_number T
  have G_is_between : ∀ (Z : Type) (G : Gd Z), FnG P w K mg base CX0 2 f_is_between fd_is_between p_is_between (spD K G 3 d_is_between) := fun Z G => ok_is_between F_is_between T F_is_number (G_is_number Z G)
  have G_is_register : ∀ (Z : Type) (G : Gd Z), FnG P w K mg base CX0 1 f_is_register fd_is_register p_is_register (spD K G 1 d_is_register) := fun Z G => ok_is_register F_is_register T c_REGISTERS
  have G_is_basis : ∀ (Z : Type) (G : Gd Z), FnG P w K mg base CX0 1 f_is_basis fd_is_basis p_is_basis (spD K G 1 d_is_basis) := fun Z G => ok_is_basis F_is_basis T c_REGISTERS
  have G_is_name : ∀ (Z : Type) (G : Gd Z), FnG P w K mg base CX0 1 f_is_name fd_is_name p_is_name (spD K G 1 d_is_name) := fun Z G => ok_is_name F_is_name T c_LETTERS c_MOST_LETTERS
  have G__fits : ∀ (Z : Type) (G : Gd Z), FnG P w K mg base CX0 3 f__fits fd__fits p__fits (spD K G 3 d__fits) := fun Z G => ok__fits F__fits T F_is_basis (G_is_basis Z G) F_is_between (G_is_between Z G) F_is_name (G_is_name Z G) F_is_register (G_is_register Z G) c_MOST_WORDS
  have G__is_instruction : ∀ (Z : Type) (G : Gd Z), FnG P w K mg base CX0 4 f__is_instruction fd__is_instruction p__is_instruction (spD K G 2 d__is_instruction) := fun Z G => ok__is_instruction F__is_instruction T F__fits (G__fits Z G) D_FORMS
  have G_need_code : ∀ (Z : Type) (G : Gd Z), FnG P w K mg base CX0 5 f_need_code fd_need_code p_need_code (spD K G 1 d_need_code) := fun Z G => ok_need_code F_need_code T F__is_instruction (G__is_instruction Z G) c_MOST_CODE
  have G__places_behind : ∀ (Z : Type) (G : Gd Z), FnG P w K mg base CX0 1 f__places_behind fd__places_behind p__places_behind (spD K G 2 d__places_behind) := fun Z G => ok__places_behind F__places_behind T
  have G__in_bounds : ∀ (Z : Type) (G : Gd Z) (p dx hd : Addr), FnG P w K mg base CX0 1 f__in_bounds fd__in_bounds p__in_bounds (spS K (GM G K C p dx hd) (.ref p) 1 d__in_bounds) := fun Z G p dx hd => ok__in_bounds F__in_bounds MK c_MOST_WORDS
  have G__put : ∀ (Z : Type) (G : Gd Z) (p dx hd : Addr), FnG P w K mg base CX0 1 f__put fd__put p__put (spS K (GM G K C p dx hd) (.ref p) 2 d__put) := fun Z G p dx hd => ok__put F__put MK c_ANY
  have G__address : ∀ (Z : Type) (G : Gd Z) (p dx hd : Addr), FnG P w K mg base CX0 1 f__address fd__address p__address (spS K (GM G K C p dx hd) (.ref p) 1 d__address) := fun Z G p dx hd => ok__address F__address MK
  have G__word_for : ∀ (Z : Type) (G : Gd Z) (p dx hd : Addr), FnG P w K mg base CX0 2 f__word_for fd__word_for p__word_for (spS K (GM G K C p dx hd) (.ref p) 2 d__word_for) := fun Z G p dx hd => ok__word_for F__word_for MK F__address (G__address Z G p dx hd) F__in_bounds (G__in_bounds Z G p dx hd)
  have G__move_sp : ∀ (Z : Type) (G : Gd Z) (p dx hd : Addr), FnG P w K mg base CX0 2 f__move_sp fd__move_sp p__move_sp (spS K (GM G K C p dx hd) (.ref p) 1 d__move_sp) := fun Z G p dx hd => ok__move_sp F__move_sp MK F__in_bounds (G__in_bounds Z G p dx hd)
  have G__push : ∀ (Z : Type) (G : Gd Z) (p dx hd : Addr), FnG P w K mg base CX0 3 f__push fd__push p__push (spS K (GM G K C p dx hd) (.ref p) 1 d__push) := fun Z G p dx hd => ok__push F__push MK F__move_sp (G__move_sp Z G p dx hd) F__put (G__put Z G p dx hd)
  have G__pop : ∀ (Z : Type) (G : Gd Z) (p dx hd : Addr), FnG P w K mg base CX0 3 f__pop fd__pop p__pop (spS K (GM G K C p dx hd) (.ref p) 1 d__pop) := fun Z G p dx hd => ok__pop F__pop MK F__move_sp (G__move_sp Z G p dx hd) c_ANY
  have G__grow : ∀ (Z : Type) (G : Gd Z) (p dx hd : Addr), FnG P w K mg base CX0 3 f__grow fd__grow p__grow (spS K (GM G K C p dx hd) (.ref p) 1 d__grow) := fun Z G p dx hd => ok__grow F__grow MK F__move_sp (G__move_sp Z G p dx hd)
  have G__shrink : ∀ (Z : Type) (G : Gd Z) (p dx hd : Addr), FnG P w K mg base CX0 3 f__shrink fd__shrink p__shrink (spS K (GM G K C p dx hd) (.ref p) 1 d__shrink) := fun Z G p dx hd => ok__shrink F__shrink MK F__move_sp (G__move_sp Z G p dx hd)
  have G__move : ∀ (Z : Type) (G : Gd Z) (p dx hd : Addr), FnG P w K mg base CX0 1 f__move fd__move p__move (spS K (GM G K C p dx hd) (.ref p) 1 d__move) := fun Z G p dx hd => ok__move F__move MK
  have G__point : ∀ (Z : Type) (G : Gd Z) (p dx hd : Addr), FnG P w K mg base CX0 1 f__point fd__point p__point (spS K (GM G K C p dx hd) (.ref p) 1 d__point) := fun Z G p dx hd => ok__point F__point MK
  have G__setsp : ∀ (Z : Type) (G : Gd Z) (p dx hd : Addr), FnG P w K mg base CX0 3 f__setsp fd__setsp p__setsp (spS K (GM G K C p dx hd) (.ref p) 1 d__setsp) := fun Z G p dx hd => ok__setsp F__setsp MK F__address (G__address Z G p dx hd) F__move_sp (G__move_sp Z G p dx hd)
  have G__work : ∀ (Z : Type) (G : Gd Z) (p dx hd : Addr), FnG P w K mg base CX0 1 f__work fd__work p__work (spS K (GM G K C p dx hd) (.ref p) 1 d__work) := fun Z G p dx hd => ok__work F__work MK c_ANY
  have G__store : ∀ (Z : Type) (G : Gd Z) (p dx hd : Addr), FnG P w K mg base CX0 3 f__store fd__store p__store (spS K (GM G K C p dx hd) (.ref p) 1 d__store) := fun Z G p dx hd => ok__store F__store MK F__put (G__put Z G p dx hd) F__word_for (G__word_for Z G p dx hd)
  have G__load : ∀ (Z : Type) (G : Gd Z) (p dx hd : Addr), FnG P w K mg base CX0 3 f__load fd__load p__load (spS K (GM G K C p dx hd) (.ref p) 1 d__load) := fun Z G p dx hd => ok__load F__load MK F__word_for (G__word_for Z G p dx hd) c_ANY
  have G__leave : ∀ (Z : Type) (G : Gd Z) (p dx hd : Addr), FnG P w K mg base CX0 1 f__leave fd__leave p__leave (spS K (GM G K C p dx hd) (.ref p) 1 d__leave) := fun Z G p dx hd => ok__leave F__leave MK c_ANY
  have G__stay : ∀ (Z : Type) (G : Gd Z) (p dx hd : Addr), FnG P w K mg base CX0 1 f__stay fd__stay p__stay (spS K (GM G K C p dx hd) (.ref p) 1 d__stay) := fun Z G p dx hd => ok__stay F__stay MK
  have G_lose : ∀ (Z : Type) (G : Gd Z) (p dx hd : Addr), FnG P w K mg base CX0 1 f_lose fd_lose p_lose (spS K (GM G K C p dx hd) (.ref p) 0 d_lose) := fun Z G p dx hd => ok_lose F_lose T MK c_ANY
  have G__call : ∀ (Z : Type) (G : Gd Z) (p dx hd : Addr), FnG P w K mg base CX0 2 f__call fd__call p__call (spS K (GM G K C p dx hd) (.ref p) 1 d__call) := fun Z G p dx hd => ok__call F__call T MK F_lose (G_lose Z G p dx hd)
  have acts : ∀ (Z : Type) (G : Gd Z) (p dx hd : Addr) (wd : Str) (ks : List Str), forms.lookup wd = some ks → ∃ f, KDct K w a_ACTIONS wd (.ref f) ∧ HeldG P w K mg base 3 f (spS K (GM G K C p dx hd) (.ref p) 1 (dAct wd)) := by
    intro Z G p dx hd wd ks hl
    have hm := mem_forms hl
    simp only [forms, List.mem_cons, List.not_mem_nil, or_false, Prod.mk.injEq] at hm
    rcases hm with ⟨rfl, _⟩ | ⟨rfl, _⟩ | ⟨rfl, _⟩ | ⟨rfl, _⟩ | ⟨rfl, _⟩ | ⟨rfl, _⟩ | ⟨rfl, _⟩ | ⟨rfl, _⟩ | ⟨rfl, _⟩ | ⟨rfl, _⟩ | ⟨rfl, _⟩ | ⟨rfl, _⟩ | ⟨rfl, _⟩ | ⟨rfl, _⟩
    · exact ⟨_, A_push, ⟨_, _, ((G__push Z G p dx hd).up (by decide)).sub (spS_sub sub_push), F__push.fn.kp, F__push.b⟩⟩
    · exact ⟨_, A_pop, ⟨_, _, ((G__pop Z G p dx hd).up (by decide)).sub (spS_sub sub_pop), F__pop.fn.kp, F__pop.b⟩⟩
    · exact ⟨_, A_grow, ⟨_, _, ((G__grow Z G p dx hd).up (by decide)).sub (spS_sub sub_grow), F__grow.fn.kp, F__grow.b⟩⟩
    · exact ⟨_, A_shrink, ⟨_, _, ((G__shrink Z G p dx hd).up (by decide)).sub (spS_sub sub_shrink), F__shrink.fn.kp, F__shrink.b⟩⟩
    · exact ⟨_, A_move, ⟨_, _, ((G__move Z G p dx hd).up (by decide)).sub (spS_sub sub_move), F__move.fn.kp, F__move.b⟩⟩
    · exact ⟨_, A_point, ⟨_, _, ((G__point Z G p dx hd).up (by decide)).sub (spS_sub sub_point), F__point.fn.kp, F__point.b⟩⟩
    · exact ⟨_, A_setsp, ⟨_, _, ((G__setsp Z G p dx hd).up (by decide)).sub (spS_sub sub_setsp), F__setsp.fn.kp, F__setsp.b⟩⟩
    · exact ⟨_, A_work, ⟨_, _, ((G__work Z G p dx hd).up (by decide)).sub (spS_sub sub_work), F__work.fn.kp, F__work.b⟩⟩
    · exact ⟨_, A_store, ⟨_, _, ((G__store Z G p dx hd).up (by decide)).sub (spS_sub sub_store), F__store.fn.kp, F__store.b⟩⟩
    · exact ⟨_, A_load, ⟨_, _, ((G__load Z G p dx hd).up (by decide)).sub (spS_sub sub_load), F__load.fn.kp, F__load.b⟩⟩
    · exact ⟨_, A_call, ⟨_, _, ((G__call Z G p dx hd).up (by decide)).sub (spS_sub sub_call), F__call.fn.kp, F__call.b⟩⟩
    · exact ⟨_, A_jump, ⟨_, _, ((G__stay Z G p dx hd).up (by decide)).sub (spS_sub sub_jump), F__stay.fn.kp, F__stay.b⟩⟩
    · exact ⟨_, A_branch, ⟨_, _, ((G__stay Z G p dx hd).up (by decide)).sub (spS_sub sub_branch), F__stay.fn.kp, F__stay.b⟩⟩
    · exact ⟨_, A_return, ⟨_, _, ((G__leave Z G p dx hd).up (by decide)).sub (spS_sub sub_return), F__leave.fn.kp, F__leave.b⟩⟩
  have GI : FnOk P w K mg base CX0 1 f_init fd_init ["self"] (spInit C v_HOME) := ok_init F_init MK c_REGISTERS c_HOME
  have A_advance : ∀ (Z : Type) (G : Gd Z), FnG P w K mg base CX0 4 f_advance fd_advance p_advance (spX fun i : Adr => spT K (GM G K C i.down.1 i.down.2.1 i.down.2.2) (.ref i.down.1) d_advance) := fun Z G =>
    fnG_ex fun i => ok_advance F_advance T MK m_ACTIONS (acts Z G _ _ _) F__places_behind (G__places_behind _ (GM G K C i.down.1 i.down.2.1 i.down.2.2))
  have A_number : FnG P w K mg base CX0 1 f_is_number fd_is_number p_is_number (spX fun i : AnyG => spD K i.2 1 (d_is_number (Z := i.1))) := fnG_ex fun i => G_is_number i.1 i.2
  have G__walked : ∀ (Z : Type) (G : Gd Z), FnG P w K mg base CX0 6 f__walked fd__walked p__walked (spWalked K G C) := fun Z G =>
    ok__walked F__walked T MK c_HOME F_need_code (G_need_code Z G) F_is_number A_number F_advance (A_advance Z G) M_State GI m_State b_init
  have G_following : FnG P w K mg base CX0 7 f_following fd_following p_following (spAny K 2 fun Z => d_following (Z := Z)) := fnG_ex fun i => ok_following F_following F__walked (G__walked i.1 i.2) F_advance (A_advance i.1 i.2)
  have G_breaking : FnG P w K mg base CX0 7 f_breaking fd_breaking p_breaking (spAny K 2 fun Z => d_breaking (Z := Z)) := fnG_ex fun i => ok_breaking F_breaking F__walked (G__walked i.1 i.2) F_advance (A_advance i.1 i.2)
  have G_draw : ∀ s : StA, FnG P w K mg base CX0 2 f__law_draw fd__law_draw p__law_draw (spS K (GS s) (.ref s.sd) 1 dDraw) := fun s => ok_draw s F__law_draw F__law_mixed Ta
  have G_of : ∀ s : StA, FnG P w K mg base CX0 3 f__law_of fd__law_of p__law_of (spS K (GS s) (.ref s.sd) 1 d__law_of) := fun s => ok__law_of s F__law_of T F__law_draw (G_draw s)
  exact ok_law F_law TL F__law_begin (ok_begin F__law_begin Ta Tb) F__law_draw (fnG_ex fun i => G_draw i.down) F__law_of (fnG_ex fun i => G_of i.down)
    F__law_rows (fnG_ex fun i => ok__law_rows F__law_rows) F__law_ends (fnG_ex fun i => ok__law_ends F__law_ends) F_following G_following F_breaking G_breaking
end
/-- the class of a run's state, as the top has made it -/
theorem with_state {R : Prop} {K : PySem.W.Frag} {h : Heap} {mg : Str → Option Value} {C f : Addr} {oc : Value} {od an : Option Addr} {sl : Array (Option Value)} {kV dc pm cd ct : Value} (X : K.In h) (G : h.Ns mainGlobals mg)
    (a : PySem.W.nsIn K mainGlobals "State" = some (some (.ref C))) (pg : PySem.W.plainGet K C Str.empty = true) (hd : PySem.W.hasDictIn K C = true) (po : PySem.W.plainOver K C = true)
    (sa : PySem.W.findIn K (.ref C) "__setattr__" = some (some (.builtin "object.__setattr__"))) (mk : PySem.W.makesIn K C = true) (kc : PySem.W.keepIn K (.ref C) = true)
    (n1 : PySem.W.findIn K (.ref C) "number" = some none) (n2 : PySem.W.findIn K (.ref C) "base" = some none) (n3 : PySem.W.findIn K (.ref C) "back" = some none) (n4 : PySem.W.findIn K (.ref C) "place" = some none)
    (n5 : PySem.W.findIn K (.ref C) "sp" = some none) (n6 : PySem.W.findIn K (.ref C) "held" = some none) (n7 : PySem.W.findIn K (.ref C) "words" = some none)
    (a1 : PySem.W.findIn K (.ref C) "__init__" = some (some (.ref f))) (i1 : PySem.W.isFn K (.ref f) = true)
    (l1 : K.lookup f = some ⟨oc, od, .func (PySem.W.fnOf "__init__" "State.__init__" (defArgs s_init) (defBody s_init) (defScope s_init) .none kV dc pm an cd ct), sl⟩) (c1 : PySem.W.codeIn K cd "State.__init__" = true) (k1 : PySem.W.keepIn K (.ref f) = true)
    (r : ∀ fd, MC K C → Fun K "__init__" "State.__init__" s_init f fd → Mk K C f → Binds K fd ["self"] [] → mg "State" = some (.ref C) → R) : R :=
  r _ ⟨⟨pg, hd, po, sa⟩, n1, n2, n3, n4, n5, n6, n7⟩ (fun_mk (st := s_init) l1 c1 k1) ⟨mk, a1, i1, kc⟩ ((fun_mk (st := s_init) l1 c1 k1).binds fun _ _ _ _ _ _ us hl => match us, hl with | [_], _ => rfl) (PySem.W.mg_of X G a)
theorem ao_is_number : ArgsOk "is_number" s_is_number p_is_number := fun _ _ _ _ _ _ us hl => match us, hl with | [_], _ => rfl
theorem ao_is_between : ArgsOk "is_between" s_is_between p_is_between := fun _ _ _ _ _ _ us hl => match us, hl with | [_, _, _], _ => rfl
theorem ao_is_register : ArgsOk "is_register" s_is_register p_is_register := fun _ _ _ _ _ _ us hl => match us, hl with | [_], _ => rfl
theorem ao_is_basis : ArgsOk "is_basis" s_is_basis p_is_basis := fun _ _ _ _ _ _ us hl => match us, hl with | [_], _ => rfl
theorem ao_is_name : ArgsOk "is_name" s_is_name p_is_name := fun _ _ _ _ _ _ us hl => match us, hl with | [_], _ => rfl
theorem ao__fits : ArgsOk "_fits" s__fits p__fits := fun _ _ _ _ _ _ us hl => match us, hl with | [_, _, _], _ => rfl
theorem ao__is_instruction : ArgsOk "_is_instruction" s__is_instruction p__is_instruction := fun _ _ _ _ _ _ us hl => match us, hl with | [_, _], _ => rfl
theorem ao_need_code : ArgsOk "need_code" s_need_code p_need_code := fun _ _ _ _ _ _ us hl => match us, hl with | [_], _ => rfl
theorem ao__in_bounds : ArgsOk "_in_bounds" s__in_bounds p__in_bounds := fun _ _ _ _ _ _ us hl => match us, hl with | [_, _], _ => rfl
theorem ao__put : ArgsOk "_put" s__put p__put := fun _ _ _ _ _ _ us hl => match us, hl with | [_, _, _], _ => rfl
theorem ao__address : ArgsOk "_address" s__address p__address := fun _ _ _ _ _ _ us hl => match us, hl with | [_, _], _ => rfl
theorem ao__word_for : ArgsOk "_word_for" s__word_for p__word_for := fun _ _ _ _ _ _ us hl => match us, hl with | [_, _, _], _ => rfl
theorem ao__move_sp : ArgsOk "_move_sp" s__move_sp p__move_sp := fun _ _ _ _ _ _ us hl => match us, hl with | [_, _], _ => rfl
theorem ao__push : ArgsOk "_push" s__push p__push := fun _ _ _ _ _ _ us hl => match us, hl with | [_, _], _ => rfl
theorem ao__pop : ArgsOk "_pop" s__pop p__pop := fun _ _ _ _ _ _ us hl => match us, hl with | [_, _], _ => rfl
theorem ao__grow : ArgsOk "_grow" s__grow p__grow := fun _ _ _ _ _ _ us hl => match us, hl with | [_, _], _ => rfl
theorem ao__shrink : ArgsOk "_shrink" s__shrink p__shrink := fun _ _ _ _ _ _ us hl => match us, hl with | [_, _], _ => rfl
theorem ao__move : ArgsOk "_move" s__move p__move := fun _ _ _ _ _ _ us hl => match us, hl with | [_, _], _ => rfl
theorem ao__point : ArgsOk "_point" s__point p__point := fun _ _ _ _ _ _ us hl => match us, hl with | [_, _], _ => rfl
theorem ao__setsp : ArgsOk "_setsp" s__setsp p__setsp := fun _ _ _ _ _ _ us hl => match us, hl with | [_, _], _ => rfl
theorem ao__work : ArgsOk "_work" s__work p__work := fun _ _ _ _ _ _ us hl => match us, hl with | [_, _], _ => rfl
theorem ao__store : ArgsOk "_store" s__store p__store := fun _ _ _ _ _ _ us hl => match us, hl with | [_, _], _ => rfl
theorem ao__load : ArgsOk "_load" s__load p__load := fun _ _ _ _ _ _ us hl => match us, hl with | [_, _], _ => rfl
theorem ao_lose : ArgsOk "lose" s_lose p_lose := fun _ _ _ _ _ _ us hl => match us, hl with | [_], _ => rfl
theorem ao__call : ArgsOk "_call" s__call p__call := fun _ _ _ _ _ _ us hl => match us, hl with | [_, _], _ => rfl
theorem ao__leave : ArgsOk "_leave" s__leave p__leave := fun _ _ _ _ _ _ us hl => match us, hl with | [_, _], _ => rfl
theorem ao__stay : ArgsOk "_stay" s__stay p__stay := fun _ _ _ _ _ _ us hl => match us, hl with | [_, _], _ => rfl
theorem ao__places_behind : ArgsOk "_places_behind" s__places_behind p__places_behind := fun _ _ _ _ _ _ us hl => match us, hl with | [_, _], _ => rfl
theorem ao_advance : ArgsOk "advance" s_advance p_advance := fun _ _ _ _ _ _ us hl => match us, hl with | [_, _], _ => rfl
theorem ao__walked : ArgsOk "_walked" s__walked p__walked := fun _ _ _ _ _ _ us hl => match us, hl with | [_, _], _ => rfl
theorem ao_following : ArgsOk "following" s_following p_following := fun _ _ _ _ _ _ us hl => match us, hl with | [_, _], _ => rfl
theorem ao_breaking : ArgsOk "breaking" s_breaking p_breaking := fun _ _ _ _ _ _ us hl => match us, hl with | [_, _], _ => rfl
theorem ao__law_mixed : ArgsOk "_law_mixed" s__law_mixed p__law_mixed := fun _ _ _ _ _ _ us hl => match us, hl with | [_, _], _ => rfl
theorem ao__law_begin : ArgsOk "_law_begin" s__law_begin p__law_begin := fun _ _ _ _ _ _ us hl => match us, hl with | [_], _ => rfl
theorem ao__law_draw : ArgsOk "_law_draw" s__law_draw p__law_draw := fun _ _ _ _ _ _ us hl => match us, hl with | [_, _], _ => rfl
theorem ao__law_of : ArgsOk "_law_of" s__law_of p__law_of := fun _ _ _ _ _ _ us hl => match us, hl with | [_, _], _ => rfl
theorem ao__law_rows : ArgsOk "_law_rows" s__law_rows p__law_rows := fun _ _ _ _ _ _ us hl => match us, hl with | [_, _, _], _ => rfl
theorem ao__law_ends : ArgsOk "_law_ends" s__law_ends p__law_ends := fun _ _ _ _ _ _ us hl => match us, hl with | [_, _], _ => rfl
theorem ao_law : ArgsOk "law" s_law p_law := fun _ _ _ _ _ _ us hl => match us, hl with | [_], _ => rfl
theorem forms_hit {K : PySem.W.Frag} {a : Addr} (W_push : Word K a "push" (.tuple [.str "R"])) (W_pop : Word K a "pop" (.tuple [.str "R"])) (W_grow : Word K a "grow" (.tuple [.str "MANY"])) (W_shrink : Word K a "shrink" (.tuple [.str "MANY"])) (W_move : Word K a "move" (.tuple [.str "R", .str "R"])) (W_point : Word K a "point" (.tuple [.str "R", .str "N"])) (W_setsp : Word K a "setsp" (.tuple [.str "R", .str "N"])) (W_work : Word K a "work" (.tuple [.str "R"])) (W_store : Word K a "store" (.tuple [.str "B", .str "N", .str "R"])) (W_load : Word K a "load" (.tuple [.str "R", .str "B", .str "N"])) (W_call : Word K a "call" (.tuple [.str "NAME"])) (W_jump : Word K a "jump" (.tuple [.str "I"])) (W_branch : Word K a "branch" (.tuple [.str "I"])) (W_return : Word K a "return" (.tuple [])) : ∀ p ∈ t_FORMS, Word K a p.1 p.2 := by
  simp only [t_FORMS, forms, List.map_cons, List.map_nil, List.forall_mem_cons]
  exact ⟨W_push, W_pop, W_grow, W_shrink, W_move, W_point, W_setsp, W_work, W_store, W_load, W_call, W_jump, W_branch, W_return, fun _ m => by cases m⟩
theorem walk {l : PySem.W.OpenLaw} {q : Program} {loose : List Str} {XP : (Str → Option Value) → Heap → Prop} {YP : World → Heap → Prop} {d : DefRec} {K : Params → PySem.W.Frag} (hn : l.most = some 63) (hdf : d.params.defaults = []) (hY : ∀ (w : World) (h : Heap), YP w h → (K w.params).In h)
    (F : ∀ (w : World) (mg : Str → Option Value) (fa : Addr) (h : Heap), (K w.params).In h → h.Ns mainGlobals mg → mg d.name = some (.ref fa) → ∃ fd : FuncData, (∀ (s : Shared) (u : Value), BindsTo s fd ⟨[u], []⟩ [("script", u)]) ∧ ∀ base : Heap, (K w.params).In base → base.Ns mainGlobals mg → FnG l.prog w (K w.params) mg base CX0 8 fa fd ["script"] (spLaw (K w.params))) :
    PySem.W.WalkO q loose XP YP l.row.toRowW d [] (fun f vs => PySem.call f vs) := walk_true (n := 63) (k := 8) (x := "script") (sp := fun w => spLaw (K w.params)) hn (by decide) hdf ⟨rfl, by decide, by decide⟩ hY F fun w H a ns hl hS => ⟨a, ns, rfl, hS, hl, fun _ => rfl⟩
end Law

open PySem PySem.W PyProof.Rows
set_option maxRecDepth 100000 in
set_option maxHeartbeats 0 in
theorem PySem.Challenge.cw_unwindrows_k08_breaks_by_hand_holds : PySem.Challenge.rw_unwindrows_k08_breaks_by_hand.Holds := by
  w_on; o_law; k_head; (case hw => w_witness2)
  k_fill
  refine Law.walk (l := PySem.Challenge.rw_unwindrows_k08_breaks_by_hand) rfl rfl (fun w h Y => PySem.W.kIn_of Y) ?F
  case F =>
    intro w mg fa h KX G hmg
    refine' DL.with_def Law.ao_is_number KX G ?a_1 ?l_1 ?c_1 ?k_1 ?r_1
    case a_1 => k_is
    case l_1 => k_is
    case c_1 => k_is
    case k_1 => k_is
    intro fd_is_number F_is_number
    refine' DL.with_def Law.ao_is_between KX G ?a_2 ?l_2 ?c_2 ?k_2 ?r_2
    case a_2 => k_is
    case l_2 => k_is
    case c_2 => k_is
    case k_2 => k_is
    intro fd_is_between F_is_between
    refine' DL.with_def Law.ao_is_register KX G ?a_3 ?l_3 ?c_3 ?k_3 ?r_3
    case a_3 => k_is
    case l_3 => k_is
    case c_3 => k_is
    case k_3 => k_is
    intro fd_is_register F_is_register
    refine' DL.with_def Law.ao_is_basis KX G ?a_4 ?l_4 ?c_4 ?k_4 ?r_4
    case a_4 => k_is
    case l_4 => k_is
    case c_4 => k_is
    case k_4 => k_is
    intro fd_is_basis F_is_basis
    refine' DL.with_def Law.ao_is_name KX G ?a_5 ?l_5 ?c_5 ?k_5 ?r_5
    case a_5 => k_is
    case l_5 => k_is
    case c_5 => k_is
    case k_5 => k_is
    intro fd_is_name F_is_name
    refine' DL.with_def Law.ao__fits KX G ?a_6 ?l_6 ?c_6 ?k_6 ?r_6
    case a_6 => k_is
    case l_6 => k_is
    case c_6 => k_is
    case k_6 => k_is
    intro fd__fits F__fits
    refine' DL.with_def Law.ao__is_instruction KX G ?a_7 ?l_7 ?c_7 ?k_7 ?r_7
    case a_7 => k_is
    case l_7 => k_is
    case c_7 => k_is
    case k_7 => k_is
    intro fd__is_instruction F__is_instruction
    refine' DL.with_def Law.ao_need_code KX G ?a_8 ?l_8 ?c_8 ?k_8 ?r_8
    case a_8 => k_is
    case l_8 => k_is
    case c_8 => k_is
    case k_8 => k_is
    intro fd_need_code F_need_code
    refine' DL.with_def Law.ao__in_bounds KX G ?a_9 ?l_9 ?c_9 ?k_9 ?r_9
    case a_9 => k_is
    case l_9 => k_is
    case c_9 => k_is
    case k_9 => k_is
    intro fd__in_bounds F__in_bounds
    refine' DL.with_def Law.ao__put KX G ?a_10 ?l_10 ?c_10 ?k_10 ?r_10
    case a_10 => k_is
    case l_10 => k_is
    case c_10 => k_is
    case k_10 => k_is
    intro fd__put F__put
    refine' DL.with_def Law.ao__address KX G ?a_11 ?l_11 ?c_11 ?k_11 ?r_11
    case a_11 => k_is
    case l_11 => k_is
    case c_11 => k_is
    case k_11 => k_is
    intro fd__address F__address
    refine' DL.with_def Law.ao__word_for KX G ?a_12 ?l_12 ?c_12 ?k_12 ?r_12
    case a_12 => k_is
    case l_12 => k_is
    case c_12 => k_is
    case k_12 => k_is
    intro fd__word_for F__word_for
    refine' DL.with_def Law.ao__move_sp KX G ?a_13 ?l_13 ?c_13 ?k_13 ?r_13
    case a_13 => k_is
    case l_13 => k_is
    case c_13 => k_is
    case k_13 => k_is
    intro fd__move_sp F__move_sp
    refine' DL.with_def Law.ao__push KX G ?a_14 ?l_14 ?c_14 ?k_14 ?r_14
    case a_14 => k_is
    case l_14 => k_is
    case c_14 => k_is
    case k_14 => k_is
    intro fd__push F__push
    refine' DL.with_def Law.ao__pop KX G ?a_15 ?l_15 ?c_15 ?k_15 ?r_15
    case a_15 => k_is
    case l_15 => k_is
    case c_15 => k_is
    case k_15 => k_is
    intro fd__pop F__pop
    refine' DL.with_def Law.ao__grow KX G ?a_16 ?l_16 ?c_16 ?k_16 ?r_16
    case a_16 => k_is
    case l_16 => k_is
    case c_16 => k_is
    case k_16 => k_is
    intro fd__grow F__grow
    refine' DL.with_def Law.ao__shrink KX G ?a_17 ?l_17 ?c_17 ?k_17 ?r_17
    case a_17 => k_is
    case l_17 => k_is
    case c_17 => k_is
    case k_17 => k_is
    intro fd__shrink F__shrink
    refine' DL.with_def Law.ao__move KX G ?a_18 ?l_18 ?c_18 ?k_18 ?r_18
    case a_18 => k_is
    case l_18 => k_is
    case c_18 => k_is
    case k_18 => k_is
    intro fd__move F__move
    refine' DL.with_def Law.ao__point KX G ?a_19 ?l_19 ?c_19 ?k_19 ?r_19
    case a_19 => k_is
    case l_19 => k_is
    case c_19 => k_is
    case k_19 => k_is
    intro fd__point F__point
    refine' DL.with_def Law.ao__setsp KX G ?a_20 ?l_20 ?c_20 ?k_20 ?r_20
    case a_20 => k_is
    case l_20 => k_is
    case c_20 => k_is
    case k_20 => k_is
    intro fd__setsp F__setsp
    refine' DL.with_def Law.ao__work KX G ?a_21 ?l_21 ?c_21 ?k_21 ?r_21
    case a_21 => k_is
    case l_21 => k_is
    case c_21 => k_is
    case k_21 => k_is
    intro fd__work F__work
    refine' DL.with_def Law.ao__store KX G ?a_22 ?l_22 ?c_22 ?k_22 ?r_22
    case a_22 => k_is
    case l_22 => k_is
    case c_22 => k_is
    case k_22 => k_is
    intro fd__store F__store
    refine' DL.with_def Law.ao__load KX G ?a_23 ?l_23 ?c_23 ?k_23 ?r_23
    case a_23 => k_is
    case l_23 => k_is
    case c_23 => k_is
    case k_23 => k_is
    intro fd__load F__load
    refine' DL.with_def Law.ao_lose KX G ?a_24 ?l_24 ?c_24 ?k_24 ?r_24
    case a_24 => k_is
    case l_24 => k_is
    case c_24 => k_is
    case k_24 => k_is
    intro fd_lose F_lose
    refine' DL.with_def Law.ao__call KX G ?a_25 ?l_25 ?c_25 ?k_25 ?r_25
    case a_25 => k_is
    case l_25 => k_is
    case c_25 => k_is
    case k_25 => k_is
    intro fd__call F__call
    refine' DL.with_def Law.ao__leave KX G ?a_26 ?l_26 ?c_26 ?k_26 ?r_26
    case a_26 => k_is
    case l_26 => k_is
    case c_26 => k_is
    case k_26 => k_is
    intro fd__leave F__leave
    refine' DL.with_def Law.ao__stay KX G ?a_27 ?l_27 ?c_27 ?k_27 ?r_27
    case a_27 => k_is
    case l_27 => k_is
    case c_27 => k_is
    case k_27 => k_is
    intro fd__stay F__stay
    refine' DL.with_def Law.ao__places_behind KX G ?a_28 ?l_28 ?c_28 ?k_28 ?r_28
    case a_28 => k_is
    case l_28 => k_is
    case c_28 => k_is
    case k_28 => k_is
    intro fd__places_behind F__places_behind
    refine' DL.with_def Law.ao_advance KX G ?a_29 ?l_29 ?c_29 ?k_29 ?r_29
    case a_29 => k_is
    case l_29 => k_is
    case c_29 => k_is
    case k_29 => k_is
    intro fd_advance F_advance
    refine' DL.with_def Law.ao__walked KX G ?a_30 ?l_30 ?c_30 ?k_30 ?r_30
    case a_30 => k_is
    case l_30 => k_is
    case c_30 => k_is
    case k_30 => k_is
    intro fd__walked F__walked
    refine' DL.with_def Law.ao_following KX G ?a_31 ?l_31 ?c_31 ?k_31 ?r_31
    case a_31 => k_is
    case l_31 => k_is
    case c_31 => k_is
    case k_31 => k_is
    intro fd_following F_following
    refine' DL.with_def Law.ao_breaking KX G ?a_32 ?l_32 ?c_32 ?k_32 ?r_32
    case a_32 => k_is
    case l_32 => k_is
    case c_32 => k_is
    case k_32 => k_is
    intro fd_breaking F_breaking
    refine' DL.with_def Law.ao__law_mixed KX G ?a_33 ?l_33 ?c_33 ?k_33 ?r_33
    case a_33 => k_is
    case l_33 => k_is
    case c_33 => k_is
    case k_33 => k_is
    intro fd__law_mixed F__law_mixed
    refine' DL.with_def Law.ao__law_begin KX G ?a_34 ?l_34 ?c_34 ?k_34 ?r_34
    case a_34 => k_is
    case l_34 => k_is
    case c_34 => k_is
    case k_34 => k_is
    intro fd__law_begin F__law_begin
    refine' DL.with_def Law.ao__law_draw KX G ?a_35 ?l_35 ?c_35 ?k_35 ?r_35
    case a_35 => k_is
    case l_35 => k_is
    case c_35 => k_is
    case k_35 => k_is
    intro fd__law_draw F__law_draw
    refine' DL.with_def Law.ao__law_of KX G ?a_36 ?l_36 ?c_36 ?k_36 ?r_36
    case a_36 => k_is
    case l_36 => k_is
    case c_36 => k_is
    case k_36 => k_is
    intro fd__law_of F__law_of
    refine' DL.with_def Law.ao__law_rows KX G ?a_37 ?l_37 ?c_37 ?k_37 ?r_37
    case a_37 => k_is
    case l_37 => k_is
    case c_37 => k_is
    case k_37 => k_is
    intro fd__law_rows F__law_rows
    refine' DL.with_def Law.ao__law_ends KX G ?a_38 ?l_38 ?c_38 ?k_38 ?r_38
    case a_38 => k_is
    case l_38 => k_is
    case c_38 => k_is
    case k_38 => k_is
    intro fd__law_ends F__law_ends
    refine' DL.with_def Law.ao_law KX G ?a_39 ?l_39 ?c_39 ?k_39 ?r_39
    case a_39 => k_is
    case l_39 => k_is
    case c_39 => k_is
    case k_39 => k_is
    intro fd_law F_law
    refine' DL.with_none (x := "int") KX G ?a_40 ?r_40
    case a_40 => k_is
    intro b_int
    refine' DL.with_none (x := "len") KX G ?a_41 ?r_41
    case a_41 => k_is
    intro b_len
    refine' DL.with_none (x := "list") KX G ?a_42 ?r_42
    case a_42 => k_is
    intro b_list
    refine' DL.with_none (x := "isinstance") KX G ?a_43 ?r_43
    case a_43 => k_is
    intro b_isinstance
    refine' DL.with_none (x := "bool") KX G ?a_44 ?r_44
    case a_44 => k_is
    intro b_bool
    refine' DL.with_none (x := "str") KX G ?a_45 ?r_45
    case a_45 => k_is
    intro b_str
    refine' DL.with_none (x := "tuple") KX G ?a_46 ?r_46
    case a_46 => k_is
    intro b_tuple
    refine' DL.with_none (x := "all") KX G ?a_47 ?r_47
    case a_47 => k_is
    intro b_all
    refine' DL.with_none (x := "zip") KX G ?a_48 ?r_48
    case a_48 => k_is
    intro b_zip
    refine' DL.with_none (x := "enumerate") KX G ?a_49 ?r_49
    case a_49 => k_is
    intro b_enumerate
    refine' DL.with_none (x := "sorted") KX G ?a_50 ?r_50
    case a_50 => k_is
    intro b_sorted
    refine' DL.with_none (x := "range") KX G ?a_51 ?r_51
    case a_51 => k_is
    intro b_range
    refine' DL.with_none (x := "min") KX G ?a_52 ?r_52
    case a_52 => k_is
    intro b_min
    refine' DL.with_none (x := "repr") KX G ?a_53 ?r_53
    case a_53 => k_is
    intro b_repr
    refine' DL.with_int (x := "MOST_CODE") KX G ?a_54 ?r_54
    case a_54 => k_is
    intro u_MOST_CODE c_MOST_CODE
    refine' DL.with_int (x := "MOST_WORDS") KX G ?a_55 ?r_55
    case a_55 => k_is
    intro u_MOST_WORDS c_MOST_WORDS
    refine' DL.with_int (x := "MOST_LETTERS") KX G ?a_56 ?r_56
    case a_56 => k_is
    intro u_MOST_LETTERS c_MOST_LETTERS
    refine' DL.with_str (x := "LETTERS") KX G ?a_57 ?r_57
    case a_57 => k_is
    intro u_LETTERS c_LETTERS
    refine' DL.with_tup (x := "REGISTERS") (ds := _) KX G ?a_58 ?l_58 ?c_58 ?z_58 ?p_58 ?r_58
    case a_58 => k_is
    case l_58 => k_is
    case c_58 => rfl
    case z_58 => rfl
    case p_58 => exact .str (.str (.str (.str (.str (.str .nil)))))
    intro c_REGISTERS
    refine' DL.with_tup (x := "ANY") (ds := _) KX G ?a_59 ?l_59 ?c_59 ?z_59 ?p_59 ?r_59
    case a_59 => k_is
    case l_59 => k_is
    case c_59 => rfl
    case z_59 => rfl
    case p_59 => exact .str .nil
    intro c_ANY
    refine' DL.with_tup (x := "HOME") (ds := _) KX G ?a_60 ?l_60 ?c_60 ?z_60 ?p_60 ?r_60
    case a_60 => k_is
    case l_60 => k_is
    case c_60 => rfl
    case z_60 => rfl
    case p_60 => exact .str (.str (.int .nil))
    intro c_HOME
    refine' DL.with_name (x := "FORMS") KX G ?a_61 ?r_61
    case a_61 => k_is
    intro m_FORMS
    refine' DL.with_word (x := "push") KX m_FORMS ?a_62 ?l_62 ?c_62 ?z_62 ?p_62 ?r_62
    case a_62 => k_is
    case l_62 => k_is
    case c_62 => rfl
    case z_62 => rfl
    case p_62 => exact .str .nil
    intro W_push
    refine' DL.with_word (x := "pop") KX m_FORMS ?a_63 ?l_63 ?c_63 ?z_63 ?p_63 ?r_63
    case a_63 => k_is
    case l_63 => k_is
    case c_63 => rfl
    case z_63 => rfl
    case p_63 => exact .str .nil
    intro W_pop
    refine' DL.with_word (x := "grow") KX m_FORMS ?a_64 ?l_64 ?c_64 ?z_64 ?p_64 ?r_64
    case a_64 => k_is
    case l_64 => k_is
    case c_64 => rfl
    case z_64 => rfl
    case p_64 => exact .str .nil
    intro W_grow
    refine' DL.with_word (x := "shrink") KX m_FORMS ?a_65 ?l_65 ?c_65 ?z_65 ?p_65 ?r_65
    case a_65 => k_is
    case l_65 => k_is
    case c_65 => rfl
    case z_65 => rfl
    case p_65 => exact .str .nil
    intro W_shrink
    refine' DL.with_word (x := "move") KX m_FORMS ?a_66 ?l_66 ?c_66 ?z_66 ?p_66 ?r_66
    case a_66 => k_is
    case l_66 => k_is
    case c_66 => rfl
    case z_66 => rfl
    case p_66 => exact .str (.str .nil)
    intro W_move
    refine' DL.with_word (x := "point") KX m_FORMS ?a_67 ?l_67 ?c_67 ?z_67 ?p_67 ?r_67
    case a_67 => k_is
    case l_67 => k_is
    case c_67 => rfl
    case z_67 => rfl
    case p_67 => exact .str (.str .nil)
    intro W_point
    refine' DL.with_word (x := "setsp") KX m_FORMS ?a_68 ?l_68 ?c_68 ?z_68 ?p_68 ?r_68
    case a_68 => k_is
    case l_68 => k_is
    case c_68 => rfl
    case z_68 => rfl
    case p_68 => exact .str (.str .nil)
    intro W_setsp
    refine' DL.with_word (x := "work") KX m_FORMS ?a_69 ?l_69 ?c_69 ?z_69 ?p_69 ?r_69
    case a_69 => k_is
    case l_69 => k_is
    case c_69 => rfl
    case z_69 => rfl
    case p_69 => exact .str .nil
    intro W_work
    refine' DL.with_word (x := "store") KX m_FORMS ?a_70 ?l_70 ?c_70 ?z_70 ?p_70 ?r_70
    case a_70 => k_is
    case l_70 => k_is
    case c_70 => rfl
    case z_70 => rfl
    case p_70 => exact .str (.str (.str .nil))
    intro W_store
    refine' DL.with_word (x := "load") KX m_FORMS ?a_71 ?l_71 ?c_71 ?z_71 ?p_71 ?r_71
    case a_71 => k_is
    case l_71 => k_is
    case c_71 => rfl
    case z_71 => rfl
    case p_71 => exact .str (.str (.str .nil))
    intro W_load
    refine' DL.with_word (x := "call") KX m_FORMS ?a_72 ?l_72 ?c_72 ?z_72 ?p_72 ?r_72
    case a_72 => k_is
    case l_72 => k_is
    case c_72 => rfl
    case z_72 => rfl
    case p_72 => exact .str .nil
    intro W_call
    refine' DL.with_word (x := "jump") KX m_FORMS ?a_73 ?l_73 ?c_73 ?z_73 ?p_73 ?r_73
    case a_73 => k_is
    case l_73 => k_is
    case c_73 => rfl
    case z_73 => rfl
    case p_73 => exact .str .nil
    intro W_jump
    refine' DL.with_word (x := "branch") KX m_FORMS ?a_74 ?l_74 ?c_74 ?z_74 ?p_74 ?r_74
    case a_74 => k_is
    case l_74 => k_is
    case c_74 => rfl
    case z_74 => rfl
    case p_74 => exact .str .nil
    intro W_branch
    refine' DL.with_word (x := "return") KX m_FORMS ?a_75 ?l_75 ?c_75 ?z_75 ?p_75 ?r_75
    case a_75 => k_is
    case l_75 => k_is
    case c_75 => rfl
    case z_75 => rfl
    case p_75 => exact .nil
    intro W_return
    refine' DL.with_tab KX m_FORMS (Law.forms_hit W_push W_pop W_grow W_shrink W_move W_point W_setsp W_work W_store W_load W_call W_jump W_branch W_return) ?l_76 ?t_76 ?w_76 ?s_76 ?r_76
    case l_76 => k_is
    case t_76 => exact ⟨⟨_, _, rfl, rfl⟩, ⟨⟨_, _, rfl, rfl⟩, ⟨⟨_, _, rfl, rfl⟩, ⟨⟨_, _, rfl, rfl⟩, ⟨⟨_, _, rfl, rfl⟩, ⟨⟨_, _, rfl, rfl⟩, ⟨⟨_, _, rfl, rfl⟩, ⟨⟨_, _, rfl, rfl⟩, ⟨⟨_, _, rfl, rfl⟩, ⟨⟨_, _, rfl, rfl⟩, ⟨⟨_, _, rfl, rfl⟩, ⟨⟨_, _, rfl, rfl⟩, ⟨⟨_, _, rfl, rfl⟩, ⟨⟨_, _, rfl, rfl⟩, trivial⟩⟩⟩⟩⟩⟩⟩⟩⟩⟩⟩⟩⟩⟩
    case w_76 => rfl
    case s_76 => exact ⟨⟨_, _, rfl, rfl⟩, ⟨⟨_, _, rfl, rfl⟩, ⟨⟨_, _, rfl, rfl⟩, ⟨⟨_, _, rfl, rfl⟩, ⟨⟨_, _, rfl, rfl⟩, ⟨⟨_, _, rfl, rfl⟩, ⟨⟨_, _, rfl, rfl⟩, ⟨⟨_, _, rfl, rfl⟩, ⟨⟨_, _, rfl, rfl⟩, ⟨⟨_, _, rfl, rfl⟩, ⟨⟨_, _, rfl, rfl⟩, ⟨⟨_, _, rfl, rfl⟩, ⟨⟨_, _, rfl, rfl⟩, ⟨⟨_, _, rfl, rfl⟩, trivial⟩⟩⟩⟩⟩⟩⟩⟩⟩⟩⟩⟩⟩⟩
    intro D_FORMS
    refine' DL.with_name (x := "ACTIONS") KX G ?a_77 ?r_77
    case a_77 => k_is
    intro m_ACTIONS
    refine' DL.with_dict KX m_ACTIONS ?l_78 ?t_78 ?r_78
    case l_78 => k_is
    case t_78 => exact ⟨⟨_, _, rfl, rfl⟩, ⟨⟨_, _, rfl, rfl⟩, ⟨⟨_, _, rfl, rfl⟩, ⟨⟨_, _, rfl, rfl⟩, ⟨⟨_, _, rfl, rfl⟩, ⟨⟨_, _, rfl, rfl⟩, ⟨⟨_, _, rfl, rfl⟩, ⟨⟨_, _, rfl, rfl⟩, ⟨⟨_, _, rfl, rfl⟩, ⟨⟨_, _, rfl, rfl⟩, ⟨⟨_, _, rfl, rfl⟩, ⟨⟨_, _, rfl, rfl⟩, ⟨⟨_, _, rfl, rfl⟩, ⟨⟨_, _, rfl, rfl⟩, trivial⟩⟩⟩⟩⟩⟩⟩⟩⟩⟩⟩⟩⟩⟩
    intro A_all
    refine' DL.with_key (x := "push") KX A_all ?a_79 ?r_79
    case a_79 => k_is
    intro A_push
    refine' DL.with_key (x := "pop") KX A_all ?a_80 ?r_80
    case a_80 => k_is
    intro A_pop
    refine' DL.with_key (x := "grow") KX A_all ?a_81 ?r_81
    case a_81 => k_is
    intro A_grow
    refine' DL.with_key (x := "shrink") KX A_all ?a_82 ?r_82
    case a_82 => k_is
    intro A_shrink
    refine' DL.with_key (x := "move") KX A_all ?a_83 ?r_83
    case a_83 => k_is
    intro A_move
    refine' DL.with_key (x := "point") KX A_all ?a_84 ?r_84
    case a_84 => k_is
    intro A_point
    refine' DL.with_key (x := "setsp") KX A_all ?a_85 ?r_85
    case a_85 => k_is
    intro A_setsp
    refine' DL.with_key (x := "work") KX A_all ?a_86 ?r_86
    case a_86 => k_is
    intro A_work
    refine' DL.with_key (x := "store") KX A_all ?a_87 ?r_87
    case a_87 => k_is
    intro A_store
    refine' DL.with_key (x := "load") KX A_all ?a_88 ?r_88
    case a_88 => k_is
    intro A_load
    refine' DL.with_key (x := "call") KX A_all ?a_89 ?r_89
    case a_89 => k_is
    intro A_call
    refine' DL.with_key (x := "jump") KX A_all ?a_90 ?r_90
    case a_90 => k_is
    intro A_jump
    refine' DL.with_key (x := "branch") KX A_all ?a_91 ?r_91
    case a_91 => k_is
    intro A_branch
    refine' DL.with_key (x := "return") KX A_all ?a_92 ?r_92
    case a_92 => k_is
    intro A_return
    refine' Law.with_state KX G ?a_93 ?pg_93 ?hd_93 ?po_93 ?sa_93 ?mk_93 ?kc_93 ?n1_93 ?n2_93 ?n3_93 ?n4_93 ?n5_93 ?n6_93 ?n7_93 ?a1_93 ?i1_93 ?l1_93 ?c1_93 ?k1_93 ?r_93
    case a_93 => k_is
    case pg_93 => k_is
    case hd_93 => k_is
    case po_93 => k_is
    case sa_93 => k_is
    case mk_93 => k_is
    case kc_93 => k_is
    case n1_93 => k_is
    case n2_93 => k_is
    case n3_93 => k_is
    case n4_93 => k_is
    case n5_93 => k_is
    case n6_93 => k_is
    case n7_93 => k_is
    case a1_93 => k_is
    case i1_93 => k_is
    case l1_93 => k_is
    case c1_93 => k_is
    case k1_93 => k_is
    intro fd_init MK F_init M_State b_init m_State
    exact DL.fin_of Law.ao_law F_law hmg fun base => Law.law_fn ⟨b_int, b_len⟩ ⟨b_list⟩ ⟨b_isinstance, b_int, b_bool, b_str, b_tuple, b_len, b_all, b_zip, b_enumerate, b_sorted, b_range, b_list, b_repr, b_min⟩ ⟨b_range, b_min, b_len, b_tuple, b_repr⟩
      F_is_number F_is_between F_is_register F_is_basis F_is_name F__fits F__is_instruction F_need_code
      F__in_bounds F__put F__address F__word_for F__move_sp F__push F__pop F__grow
      F__shrink F__move F__point F__setsp F__work F__store F__load F_lose
      F__call F__leave F__stay F__places_behind F_advance F__walked F_following F_breaking
      F__law_mixed F__law_begin F__law_draw F__law_of F__law_rows F__law_ends F_law
      c_REGISTERS c_MOST_CODE c_MOST_WORDS c_MOST_LETTERS c_LETTERS c_ANY c_HOME D_FORMS m_ACTIONS
      A_push A_pop A_grow A_shrink A_move A_point A_setsp A_work A_store A_load A_call A_jump A_branch A_return MK F_init M_State b_init m_State
