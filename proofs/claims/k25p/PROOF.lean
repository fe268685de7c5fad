import PyProof.Rows.All
import Wide.All
import OpenK.AllK
import Wide.FinOn
import PyProof.ReprReads
import PyProof.P3Statements
import PyProof.EqLayable
import KE.KeyNested
import HandS.Base
import HandS.Call
import HandS.List
import HandS.TupAny
import HandS.TupMul
import HandS.Conv
import HandS.Exc
import HandS.Lambda
import HandS.Iter
import HandS.Ends
import HandS.Words
import HandS.Comp
import HandS.Dict
import HandS.Text
import HandS.IsInst
import HandS.Wide
import HandS.WordsDict
import HandS.Style
import HandS.ExcOwn
import HandS.ExcInit
import KE.GoesEnum
import KE.GoesEnumKw
import KE.KDictWalk
import KE.GoesDict
import KE.KUnpackStar
import HandS.DictTup
import HandS.SortOrd
import HandS.SetIn
import HandS.Set
import HandS.Strs
import HandS.More
import HandS.CallLocal
import HandS.Small
import HandS.Star
import KE.KDictDisplayH
import PyProof.DictRoadsH
import PyProof.Rows.TupTab
import HandS.SortInts
import KE.OsSort
import HandS.SetBool
import HandS.ExcIs
import HandS.ExcField
import HandS.EndBits
import HandS.EndTab
import KE.KNestM
import KE.KLam
import KE.KDflt
import HandS.Nested
import HandS.ExcInitHot
import KE.KAsSuite
import HandS.SetFor
import KE.KDictPairs
import PyProof.P3Eq
import KE.OsArith
import KE.BitLaws
import PySem.Challenge.RW_unwindrows_k25_scripts_refused
set_option Elab.async false
set_option linter.all false
set_option maxRecDepth 100000
set_option maxHeartbeats 4000000
/-! U1 -/
/-! a machine of plain data: what a text of the small language does, told by plain functions -/
namespace UW
open PySem

/-- data: tuples are values, what can be changed stands in the store at a number -/
inductive D where
  | non | bl (b : Bool) | int (i : Int) | str (s : Str) | tup (xs : List D) | ref (n : Nat) | gl (x : Str) | ty (n : String) | rep (p : PyData) | op (n : Nat) | exn (c : Str) (ns : List Str) (ds : List D) | klst (xs : List D)
instance : Inhabited D := ⟨.non⟩
/-- what stands in the store -/
inductive PO where
  | lst (xs : List D) | dct (kvs : List (D × D)) | set (xs : List D) | ins (c : Str) (fs : List (Str × D)) | flst (xs : List D) | fdct (kvs : List (D × D))
  /-- a dict whose keys are tuples, nested -/
  | ndc (kvs : List (D × D))
/-! ### numbers within data -/
mutual
def D.lt (n : Nat) : D → Bool
  | .tup xs => D.ltAll n xs
  | .exn _ _ xs => D.ltAll n xs
  | .klst xs => D.ltAll n xs
  | .ref r => decide (r < n)
  | .non | .bl _ | .int _ | .str _ | .gl _ | .ty _ | .rep _ | .op _ => true
def D.ltAll (n : Nat) : List D → Bool
  | [] => true
  | x :: xs => D.lt n x && D.ltAll n xs
end
theorem D.ltAll_iff {n : Nat} : ∀ {xs : List D}, D.ltAll n xs = true ↔ ∀ x ∈ xs, D.lt n x = true
  | [] => by simp [D.ltAll]
  | x :: xs => by simp [D.ltAll, D.ltAll_iff (xs := xs)]
mutual
theorem D.lt_mono {n m : Nat} (h : n ≤ m) : ∀ {d : D}, D.lt n d = true → D.lt m d = true
  | .tup xs, e => by simp only [D.lt] at e ⊢; exact D.ltAll_mono h e
  | .exn _ _ xs, e => by simp only [D.lt] at e ⊢; exact D.ltAll_mono h e
  | .klst xs, e => by simp only [D.lt] at e ⊢; exact D.ltAll_mono h e
  | .ref r, e => by simp only [D.lt, decide_eq_true_eq] at e ⊢; omega
  | .non, _ => rfl
  | .bl _, _ => rfl
  | .int _, _ => rfl
  | .str _, _ => rfl
  | .gl _, _ => rfl
  | .ty _, _ => rfl
  | .rep _, _ => rfl
  | .op _, _ => rfl
theorem D.ltAll_mono {n m : Nat} (h : n ≤ m) : ∀ {ds : List D}, D.ltAll n ds = true → D.ltAll m ds = true
  | [], _ => rfl
  | d :: ds, e => by
    simp only [D.ltAll, Bool.and_eq_true] at e ⊢
    exact ⟨D.lt_mono h e.1, D.ltAll_mono h e.2⟩
end
mutual
/-- the key that data is -/
def D.keyN : D → Option NestedKey
  | .non => some .none
  | .bl b => some (.num (if b = true then 1 else 0))
  | .int i => some (.num i)
  | .str s => some (.text s)
  | .tup xs => match D.keyNs xs with
    | some ks => some (.tup ks)
    | none => none
  | _ => none
def D.keyNs : List D → Option (List NestedKey)
  | [] => some []
  | x :: xs => match D.keyN x with
    | some k => match D.keyNs xs with
      | some ks => some (k :: ks)
      | none => none
    | none => none
end
mutual
theorem D.keyN_lt {n : Nat} : ∀ {d : D} {k : NestedKey}, D.keyN d = some k → D.lt n d = true
  | .non, _, _ => rfl
  | .bl _, _, _ => rfl
  | .int _, _, _ => rfl
  | .str _, _, _ => rfl
  | .tup xs, k, h => by
    unfold D.keyN at h
    cases e : D.keyNs xs with
    | none => (rw [e] at h; cases h)
    | some ks => rw [D.lt]; exact D.keyNs_lt e
  | .ref _, _, h => by cases h
  | .gl _, _, h => by cases h
  | .ty _, _, h => by cases h
  | .rep _, _, h => by cases h
  | .op _, _, h => by cases h
  | .exn _ _ _, _, h => by cases h
  | .klst _, _, h => by cases h
theorem D.keyNs_lt {n : Nat} : ∀ {xs : List D} {ks : List NestedKey}, D.keyNs xs = some ks → D.ltAll n xs = true
  | [], _, _ => rfl
  | x :: xs, ks, h => by
    unfold D.keyNs at h
    cases e : D.keyN x with
    | none => (rw [e] at h; cases h)
    | some k =>
      rw [e] at h
      cases e2 : D.keyNs xs with
      | none => rw [e2] at h; cases h
      | some ks2 => rw [D.ltAll, D.keyN_lt e, D.keyNs_lt e2]; rfl
end
def PO.vals : PO → List D
  | .lst xs | .set xs | .flst xs => xs
  | .dct kvs | .fdct kvs | .ndc kvs => kvs.map (·.2)
  | .ins _ fs => fs.map (·.2)
/-! ### a store -/
inductive Tr where
  | e | n (l : Tr) (v : Option PO) (r : Tr)
def Tr.get : Tr → Nat → Option PO
  | .e, _ => none
  | .n l v r, k => if k = 0 then v else if k % 2 = 1 then l.get (k / 2) else r.get (k / 2 - 1)
def Tr.put : Nat → Tr → Nat → PO → Tr
  | 0, t, _, _ => t
  | f + 1, .e, k, o => if k = 0 then .n .e (some o) .e else if k % 2 = 1 then .n (Tr.put f .e (k / 2) o) none .e else .n .e none (Tr.put f .e (k / 2 - 1) o)
  | f + 1, .n l v r, k, o => if k = 0 then .n l (some o) r else if k % 2 = 1 then .n (Tr.put f l (k / 2) o) v r else .n l v (Tr.put f r (k / 2 - 1) o)
theorem Tr.get_put (o : PO) : ∀ (f : Nat) (t : Tr) (k j : Nat), k < f → (Tr.put f t k o).get j = if j = k then some o else t.get j := by
  intro f
  induction f with
  | zero => intro t k j h; omega
  | succ f ih =>
    intro t k j h
    have empty : ∀ i : Nat, Tr.e.get i = none := fun i => by simp [Tr.get]
    cases t with
    | e =>
      simp only [Tr.put]
      by_cases k0 : k = 0
      · subst k0
        simp only [if_true, Tr.get]
        by_cases j0 : j = 0
        · simp [j0]
        · simp [j0, empty]
      · rw [if_neg k0]
        by_cases ko : k % 2 = 1
        · rw [if_pos ko]
          simp only [Tr.get]
          by_cases j0 : j = 0
          · have : ¬ j = k := by omega
            simp [j0]; intro e; exact k0 e.symm
          · rw [if_neg j0]
            by_cases jo : j % 2 = 1
            · rw [if_pos jo, ih _ _ _ (by omega), empty]
              have e : (j / 2 = k / 2) = (j = k) := by apply propext; constructor <;> intro z <;> omega
              simp only [e]
            · rw [if_neg jo, if_neg (by intro e; rw [e] at jo; exact jo ko)]
        · rw [if_neg ko]
          simp only [Tr.get]
          by_cases j0 : j = 0
          · simp [j0]; intro e; exact k0 e.symm
          · rw [if_neg j0]
            by_cases jo : j % 2 = 1
            · rw [if_pos jo, if_neg (by intro e; rw [e] at jo; exact ko jo)]
            · rw [if_neg jo, ih _ _ _ (by omega), empty]
              have e : (j / 2 - 1 = k / 2 - 1) = (j = k) := by apply propext; constructor <;> intro z <;> omega
              simp only [e]
    | n l v r =>
      simp only [Tr.put]
      by_cases k0 : k = 0
      · subst k0
        simp only [if_true, Tr.get]
        by_cases j0 : j = 0
        · simp [j0]
        · simp [j0]
      · rw [if_neg k0]
        by_cases ko : k % 2 = 1
        · rw [if_pos ko]
          simp only [Tr.get]
          by_cases j0 : j = 0
          · simp [j0]; intro e; exact absurd e.symm k0
          · rw [if_neg j0, if_neg j0]
            by_cases jo : j % 2 = 1
            · rw [if_pos jo, if_pos jo, ih _ _ _ (by omega)]
              have e : (j / 2 = k / 2) = (j = k) := by apply propext; constructor <;> intro z <;> omega
              simp only [e]
            · rw [if_neg jo, if_neg jo, if_neg (by intro e; rw [e] at jo; exact jo ko)]
        · rw [if_neg ko]
          simp only [Tr.get]
          by_cases j0 : j = 0
          · simp [j0]; intro e; exact absurd e.symm k0
          · rw [if_neg j0, if_neg j0]
            by_cases jo : j % 2 = 1
            · rw [if_pos jo, if_pos jo, if_neg (by intro e; rw [e] at jo; exact ko jo)]
            · rw [if_neg jo, if_neg jo, ih _ _ _ (by omega)]
              have e : (j / 2 - 1 = k / 2 - 1) = (j = k) := by apply propext; constructor <;> intro z <;> omega
              simp only [e]
/-- n: the next number; low: some object at low or above may tell of a later one -/
structure PH where
  t : Tr
  n : Nat
  low : Option Nat
def PH.nil : PH := ⟨.e, 0, none⟩
def PH.get (h : PH) (k : Nat) : Option PO := if k < h.n then h.t.get k else none
@[irreducible] def PH.new (h : PH) (o : PO) : PH := { h with t := h.t.put (h.n + 1) h.n o, n := h.n + 1 }
/-- the object at k is now o; vs: what is new in it -/
@[irreducible] def PH.put (h : PH) (k : Nat) (o : PO) (vs : List D) : PH :=
  { h with t := h.t.put (k + 1) k o, low := if D.ltAll (k + 1) vs then h.low else some (match h.low with | none => k | some l => min k l) }
/-- what was made behind m is forgotten, where nothing older tells of it -/
def PH.lowOk (h : PH) (m : Nat) : Bool := match h.low with | none => true | some l => decide (m ≤ l)
def PH.cut (h : PH) (m : Nat) : PH := if h.lowOk m then { h with n := m } else h

theorem PH.get_lt {h : PH} {k : Nat} {o : PO} (e : h.get k = some o) : k < h.n := by
  unfold PH.get at e
  by_cases q : k < h.n
  · exact q
  · rw [if_neg q] at e; cases e
theorem PH.get_new (h : PH) (o : PO) (k : Nat) : (h.new o).get k = if k = h.n then some o else h.get k := by
  unfold PH.get PH.new
  simp only
  rw [Tr.get_put _ _ _ _ _ (Nat.lt_succ_self _)]
  by_cases e : k = h.n
  · simp [e]
  · by_cases l : k < h.n
    · rw [if_neg e, if_neg e, if_pos l, if_pos (by omega)]
    · rw [if_neg (by omega), if_neg e, if_neg l]
theorem PH.n_new (h : PH) (o : PO) : (h.new o).n = h.n + 1 := by unfold PH.new; rfl
theorem PH.low_new (h : PH) (o : PO) : (h.new o).low = h.low := by unfold PH.new; rfl
theorem PH.get_put (h : PH) (o : PO) (vs : List D) (k j : Nat) (hk : k < h.n) : (h.put k o vs).get j = if j = k then some o else h.get j := by
  unfold PH.get PH.put
  simp only
  rw [Tr.get_put _ _ _ _ _ (Nat.lt_succ_self _)]
  by_cases e : j = k
  · subst e; simp [hk]
  · rw [if_neg e, if_neg e]
theorem PH.n_put (h : PH) (o : PO) (vs : List D) (k : Nat) : (h.put k o vs).n = h.n := by unfold PH.put; rfl

/-! ### what is done -/
inductive Out (α : Type) where
  | ok (a : α) (h : PH)
  | exc (c : Str) (fs : List (Str × D)) (h : PH)
  | bad
abbrev M (α : Type) := PH → Out α
def mPure {α : Type} (a : α) : M α := fun h => .ok a h
def mBind {α β : Type} (m : M α) (f : α → M β) : M β := fun h => match m h with
  | .ok a h' => f a h'
  | .exc c fs h' => .exc c fs h'
  | .bad => .bad
def mBad {α : Type} : M α := fun _ => .bad
def mNew (o : PO) : M D := fun h => .ok (.ref h.n) (h.new o)
/-- the object that d tells of -/
def mGet {β : Type} (d : D) (f : Nat → PO → M β) : M β := fun h => match d with
  | .ref r => match h.get r with
    | some o => f r o h
    | none => .bad
  | _ => .bad
def mPut (r : Nat) (o : PO) (vs : List D) : M Unit := fun h => .ok () (h.put r o vs)
def mOpt {α : Type} : Option α → M α
  | some a => mPure a
  | none => mBad
/-- exceptions do not leave -/
def mCalm {α : Type} (m : M α) : M α := fun h => match m h with
  | .ok a h' => .ok a h'
  | .exc .. => .bad
  | .bad => .bad
theorem mBind_ok {α β : Type} {m : M α} {f : α → M β} {h h' : PH} {a : α} (e : m h = .ok a h') : mBind m f h = f a h' := by
  unfold mBind; rw [e]
theorem mBind_exc {α β : Type} {m : M α} {f : α → M β} {h h' : PH} {c : Str} {fs : List (Str × D)} (e : m h = .exc c fs h') : mBind m f h = .exc c fs h' := by
  unfold mBind; rw [e]
theorem mBind_bad {α β : Type} {m : M α} {f : α → M β} {h : PH} (e : m h = .bad) : mBind m f h = .bad := by
  unfold mBind; rw [e]
/-- every loop ends within so many turns -/
def maxTurns : Nat := 1000000
def line : Nat := 16777216
end UW

/-! UP -/
namespace UW
open PySem
/-! ### expressions -/
abbrev Env := List (Option D)
abbrev DE := Env → M D
abbrev DA := Env → M (List D)
abbrev DT := Env → M Bool
def dBad : DE := fun _ => mBad
def dC (d : D) : DE := fun _ => mPure d
def dVar (i : Nat) : DE := fun ρ => match ρ[i]? with
  | some (some d) => mPure d
  | _ => mBad
def d1 (f : D → M D) (a : DE) : DE := fun ρ => mBind (a ρ) f
def d2 (f : D → D → M D) (a b : DE) : DE := fun ρ => mBind (a ρ) fun x => mBind (b ρ) fun y => f x y
def dN (f : List D → M D) (a : DA) : DE := fun ρ => mBind (a ρ) f
def aNil : DA := fun _ => mPure []
def aCons (a : DE) (r : DA) : DA := fun ρ => mBind (a ρ) fun x => mBind (r ρ) fun xs => mPure (x :: xs)
def mBool : D → M Bool
  | .bl b => mPure b
  | _ => mBad
def tBool (a : DE) : DT := fun ρ => mBind (a ρ) mBool
def tAndD (a b : DT) : DT := fun ρ => mBind (a ρ) fun k => if k = true then b ρ else mPure false
def tOrD (a b : DT) : DT := fun ρ => mBind (a ρ) fun k => if k = true then mPure true else b ρ
def tNotD (a : DT) : DT := fun ρ => mBind (a ρ) fun k => mPure (!k)
def dAnd (a b : DE) : DE := fun ρ => mBind (a ρ) fun x => mBind (mBool x) fun k => if k = true then b ρ else mPure (.bl false)
def dOr (a b : DE) : DE := fun ρ => mBind (a ρ) fun x => mBind (mBool x) fun k => if k = true then mPure (.bl true) else b ρ
def dNot (a : DE) : DE := fun ρ => mBind (a ρ) fun x => mBind (mBool x) fun k => mPure (.bl (!k))
def dIf (t : DT) (a b : DE) : DE := fun ρ => mBind (t ρ) fun k => if k = true then a ρ else b ρ
def dChain (f f' : D → D → M D) (a b c : DE) : DE := fun ρ => mBind (a ρ) fun x => mBind (b ρ) fun y => mBind (f x y) fun u => mBind (mBool u) fun k => if k = true then mBind (c ρ) fun z => f' y z else mPure (.bl false)
def fTup (xs : List D) : M D := mPure (.tup xs)
def fLst (xs : List D) : M D := mNew (.lst xs)

/-! ### operators -/
def fI (C : Int → Int → Bool) (f : Int → Int → D) : D → D → M D
  | .int i, .int j => if C i j = true then mPure (f i j) else mBad
  | _, _ => mBad
def fI0 (f : Int → Int → D) : D → D → M D
  | .int i, .int j => mPure (f i j)
  | _, _ => mBad
/-- a store's list -/
def PO.seq : PO → Option (List D)
  | .lst xs | .flst xs => some xs
  | _ => none
def fCat (o o' : PO) : M D := match o with
  | .lst xs => match o' with
    | .lst ys => if xs.length + ys.length ≤ line then mNew (.lst (xs ++ ys)) else mBad
    | _ => mBad
  | _ => mBad
def fAdd (x y : D) : M D := match x with
  | .int i => match y with
    | .int j => mPure (.int (i + j))
    | _ => mBad
  | .str i => match y with
    | .str j => if i.length + j.length ≤ line then mPure (.str (i ++ j)) else mBad
    | _ => mBad
  | .tup xs => match y with
    | .tup ys => if xs.length + ys.length ≤ line then mPure (.tup (xs ++ ys)) else mBad
    | _ => mBad
  | .ref r => mGet (.ref r) fun _ o => mGet y fun _ o' => fCat o o'
  | _ => mBad
def cMul (i j : Int) : Bool := (decide (-(2 ^ 64) < i) && decide (i < 2 ^ 64)) || (decide (-(2 ^ 64) < j) && decide (j < 2 ^ 64))
def cDiv (_ j : Int) : Bool := decide (0 < j) && decide (j < 1073741824)
def cPos (_ j : Int) : Bool := decide (0 < j)
def cPow (i j : Int) : Bool := decide (0 ≤ j) && decide (j ≤ 1000000) && decide (i.natAbs < 2 ^ 64)
def cNN (_ j : Int) : Bool := decide (0 ≤ j)
def fRep (k : Int) (o : PO) : M D := match o with
  | .lst xs => if (-(2 ^ 63) ≤ k ∧ k < 2 ^ 63) ∧ xs.length * k.toNat ≤ line then mNew (.lst (List.replicate k.toNat xs).flatten) else mBad
  | _ => mBad
def fMul (x y : D) : M D := match y with
  | .int k => match x with
    | .int i => if cMul i k = true then mPure (.int (i * k)) else mBad
    | .tup xs => if xs.isEmpty = false ∧ 1 ≤ k ∧ k ≤ 1000 ∧ xs.length ≤ 1000 then mPure (.tup (List.replicate k.toNat xs).flatten) else mBad
    | .ref r => mGet (.ref r) fun _ o => fRep k o
    | _ => mBad
  | _ => mBad
/-! what data shows, lists of the store within -/
def optAll {α : Type} : List (Option α) → Option (List α)
  | [] => some []
  | none :: _ => none
  | some a :: r => match optAll r with
    | some s => some (a :: s)
    | none => none
def frz (h : PH) : Nat → D → Option PyData
  | 0, _ => none
  | n + 1, d => match d with
    | .non => some .none
    | .bl b => some (.bool b)
    | .int i => some (.int i)
    | .str s => some (.str s)
    | .tup xs => (optAll (xs.map (frz h n))).map .tuple
    | .klst xs => (optAll (xs.map (frz h n))).map .list
    | .ref r => match h.get r with
      | some (.lst xs) => (optAll (xs.map (frz h n))).map .list
      | some (.flst xs) => (optAll (xs.map (frz h n))).map .list
      | _ => none
    | _ => none
def deep : Nat := 64
/-- == of what is no list, no tuple -/
def scEq : D → D → Option Bool
  | .non, .non => some true
  | .non, .int _ => some false | .int _, .non => some false | .non, .bl _ => some false | .bl _, .non => some false | .non, .str _ => some false | .str _, .non => some false
  | .int i, .int j => some (decide (i = j)) | .bl i, .bl j => some (decide (i = j)) | .str i, .str j => some (decide (i = j))
  | .int _, .str _ => some false | .str _, .int _ => some false | .bl _, .str _ => some false | .str _, .bl _ => some false
  | _, _ => none
mutual
def sameP : PyData → PyData → Bool
  | .none, .none => true
  | .bool a, .bool b => a == b
  | .int a, .int b => decide (a = b)
  | .str a, .str b => decide (a = b)
  | .list xs, .list ys => samePs xs ys
  | .tuple xs, .tuple ys => samePs xs ys
  | _, _ => false
def samePs : List PyData → List PyData → Bool
  | [], [] => true
  | x :: xs, y :: ys => sameP x y && samePs xs ys
  | _, _ => false
end
def repEq (p q : PyData) : Bool := if sameP p q = true then true else decide (p.shown = q.shown)
/-- == of lists one of which is empty: no thing in them is asked -/
def emEq (x y : D) (h : PH) : Option Bool := match x with
  | .ref r => match y with
    | .ref r' => match h.get r with
      | some (.lst xs) => match h.get r' with
        | some (.lst ys) => if xs.isEmpty = true ∨ ys.isEmpty = true then some (decide (xs.length = ys.length)) else none
        | _ => none
      | _ => none
    | _ => none
  | _ => none
def fEq0 (x y : D) (h : PH) : Option Bool :=
  match x, y with
  | .rep p, .rep q => some (repEq p q)
  | _, _ => match scEq x y with
    | some b => some b
    | none => match frz h deep x, frz h deep y with
      | some p, some q => if SeqAt.shaped p = true ∧ SeqAt.shaped q = true then some (PyData.eqv p q) else none
      | _, _ => emEq x y h
def fEq (x y : D) : M D := fun h => match fEq0 x y h with
  | some b => .ok (.bl b) h
  | none => .bad
def fNe (x y : D) : M D := fun h => match fEq0 x y h with
  | some b => .ok (.bl (!b)) h
  | none => .bad
def D.isNon : D → Bool
  | .non => true
  | _ => false
def D.known : D → Bool
  | .gl _ | .op _ => false
  | _ => true
def fIs (x : D) : D → M D
  | .non => if x.known = true then mPure (.bl x.isNon) else mBad
  | _ => mBad
def fIsNot (x : D) : D → M D
  | .non => if x.known = true then mPure (.bl (!x.isNon)) else mBad
  | _ => mBad
end UW

/-! UZ -/
/-! tuples that are made: known with the object that they are, which has no dict of its own -/
namespace UW
open PySem PySem.Spec PyProof.Rows L2
/-- a tuple whose object is known to have no dict -/
def SqP (K : PySem.W.Frag) (H : Hp) (a : Addr) (xs : List V) : Prop :=
  (∃ o : Obj, H a = some (.frz o (.tup xs)) ∧ o.dict = none) ∨
    ∃ (o : Obj) (its : Array Value) (n : Nat), K.lookup a = some o ∧ o.cls = .type "tuple" ∧ o.dict = none ∧ o.data = .seq its n ∧ its.size ≤ sizeLine ∧ Vals xs its.toList
theorem SqP.t {K : PySem.W.Frag} {H : Hp} {a : Addr} {xs : List V} (h : SqP K H a xs) : SqT K H a xs :=
  h.elim (fun ⟨o, e, _⟩ => .inl (.inr ⟨o, e⟩)) fun ⟨o, its, n, a, b, _, c, d, e⟩ => .inr ⟨o, its, n, a, b, c, d, e⟩
theorem SqP.of {K : PySem.W.Frag} {H : Hp} {a : Addr} {ob : Obj} {xs : List V} (e : H a = some (.frz ob (.tup xs))) (d : ob.dict = none) : SqP K H a xs := .inl ⟨ob, e, d⟩
theorem same_p {K : PySem.W.Frag} {H H' : Hp} {a : Addr} {xs : List V} (e : Same H H') (h : SqP K H a xs) : SqP K H' a xs :=
  h.elim (fun ⟨o, q, d⟩ => .inl ⟨o, e a _ q, d⟩) .inr
/-- what holds wherever a new tuple stands -/
def NewT (H : Hp) (xs : List V) (Q : VK) : Prop := ∀ (p : Addr) (ob : Obj), H p = none → ob.dict = none → Q (.ref p) (upd H p (.frz ob (.tup xs)))
section
variable {X : Cx} {pins : List (Addr × Obj)} {σ : L2.St} {H : Hp} {s : Shared} {Q : VK}
theorem tup_laid (I : Inv X pins σ H s) {xs : List V} {its : List Value} {n t' : Nat} (z : xs.length ≤ sizeLine) (r : Vals xs its) (q : NewT H xs Q) : EP X pins σ Q (.ref s.heap.objs.size) { s with heap := s.heap.push { cls := .type "tuple", data := .seq its.toArray n }, toks := t' } := by
  have fr : H s.heap.objs.size = none := (I.hok.fresh (Nat.le_refl _))
  refine ⟨.ref s.heap.objs.size, upd H s.heap.objs.size (.frz { cls := .type "tuple", data := .seq its.toArray n } (.tup xs)), I.laid (t' := t') (fun b u e => Heap.get?_push_of_some _ e) (Nat.le_refl _) ?_, rfl, q _ _ fr rfl⟩
  exact ⟨Heap.get?_push_size _ rfl, z, its, r, _, Heap.get?_push_size _ rfl, rfl, n, rfl⟩
/-! displays -/
def tTupF (t : TA) : TE := fun σ H Q => t σ H fun xs H1 => xs.length ≤ sizeLine ∧ NewT H1 xs Q
theorem pe_tupF {es : List Expr} {t : TA} {pos : Pos} {x1} (h : PA X es t) : PE X (.Tuple es x1 pos) (tTupF t) := ⟨fun pins s σ H Q I hq =>
  wpAny_Tuple_spliced (thn (h.run pos pins s σ H _ I hq) fun us s1 ⟨xs, H1, I1, r, z, q⟩ => ⟨by rw [← r.length]; exact z, tup_laid (t' := s1.toks) I1 z r q⟩)⟩
/-! t + u -/
def rCatF (K : PySem.W.Frag) : R2 := fun x y H Q => ∃ a b xs ys, x = .ref a ∧ y = .ref b ∧ SqT K H a xs ∧ SqT K H b ys ∧ xs.length + ys.length ≤ sizeLine ∧
  (xs = [] → Q (.ref b) H) ∧ (xs ≠ [] → ys = [] → Q (.ref a) H) ∧ (xs ≠ [] → ys ≠ [] → NewT H (xs ++ ys) Q)
theorem op_catF : OpR X (binaryOp .Add) (rCatF X.K) := by
  intros pins s σ H x y v u Q I rx ry h
  rcases h with ⟨a, b, xs, ys, rfl, rfl, ha, hb, hz, q0, q1, q2⟩
  cases rx
  cases ry
  obtain ⟨us, r1, p1, _⟩ := I.tuple ha
  obtain ⟨ws, r2, p2, _⟩ := I.tuple hb
  by_cases hx : xs = []
  · subst hx
    cases r1
    exact (cat_tup0 p1 p2 ⟨.ref b, H, I, rfl, q0 rfl⟩)
  · refine HT.cat_tup p1 p2 (fun e => hx (r1.nil_iff.mp e)) (fun e => ⟨.ref a, H, I, rfl, q1 hx (r2.nil_iff.mp e)⟩) (fun e => ?_) (by rw [← r1.length, ← r2.length]; exact hz)
    exact tup_laid (t' := s.toks) I (by rw [List.length_append]; exact hz) (r1.append r2) (q2 hx fun e2 => e (r2.nil_iff.mpr e2))
/-! t[lo:hi] -/
def rSlF (K : PySem.W.Frag) : V → Option Int → Option Int → Hp → VK → Prop := fun x lo hi H Q => ∃ a xs, x = .ref a ∧ SqT K H a xs ∧
  (HT.sIx xs.length 0 lo = 0 ∧ HT.sIx xs.length xs.length hi = xs.length → Q (.ref a) H) ∧ (¬ (HT.sIx xs.length 0 lo = 0 ∧ HT.sIx xs.length xs.length hi = xs.length) → NewT H (cutV xs lo hi) Q)
theorem sl_tupF : SlR X (rSlF X.K) := by
  intros pins s σ H x v vl vu lo hi sl Q I rx hs pl pu h
  rcases h with ⟨a, xs, rfl, hx, q1, q2⟩
  cases rx
  obtain ⟨us, r, ht, hz⟩ := I.tuple hx
  have len : us.toArray.size = xs.length := by rw [r.length]; exact List.size_toArray ..
  refine (⟨"tuple", _, PyProof.Rows.slot_tuple_getitem.lookup, ht.typeIs, ?_⟩)
  by_cases whole : HT.sIx xs.length 0 lo = 0 ∧ HT.sIx xs.length xs.length hi = xs.length
  · exact getItem_tuple_whole ht hs pl pu (by rw [len]; exact whole) ⟨.ref a, H, I, rfl, q1 whole⟩
  · refine HT.getItem_tuple_cut ht hs pl pu (by rw [len]; exact whole) ?_ (by rw [len]; exact hz)
    rw [len]
    exact tup_laid (t' := s.toks) I (Nat.le_trans (cutV_length xs lo hi) hz) ((r.drop (HT.sIx xs.length 0 lo)).take (HT.sIx xs.length xs.length hi - HT.sIx xs.length 0 lo)) (q2 whole)
/-! tuple(..) -/
theorem call_tupF : CallR X (.type "tuple") (fun xs H Q => ∃ p ys, xs = [.ref p] ∧ ((SqL X.K H p ys ∧ NewT H ys Q) ∨ (SqT X.K H p ys ∧ Q (.ref p) H))) := by
  intros pins s σ H xs us Q I r h
  obtain ⟨p, ys, rfl, h⟩ := h
  rw [Vals.ref1 r]
  rcases h with ⟨hv, q⟩ | ⟨hv, q⟩
  · rcases I.list hv with ⟨its, r', pl, hz⟩
    have len := r'.length
    refine call_tuple_list pl.isList (fun hp kp => ?_) (by simp only [List.size_toArray] <;> omega)
    have I1 : Inv X pins σ H { s with heap := hp } := I.kept (t' := s.toks) kp
    exact tup_laid (t' := s.toks) (n := 0) I1 hz r' q
  · rcases I.tuple hv with ⟨its, r', pl, hz⟩
    exact (call_tuple_same pl ⟨.ref p, H, I, rfl, q⟩)
def tTupRgF (te : L2.St → Hp → (Int → Int → Hp → Prop) → Prop) : TE := fun σ H Q => te σ H fun a b H1 => RgOk a b ∧ NewT H1 (rgV a b) Q
theorem pe_tupRgF {e : Expr} {te : L2.St → Hp → (Int → Int → Hp → Prop) → Prop} {p pos : Pos} (hc : X.calm = true) (hg : Gl X "tuple") (hm : X.mg "tuple" = none) (he : PRg X e te) (na : starEach [e] X.env = (false, eval e X.env) :: starEach [] X.env := by rfl) : PE X (.Call (.Name "tuple" p) [e] [] pos) (tTupRgF te) := by
  refine .mk fun pins s σ H Q I h => ?_
  refine (Call_ (ld_blt I hg hm boot_tuple (PyProof.Rows.callWith_type1 (args_cons (thn (he pins s σ H _ I h) fun x s1 ⟨r, a, b, t, u, v, H1, ex, hr, I1, ok, q⟩ => args_nil ?_) na) na)))
  subst ex
  rcases ok with ⟨b1, b2, b3, b4, b5⟩
  refine call_tuple_range (n := (b - a).toNat) (I1.ok.hd hc) hr (small_one b1 b2 b3 b4) (rangeSize_nat a b) b5 fun hp tk acc hk hi => ?_
  have I2 : Inv X pins σ H1 { s1 with heap := hp, toks := tk } := I1.kept hk
  have e := tup_laid (t' := tk) (n := 0) I2 (its := acc.toList) (by rw [rgV_length, sizeLine_eq]; omega) (vals_rg hi) q
  rw [Array.toArray_toList] at e
  exact e
/-! t * k -/
def rRepF (K : PySem.W.Frag) : R2 := fun x y H Q => ∃ l k xs, x = .ref l ∧ y = .int k ∧ SqT K H l xs ∧ xs ≠ [] ∧ 2 ≤ k ∧ k ≤ 1000 ∧ xs.length ≤ 1000 ∧ NewT H (List.replicate k.toNat xs).flatten Q
theorem op_repF : OpR X (binaryOp .Mult) (rRepF X.K) := by
  intros pins s σ H x y v u Q I rx ry h
  obtain ⟨l, k, xs, rfl, rfl, hT, ne, h1, h2, hz, q⟩ := h
  cases rx
  obtain ⟨t, rfl⟩ := ry
  rcases I.tuple hT with ⟨its, r, ⟨⟨cls, dd, data, sl⟩, ho, hc, n, hd⟩, hs⟩
  simp only at hc hd
  subst hc hd
  have le : its.length = xs.length := r.length.symm
  have empty : its.toArray.isEmpty = false := by
    cases its with
    | nil => exact absurd (List.eq_nil_of_length_eq_zero le.symm) ne
    | cons a b => rfl
  have size : its.toArray.size = xs.length := by rw [← le]; exact List.size_toArray ..
  have prod : ((xs.length : Nat) : Int) * k ≤ 1000 * k := Int.mul_le_mul_of_nonneg_right (by omega) (by omega)
  have cap : k.toNat * xs.length ≤ 1000 * 1000 := Nat.mul_le_mul (by omega) hz
  have room : (List.replicate k.toNat its).flatten.length ≤ sizeLine := by
    rw [PyProof.Rows.lm_len_rep_flat, le, sizeLine_eq]
    omega
  have roomV : (List.replicate k.toNat xs).flatten.length ≤ sizeLine := by
    rw [PyProof.Rows.lm_len_rep_flat, sizeLine_eq]
    omega
  have few : Builtin.Tuple.tupleTooMany (((its.toArray.size : Nat) : Int) * k) = false := by
    unfold Builtin.Tuple.tupleTooMany; skip
    rw [sizeLine_eq, size]
    exact (decide_eq_false (by omega))
  refine wpAny_binaryOp_repeat_ref (T := "tuple") (U := "int") (by decide) ⟨_, ho, rfl⟩ (fun s' => typeIs_int s' k t) noFill_tuple_mul F.fills_int_mul F.slot_int_rmul repeat_tuple F.slot_int_index.lookup (call_meets F.slot_int_rmul (typeIs_int s k t) F.entry_int_rmul (F.args_int_rmul_2 _ _)
      (int_rmul_tuple k t l its.toArray n dd sl)
      ⟨ho, rfl, ⟨_, ho, rfl⟩, call_meets F.slot_tuple_mul ⟨_, ho, rfl⟩ F.entry_tuple_mul (F.args_tuple_mul_2 _ _) (tuple_mulW l its.toArray n dd sl k t (by rw [decide_eq_false (by omega), decide_eq_false (by omega)] <;> rfl)
        (by rw [empty, Bool.false_or]; exact beq_eq_false_iff_ne.mpr (by omega)) (by rw [empty, Bool.or_false]; exact decide_eq_false (by omega)) (by rw [size]; omega) few (by rw [size_rep, List.size_toArray]; exact room)) ⟨ho, ?_⟩⟩)
  rw [size_rep]
  exact tup_laid (t' := s.toks) I roomV (r.rep k.toNat) q
end
end UW

/-! U2 -/
/-! what plain data stands for in the model -/
namespace UW
open PySem PySem.Spec PyProof.Rows L2

/-- io: where the store's objects stand; B: what is known and stays -/
structure Wd where
  io : List Addr
  B : Hp
  op : Nat → Option V
structure Wd.Le (w w' : Wd) : Prop where
  io : ∀ (n : Nat) (a : Addr), w.io[n]? = some a → w'.io[n]? = some a
  B : Same w.B w'.B
  op : w'.op = w.op
theorem Wd.Le.refl (w : Wd) : Wd.Le w w := ⟨fun _ _ h => h, Same.refl _, rfl⟩
theorem Wd.Le.trans {w w1 w2 : Wd} (a : Wd.Le w w1) (b : Wd.Le w1 w2) : Wd.Le w w2 := ⟨fun n x h => b.io n x (a.io n x h), a.B.trans b.B, b.op.trans a.op⟩

theorem same_rd {H H' : Hp} {a : Addr} {u : HO} (e : Same H H') (h : Rd H a u) : Rd H' a u := by
  rcases h with h | ⟨o, h⟩
  · exact .inl (e a _ h)
  · exact .inr ⟨o, e a _ h⟩
theorem same_t {K : PySem.W.Frag} {H H' : Hp} {a : Addr} {xs : List V} (e : Same H H') (h : SqT K H a xs) : SqT K H' a xs := by
  rcases h with h | h
  · exact .inl (same_rd e h)
  · exact .inr h

theorem same_l {K : PySem.W.Frag} {H H' : Hp} {a : Addr} {xs : List V} (e : Same H H') (h : SqL K H a xs) : SqL K H' a xs := by
  rcases h with h | h
  · exact .inl (same_rd e h)
  · exact .inr h

/-- the text's fixed part: what is written down, what the module's names hold -/
structure Gb where
  K : PySem.W.Frag
  mg : Str → Option Value
  T : List (Addr × Str)
  wd : World

/-- all but a code object's table stays as it is -/
def Cold (o : HO) : Prop := ∀ ps, o ≠ .tbl ps
def Pl (H : Hp) (a : Addr) : Prop := ∃ o, H a = some o ∧ Cold o
/-- an exception that was caught -/
def exoO (C dd a : Addr) : HO := .ext fun h => ∃ (oe : Obj) (vs : Array Value), h.get? a = some oe ∧ Zc (.ref C) (some dd) oe ∧ oe.data = .fields vs
theorem cold_ext {f : Heap → Prop} : Cold (.ext f) := fun ps z => by cases z
theorem cold_exo {C dd a : Addr} : Cold (exoO C dd a) := cold_ext

mutual
inductive Rv (g : Gb) (w : Wd) : V → D → Prop
  | non : Rv g w .non .non
  | bl (b : Bool) : Rv g w (.bl b) (.bl b)
  | int (i : Int) : Rv g w (.int i) (.int i)
  | str (x : Str) : Rv g w (.str x) (.str x)
  | rep (p : PyData) : Rv g w (.str p.shown) (.rep p)
  | tup {a : Addr} {xs : List V} {ds : List D} : SqP g.K w.B a xs → RvA g w xs ds → Rv g w (.ref a) (.tup ds)
  | klst {a : Addr} {xs : List V} {ds : List D} : SqL g.K w.B a xs → RvA g w xs ds → Rv g w (.ref a) (.klst ds)
  | ref {a : Addr} {n : Nat} : w.io[n]? = some a → Rv g w (.ref a) (.ref n)
  | gl {x : Str} {v : V} {u : Value} : g.mg x = some u → RelV v u → Rv g w v (.gl x)
  | ty (n : String) : Rv g w (.ty n) (.ty n)
  | op {v : V} {n : Nat} : w.op n = some v → Rv g w v (.op n)
  | exn {a C dd : Addr} {c : Str} {gs : List (Str × V)} {ns : List Str} {ds : List D} : w.B a = some (exoO C dd a) → g.mg c = some (.ref C) → w.B dd = some (.xd gs) → gs.map (·.1) = ns → RvA g w (gs.map (·.2)) ds → Rv g w (.ref a) (.exn c ns ds)
inductive RvA (g : Gb) (w : Wd) : List V → List D → Prop
  | nil : RvA g w [] []
  | cons {v : V} {vs : List V} {d : D} {ds : List D} : Rv g w v d → RvA g w vs ds → RvA g w (v :: vs) (d :: ds)
end
section
variable {g : Gb} {w w' : Wd}
mutual
theorem Rv.mono (e : Wd.Le w w') : ∀ {v : V} {d : D}, Rv g w v d → Rv g w' v d
  | _, _, .non => .non
  | _, _, .bl b => .bl b
  | _, _, .int i => .int i
  | _, _, .str x => .str x
  | _, _, .rep p => .rep p
  | _, _, .tup h a => .tup (same_p e.B h) (RvA.mono e a)
  | _, _, .klst h a => .klst (same_l e.B h) (RvA.mono e a)
  | _, _, .ref h => .ref (e.io _ _ h)
  | _, _, .gl h r => .gl h r
  | _, _, .ty n => .ty n
  | _, _, .op h => .op (by rw [e.op]; exact h)
  | _, _, .exn h1 h2 h3 h4 h5 => .exn (e.B _ _ h1) h2 (e.B _ _ h3) h4 (RvA.mono e h5)
theorem RvA.mono (e : Wd.Le w w') : ∀ {vs : List V} {ds : List D}, RvA g w vs ds → RvA g w' vs ds
  | _, _, .nil => .nil
  | _, _, .cons h t => .cons (Rv.mono e h) (RvA.mono e t)
end
mutual
/-- what tells of the first numbers alone stands in a world that has these alone -/
theorem Rv.cut (hB : Same w.B w'.B) (ho : w'.op = w.op) {m : Nat} (hi : ∀ (n : Nat) (a : Addr), n < m → w.io[n]? = some a → w'.io[n]? = some a) : ∀ {v : V} {d : D}, Rv g w v d → d.lt m = true → Rv g w' v d
  | _, _, .non, _ => .non
  | _, _, .bl b, _ => .bl b
  | _, _, .int i, _ => .int i
  | _, _, .str x, _ => .str x
  | _, _, .rep p, _ => .rep p
  | _, _, .tup h a, l => .tup (same_p hB h) (RvA.cut hB ho hi a (by simpa [D.lt] using l))
  | _, _, .klst h a, l => .klst (same_l hB h) (RvA.cut hB ho hi a (by simpa [D.lt] using l))
  | _, _, .ref h, l => .ref (hi _ _ (by simpa [D.lt] using l) h)
  | _, _, .gl h r, _ => .gl h r
  | _, _, .ty n, _ => .ty n
  | _, _, .op h, _ => .op (by rw [ho]; exact h)
  | _, _, .exn h1 h2 h3 h4 h5, l => .exn (hB _ _ h1) h2 (hB _ _ h3) h4 (RvA.cut hB ho hi h5 (by simpa [D.lt] using l))
theorem RvA.cut (hB : Same w.B w'.B) (ho : w'.op = w.op) {m : Nat} (hi : ∀ (n : Nat) (a : Addr), n < m → w.io[n]? = some a → w'.io[n]? = some a) : ∀ {vs : List V} {ds : List D}, RvA g w vs ds → D.ltAll m ds = true → RvA g w' vs ds
  | _, _, .nil, _ => .nil
  | _, _, .cons h t, l => by
    rw [D.ltAll, Bool.and_eq_true] at l
    exact .cons (Rv.cut hB ho hi h l.1) (RvA.cut hB ho hi t l.2)
end
theorem RvA.length : ∀ {vs : List V} {ds : List D}, RvA g w vs ds → vs.length = ds.length
  | _, _, .nil => rfl
  | _, _, .cons _ t => by rw [List.length_cons, List.length_cons, RvA.length t]
theorem RvA.append : ∀ {vs ws : List V} {ds es : List D}, RvA g w vs ds → RvA g w ws es → RvA g w (vs ++ ws) (ds ++ es)
  | _, _, _, _, .nil, s => s
  | _, _, _, _, .cons h t, s => .cons h (RvA.append t s)
theorem RvA.get : ∀ {vs : List V} {ds : List D} {i : Nat} {d : D}, RvA g w vs ds → ds[i]? = some d → ∃ v, vs[i]? = some v ∧ Rv g w v d
  | _, _, _, _, .nil, e => nomatch (by simpa using e : False)
  | _, _, 0, _, .cons h _, e => by simp at e; subst e; exact ⟨_, rfl, h⟩
  | _, _, i + 1, d, .cons _ t, e => by
    obtain ⟨u, h1, h2⟩ := RvA.get (i := i) (d := d) t (by simpa using e)
    exact ⟨u, (by simpa using h1), h2⟩
theorem RvA.take : ∀ {vs : List V} {ds : List D} (n : Nat), RvA g w vs ds → RvA g w (vs.take n) (ds.take n)
  | _, _, 0, _ => .nil
  | _, _, _ + 1, .nil => .nil
  | _, _, n + 1, .cons h t => .cons h (RvA.take n t)
theorem RvA.drop : ∀ {vs : List V} {ds : List D} (n : Nat), RvA g w vs ds → RvA g w (vs.drop n) (ds.drop n)
  | _, _, 0, h => h
  | _, _, _ + 1, .nil => .nil
  | _, _, n + 1, .cons _ t => RvA.drop n t
theorem RvA.set {v : V} {d : D} (h : Rv g w v d) : ∀ {vs : List V} {ds : List D} (n : Nat), RvA g w vs ds → RvA g w (vs.set n v) (ds.set n d)
  | _, _, _, .nil => .nil
  | _, _, 0, .cons _ t => .cons h t
  | _, _, n + 1, .cons q t => .cons q (RvA.set h n t)
theorem RvA.rep : ∀ {vs : List V} {ds : List D}, RvA g w vs ds → ∀ k : Nat, RvA g w (List.replicate k vs).flatten (List.replicate k ds).flatten
  | _, _, _, 0 => .nil
  | _, _, h, k + 1 => by
    rw [List.replicate_succ, List.replicate_succ, List.flatten_cons, List.flatten_cons]; exact h.append (RvA.rep h k)
theorem RvA.reverse : ∀ {vs : List V} {ds : List D}, RvA g w vs ds → RvA g w vs.reverse ds.reverse
  | _, _, .nil => .nil
  | _, _, .cons h t => by
    rw [List.reverse_cons, List.reverse_cons]; exact (RvA.reverse t).append (.cons h .nil)
end

/-! ### objects -/
def keyR : Key → D → Prop
  | .inl i, .int j => i = j
  | .inr s, .str t => s = t
  | _, _ => False
inductive KvR (g : Gb) (w : Wd) : List (Key × V) → List (D × D) → Prop
  | nil : KvR g w [] []
  | cons {k : Key} {v : V} {d e : D} {r : List (Key × V)} {s : List (D × D)} : keyR k d → Rv g w v e → KvR g w r s → KvR g w ((k, v) :: r) ((d, e) :: s)
inductive FsR (g : Gb) (w : Wd) : List (Str × V) → List (Str × D) → Prop
  | nil : FsR g w [] []
  | cons {f : Str} {v : V} {e : D} {r : List (Str × V)} {s : List (Str × D)} : Rv g w v e → FsR g w r s → FsR g w ((f, v) :: r) ((f, e) :: s)
/-- a dict whose keys are tuples, nested: where the key's tuple stands, what stands for the value -/
def DnR (kvs : List (NestedKey × Addr × V)) (xs : List (NestedKey × Addr × Value)) : Prop := Paired (fun p q => p.1 = q.1 ∧ p.2.1 = q.2.1 ∧ L2.RelV p.2.2 q.2.2) kvs xs
def DnO (w0 : World) (a : Addr) (kvs : List (NestedKey × Addr × V)) : HO := .ext fun h => ∃ xs : List (NestedKey × Addr × Value), DnR kvs xs ∧ ∃ o es ep, h.get? a = some o ∧ o.ExactDict ∧ o.data = .dict es ep ∧ es.toList = xs.map fun x => (⟨x.1.hash w0, .ref x.2.1, x.2.2⟩ : DictEntry)
inductive NvR (g : Gb) (w : Wd) : List (NestedKey × Addr × V) → List (D × D) → Prop
  | nil : NvR g w [] []
  | cons {k : NestedKey} {b : Addr} {v : V} {d e : D} {r : List (NestedKey × Addr × V)} {s : List (D × D)} : D.keyN d = some k → k.depth ≤ 8 → Rv g w (.ref b) d → Rv g w v e → NvR g w r s → NvR g w ((k, b, v) :: r) ((d, e) :: s)
def ObjR (g : Gb) (w : Wd) (H : Hp) (a : Addr) : PO → Prop
  | .lst ds => ∃ vs, H a = some (.lst vs) ∧ RvA g w vs ds
  | .flst ds => ∃ o vs, H a = some (.frz o (.lst vs)) ∧ RvA g w vs ds
  | .dct kds => ∃ kvs, H a = some (.dK kvs) ∧ KvR g w kvs kds
  | .fdct kds => ∃ o kvs, H a = some (.frz o (.dK kvs)) ∧ KvR g w kvs kds
  | .set _ => False
  | .ins c fs => ∃ C dx gs, H a = some (.ins C dx gs) ∧ g.mg c = some (.ref C) ∧ FsR g w gs fs
  | .ndc kds => ∃ kvs, H a = some (DnO g.wd a kvs) ∧ (a == sysModules) = false ∧ NvR g w kvs kds ∧ (kvs.map (·.1)).Nodup
section
variable {g : Gb} {w w' : Wd} {H H' : Hp} {a : Addr} {o : PO}
theorem KvR.mono (e : Wd.Le w w') : ∀ {r : List (Key × V)} {s : List (D × D)}, KvR g w r s → KvR g w' r s
  | _, _, .nil => .nil
  | _, _, .cons k v t => .cons k (v.mono e) (KvR.mono e t)
theorem FsR.mono (e : Wd.Le w w') : ∀ {r : List (Str × V)} {s : List (Str × D)}, FsR g w r s → FsR g w' r s
  | _, _, .nil => .nil
  | _, _, .cons v t => .cons (v.mono e) (FsR.mono e t)
theorem KvR.cut (hB : Same w.B w'.B) (ho : w'.op = w.op) {m : Nat} (hi : ∀ (n : Nat) (a : Addr), n < m → w.io[n]? = some a → w'.io[n]? = some a) : ∀ {r : List (Key × V)} {s : List (D × D)}, KvR g w r s → D.ltAll m (s.map (·.2)) = true → KvR g w' r s
  | _, _, .nil, _ => .nil
  | _, _, .cons k v t, l => by
    rw [List.map_cons, D.ltAll, Bool.and_eq_true] at l
    exact .cons k (v.cut hB ho hi l.1) (KvR.cut hB ho hi t l.2)
theorem FsR.cut (hB : Same w.B w'.B) (ho : w'.op = w.op) {m : Nat} (hi : ∀ (n : Nat) (a : Addr), n < m → w.io[n]? = some a → w'.io[n]? = some a) : ∀ {r : List (Str × V)} {s : List (Str × D)}, FsR g w r s → D.ltAll m (s.map (·.2)) = true → FsR g w' r s
  | _, _, .nil, _ => .nil
  | _, _, .cons v t, l => by
    rw [List.map_cons, D.ltAll, Bool.and_eq_true] at l
    exact .cons (v.cut hB ho hi l.1) (FsR.cut hB ho hi t l.2)
theorem NvR.mono (e : Wd.Le w w') : ∀ {r : List (NestedKey × Addr × V)} {s : List (D × D)}, NvR g w r s → NvR g w' r s
  | _, _, .nil => .nil
  | _, _, .cons k l b v t => .cons k l (b.mono e) (v.mono e) (NvR.mono e t)
theorem NvR.cut (hB : Same w.B w'.B) (ho : w'.op = w.op) {m : Nat} (hi : ∀ (n : Nat) (a : Addr), n < m → w.io[n]? = some a → w'.io[n]? = some a) : ∀ {r : List (NestedKey × Addr × V)} {s : List (D × D)}, NvR g w r s → D.ltAll m (s.map (·.2)) = true → NvR g w' r s
  | _, _, .nil, _ => .nil
  | _, _, .cons k dp b v t, l => by
    rw [List.map_cons, D.ltAll, Bool.and_eq_true] at l
    exact .cons k dp (b.cut hB ho hi (D.keyN_lt k)) (v.cut hB ho hi l.1) (NvR.cut hB ho hi t l.2)
theorem ObjR.mono (e : Wd.Le w w') (hH : H' a = H a) (h : ObjR g w H a o) : ObjR g w' H' a o := by
  cases o with
  | lst ds => obtain ⟨vs, h1, h2⟩ := h; exact ⟨vs, by rw [hH]; exact h1, h2.mono e⟩
  | flst ds => obtain ⟨o, vs, h1, h2⟩ := h; exact ⟨o, vs, by rw [hH]; exact h1, h2.mono e⟩
  | dct ds => obtain ⟨vs, h1, h2⟩ := h; exact ⟨vs, by rw [hH]; exact h1, h2.mono e⟩
  | fdct ds => obtain ⟨o, vs, h1, h2⟩ := h; exact ⟨o, vs, by rw [hH]; exact h1, h2.mono e⟩
  | set _ => exact h.elim
  | ins c fs => obtain ⟨C, dx, gs, h1, h2, h3⟩ := h; exact ⟨C, dx, gs, by rw [hH]; exact h1, h2, h3.mono e⟩
  | ndc kvs => obtain ⟨vs, h1, h2, h3, h4⟩ := h; exact ⟨vs, by rw [hH]; exact h1, h2, h3.mono e, h4⟩
theorem ObjR.cut (hB : Same w.B w'.B) (ho : w'.op = w.op) {m : Nat} (hi : ∀ (n : Nat) (a : Addr), n < m → w.io[n]? = some a → w'.io[n]? = some a) (h : ObjR g w H a o) (l : D.ltAll m o.vals = true) : ObjR g w' H a o := by
  cases o with
  | lst ds => obtain ⟨vs, h1, h2⟩ := h; exact ⟨vs, h1, h2.cut hB ho hi l⟩
  | flst ds => obtain ⟨o, vs, h1, h2⟩ := h; exact ⟨o, vs, h1, h2.cut hB ho hi l⟩
  | dct ds => obtain ⟨vs, h1, h2⟩ := h; exact ⟨vs, h1, h2.cut hB ho hi l⟩
  | fdct ds => obtain ⟨o, vs, h1, h2⟩ := h; exact ⟨o, vs, h1, h2.cut hB ho hi l⟩
  | set _ => exact h.elim
  | ins c fs => obtain ⟨C, dx, gs, h1, h2, h3⟩ := h; exact ⟨C, dx, gs, h1, h2, h3.cut hB ho hi l⟩
  | ndc kvs => obtain ⟨vs, h1, h2, h3, h4⟩ := h; exact ⟨vs, h1, h2, h3.cut hB ho hi l, h4⟩
theorem codeO_ext {c : Addr} {q : Str} : ∃ f, LamX.CodeO c q = .ext f := ⟨_, rfl⟩
/-- such a dict is no code object -/
theorem dno_code {w0 : World} {p : Addr} {kvs : List (NestedKey × Addr × V)} {q : Str} : DnO w0 p kvs ≠ LamX.CodeO p q := fun z => by
  have z : HO.ext _ = HO.ext _ := z
  injection z with z
  have hp : ({ objs := Array.replicate (p + 1) { cls := .none, data := .fields #[.none, .str q 0] } } : Heap).get? p = some { cls := .none, data := .fields #[.none, .str q 0] } := by
    unfold Heap.get?
    simp
  have y := congrFun z { objs := Array.replicate (p + 1) { cls := .none, data := .fields #[.none, .str q 0] } }
  have y2 : ∃ xs : List (NestedKey × Addr × Value), DnR kvs xs ∧ ∃ o es ep, ({ objs := Array.replicate (p + 1) { cls := .none, data := .fields #[.none, .str q 0] } } : Heap).get? p = some o ∧ o.ExactDict ∧ o.data = .dict es ep ∧ es.toList = xs.map fun x => (⟨x.1.hash w0, .ref x.2.1, x.2.2⟩ : DictEntry) := by
    rw [y]
    exact ⟨_, #[.none, .str q 0], 0, hp, rfl, rfl⟩
  obtain ⟨_, _, o, es, ep, h1, _, h2, _⟩ := y2
  rw [hp] at h1
  cases h1
  cases h2
theorem cold_dno {w0 : World} {p : Addr} {kvs : List (NestedKey × Addr × V)} : Cold (DnO w0 p kvs) := fun ps z => by
  have z : HO.ext _ = HO.tbl ps := z
  cases z
theorem not_ext {o : HO} (h : ∀ f, o ≠ .ext f) : ∀ q, o ≠ LamX.CodeO a q := fun q z => h _ (z.trans codeO_ext.choose_spec)
theorem ObjR.there (h : ObjR g w H a o) : ∃ u, H a = some u ∧ Cold u ∧ ∀ q, u ≠ LamX.CodeO a q := by
  cases o with
  | lst ds => obtain ⟨vs, h1, h2⟩ := h; exact ⟨_, h1, fun ps z => (by cases z), not_ext fun f z => (by cases z)⟩
  | flst ds => obtain ⟨o, vs, h1, h2⟩ := h; exact ⟨_, h1, fun ps z => (by cases z), not_ext fun f z => (by cases z)⟩
  | dct ds => obtain ⟨vs, h1, h2⟩ := h; exact ⟨_, h1, fun ps z => (by cases z), not_ext fun f z => (by cases z)⟩
  | fdct ds => obtain ⟨o, vs, h1, h2⟩ := h; exact ⟨_, h1, fun ps z => (by cases z), not_ext fun f z => (by cases z)⟩
  | set _ => exact h.elim
  | ins c fs => obtain ⟨C, dx, gs, h1, h2, h3⟩ := h; exact ⟨_, h1, fun ps z => (by cases z), not_ext fun f z => (by cases z)⟩
  | ndc kvs => obtain ⟨vs, h1, _⟩ := h; exact ⟨_, h1, cold_dno, fun q => dno_code⟩
theorem ObjR.pl (h : ObjR g w H a o) : Pl H a := by
  obtain ⟨u, h1, h2, _⟩ := h.there
  exact ⟨u, h1, h2⟩
/-- tables where an object that is neither a table nor a code object is written -/
theorem tabs_upd {T : List (Addr × Str)} {p : Addr} {o : HO} (t : LamX.Tabs T H) (n1 : ∀ ps, H p ≠ some (.tbl ps)) (n2 : ∀ q, H p ≠ some (LamX.CodeO p q)) : LamX.Tabs T (upd H p o) := fun x hx => by
  obtain ⟨ps, h1, h2, h3⟩ := t x hx
  have e1 : x.1 ≠ p := fun e => n1 ps (by rw [← e]; exact h1)
  refine ⟨ps, by rw [upd_ne e1]; exact h1, h2, fun pos cv hc => ?_⟩
  obtain ⟨c, h4, h5⟩ := h3 pos cv hc
  have e2 : c ≠ p := fun e => n2 x.2 (by rw [← e]; exact h5)
  exact ⟨c, h4, by rw [upd_ne e2]; exact h5⟩
theorem tabs_none {T : List (Addr × Str)} {p : Addr} {o : HO} (t : LamX.Tabs T H) (n : H p = none) : LamX.Tabs T (upd H p o) := tabs_upd t (fun ps z => by rw [n] at z; cases z) (fun q z => by rw [n] at z; cases z)
theorem pl_none {p : Addr} {o : HO} (n : H p = none) : ∀ x, Pl H x → Pl (upd H p o) x := fun x ⟨u, h1, h2⟩ => ⟨u, by rw [upd_ne (ne_of_none h1 n)]; exact h1, h2⟩
theorem pl_upd {p : Addr} {o : HO} (c : Cold o) : ∀ x, Pl H x → Pl (upd H p o) x := fun x ⟨u, h1, h2⟩ => by
  by_cases q : x = p
  · subst q; exact ⟨o, upd_same, c⟩
  · exact ⟨u, by rw [upd_ne q]; exact h1, h2⟩
end

/-! ### a world in which the store z stands -/
structure Ok (g : Gb) (w : Wd) (z : PH) (H : Hp) : Prop where
  sub : Same w.B H
  off : ∀ (n : Nat) (a : Addr), w.io[n]? = some a → w.B a = none
  inj : ∀ (n m : Nat) (a : Addr), w.io[n]? = some a → w.io[m]? = some a → n = m
  len : w.io.length = z.n
  dom : ∀ (n : Nat) (a : Addr), w.io[n]? = some a → Pl H a
  obj : ∀ (n : Nat) (a : Addr) (o : PO), w.io[n]? = some a → z.get n = some o → ObjR g w H a o
  up : ∀ (n : Nat) (o : PO), z.get n = some o → D.ltAll (n + 1) o.vals = true ∨ ∃ l, z.low = some l ∧ l ≤ n
  tab : LamX.Tabs g.T H
  nt : ∀ (a : Addr) (o : HO), w.B a = some o → Cold o
structure Go (g : Gb) (w : Wd) (H : Hp) (z' : PH) (w' : Wd) (H' : Hp) : Prop where
  le : Wd.Le w w'
  ok : Ok g w' z' H'
  fr : ∀ (a : Addr) (o : HO), (∀ n : Nat, w.io[n]? ≠ some a) → Cold o → H a = some o → H' a = some o
  gr : ∀ (n : Nat) (a : Addr), w'.io[n]? = some a → w.io[n]? = some a ∨ ¬ Pl H a
  ex : ∀ a : Addr, Pl H a → Pl H' a
  sep : ∀ a : Addr, w.B a = none → Pl H a → w'.B a = none
  fz : ∀ (a : Addr) (o : Obj) (u : HO), H a = some (.frz o u) → H' a = some (.frz o u)
section
variable {g : Gb} {w w' w2 : Wd} {z z' z2 : PH} {H H' H2 : Hp}
theorem Go.refl (h : Ok g w z H) : Go g w H z w H := ⟨.refl w, h, fun _ _ _ _ h => h, fun _ _ h => .inl h, fun _ h => h, fun _ h _ => h, fun _ _ _ h => h⟩
theorem Go.trans (a : Go g w H z' w' H') (b : Go g w' H' z2 w2 H2) : Go g w H z2 w2 H2 := by
  refine ⟨a.le.trans b.le, b.ok, fun x o n c h => b.fr x o (fun m e => ?_) c (a.fr x o n c h), fun n x e => ?_, fun x h => b.ex x (a.ex x h), fun x h1 h2 => b.sep x (a.sep x h1 h2) (a.ex x h2), fun x o u h => b.fz x o u (a.fz x o u h)⟩
  · rcases a.gr m x e with q | q
    · exact n m q
    · exact q ⟨o, h, c⟩
  · rcases b.gr n x e with q | q
    · exact a.gr n x q
    · exact .inr fun h => q (a.ex x h)
theorem Ok.fresh (h : Ok g w z H) {p : Addr} (hp : H p = none) : (∀ n : Nat, w.io[n]? ≠ some p) ∧ w.B p = none := by
  refine ⟨fun n e => ?_, ?_⟩
  · obtain ⟨u, h1, _⟩ := h.dom n p e
    rw [hp] at h1; cases h1
  cases e : w.B p with
  | none => rfl
  | some u => rw [h.sub p u e] at hp; cases hp
/-- a new object that never changes (a tuple) -/
theorem Go.new {p : Addr} {o : HO} (h : Ok g w z H) (hp : H p = none) (ho : Cold o) : Go g w H z ⟨w.io, upd w.B p o, w.op⟩ (upd H p o) := by
  obtain ⟨nI, nB⟩ := h.fresh hp
  have le : Wd.Le w ⟨w.io, upd w.B p o, w.op⟩ := ⟨fun _ _ e => e, fun a u e => by
    show upd w.B p o a = some u
    rw [upd_ne (ne_of_none e nB)]; exact e, rfl⟩
  have neI : ∀ (n : Nat) (a : Addr), w.io[n]? = some a → a ≠ p := fun n a e q => nI n (by rw [← q]; exact e)
  refine ⟨le, ⟨fun a u e => ?_, fun n a e => ?_, h.inj, h.len, fun n a e => pl_none hp a (h.dom n a e), fun n a q e1 e2 => ?_, h.up, tabs_none h.tab hp, fun a u e => ?_⟩, fun a u _ _ e => ?_, fun n a e => .inl e, pl_none hp, fun a e1 e2 => ?_, fun a o' u e => by rw [upd_ne (ne_of_none e hp)]; exact e⟩
  · have e : upd w.B p o a = some u := e
    by_cases q : a = p
    · subst q; rw [upd_same] at e ⊢; exact e
    · rw [upd_ne q] at e ⊢; exact h.sub a u e
  · show upd w.B p o a = none
    rw [upd_ne (neI n a e)]; exact h.off n a e
  · exact (h.obj n a q e1 e2).mono le (by rw [upd_ne (neI n a e1)])
  · have e : upd w.B p o a = some u := e
    by_cases q : a = p
    · subst q; rw [upd_same] at e; cases e; exact ho
    · rw [upd_ne q] at e; exact h.nt a u e
  · rw [upd_ne (ne_of_none e hp)]; exact e
  · show upd w.B p o a = none
    rw [upd_ne (fun z => by obtain ⟨u, h1, _⟩ := e2; rw [z, hp] at h1; cases h1)]; exact e1
/-- the world behind a new object of the store -/
def Wd.snoc (w : Wd) (p : Addr) : Wd := ⟨w.io ++ [p], w.B, w.op⟩
theorem Wd.le_snoc {w : Wd} {p : Addr} : Wd.Le w (w.snoc p) := ⟨fun n a e => by
  show (w.io ++ [p])[n]? = some a
  rw [List.getElem?_append_left (List.getElem?_eq_some_iff.mp e).1]; exact e, Same.refl _, rfl⟩
theorem Wd.snoc_last {w : Wd} {p : Addr} {n : Nat} (h : w.io.length = n) : (w.snoc p).io[n]? = some p := by
  show (w.io ++ [p])[n]? = some p
  subst h; simp
theorem Wd.snoc_cases {w : Wd} {p a : Addr} {n : Nat} (e : (w.snoc p).io[n]? = some a) : w.io[n]? = some a ∨ (n = w.io.length ∧ a = p) := by
  have e : (w.io ++ [p])[n]? = some a := e
  by_cases h : n < w.io.length
  · rw [List.getElem?_append_left h] at e; exact .inl e
  · rw [List.getElem?_append_right (by omega)] at e
    have : n - w.io.length = 0 := by
      obtain ⟨q, _⟩ := List.getElem?_eq_some_iff.mp e
      simp at q; omega
    rw [this] at e
    simp at e
    exact .inr ⟨by omega, e.symm⟩
mutual
theorem Rv.lt (hl : w.io.length ≤ n) : ∀ {v : V} {d : D}, Rv g w v d → d.lt n = true
  | _, _, .non => rfl
  | _, _, .bl b => rfl
  | _, _, .int i => rfl
  | _, _, .str x => rfl
  | _, _, .rep p => rfl
  | _, _, .tup h a => by rw [D.lt]; exact RvA.lt hl a
  | _, _, .klst h a => by rw [D.lt]; exact RvA.lt hl a
  | _, _, .ref h => by
    rw [D.lt]
    have := (List.getElem?_eq_some_iff.mp h).1
    exact (decide_eq_true (by omega))
  | _, _, .gl h r => rfl
  | _, _, .ty n => rfl
  | _, _, .op _ => rfl
  | _, _, .exn _ _ _ _ h => by rw [D.lt]; exact RvA.lt hl h
theorem RvA.lt (hl : w.io.length ≤ n) : ∀ {vs : List V} {ds : List D}, RvA g w vs ds → D.ltAll n ds = true
  | _, _, .nil => rfl
  | _, _, .cons h t => by rw [D.ltAll, Rv.lt hl h, RvA.lt hl t]; rfl
end
theorem KvR.lt (hl : w.io.length ≤ n) : ∀ {r : List (Key × V)} {s : List (D × D)}, KvR g w r s → D.ltAll n (s.map (·.2)) = true
  | _, _, .nil => rfl
  | _, _, .cons _ h t => by rw [List.map_cons, D.ltAll, Rv.lt hl h, KvR.lt hl t]; rfl
theorem FsR.lt (hl : w.io.length ≤ n) : ∀ {r : List (Str × V)} {s : List (Str × D)}, FsR g w r s → D.ltAll n (s.map (·.2)) = true
  | _, _, .nil => rfl
  | _, _, .cons h t => by rw [List.map_cons, D.ltAll, Rv.lt hl h, FsR.lt hl t]; rfl
theorem NvR.lt (hl : w.io.length ≤ n) : ∀ {r : List (NestedKey × Addr × V)} {s : List (D × D)}, NvR g w r s → D.ltAll n (s.map (·.2)) = true
  | _, _, .nil => rfl
  | _, _, .cons _ _ _ h t => by rw [List.map_cons, D.ltAll, Rv.lt hl h, NvR.lt hl t]; rfl
theorem ObjR.lt {a : Addr} {o : PO} (hl : w.io.length ≤ n) (h : ObjR g w H a o) : D.ltAll n o.vals = true := by
  cases o with
  | lst ds => obtain ⟨vs, h1, h2⟩ := h; exact h2.lt hl
  | flst ds => obtain ⟨o, vs, h1, h2⟩ := h; exact h2.lt hl
  | dct ds => obtain ⟨vs, h1, h2⟩ := h; exact h2.lt hl
  | fdct ds => obtain ⟨o, vs, h1, h2⟩ := h; exact h2.lt hl
  | set _ => exact h.elim
  | ins c fs => obtain ⟨C, dx, gs, h1, h2, h3⟩ := h; exact h3.lt hl
  | ndc kvs => obtain ⟨vs, h1, h2, h3, h4⟩ := h; exact h3.lt hl
/-- a new object of the store: what it holds stood before -/
theorem Go.make {p : Addr} {o : HO} {q : PO} (h : Ok g w z H) (hp : H p = none) (hq : ObjR g w (upd H p o) p q) : Go g w H (z.new q) (w.snoc p) (upd H p o) := by
  have ho : Cold o := by
    obtain ⟨u, h1, h2, _⟩ := hq.there
    rw [upd_same] at h1; cases h1; exact h2
  obtain ⟨nI, nB⟩ := h.fresh hp
  have neI : ∀ (n : Nat) (a : Addr), w.io[n]? = some a → a ≠ p := fun n a e q => nI n (by rw [← q]; exact e)
  refine ⟨Wd.le_snoc, ⟨fun a u e => ?_, fun n a e => ?_, fun n m a e1 e2 => ?_, ?_, fun n a e => ?_, fun n a r e1 e2 => ?_, fun n r e => ?_, tabs_none h.tab hp, h.nt⟩, fun a u _ _ e => ?_, fun n a e => ?_, pl_none hp, fun a e1 e2 => e1, fun a o' u e => by rw [upd_ne (ne_of_none e hp)]; exact e⟩
  · rw [upd_ne (ne_of_none (h.sub a u e) hp)]; exact h.sub a u e
  · rcases Wd.snoc_cases e with e | ⟨_, e⟩
    · exact h.off n a e
    · rw [e]; exact nB
  · rcases Wd.snoc_cases e1 with e1 | ⟨h1, e1⟩ <;> rcases Wd.snoc_cases e2 with e2 | ⟨h2, e2⟩
    · exact h.inj n m a e1 e2
    · exact absurd e2 (neI n a e1)
    · exact absurd e1 (neI m a e2)
    · omega
  · show (w.io ++ [p]).length = (z.new q).n
    rw [PH.n_new, List.length_append, h.len]; rfl
  · rcases Wd.snoc_cases e with e | ⟨_, e⟩
    · exact pl_none hp a (h.dom n a e)
    · rw [e]; exact ⟨o, upd_same, ho⟩
  · rw [PH.get_new] at e2
    rcases Wd.snoc_cases e1 with e1 | ⟨h1, e1⟩
    · have : n ≠ z.n := by
        have := (List.getElem?_eq_some_iff.mp e1).1
        rw [h.len] at this; omega
      rw [if_neg this] at e2
      exact (h.obj n a r e1 e2).mono Wd.le_snoc (by rw [upd_ne (neI n a e1)])
    · rw [if_pos (by rw [h1, h.len])] at e2
      cases e2
      rw [e1]
      exact hq.mono Wd.le_snoc rfl
  · rw [PH.get_new] at e
    by_cases c : n = z.n
    · rw [if_pos c] at e
      cases e
      exact .inl (D.ltAll_mono (Nat.le_succ _) (hq.lt (Nat.le_of_eq (by rw [h.len, c]))))
    · rw [if_neg c] at e
      rw [PH.low_new]; exact h.up n r e
  · rw [upd_ne (ne_of_none e hp)]; exact e
  · rcases Wd.snoc_cases e with e | ⟨_, e⟩
    · exact .inl e
    · rw [e]; exact .inr fun ⟨u, h1, _⟩ => by rw [hp] at h1; cases h1
/-- an object of the store is changed -/
theorem Go.set {k : Nat} {p : Addr} {o : HO} {q : PO} {vs : List D} (h : Ok g w z H) (hk : w.io[k]? = some p) (hq : ObjR g w (upd H p o) p q) (hv : ∀ r, z.get k = some r → ∀ x ∈ q.vals, x ∈ r.vals ∨ x ∈ vs) (hr : ∃ r, z.get k = some r) (hz : ∀ (o' : Obj) (u : HO), H p ≠ some (.frz o' u)) : Go g w H (z.put k q vs) w (upd H p o) := by
  have hkn : k < z.n := by
    have := (List.getElem?_eq_some_iff.mp hk).1
    rw [h.len] at this; exact this
  have hB := h.off k p hk
  have ho : Cold o := by
    obtain ⟨u, h1, h2, _⟩ := hq.there
    rw [upd_same] at h1; cases h1; exact h2
  have old : ∃ u, H p = some u ∧ Cold u ∧ ∀ q, u ≠ LamX.CodeO p q := by
    obtain ⟨r, hr'⟩ := hr
    exact (h.obj k p r hk hr').there
  obtain ⟨u0, hu0, hc0, hx0⟩ := old
  refine ⟨.refl w, ⟨fun a u e => ?_, h.off, h.inj, (PH.n_put _ _ _ _).symm ▸ h.len, fun n a e => pl_upd ho a (h.dom n a e), fun n a r e1 e2 => ?_, fun n r e => ?_, tabs_upd h.tab (fun ps z => by rw [hu0] at z; exact hc0 ps (Option.some.inj z)) (fun q z => by rw [hu0] at z; exact hx0 _ (Option.some.inj z)), h.nt⟩, fun a u n _ e => ?_, fun n a e => .inl e, pl_upd ho, fun a e _ => e, fun a o' u e => by rw [upd_ne (fun q => hz o' u (by rw [← q]; exact e))]; exact e⟩
  · rw [upd_ne (ne_of_none e hB)]; exact h.sub a u e
  · rw [PH.get_put _ _ _ _ _ hkn] at e2
    by_cases c : n = k
    · rw [if_pos c] at e2
      cases e2
      rw [c, hk] at e1
      cases e1
      exact hq
    · rw [if_neg c] at e2
      refine (h.obj n a r e1 e2).mono (.refl w) (by rw [upd_ne]; intro e; exact c (h.inj n k p (by rw [← e]; exact e1) hk))
  · rw [PH.get_put _ _ _ _ _ hkn] at e
    by_cases c : n = k
    · rw [if_pos c] at e
      cases e
      subst c
      obtain ⟨r0, hr0⟩ := hr
      by_cases lv : D.ltAll (n + 1) vs = true
      · rcases h.up n r0 hr0 with u | ⟨l, u1, u2⟩
        · refine .inl (D.ltAll_iff.mpr fun x hx => ?_)
          rcases hv r0 hr0 x hx with m | m
          · exact D.ltAll_iff.mp u x m
          · exact D.ltAll_iff.mp lv x m
        · exact .inr ⟨l, by unfold PH.put; simp only [lv, if_true]; exact u1, u2⟩
      · refine .inr ⟨_, by unfold PH.put; simp only [if_neg lv]; rfl, ?_⟩
        cases z.low with
        | none => exact Nat.le_refl _
        | some l => exact Nat.min_le_left _ _
    · rw [if_neg c] at e
      rcases h.up n r e with u | ⟨l, u1, u2⟩
      · exact .inl u
      · unfold PH.put
        by_cases lv : D.ltAll (k + 1) vs = true
        · exact .inr ⟨l, by simp only [lv, if_true]; exact u1, u2⟩
        · refine .inr ⟨min k l, by simp only [if_neg lv, u1], Nat.le_trans (Nat.min_le_right _ _) u2⟩
  · rw [upd_ne (fun e => n k (by rw [e]; exact hk))]; exact e
/-- what was made since is forgotten -/
theorem Go.cut {m : Nat} (a : Go g w H z' w' H') (hm : w.io.length = m) (hl : z'.lowOk m = true) : Go g w H (z'.cut m) ⟨w.io, w'.B, w.op⟩ H' := by
  have hc : z'.cut m = { z' with n := m } := by unfold PH.cut; rw [if_pos hl]
  have hle : m ≤ z'.n := by
    rw [← a.ok.len]
    cases e : decide (m ≤ w'.io.length) with
    | true => exact of_decide_eq_true e
    | false =>
      have := of_decide_eq_false e
      have h2 : w'.io.length < w.io.length := by omega
      have h3 : w.io[w'.io.length]? = some w.io[w'.io.length] := by simp [h2]
      have h4 := (List.getElem?_eq_some_iff.mp (a.le.io _ _ h3)).1
      omega
  have hg : ∀ n, n < m → ({ z' with n := m } : PH).get n = z'.get n := fun n h => by unfold PH.get; simp only; rw [if_pos h, if_pos (by omega)]
  have hlo : ∀ n, n < m → ∀ l, z'.low = some l → ¬ l ≤ n := fun n h l e q => by
    unfold PH.lowOk at hl
    rw [e] at hl
    have := of_decide_eq_true hl
    omega
  rw [hc]
  refine ⟨⟨fun _ _ e => e, a.le.B, rfl⟩, ⟨a.ok.sub, fun n x e => a.ok.off n x (a.le.io n x e), fun n k x e1 e2 => a.ok.inj n k x (a.le.io _ _ e1) (a.le.io _ _ e2), hm, fun n x e => a.ok.dom n x (a.le.io _ _ e), fun n x o e1 e2 => ?_, fun n o e => ?_, a.ok.tab, a.ok.nt⟩, a.fr, fun n x e => .inl e, a.ex, a.sep, a.fz⟩
  · have hn : n < m := by rw [← hm]; exact (List.getElem?_eq_some_iff.mp e1).1
    rw [hg n hn] at e2
    refine (a.ok.obj n x o (a.le.io _ _ e1) e2).cut (w := w') (w' := ⟨w.io, w'.B, w.op⟩) (Same.refl _) a.le.op.symm (m := m) (fun i y hi ey => ?_) ?_
    · have : w.io[i]? = some w.io[i] := by simp [hm, hi]
      have h2 := a.le.io _ _ this
      rw [ey] at h2
      cases h2
      exact this
    · rcases a.ok.up n o e2 with u | ⟨l, u1, u2⟩
      · exact D.ltAll_mono (by omega) u
      · exact absurd u2 (hlo n hn l u1)
  · have hn : n < m := PH.get_lt e
    rw [hg n hn] at e
    rcases a.ok.up n o e with u | ⟨l, u1, u2⟩
    · exact .inl u
    · exact absurd u2 (hlo n hn l u1)
theorem Go.cutV {m : Nat} {v : V} {d : D} (a : Go g w H z' w' H') (hm : w.io.length = m) (r : Rv g w' v d) (hd : d.lt m = true) : Rv g ⟨w.io, w'.B, w.op⟩ v d := by
  refine r.cut (w := w') (w' := ⟨w.io, w'.B, w.op⟩) (Same.refl _) a.le.op.symm (m := m) (fun i y hi ey => ?_) hd
  have : w.io[i]? = some w.io[i] := by simp [hm, hi]
  have h2 := a.le.io _ _ this
  rw [ey] at h2
  cases h2
  exact this
end
end UW

/-! U3 -/
namespace UW
open PySem PySem.Spec PyProof.Rows L2

abbrev XD := Str → List (Str × D) → PH → Prop
def Sat {α : Type} (o : Out α) (P : α → PH → Prop) (E : XD) : Prop := match o with
  | .ok a h => P a h
  | .exc c fs h => E c fs h
  | .bad => False
theorem sat_bind {α β : Type} {m : M α} {f : α → M β} {z : PH} {P : β → PH → Prop} {E : XD} (h : Sat (mBind m f z) P E) : Sat (m z) (fun a z' => Sat (f a z') P E) E := by
  unfold mBind at h
  cases e : m z with
  | ok a z' => rw [e] at h; exact h
  | exc c fs z' => rw [e] at h; exact h
  | bad => rw [e] at h; exact h
theorem sat_mono {α : Type} {o : Out α} {P P' : α → PH → Prop} {E E' : XD} (h : Sat o P E) (hp : ∀ a z, P a z → P' a z) (he : ∀ c fs z, E c fs z → E' c fs z) : Sat o P' E' := by
  cases o with
  | ok a z => exact hp _ _ h
  | exc c fs z => exact he _ _ _ h
  | bad => exact h
theorem sat_get {β : Type} {d : D} {f : Nat → PO → M β} {z : PH} {P : β → PH → Prop} {E : XD} (h : Sat (mGet d f z) P E) : ∃ r o, d = .ref r ∧ z.get r = some o ∧ Sat (f r o z) P E := by
  unfold mGet at h
  cases d with
  | ref r =>
    cases e : z.get r with
    | none => simp only [e] at h; exact h.elim
    | some o => simp only [e] at h; exact ⟨r, o, rfl, e, h⟩
  | _ => exact (show False from h).elim
theorem sat_ite {α : Type} {c : Prop} [Decidable c] {a b : M α} {z : PH} {P : α → PH → Prop} {E : XD} (h : Sat ((if c then a else b) z) P E) : (c ∧ Sat (a z) P E) ∨ (¬ c ∧ Sat (b z) P E) := by
  by_cases q : c
  · rw [if_pos q] at h; exact .inl ⟨q, h⟩
  · rw [if_neg q] at h; exact .inr ⟨q, h⟩
theorem sat_if {α : Type} {c : Prop} [Decidable c] {a : M α} {z : PH} {P : α → PH → Prop} {E : XD} (h : Sat ((if c then a else mBad) z) P E) : c ∧ Sat (a z) P E := by
  rcases sat_ite h with q | ⟨_, q⟩
  · exact q
  · exact (show False from q).elim

/-- an exception as the model has it: its class, its own dict -/
def ExR (g : Gb) (w : Wd) (c : Str) (fs : List (Str × D)) (C dd : Addr) : Prop := g.mg c = some (.ref C) ∧ ∃ gs, w.B dd = some (.xd gs) ∧ FsR g w gs fs
structure EnvOk (g : Gb) (w : Wd) (σ : L2.St) (ρ : Env) : Prop where
  len : σ.length = ρ.length
  dat : ∀ (i : Nat) (d : D), ρ[i]? = some (some d) → ∃ v, σ[i]? = some (some v) ∧ Rv g w v d
section
variable {g : Gb} {w w' : Wd} {σ : L2.St} {ρ : Env}
theorem EnvOk.mono (h : EnvOk g w σ ρ) (e : Wd.Le w w') : EnvOk g w' σ ρ := ⟨h.len, fun i d q => let ⟨v, a, b⟩ := h.dat i d q; ⟨v, a, b.mono e⟩⟩
theorem EnvOk.set (h : EnvOk g w σ ρ) {i : Nat} {v : V} {d : D} (hd : Rv g w v d) : EnvOk g w (σ.set i (some v)) (ρ.set i (some d)) := by
  refine ⟨by simpa using h.len, fun j e q => ?_⟩
  by_cases hj : i = j
  · subst hj
    by_cases hi : i < ρ.length
    · rw [List.getElem?_set_self hi] at q; cases q
      exact ⟨v, List.getElem?_set_self (by rw [h.len]; exact hi), hd⟩
    · rw [List.getElem?_eq_none (by simpa using Nat.le_of_not_lt hi)] at q; cases q
  · rw [List.getElem?_set_ne hj] at q ⊢; exact h.dat j e q
theorem EnvOk.forget (h : EnvOk g w σ ρ) {i : Nat} {v : Option V} : EnvOk g w (σ.set i v) (ρ.set i none) := by
  refine ⟨by simpa using h.len, fun j e q => ?_⟩
  by_cases hj : i = j
  · subst hj
    by_cases hi : i < ρ.length
    · rw [List.getElem?_set_self hi] at q; cases q
    · rw [List.getElem?_eq_none (by simpa using Nat.le_of_not_lt hi)] at q; cases q
  · rw [List.getElem?_set_ne hj] at q ⊢; exact h.dat j e q
end

/-- the wish behind an expression -/
def QV (g : Gb) (w : Wd) (H : Hp) (Q : VK) : D → PH → Prop := fun d z' => ∀ w' v H', Go g w H z' w' H' → Rv g w' v d → Q v H'
def QX (g : Gb) (w : Wd) (H : Hp) (σ : L2.St) (W : WX) : XD := fun c fs z' => ∀ C dd w' H', Go g w H z' w' H' → ExR g w' c fs C dd → W (.ref C) (some dd) σ H'
def EvE (g : Gb) (W : WX) (te : TE) (de : DE) : Prop := ∀ (w : Wd) (σ : L2.St) (H : Hp) (z : PH) (ρ : Env), EnvOk g w σ ρ → Ok g w z H → ∀ Q : VK, Sat (de ρ z) (QV g w H Q) (QX g w H σ W) → te σ H Q
def EvA (g : Gb) (W : WX) (ta : TA) (n : Nat) (da : DA) : Prop := ∀ (w : Wd) (σ : L2.St) (H : Hp) (z : PH) (ρ : Env), EnvOk g w σ ρ → Ok g w z H → ∀ Q : List V → Hp → Prop,
  Sat (da ρ z) (fun ds z' => ds.length = n → ∀ w' vs H', Go g w H z' w' H' → RvA g w' vs ds → Q vs H') (QX g w H σ W) → ta σ H Q
def EvT (g : Gb) (W : WX) (tt : TT) (dt : DT) : Prop := ∀ (w : Wd) (σ : L2.St) (H : Hp) (z : PH) (ρ : Env), EnvOk g w σ ρ → Ok g w z H → ∀ Q : Bool → Hp → Prop,
  Sat (dt ρ z) (fun b z' => ∀ w' H', Go g w H z' w' H' → Q b H') (QX g w H σ W) → tt σ H Q
/-- by values -/
def RW1 (g : Gb) (r : V → Hp → VK → Prop) (f : D → M D) : Prop := ∀ w H z x dx, Ok g w z H → Rv g w x dx → ∀ Q : VK, Sat (f dx z) (QV g w H Q) (fun _ _ _ => False) → r x H Q
def RW (g : Gb) (r : R2) (f : D → D → M D) : Prop := ∀ w H z x y dx dy, Ok g w z H → Rv g w x dx → Rv g w y dy → ∀ Q : VK, Sat (f dx dy z) (QV g w H Q) (fun _ _ _ => False) → r x y H Q
def RWs (g : Gb) (r : List V → Hp → VK → Prop) (f : List D → M D) : Prop := ∀ w H z vs ds, Ok g w z H → RvA g w vs ds → ∀ Q : VK, Sat (f ds z) (QV g w H Q) (fun _ _ _ => False) → r vs H Q
/-- no exception comes of it -/
def NoX {α : Type} (m : M α) : Prop := ∀ z, match m z with | .exc .. => False | _ => True
theorem nox_pure {α : Type} {a : α} : NoX (mPure a) := fun _ => trivial
theorem nox_bad {α : Type} : NoX (mBad : M α) := fun _ => trivial
theorem nox_new {o : PO} : NoX (mNew o) := fun _ => trivial
theorem nox_bind {α β : Type} {m : M α} {f : α → M β} (h : NoX m) (k : ∀ a, NoX (f a)) : NoX (mBind m f) := fun z => by
  have hz := h z
  unfold mBind
  cases e : m z with
  | ok a z' => exact k a z'
  | exc c fs z' => rw [e] at hz; exact hz
  | bad => trivial
theorem nox_ite {α : Type} {c : Prop} [Decidable c] {a b : M α} (h : NoX a) (k : NoX b) : NoX (if c then a else b) := by
  by_cases q : c
  · rw [if_pos q]; exact h
  · rw [if_neg q]; exact k
theorem nox_get {β : Type} {d : D} {f : Nat → PO → M β} (h : ∀ r o, NoX (f r o)) : NoX (mGet d f) := fun z => by
  unfold mGet
  cases d with
  | ref r =>
    simp only
    cases e : z.get r with
    | none => trivial
    | some o => exact h r o z
  | _ => trivial
theorem nox_put {r : Nat} {o : PO} {vs : List D} : NoX (mPut r o vs) := fun _ => trivial
theorem Sat.nox {α : Type} {m : M α} {z : PH} {P : α → PH → Prop} {E E' : XD} (n : NoX m) (h : Sat (m z) P E) : Sat (m z) P E' := by
  have nz := n z
  cases e : m z with
  | ok a z' => rw [e] at h; exact h
  | exc c fs z' => rw [e] at nz; exact nz.elim
  | bad => rw [e] at h; exact h
section
variable {g : Gb} {W : WX} {ta tb tc te : TE} {a b c : DE}
theorem QV.at {w w' : Wd} {H H' : Hp} {z' : PH} {Q : VK} (go : Go g w H z' w' H') {d : D} {z2 : PH} (h : QV g w H Q d z2) : QV g w' H' Q d z2 := fun w2 v H2 g2 r => h w2 v H2 (go.trans g2) r
theorem QX.at {w w' : Wd} {H H' : Hp} {z' : PH} {σ : L2.St} (go : Go g w H z' w' H') {cc : Str} {fs : List (Str × D)} {z2 : PH} (h : QX g w H σ W cc fs z2) : QX g w' H' σ W cc fs z2 := fun C dd w2 H2 g2 r => h C dd w2 H2 (go.trans g2) r
theorem ev_bad : EvE g W te dBad := fun w σ H z ρ E o Q h => (show False from h).elim
theorem ev_var {i : Nat} : EvE g W (tVar i) (dVar i) := fun w σ H z ρ E o Q h => by
  unfold dVar at h
  match e : ρ[i]? with
  | some (some d) =>
    rw [e] at h
    obtain ⟨v, h1, h2⟩ := E.dat i d e
    exact ⟨v, h1, h w v H (.refl o) h2⟩
  | some none => rw [e] at h; exact (show False from h).elim
  | none => rw [e] at h; exact (show False from h).elim
theorem ev_c {v : V} {d : D} (h : ∀ w, Rv g w v d) : EvE g W (tC v) (dC d) := fun w σ H z ρ E o Q k => k w v H (.refl o) (h w)
theorem ev_op {r : R2} {f : D → D → M D} (hr : RW g r f) (hf : ∀ x y, NoX (f x y)) (ha : EvE g W ta a) (hb : EvE g W tb b) : EvE g W (tOp r ta tb) (d2 f a b) := fun w σ H z ρ E o Q h =>
  ha w σ H z ρ E o _ (sat_mono (sat_bind h) (fun x z1 s1 w1 vx H1 g1 r1 => hb w1 σ H1 z1 ρ (E.mono g1.le) g1.ok _ (sat_mono (sat_bind s1) (fun y z2 s2 w2 vy H2 g2 r2 =>
    hr w2 H2 z2 vx vy x y g2.ok (r1.mono g2.le) r2 Q (Sat.nox (hf x y) (sat_mono s2 (fun d z3 q => (q.at (g1.trans g2))) fun _ _ _ q => q))) fun _ _ _ q => q.at g1)) fun _ _ _ q => q)
theorem ev_un {r : V → Hp → VK → Prop} {f : D → M D} (hr : RW1 g r f) (hf : ∀ x, NoX (f x)) (ha : EvE g W ta a) : EvE g W (tUn r ta) (d1 f a) := fun w σ H z ρ E o Q h =>
  ha w σ H z ρ E o _ (sat_mono (sat_bind h) (fun x z1 s1 w1 vx H1 g1 r1 => hr w1 H1 z1 vx x g1.ok r1 Q (Sat.nox (hf x) (sat_mono s1 (fun d z3 q => q.at g1) fun _ _ _ q => q))) fun _ _ _ q => q)
theorem sat_bool {d : D} {z : PH} {P : Bool → PH → Prop} {E : XD} (h : Sat (mBool d z) P E) : ∃ k, d = .bl k ∧ P k z := by
  cases d with
  | bl k => exact ⟨k, rfl, h⟩
  | _ => exact (show False from h).elim
/-! tests -/
theorem et_test (ha : EvE g W ta a) : EvT g W (tTest ta) (tBool a) := fun w σ H z ρ E o Q h =>
  ha w σ H z ρ E o _ (sat_mono (sat_bind h) (fun x z1 s1 w1 vx H1 g1 r1 => by
    obtain ⟨k, rfl, q⟩ := sat_bool s1
    cases r1 with
    | bl => exact ⟨k, rfl, q w1 H1 g1⟩) fun _ _ _ q => q)
theorem et_B (ha : EvE g W ta a) : EvT g W (tB ta) (tBool a) := fun w σ H z ρ E o Q h =>
  ha w σ H z ρ E o _ (sat_mono (sat_bind h) (fun x z1 s1 w1 vx H1 g1 r1 => by
    obtain ⟨k, rfl, q⟩ := sat_bool s1
    cases r1 with
    | bl => exact ⟨k, rfl, q w1 H1 g1⟩) fun _ _ _ q => q)
variable {t u : TT} {p q : DT}
theorem et_and (h1 : EvT g W t p) (h2 : EvT g W u q) : EvT g W (tAnd t u) (tAndD p q) := fun w σ H z ρ E o Q h =>
  h1 w σ H z ρ E o _ (sat_mono (sat_bind h) (fun k z1 s1 w1 H1 g1 => by
    cases k with
    | true => exact h2 w1 σ H1 z1 ρ (E.mono g1.le) g1.ok _ (sat_mono s1 (fun k2 z2 q w2 H2 g2 => q w2 H2 (g1.trans g2)) fun _ _ _ q => q.at g1)
    | false => exact s1 w1 H1 g1) fun _ _ _ q => q)
theorem et_or (h1 : EvT g W t p) (h2 : EvT g W u q) : EvT g W (tOr t u) (tOrD p q) := fun w σ H z ρ E o Q h =>
  h1 w σ H z ρ E o _ (sat_mono (sat_bind h) (fun k z1 s1 w1 H1 g1 => by
    cases k with
    | false => exact h2 w1 σ H1 z1 ρ (E.mono g1.le) g1.ok _ (sat_mono s1 (fun k2 z2 q w2 H2 g2 => q w2 H2 (g1.trans g2)) fun _ _ _ q => q.at g1)
    | true => exact s1 w1 H1 g1) fun _ _ _ q => q)
theorem et_not (h1 : EvT g W t p) : EvT g W (tNot t) (tNotD p) := fun w σ H z ρ E o Q h =>
  h1 w σ H z ρ E o _ (sat_mono (sat_bind h) (fun k z1 s1 w1 H1 g1 => s1 w1 H1 g1) fun _ _ _ q => q)
theorem ev_and (ha : EvE g W ta a) (hb : EvE g W tb b) : EvE g W (tAndV ta tb) (dAnd a b) := fun w σ H z ρ E o Q h =>
  ha w σ H z ρ E o _ (sat_mono (sat_bind h) (fun x z1 s1 w1 vx H1 g1 r1 => by
    obtain ⟨k, rfl, q⟩ := sat_bool (sat_bind s1)
    cases r1
    refine ⟨k, rfl, ?_⟩
    cases k with
    | true => exact hb w1 σ H1 z1 ρ (E.mono g1.le) g1.ok _ (sat_mono q (fun _ _ q => q.at g1) fun _ _ _ q => q.at g1)
    | false => exact q w1 _ H1 g1 (.bl false)) fun _ _ _ q => q)
theorem ev_or (ha : EvE g W ta a) (hb : EvE g W tb b) : EvE g W (tOrV ta tb) (dOr a b) := fun w σ H z ρ E o Q h =>
  ha w σ H z ρ E o _ (sat_mono (sat_bind h) (fun x z1 s1 w1 vx H1 g1 r1 => by
    obtain ⟨k, rfl, q⟩ := sat_bool (sat_bind s1)
    cases r1
    refine ⟨k, rfl, ?_⟩
    cases k with
    | false => exact hb w1 σ H1 z1 ρ (E.mono g1.le) g1.ok _ (sat_mono q (fun _ _ q => q.at g1) fun _ _ _ q => q.at g1)
    | true => exact q w1 _ H1 g1 (.bl true)) fun _ _ _ q => q)
theorem ev_not (ha : EvE g W ta a) : EvE g W (tNotV ta) (dNot a) := fun w σ H z ρ E o Q h =>
  ha w σ H z ρ E o _ (sat_mono (sat_bind h) (fun x z1 s1 w1 vx H1 g1 r1 => by
    obtain ⟨k, rfl, q⟩ := sat_bool (sat_bind s1)
    cases r1
    exact ⟨k, rfl, q w1 _ H1 g1 (.bl _)⟩) fun _ _ _ q => q)
theorem ev_if (h : EvT g W t p) (ha : EvE g W ta a) (hb : EvE g W tb b) : EvE g W (tIf t ta tb) (dIf p a b) := fun w σ H z ρ E o Q hq =>
  h w σ H z ρ E o _ (sat_mono (sat_bind hq) (fun k z1 s1 w1 H1 g1 => by
    cases k with
    | true => exact ha w1 σ H1 z1 ρ (E.mono g1.le) g1.ok _ (sat_mono s1 (fun _ _ q => q.at g1) fun _ _ _ q => q.at g1)
    | false => exact hb w1 σ H1 z1 ρ (E.mono g1.le) g1.ok _ (sat_mono s1 (fun _ _ q => q.at g1) fun _ _ _ q => q.at g1)) fun _ _ _ q => q)
theorem ev_chain {r r' : R2} {f f' : D → D → M D} (hr : RW g r f) (hr' : RW g r' f') (hf : ∀ x y, NoX (f x y)) (hf' : ∀ x y, NoX (f' x y)) (ha : EvE g W ta a) (hb : EvE g W tb b) (hc : EvE g W tc c) :
    EvE g W (tChain r r' ta tb tc) (dChain f f' a b c) := fun w σ H z ρ E o Q h =>
  ha w σ H z ρ E o _ (sat_mono (sat_bind h) (fun x z1 s1 w1 vx H1 g1 r1 => hb w1 σ H1 z1 ρ (E.mono g1.le) g1.ok _ (sat_mono (sat_bind s1) (fun y z2 s2 w2 vy H2 g2 r2 =>
    hr w2 H2 z2 vx vy x y g2.ok (r1.mono g2.le) r2 _ (Sat.nox (hf x y) (sat_mono (sat_bind s2) (fun d z3 s3 w3 vd H3 g3 r3 => by
      obtain ⟨k, rfl, q⟩ := sat_bool (sat_bind s3)
      cases r3
      refine ⟨k, rfl, ?_⟩
      have g13 := (g1.trans g2).trans g3
      cases k with
      | true =>
        exact hc w3 σ H3 z3 ρ (E.mono g13.le) g3.ok _ (sat_mono (sat_bind q) (fun cd z4 s4 w4 vc H4 g4 r4 =>
          hr' w4 H4 z4 vy vc y cd g4.ok ((r2.mono g3.le).mono g4.le) r4 Q (Sat.nox (hf' y cd) (sat_mono s4 (fun d5 z5 q5 => q5.at (g13.trans g4)) fun _ _ _ q => q))) fun _ _ _ q => q.at g13)
      | false => exact q w3 _ H3 g13 (.bl false)) fun _ _ _ q => q))) fun _ _ _ q => q.at g1)) fun _ _ _ q => q)
/-! argument lists, displays -/
theorem ea_nil : EvA g W tNil 0 aNil := fun w σ H z ρ E o Q h => h rfl w [] H (.refl o) .nil
theorem ea_cons {tr : TA} {n : Nat} {ar : DA} (ha : EvE g W ta a) (hr : EvA g W tr n ar) : EvA g W (tCons ta tr) (n + 1) (aCons a ar) := fun w σ H z ρ E o Q h =>
  ha w σ H z ρ E o _ (sat_mono (sat_bind h) (fun x z1 s1 w1 vx H1 g1 r1 => hr w1 σ H1 z1 ρ (E.mono g1.le) g1.ok _ (sat_mono (sat_bind s1) (fun ds z2 s2 hl w2 vs H2 g2 r2 =>
    (show QV g w H (fun _ _ => True) .non z2 → _ from fun _ => (show (x :: ds).length = n + 1 → ∀ w' vs H', Go g w H z2 w' H' → RvA g w' vs (x :: ds) → Q vs H' from s2) (by rw [List.length_cons, hl]) w2 (vx :: vs) H2 (g1.trans g2) (.cons (r1.mono g2.le) r2)) (fun _ _ _ _ _ => trivial)) fun _ _ _ q => q.at g1)) fun _ _ _ q => q)
variable {tA : TA} {n : Nat} {dA : DA}
theorem ev_tup (h : EvA g W tA n dA) (hn : n ≤ sizeLine) : EvE g W (tTupF tA) (dN fTup dA) := fun w σ H z ρ E o Q hq =>
  h w σ H z ρ E o _ (sat_mono (sat_bind hq) (fun ds z1 s1 hl w1 vs H1 g1 r1 => ⟨by rw [r1.length, hl]; exact hn, fun p ob hp hd => by
    have g2 := Go.new (o := .frz ob (.tup vs)) g1.ok hp (fun ps z => by cases z)
    exact s1 _ _ _ (g1.trans g2) (.tup (SqP.of upd_same hd) (r1.mono g2.le))⟩) fun _ _ _ q => q)
theorem ev_lst (h : EvA g W tA n dA) (hn : n ≤ sizeLine) : EvE g W (tLst tA) (dN fLst dA) := fun w σ H z ρ E o Q hq =>
  h w σ H z ρ E o _ (sat_mono (sat_bind hq) (fun ds z1 s1 hl w1 vs H1 g1 r1 => ⟨by rw [r1.length, hl]; exact hn, fun p hp => by
    have le : Wd.Le w1 w1 := .refl w1
    have g2 := Go.make (o := .lst vs) (q := .lst ds) g1.ok hp ⟨vs, upd_same, r1⟩
    exact s1 _ _ _ (g1.trans g2) (.ref (Wd.snoc_last (by rw [g1.ok.len])))⟩) fun _ _ _ q => q)
theorem ev_call {r : List V → Hp → VK → Prop} {f : List D → M D} (hr : RWs g r f) (hf : ∀ xs, NoX (f xs)) (h : EvA g W tA n dA) : EvE g W (tCB r tA) (dN f dA) := fun w σ H z ρ E o Q hq =>
  h w σ H z ρ E o _ (sat_mono (sat_bind hq) (fun ds z1 s1 hl w1 vs H1 g1 r1 => hr w1 H1 z1 vs ds g1.ok r1 Q (Sat.nox (hf ds) (sat_mono s1 (fun d z2 q => q.at g1) fun _ _ _ q => q))) fun _ _ _ q => q)
end
end UW

/-! UP2 -/
namespace UW
open PySem
/-! ### places -/
def ixD (n : Nat) (i : Int) : Option Nat := if 0 ≤ i then (if i < n then some i.toNat else none) else if -(n : Int) ≤ i then some (i + n).toNat else none
def atD (xs : List D) (i : Int) : Option D := match ixD xs.length i with
  | some j => xs[j]?
  | none => none
def letter (c : Nat) : D := .str ⟨#[c]⟩
def atC (s : Str) (i : Int) : Option D := match ixD s.cps.toList.length i with
  | some j => match s.cps.toList[j]? with
    | some c => some (letter c)
    | none => none
  | none => none
/-! dicts: keys are ints and texts -/
def kEq : D → D → Bool
  | .int i, .int j => decide (i = j)
  | .str s, .str t => decide (s = t)
  | _, _ => false
def D.isKey : D → Bool
  | .int _ | .str _ => true
  | _ => false
def kGet (k : D) : List (D × D) → Option D
  | [] => none
  | (k', v) :: r => if kEq k' k = true then some v else kGet k r
def kPut (k v : D) (kvs : List (D × D)) : List (D × D) :=
  if (kvs.any fun p => kEq p.1 k) = true then kvs.map (fun p => if kEq p.1 k = true then (p.1, v) else p) else kvs ++ [(k, v)]
def kDel (k : D) (kvs : List (D × D)) : List (D × D) := kvs.filter fun p => !kEq p.1 k
def PO.kvs : PO → Option (List (D × D))
  | .dct kvs | .fdct kvs => some kvs
  | _ => none
def fAt (xs : List D) : D → M D
  | .int i => mOpt (atD xs i)
  | _ => mBad
def fIxO (k : D) : PO → M D
  | .lst xs | .flst xs => fAt xs k
  | .dct kvs | .fdct kvs => if k.isKey = true then mOpt (kGet k kvs) else mBad
  | _ => mBad
def fIx (x k : D) : M D := match x with
  | .tup xs => fAt xs k
  | .str s => match k with
    | .int i => if s.length ≤ line then mOpt (atC s i) else mBad
    | _ => mBad
  | .ref r => mGet (.ref r) fun _ o => fIxO k o
  | _ => mBad
/-! slices -/
def sIxD (n : Nat) (whole : Nat) : Option Int → Nat
  | none => whole
  | some i => if 0 ≤ i then min i.toNat n else (i + n).toNat
def cutL {α : Type} (xs : List α) (lo hi : Option Int) : List α := (xs.drop (sIxD xs.length 0 lo)).take (sIxD xs.length xs.length hi - sIxD xs.length 0 lo)
def fSl (x : D) (lo hi : Option Int) : M D := match x with
  | .tup xs => mPure (.tup (cutL xs lo hi))
  | .str s => if s.length ≤ line then mPure (.str ⟨(cutL s.cps.toList lo hi).toArray⟩) else mBad
  | .ref r => mGet (.ref r) fun _ o => match o with
    | .lst xs | .flst xs => mNew (.lst (cutL xs lo hi))
    | _ => mBad
  | _ => mBad
abbrev DO := Env → M (Option Int)
def oNone : DO := fun _ => mPure none
def mInt : D → M Int
  | .int i => mPure i
  | _ => mBad
def oSome (a : DE) : DO := fun ρ => mBind (a ρ) fun x => mBind (mInt x) fun i => mPure (some i)
def dSlice (a : DE) (lo hi : DO) : DE := fun ρ => mBind (a ρ) fun x => mBind (lo ρ) fun l => mBind (hi ρ) fun u => fSl x l u
/-! in -/
def D.isSc : D → Bool
  | .str _ | .non | .bl _ | .int _ => true
  | _ => false
def eqF : D → D → Bool
  | .non, .non => true
  | .bl a, .bl b => a == b
  | .bl a, .int b => (if a = true then 1 else 0) == b
  | .int a, .bl b => a == (if b = true then 1 else 0)
  | .int a, .int b => decide (a = b)
  | .str a, .str b => decide (a = b)
  | _, _ => false
def inL (x : D) (xs : List D) : Bool := xs.any fun y => eqF y x
def fInB (x y : D) : M Bool := match y with
  | .str s => match x with
    | .str t => mPure (!(Builtin.Str.occurrences s t 0 s.length 1).isEmpty)
    | _ => mBad
  | .tup ys => if x.isSc = true ∧ ys.all D.isSc = true then mPure (inL x ys) else mBad
  | .ref r => mGet (.ref r) fun _ o => match o with
    | .lst ys | .flst ys => if x.isSc = true ∧ ys.all D.isSc = true then mPure (inL x ys) else mBad
    | .dct kvs | .fdct kvs => if x.isKey = true then mPure (kGet x kvs).isSome else mBad
    | _ => mBad
  | _ => mBad
def fIn (x y : D) : M D := mBind (fInB x y) fun b => mPure (.bl b)
def fNotIn (x y : D) : M D := mBind (fInB x y) fun b => mPure (.bl (!b))
def fNeg : D → M D
  | .int i => mPure (.int (-i))
  | _ => mBad
def fInv : D → M D
  | .int i => mPure (.int (Builtin.bitNot i))
  | _ => mBad
/-! truth -/
def fTru (x : D) : M Bool := match x with
  | .non => mPure false
  | .bl b => mPure b
  | .int i => mPure (decide (i ≠ 0))
  | .str s => if s.length ≤ line then mPure (decide (s.length ≠ 0)) else mBad
  | .tup xs => mPure (!xs.isEmpty)
  | .ref r => mGet (.ref r) fun _ o => match o with
    | .lst xs | .flst xs => mPure (!xs.isEmpty)
    | .dct kvs => mPure (!kvs.isEmpty)
    | _ => mBad
  | _ => mBad
def tTru (a : DE) : DT := fun ρ => mBind (a ρ) fTru
/-! built-in calls -/
def fLen : List D → M D
  | [.str s] => if s.length ≤ line then mPure (.int s.length) else mBad
  | [.tup xs] => mPure (.int xs.length)
  | [.klst xs] => mPure (.int xs.length)
  | [.ref r] => mGet (.ref r) fun _ o => match o with
    | .lst xs | .flst xs => mPure (.int xs.length)
    | .dct kvs => mPure (.int kvs.length)
    | _ => mBad
  | _ => mBad
def fListOf : List D → M D
  | [.tup xs] => mNew (.lst xs)
  | [.klst xs] => mNew (.lst xs)
  | [.ref r] => mGet (.ref r) fun _ o => match o with
    | .lst xs | .flst xs => mNew (.lst xs)
    | _ => mBad
  | _ => mBad
def fTupOf : List D → M D
  | [.tup xs] => mPure (.tup xs)
  | [.ref r] => mGet (.ref r) fun _ o => match o with
    | .lst xs | .flst xs => mPure (.tup xs)
    | _ => mBad
  | _ => mBad
def fIntOf : List D → M D
  | [.int i] => mPure (.int i)
  | [.bl b] => mPure (.int (if b then 1 else 0))
  | _ => mBad
def fMin2 : List D → M D
  | [.int i, .int j] => mPure (.int (if j < i then j else i))
  | _ => mBad
def fMax2 : List D → M D
  | [.int i, .int j] => mPure (.int (if j > i then j else i))
  | _ => mBad
def boolsD : List D → Option (List Bool)
  | [] => some []
  | .bl b :: r => match boolsD r with
    | some s => some (b :: s)
    | none => none
  | _ :: _ => none
def intsD : List D → Option (List Int)
  | [] => some []
  | .int i :: r => match intsD r with
    | some s => some (i :: s)
    | none => none
  | _ :: _ => none
def ofLst {α : Type} (f : List D → Option α) (k : α → M D) : List D → M D
  | [.ref r] => mGet (.ref r) fun _ o => match o with
    | .lst xs | .flst xs => mBind (mOpt (f xs)) k
    | _ => mBad
  | _ => mBad
def fAll : List D → M D := ofLst boolsD fun bs => mPure (.bl (bs.all id))
def fAny : List D → M D := ofLst boolsD fun bs => mPure (.bl (bs.any id))
def fSum : List D → M D := ofLst intsD fun ns => mPure (.int ns.sum)
/-! how long a shown text is, at most -/
mutual
def szB : PyData → Nat
  | .none => 4
  | .bool _ => 5
  | .int _ => 1921
  | .str x => 10 * x.length + 2
  | .list xs => 4 + szAll xs
  | .tuple xs => 4 + szAll xs
  | .dict _ => 0
def szAll : List PyData → Nat
  | [] => 0
  | x :: xs => szB x + 2 + szAll xs
end
mutual
def fitS : PyData → Bool
  | .none => true
  | .bool _ => true
  | .int i => decide (i.natAbs.log2 < (1920 : Nat))
  | .str x => PyData.strOk x
  | .list xs => fitAll xs
  | .tuple xs => fitAll xs
  | .dict _ => false
def fitAll : List PyData → Bool
  | [] => true
  | x :: xs => fitS x && fitAll xs
end
def okShow (p : PyData) : Bool := fitS p && decide (szB p ≤ line) && decide (p.depth ≤ 50)
def fRepr : List D → M D
  | [x] => fun h => match frz h deep x with
    | some p => if okShow p = true then .ok (.rep p) h else .bad
    | none => .bad
  | _ => mBad
/-! isinstance of a built-in type -/
def tyIs (T : String) : D → PH → Option Bool
  | .non, _ => some false
  | .bl _, _ => some (T == "bool" || T == "int")
  | .int _, _ => some (T == "int")
  | .str _, _ => some (T == "str")
  | .tup _, _ => some (T == "tuple")
  | .ref r, h => match h.get r with
    | some (.lst _) => some (T == "list")
    | some (.dct _) | some (.fdct _) => some (T == "dict")
    | _ => none
  | _, _ => none
def knownTy (T : String) : Bool := T == "bool" || T == "int" || T == "str" || T == "tuple" || T == "list" || T == "dict"
def fIsi (T : String) (x : D) : M D := fun h => if knownTy T = true then match tyIs T x h with
  | some b => .ok (.bl b) h
  | none => .bad
  else .bad
end UW

/-! U4 -/
namespace UW
open PySem PySem.Spec PyProof.Rows L2
section
variable {g : Gb}
theorem line_eq : line = sizeLine := by rw [sizeLine_eq]; rfl
/-! ### numbers -/
theorem satI0 {f : Int → Int → D} {x y : D} {z : PH} {P : D → PH → Prop} {E : XD} (h : Sat (fI0 f x y z) P E) : ∃ i j, x = .int i ∧ y = .int j ∧ P (f i j) z := by
  cases x <;> cases y <;> first | exact ⟨_, _, rfl, rfl, h⟩ | exact (show False from h).elim
theorem satI {C : Int → Int → Bool} {f : Int → Int → D} {x y : D} {z : PH} {P : D → PH → Prop} {E : XD} (h : Sat (fI C f x y z) P E) : ∃ i j, x = .int i ∧ y = .int j ∧ C i j = true ∧ P (f i j) z := by
  cases x <;> cases y <;> first | (exact (show False from h).elim) | skip
  obtain ⟨c, q⟩ := sat_if h
  exact ⟨_, _, rfl, rfl, c, q⟩
theorem rw_I0 {f : Int → Int → V} {f' : Int → Int → D} (hs : ∀ i j w, Rv g w (f i j) (f' i j)) : RW g (rI0 f) (fI0 f') := fun w H z x y dx dy o rx ry Q h => by
  obtain ⟨i, j, rfl, rfl, q⟩ := satI0 h
  cases rx
  cases ry
  exact ⟨i, j, rfl, rfl, q w _ H (.refl o) (hs i j w)⟩
theorem rw_I {C : Int → Int → Prop} {C' : Int → Int → Bool} {f : Int → Int → V} {f' : Int → Int → D} (hc : ∀ i j, C' i j = true → C i j) (hs : ∀ i j w, Rv g w (f i j) (f' i j)) : RW g (rI C f) (fI C' f') := fun w H z x y dx dy o rx ry Q h => by
  obtain ⟨i, j, rfl, rfl, c, q⟩ := satI h
  cases rx
  cases ry
  exact ⟨i, j, rfl, rfl, hc i j c, q w _ H (.refl o) (hs i j w)⟩
theorem nox_I0 {f : Int → Int → D} : ∀ x y, NoX (fI0 f x y) := fun x y => by
  cases x <;> cases y <;> exact fun _ => trivial
theorem nox_I {C : Int → Int → Bool} {f : Int → Int → D} : ∀ x y, NoX (fI C f x y) := fun x y => by
  cases x <;> cases y <;> first | exact fun _ => trivial | exact nox_ite nox_pure nox_bad
theorem cMul_of (i j : Int) (h : cMul i j = true) : CMul i j := by
  unfold cMul at h
  simpa [CMul] using h
theorem cDiv_of (i j : Int) (h : cDiv i j = true) : CDiv i j := by
  unfold cDiv at h
  simpa [CDiv] using h
theorem cPow_of (i j : Int) (h : cPow i j = true) : CPow i j := by
  unfold cPow at h
  simp only [decide_eq_true_eq, Bool.and_eq_true] at h
  exact ⟨h.1.1, h.1.2, h.2⟩
theorem cPos_of (i j : Int) (h : cPos i j = true) : 0 < j := by unfold cPos at h; simpa using h
theorem cNN_of (i j : Int) (h : cNN i j = true) : 0 ≤ j := by unfold cNN at h; simpa using h

/-! ### new things -/
theorem mk_tup {w : Wd} {z : PH} {H : Hp} {p : Addr} {ob : Obj} {xs : List V} {ds : List D} (o : Ok g w z H) (hp : H p = none) (hd : ob.dict = none) (a : RvA g w xs ds) : Go g w H z ⟨w.io, upd w.B p (.frz ob (.tup xs)), w.op⟩ (upd H p (.frz ob (.tup xs))) ∧ Rv g ⟨w.io, upd w.B p (.frz ob (.tup xs)), w.op⟩ (.ref p) (.tup ds) :=
  ⟨Go.new o hp (fun ps z => by cases z), .tup (SqP.of upd_same hd) (a.mono (Go.new (o := .frz ob (.tup xs)) o hp (fun ps z => by cases z)).le)⟩
theorem mk_lst {w : Wd} {z : PH} {H : Hp} {p : Addr} {xs : List V} {ds : List D} (o : Ok g w z H) (hp : H p = none) (a : RvA g w xs ds) : Go g w H (z.new (.lst ds)) (w.snoc p) (upd H p (.lst xs)) ∧ Rv g (w.snoc p) (.ref p) (.ref z.n) :=
  ⟨Go.make o hp ⟨xs, upd_same, a⟩, .ref (Wd.snoc_last o.len)⟩
/-- a list of the store, as it may be read -/
theorem Ok.seq {w : Wd} {z : PH} {H : Hp} {r : Nat} {a : Addr} {o : PO} {ds : List D} (k : Ok g w z H) (hr : w.io[r]? = some a) (ho : z.get r = some o) (hs : o.seq = some ds) : ∃ vs, SqL g.K H a vs ∧ RvA g w vs ds := by
  have x := k.obj r a o hr ho
  cases o with
  | lst xs => cases hs; obtain ⟨vs, h1, h2⟩ := x; exact ⟨vs, SqL.of h1, h2⟩
  | flst xs => cases hs; obtain ⟨o, vs, h1, h2⟩ := x; exact ⟨vs, .inl (.inr ⟨o, h1⟩), h2⟩
  | _ => cases hs
theorem Ok.lst {w : Wd} {z : PH} {H : Hp} {r : Nat} {a : Addr} {ds : List D} (k : Ok g w z H) (hr : w.io[r]? = some a) (ho : z.get r = some (.lst ds)) : ∃ vs, H a = some (.lst vs) ∧ RvA g w vs ds := k.obj r a _ hr ho
theorem RvA.nil_iff {w : Wd} {xs : List V} {ds : List D} (h : RvA g w xs ds) : xs = [] ↔ ds = [] := by
  cases h <;> simp
end
/-! ### + and * -/
section
variable {g : Gb}
def rAddA (K : PySem.W.Frag) : R2 := fun x y H Q => (∃ i j, x = .int i ∧ y = .int j ∧ Q (.int (i + j)) H) ∨ (∃ i j, x = .str i ∧ y = .str j ∧ i.length + j.length ≤ sizeLine ∧ Q (.str (i ++ j)) H) ∨ rCatF K x y H Q ∨ rCat x y H Q
theorem fAdd_ref {r : Nat} {y : D} : fAdd (.ref r) y = mGet (.ref r) fun _ o => mGet y fun _ o' => fCat o o' := rfl
theorem fMul_ref {r : Nat} {k : Int} : fMul (.ref r) (.int k) = mGet (.ref r) fun _ o => fRep k o := rfl
theorem rw_add : RW g (rAddA g.K) fAdd := fun w H z x y dx dy o rx ry Q h => by
  cases dx with
  | int i =>
    cases dy with
    | int j => cases rx; cases ry; exact .inl ⟨i, j, rfl, rfl, h w _ H (.refl o) (.int _)⟩
    | _ => exact (show False from h).elim
  | str i =>
    cases dy with
    | str j =>
      cases rx
      cases ry
      obtain ⟨c, q⟩ := sat_if h
      exact .inr (.inl ⟨i, j, rfl, rfl, by rw [← line_eq]; exact c, q w _ H (.refl o) (.str _)⟩)
    | _ => exact (show False from h).elim
  | tup xs =>
    cases dy with
    | tup ys =>
      obtain ⟨c, q⟩ := sat_if h
      cases rx with
      | tup h1 a1 =>
        cases ry with
        | tup h2 a2 =>
          refine .inr (.inr (.inl ⟨_, _, _, _, rfl, rfl, same_t o.sub h1.t, same_t o.sub h2.t, by rw [a1.length, a2.length, ← line_eq]; exact c, fun e => ?_, fun _ e => ?_, fun _ _ p ob hp hd => ?_⟩))
          · refine q w _ H (.refl o) ?_
            rw [a1.nil_iff.mp e]
            exact .tup h2 a2
          · refine q w _ H (.refl o) ?_
            rw [a2.nil_iff.mp e, List.append_nil]
            exact .tup h1 a1
          · obtain ⟨go, r⟩ := mk_tup o hp hd (a1.append a2)
            exact q _ _ _ go r
    | _ => exact (show False from h).elim
  | ref r =>
    rw [fAdd_ref] at h
    obtain ⟨r1, o1, e1, g1, h⟩ := sat_get h
    obtain ⟨r2, o2, e2, g2, h3⟩ := sat_get h
    cases e1
    cases e2
    cases rx with
    | ref i1 =>
      cases ry with
      | ref i2 =>
        cases o1 with
        | lst xs =>
          cases o2 with
          | lst ys =>
            obtain ⟨c, q⟩ := sat_if h3
            obtain ⟨vs, h1, a1⟩ := o.lst i1 g1
            obtain ⟨us, h2, a2⟩ := o.lst i2 g2
            refine .inr (.inr (.inr ⟨_, _, _, _, rfl, rfl, h1, h2, by rw [a1.length, a2.length, ← line_eq]; exact c, fun p hp => ?_⟩))
            obtain ⟨go, r⟩ := mk_lst o hp (a1.append a2)
            exact q _ _ _ go r
          | _ => exact (show False from h3).elim
        | _ => exact (show False from h3).elim
  | _ => exact (show False from h).elim
theorem nox_cat {o o' : PO} : NoX (fCat o o') := by
  unfold fCat
  cases o <;> first | exact nox_bad | (cases o' <;> first | exact nox_bad | exact nox_ite nox_new nox_bad)
theorem nox_add : ∀ x y, NoX (fAdd x y) := fun x y => by
  unfold fAdd
  cases x with
  | int i => cases y <;> exact fun _ => trivial
  | str i => cases y <;> first | exact fun _ => trivial | exact nox_ite nox_pure nox_bad
  | tup xs => cases y <;> first | exact fun _ => trivial | exact nox_ite nox_pure nox_bad
  | ref r => exact nox_get fun _ o => nox_get fun _ o' => nox_cat
  | _ => exact fun _ => trivial
def rRepT1 (K : PySem.W.Frag) : R2 := fun x y H Q => ∃ l xs, x = .ref l ∧ y = .int 1 ∧ SqT K H l xs ∧ Q (.ref l) H
def rMulA (K : PySem.W.Frag) : R2 := fun x y H Q => (∃ i j, x = .int i ∧ y = .int j ∧ CMul i j ∧ Q (.int (i * j)) H) ∨ rRep x y H Q ∨ rRepT1 K x y H Q ∨ rRepF K x y H Q
theorem rw_mul : RW g (rMulA g.K) fMul := fun w H z x y dx dy o rx ry Q h => by
  cases dy with
  | int k =>
    cases dx with
    | int i =>
      obtain ⟨c, q⟩ := sat_if h
      cases rx
      cases ry
      exact .inl ⟨i, k, rfl, rfl, cMul_of _ _ c, q w _ H (.refl o) (.int _)⟩
    | tup xs =>
      obtain ⟨⟨c1, c2, c3, c4⟩, q⟩ := sat_if h
      cases ry
      cases rx with
      | tup h1 a1 =>
        by_cases k1 : k = 1
        · subst k1
          have e1 : (List.replicate (1 : Int).toNat xs).flatten = xs := by
            show (xs :: []).flatten = xs
            simp
          rw [e1] at q
          exact .inr (.inr (.inl ⟨_, _, rfl, rfl, same_t o.sub h1.t, q w _ H (.refl o) (.tup h1 a1)⟩))
        · refine .inr (.inr (.inr ⟨_, k, _, rfl, rfl, same_t o.sub h1.t, fun e => ?_, by omega, c3, by rw [a1.length]; exact c4, fun p ob hp hd => ?_⟩))
          · rw [a1.nil_iff.mp e] at c1; cases c1
          · obtain ⟨go, r⟩ := mk_tup o hp hd (a1.rep k.toNat)
            exact q _ _ _ go r
    | ref r =>
      rw [fMul_ref] at h
      obtain ⟨r1, o1, e1, g1, h⟩ := sat_get h
      cases e1
      cases ry
      cases rx with
      | ref i1 =>
        cases o1 with
        | lst xs =>
          obtain ⟨⟨⟨c1, c2⟩, c3⟩, q⟩ := sat_if h
          obtain ⟨vs, h1, a1⟩ := o.lst i1 g1
          refine .inr (.inl ⟨_, k, _, rfl, rfl, h1, c1, c2, by rw [a1.length, ← line_eq]; exact c3, fun p hp => ?_⟩)
          obtain ⟨go, r⟩ := mk_lst o hp (a1.rep k.toNat)
          exact q _ _ _ go r
        | _ => exact (show False from h).elim
    | _ => exact (show False from h).elim
  | _ => exact (show False from h).elim
theorem nox_mul : ∀ x y, NoX (fMul x y) := fun x y => by
  unfold fMul
  cases y with
  | int k =>
    cases x with
    | int i => exact nox_ite nox_pure nox_bad
    | tup i => exact nox_ite nox_pure nox_bad
    | ref r =>
      refine nox_get fun _ o => ?_
      unfold fRep
      cases o <;> first | exact nox_bad | exact nox_ite nox_new nox_bad
    | _ => exact fun _ => trivial
  | _ => exact fun _ => trivial
end
/-! ### == -/
section
variable {g : Gb} {w : Wd} {z : PH} {H : Hp}
theorem optAll_of {α β : Type} {f : α → Option β} {R : α → β → Prop} : ∀ {xs : List α} {ys : List β}, optAll (xs.map f) = some ys → (∀ x ∈ xs, ∀ y, f x = some y → R x y) → Paired R xs ys
  | [], _, e, _ => by simp [optAll] at e; subst e; exact .nil
  | x :: xs, ys, e, h => by
    rw [List.map_cons] at e
    cases q : f x with
    | none => rw [q] at e; simp [optAll] at e
    | some y =>
      rw [q] at e
      simp only [optAll] at e
      cases q2 : optAll (xs.map f) with
      | none => rw [q2] at e; cases e
      | some s =>
        rw [q2] at e
        cases e
        exact .cons (h x (List.mem_cons_self ..) y q) (optAll_of q2 fun x' m => h x' (List.mem_cons_of_mem _ m))
theorem frz_of (o : Ok g w z H) : ∀ (n : Nat) (d : D) (v : V) (p : PyData), frz z n d = some p → Rv g w v d → Dp g.K H v p := by
  intro n
  induction n with
  | zero => intro d v p e; simp [frz] at e
  | succ n ih =>
    have all : ∀ {ds : List D} {vs : List V} {ps : List PyData}, RvA g w vs ds → optAll (ds.map (frz z n)) = some ps → DpAll g.K H vs ps := by
      intro ds
      induction ds with
      | nil => intro vs ps a e; cases a; simp [optAll] at e; subst e; exact .nil
      | cons d r ih2 =>
        intro vs ps a e
        cases a with
        | cons h t =>
          rw [List.map_cons] at e
          cases q : frz z n d with
          | none => rw [q] at e; simp [optAll] at e
          | some y =>
            rw [q] at e
            simp only [optAll] at e
            cases q2 : optAll (r.map (frz z n)) with
            | none => rw [q2] at e; cases e
            | some s => rw [q2] at e; cases e; exact .cons (ih _ _ _ q h) (ih2 t q2)
    intro d v p e r
    cases r with
    | non => simp [frz] at e; subst e; exact .non
    | bl b => simp [frz] at e; subst e; exact .bl b
    | int i => simp [frz] at e; subst e; exact .int i
    | str x => simp [frz] at e; subst e; exact .str x
    | rep p => simp [frz] at e
    | tup h a =>
      simp only [frz, Option.map_eq_some_iff] at e
      obtain ⟨ps, e1, rfl⟩ := e
      exact .tup (same_t o.sub h.t) (all a e1)
    | klst h a =>
      simp only [frz, Option.map_eq_some_iff] at e
      obtain ⟨ps, e1, rfl⟩ := e
      exact .lst (same_l o.sub h) (all a e1)
    | @ref a r h =>
      simp only [frz] at e
      split at e
      · rename_i xs e2
        obtain ⟨ps, e1, rfl⟩ := Option.map_eq_some_iff.mp e
        obtain ⟨vs, h1, h2⟩ := o.seq h e2 rfl
        exact .lst h1 (all h2 e1)
      · rename_i xs e2
        obtain ⟨ps, e1, rfl⟩ := Option.map_eq_some_iff.mp e
        obtain ⟨vs, h1, h2⟩ := o.seq h e2 rfl
        exact .lst h1 (all h2 e1)
      · cases e
    | gl h1 h2 => simp [frz] at e
    | ty n => simp [frz] at e
    | op h => simp [frz] at e
    | exn _ _ _ _ _ => simp [frz] at e
theorem scEq_of {x y : V} {dx dy : D} {b : Bool} (rx : Rv g w x dx) (ry : Rv g w y dy) (e : scEq dx dy = some b) : scal x y = true ∧ decide (x = y) = b := by
  cases rx <;> cases ry <;> simp [scEq] at e <;> subst e <;> simp [scal]
mutual
theorem sameP_eq : ∀ {p q : PyData}, sameP p q = true → p = q
  | .none, q, h => by cases q <;> simp [sameP] at h <;> rfl
  | .bool a, q, h => by cases q <;> simp [sameP] at h; subst h; rfl
  | .int a, q, h => by cases q <;> simp [sameP] at h; subst h; rfl
  | .str a, q, h => by cases q <;> simp [sameP] at h; subst h; rfl
  | .list xs, q, h => by cases q <;> simp [sameP] at h; rw [samePs_eq h]
  | .tuple xs, q, h => by cases q <;> simp [sameP] at h; rw [samePs_eq h]
  | .dict xs, q, h => by cases q <;> simp [sameP] at h
theorem samePs_eq : ∀ {p q : List PyData}, samePs p q = true → p = q
  | [], q, h => by cases q <;> simp [samePs] at h; rfl
  | x :: xs, q, h => by
    cases q with
    | nil => simp [samePs] at h
    | cons y ys =>
      simp only [samePs, Bool.and_eq_true] at h
      rw [sameP_eq h.1, samePs_eq h.2]
end
theorem repEq_of (p q : PyData) : repEq p q = decide (p.shown = q.shown) := by
  unfold repEq
  by_cases h : sameP p q = true
  · rw [if_pos h, sameP_eq h]; simp
  · rw [if_neg h]
/-- two lists, one of them empty -/
def Em (K : PySem.W.Frag) (H : Hp) (x y : V) (b : Bool) : Prop := ∃ a c xs ys, x = .ref a ∧ y = .ref c ∧ SqL K H a xs ∧ SqL K H c ys ∧ (xs = [] ∨ ys = []) ∧ decide (xs.length = ys.length) = b
def rEqE (K : PySem.W.Frag) : R2 := fun x y H Q => ∃ b, Em K H x y b ∧ Q (.bl b) H
def rNeE (K : PySem.W.Frag) : R2 := fun x y H Q => ∃ b, Em K H x y b ∧ Q (.bl (!b)) H
section
variable {X : Cx}
theorem op_eqE (hu : X.A.units < cLine) : OpR X (compareOp .Eq) (rEqE X.K) := by
  intros pins s σ H x y v u Q I rx ry h
  obtain ⟨b, ⟨a, c, xs, ys, rfl, rfl, ha, hc, h0, rfl⟩, q⟩ := h
  rcases (show v = Value.ref a from rx) with rfl
  obtain rfl : u = Value.ref c := ry
  rcases I.list ha with ⟨us, r1, p1, _⟩
  obtain ⟨ws, r2, p2, _⟩ := I.list hc
  have l1 := r1.length
  have l2 := r2.length
  by_cases e : xs.length = ys.length
  · have z1 : us.length = 0 := by rcases h0 with h0 | h0 <;> (subst h0; simp only [List.length_nil] at *; omega)
    have z2 : ws.length = 0 := by rcases h0 with h0 | h0 <;> (subst h0; simp only [List.length_nil] at *; omega)
    refine (SeqAt.RcAt.lists (e := fun _ => true) p1.isList p2.isList (by simp [z1, z2]) hu (fun j h1 h2 => absurd h1 (by simp [z1]))) X.prog X.w _ _ ?_
    refine ⟨.bl _, H, I, ?_, q⟩
    simp [z1, e, L2.RelV]
  · refine (SeqAt.RcAt.lists_lengths p1.isList p2.isList (by simp; omega) hu) X.prog X.w _ _ ?_
    refine ⟨.bl _, H, I, ?_, q⟩
    simp [e, L2.RelV]
theorem op_neE (hu : X.A.units < cLine) : OpR X (compareOp .NotEq) (rNeE X.K) := by
  intros pins s σ H x y v u Q I rx ry h
  obtain ⟨b, ⟨a, c, xs, ys, rfl, rfl, ha, hc, h0, rfl⟩, q⟩ := h
  rcases (show v = Value.ref a from rx) with rfl
  obtain rfl : u = Value.ref c := ry
  rcases I.list ha with ⟨us, r1, p1, _⟩
  obtain ⟨ws, r2, p2, _⟩ := I.list hc
  have l1 := r1.length
  have l2 := r2.length
  by_cases e : xs.length = ys.length
  · have z1 : us.length = 0 := by rcases h0 with h0 | h0 <;> (subst h0; simp only [List.length_nil] at *; omega)
    have z2 : ws.length = 0 := by rcases h0 with h0 | h0 <;> (subst h0; simp only [List.length_nil] at *; omega)
    refine (SeqAt.RcNeAt.lists (e := fun _ => true) p1.isList p2.isList (by simp [z1, z2]) hu (fun j h1 h2 => absurd h1 (by simp [z1]))) X.prog X.w _ _ ?_
    refine ⟨.bl _, H, I, ?_, q⟩
    simp [z1, e, L2.RelV]
  · refine (SeqAt.RcNeAt.lists_lengths p1.isList p2.isList (by simp; omega) hu) X.prog X.w _ _ ?_
    refine ⟨.bl _, H, I, ?_, q⟩
    simp [e, L2.RelV]
end
theorem emEq_of {x y : V} {dx dy : D} {b : Bool} (o : Ok g w z H) (rx : Rv g w x dx) (ry : Rv g w y dy) (e : emEq dx dy z = some b) : Em g.K H x y b := by
  unfold emEq at e
  cases rx with
  | @ref a r h1 =>
    cases ry with
    | @ref c r' h2 =>
      simp only at e
      split at e
      · rename_i xs e1
        split at e
        · rename_i ys e2
          split at e
          · rename_i q
            obtain ⟨vs, s1, a1⟩ := o.seq h1 e1 rfl
            obtain ⟨ws, s2, a2⟩ := o.seq h2 e2 rfl
            have l1 := a1.length
            have l2 := a2.length
            cases e
            refine ⟨a, c, vs, ws, rfl, rfl, s1, s2, ?_, by rw [l1, l2]⟩
            rcases q with q | q
            · left
              rw [List.isEmpty_iff] at q
              subst q
              exact List.eq_nil_of_length_eq_zero l1
            · right
              rw [List.isEmpty_iff] at q
              subst q
              exact List.eq_nil_of_length_eq_zero l2
          · cases e
        · cases e
      · cases e
    | _ => cases e
  | _ => cases e
def rEqA (K : PySem.W.Frag) : R2 := fun x y H Q => rEq x y H Q ∨ rEqD K x y H Q ∨ rEqE K x y H Q
def rNeA (K : PySem.W.Frag) : R2 := fun x y H Q => rNe x y H Q ∨ rNeD K x y H Q ∨ rNeE K x y H Q
theorem fEq0_of {x y : V} {dx dy : D} {b : Bool} (o : Ok g w z H) (rx : Rv g w x dx) (ry : Rv g w y dy) (e : fEq0 dx dy z = some b) :
    (scal x y = true ∧ decide (x = y) = b) ∨ (∃ p q, Dp g.K H x p ∧ Dp g.K H y q ∧ SeqAt.shaped p = true ∧ SeqAt.shaped q = true ∧ PyData.eqv p q = b) ∨ Em g.K H x y b := by
  unfold fEq0 at e
  split at e
  · cases rx
    cases ry
    left
    refine ⟨rfl, ?_⟩
    simp only [Option.some.injEq] at e
    rw [← e, repEq_of]
    simp
  · split at e
    · rename_i b' e'
      cases e
      exact .inl (scEq_of rx ry e')
    · split at e
      · rename_i p q e1 e2
        split at e
        · rename_i c
          cases e
          exact .inr (.inl ⟨p, q, frz_of o _ _ _ _ e1 rx, frz_of o _ _ _ _ e2 ry, c.1, c.2, rfl⟩)
        · cases e
      · exact .inr (.inr (emEq_of o rx ry e))
theorem sat_fEq {dx dy : D} {P : D → PH → Prop} {E : XD} (h : Sat (fEq dx dy z) P E) : ∃ b, fEq0 dx dy z = some b ∧ P (.bl b) z := by
  unfold fEq at h
  cases e : fEq0 dx dy z with
  | none => rw [e] at h; exact h.elim
  | some b => rw [e] at h; exact ⟨b, rfl, h⟩
theorem sat_fNe {dx dy : D} {P : D → PH → Prop} {E : XD} (h : Sat (fNe dx dy z) P E) : ∃ b, fEq0 dx dy z = some b ∧ P (.bl (!b)) z := by
  unfold fNe at h
  cases e : fEq0 dx dy z with
  | none => rw [e] at h; exact h.elim
  | some b => rw [e] at h; exact ⟨b, rfl, h⟩
end
section
variable {g : Gb}
theorem rw_eq : RW g (rEqA g.K) fEq := fun w H z x y dx dy o rx ry Q h => by
  obtain ⟨b, e, q⟩ := sat_fEq h
  rcases fEq0_of o rx ry e with ⟨h1, h2⟩ | ⟨p, q', h1, h2, h3, h4, h5⟩ | h1
  · exact .inl ⟨h1, by rw [h2]; exact q w _ H (.refl o) (.bl b)⟩
  · exact .inr (.inl ⟨p, q', h1, h2, h3, h4, by rw [h5]; exact q w _ H (.refl o) (.bl b)⟩)
  · exact .inr (.inr ⟨b, h1, q w _ H (.refl o) (.bl b)⟩)
theorem rw_ne : RW g (rNeA g.K) fNe := fun w H z x y dx dy o rx ry Q h => by
  obtain ⟨b, e, q⟩ := sat_fNe h
  rcases fEq0_of o rx ry e with ⟨h1, h2⟩ | ⟨p, q', h1, h2, h3, h4, h5⟩ | h1
  · exact .inl ⟨h1, by rw [h2]; exact q w _ H (.refl o) (.bl _)⟩
  · exact .inr (.inl ⟨p, q', h1, h2, h3, h4, by rw [h5]; exact q w _ H (.refl o) (.bl _)⟩)
  · exact .inr (.inr ⟨b, h1, q w _ H (.refl o) (.bl _)⟩)
theorem nox_eq : ∀ x y, NoX (fEq x y) := fun x y z => by
  unfold fEq
  cases e : fEq0 x y z <;> trivial
theorem nox_ne : ∀ x y, NoX (fNe x y) := fun x y z => by
  unfold fNe
  cases e : fEq0 x y z <;> trivial
/-- the same of scalars alone (within a comprehension) -/
theorem isNon_of {w : Wd} {x : V} {dx : D} (rx : Rv g w x dx) (hg : dx.known = true) : decide (x = .non) = dx.isNon := by
  cases rx <;> first | (cases hg; done) | simp [D.isNon]
end
end UW

/-! U5 -/
namespace UW
open PySem PySem.Spec PyProof.Rows L2
/-! ### keys -/
section
variable {g : Gb} {w : Wd}
theorem key_of {v : V} {d : D} (r : Rv g w v d) (h : d.isKey = true) : ∃ k : Key, v = kV k ∧ keyR k d := by
  cases r <;> simp [D.isKey] at h
  · exact ⟨.inl _, rfl, rfl⟩
  · exact ⟨.inr _, rfl, rfl⟩
theorem kEq_of {k k' : Key} {d d' : D} (a : keyR k d) (b : keyR k' d') : kEq d d' = decide (k = k') := by
  cases k <;> cases d <;> simp only [keyR] at a <;> try exact a.elim
  · cases k' <;> cases d' <;> simp only [keyR] at b <;> try exact b.elim
    · subst a b; simp [kEq]
    · subst a b; simp [kEq]
  · cases k' <;> cases d' <;> simp only [keyR] at b <;> try exact b.elim
    · subst a b; simp [kEq]
    · subst a b; simp [kEq]
theorem kGet_of {k : Key} {d : D} (hk : keyR k d) : ∀ {r : List (Key × V)} {s : List (D × D)}, KvR g w r s →
    (kGet d s = none ∧ valV r k = none) ∨ ∃ e v, kGet d s = some e ∧ valV r k = some v ∧ Rv g w v e
  | _, _, .nil => .inl (And.intro rfl rfl)
  | _, _, .cons (k := k') (d := d') (v := v') (e := e') (r := r') (s := s') ha hv t => by
    by_cases c : k' = k
    · right
      refine ⟨_, _, ?_, valV_pos c, hv⟩
      unfold kGet
      rw [kEq_of ha hk]
      simp [c]
    · have e1 : kGet d ((d', e') :: s') = kGet d s' := by
        conv => lhs; unfold kGet
        rw [kEq_of ha hk]
        simp [c]
      rw [e1, valV_neg c]
      exact kGet_of hk t
theorem KvR.any {k : Key} {d : D} (hk : keyR k d) : ∀ {r : List (Key × V)} {s : List (D × D)}, KvR g w r s → (s.any fun p => kEq p.1 d) = (r.any fun kv => decide (kv.1 = k))
  | _, _, .nil => rfl
  | _, _, .cons ha hv t => by rw [List.any_cons, List.any_cons, KvR.any hk t, kEq_of ha hk]
theorem KvR.append : ∀ {r r' : List (Key × V)} {s s' : List (D × D)}, KvR g w r s → KvR g w r' s' → KvR g w (r ++ r') (s ++ s')
  | _, _, _, _, .nil, h => h
  | _, _, _, _, .cons a b t, h => .cons a b (KvR.append t h)
theorem KvR.length : ∀ {r : List (Key × V)} {s : List (D × D)}, KvR g w r s → r.length = s.length
  | _, _, .nil => rfl
  | _, _, .cons _ _ t => by rw [List.length_cons, List.length_cons, KvR.length t]
theorem KvR.put {k : Key} {d e : D} {v : V} (hk : keyR k d) (hv : Rv g w v e) {r : List (Key × V)} {s : List (D × D)} (h : KvR g w r s) : KvR g w (putK r k v) (kPut d e s) := by
  unfold putK kPut
  rw [h.any hk]
  by_cases c : (r.any fun kv => decide (kv.1 = k)) = true
  · rw [if_pos c, if_pos c]
    clear c
    induction h with
    | nil => exact .nil
    | @cons k' v' d' e' r s ha hb t ih =>
      rw [List.map_cons]; rw [List.map_cons]
      simp only [kEq_of ha hk, decide_eq_true_eq]
      by_cases c : k' = k
      · rw [if_pos c, if_pos c]; exact .cons ha hv ih
      · rw [if_neg c, if_neg c]; exact .cons ha hb ih
  · rw [if_neg c, if_neg c]
    exact h.append (.cons hk hv .nil)
theorem KvR.del {k : Key} {d : D} (hk : keyR k d) {r : List (Key × V)} {s : List (D × D)} (h : KvR g w r s) : KvR g w (dropK r k) (kDel d s) := by
  unfold dropK kDel
  induction h with
  | nil => exact .nil
  | @cons k' v' d' e' r s ha hb t ih =>
    rw [List.filter_cons]; rw [List.filter_cons]
    simp only [kEq_of ha hk]
    by_cases c : k' = k
    · simp only [c, decide_true, Bool.not_true, Bool.false_eq_true, if_false, ne_eq, not_true_eq_false, decide_false]
      exact ih
    · simp only [c, decide_false, Bool.not_false, if_true, ne_eq, not_false_eq_true, decide_true]
      exact .cons ha hb ih
/-- a dict of the store, as it may be read -/
theorem Ok.kvs {z : PH} {H : Hp} {r : Nat} {a : Addr} {o : PO} {s : List (D × D)} (k : Ok g w z H) (hr : w.io[r]? = some a) (ho : z.get r = some o) (hs : o.kvs = some s) : ∃ kvs, Rd H a (.dK kvs) ∧ KvR g w kvs s := by
  have x := k.obj r a o hr ho
  cases o with
  | dct xs => cases hs; obtain ⟨vs, h1, h2⟩ := x; exact ⟨vs, .inl h1, h2⟩
  | fdct xs => cases hs; obtain ⟨o, vs, h1, h2⟩ := x; exact ⟨vs, .inr ⟨o, h1⟩, h2⟩
  | _ => cases hs
theorem dget_of {H : Hp} {a : Addr} {kvs : List (Key × V)} {k : Key} (h : Rd H a (.dK kvs)) : DGet H a (kV k) (valV kvs k) := .inl ⟨kvs, k, h, rfl, rfl⟩
end
/-! ### an item -/
section
variable {X : Cx}
def rIxDc : R2 := fun x y H Q => ∃ a v, x = .ref a ∧ DGet H a y (some v) ∧ Q v H
theorem ix_dct (hu : X.A.units + 1 < cLine) : IxR X rIxDc := by
  intros value slice pins s σ H x y v u Q I rx ry h hs
  obtain ⟨a, v', rfl, gt, q⟩ := h
  cases rx
  exact tail_any (dict_typeIs I gt) PySem.F.slot_dict_getitem.lookup (d_getItem hu I gt ry fun w' s3 I3 rw' => ⟨v', H, I3, rw', q⟩) hs
def rIxA (K : PySem.W.Frag) : R2 := fun x y H Q => rIx K x y H Q ∨ rIxDc x y H Q
theorem ix_any (hu : X.A.units + 1 < cLine) : IxR X (rIxA X.K) := ix_seq.or (ix_dct hu)
end
section
variable {g : Gb}
theorem ixD_eq (n : Nat) (i : Int) : ixD n i = ixN n i := rfl
theorem sat_opt {α : Type} {x : Option α} {z : PH} {P : α → PH → Prop} {E : XD} (h : Sat (mOpt x z) P E) : ∃ a, x = some a ∧ P a z := by
  cases x with
  | none => exact (show False from h).elim
  | some a => exact ⟨a, rfl, h⟩
theorem atD_of {w : Wd} {xs : List V} {ds : List D} (a : RvA g w xs ds) {i : Int} {d : D} (e : atD ds i = some d) : ∃ v, atI xs i = some v ∧ Rv g w v d := by
  unfold atD at e
  rw [ixD_eq] at e
  unfold atI
  rw [a.length]
  cases q : ixN ds.length i with
  | none => (rw [q] at e; cases e)
  | some j => rw [q] at e; exact a.get e
theorem atC_of {s : Str} {i : Int} {d : D} (e : atC s i = some d) : ∃ c, atI s.cps.toList i = some c ∧ d = letter c := by
  unfold atC at e
  rw [ixD_eq] at e
  unfold atI
  cases q : ixN s.cps.toList.length i with
  | none => (rw [q] at e; cases e)
  | some j =>
    rw [q] at e
    simp only at e
    cases q2 : s.cps.toList[j]? with
    | none => rw [q2] at e; cases e
    | some c => rw [q2] at e; cases e; exact ⟨c, q2, rfl⟩
theorem fIx_ref {r : Nat} {k : D} : fIx (.ref r) k = mGet (.ref r) fun _ o => fIxO k o := rfl
theorem sat_at {xs : List D} {dy : D} {z : PH} {P : D → PH → Prop} {E : XD} (h : Sat (fAt xs dy z) P E) : ∃ i d, dy = .int i ∧ atD xs i = some d ∧ P d z := by
  cases dy with
  | int i => obtain ⟨d, e, q⟩ := sat_opt h; exact ⟨i, d, rfl, e, q⟩
  | _ => exact (show False from h).elim
theorem ixK_of {w : Wd} {z : PH} {H : Hp} {r : Nat} {a : Addr} {o : PO} {s : List (D × D)} {y : V} {dy d : D} (k : Ok g w z H) (hr : w.io[r]? = some a) (ho : z.get r = some o) (hs : o.kvs = some s) (ry : Rv g w y dy) (hk : dy.isKey = true) (e : kGet dy s = some d) :
    ∃ v, DGet H a y (some v) ∧ Rv g w v d := by
  obtain ⟨kvs, h1, h2⟩ := k.kvs hr ho hs
  obtain ⟨kk, rfl, hkk⟩ := key_of ry hk
  rcases kGet_of hkk h2 with ⟨q, _⟩ | ⟨e', v, q1, q2, q3⟩
  · rw [q] at e; cases e
  · rw [q1] at e; cases e
    exact ⟨v, by rw [← q2]; exact dget_of h1, q3⟩
theorem rw_ix : RW g (rIxA g.K) fIx := fun w H z x y dx dy o rx ry Q h => by
  cases dx with
  | tup xs =>
    obtain ⟨i, d, rfl, e, q⟩ := sat_at h
    cases ry
    cases rx with
    | tup h1 a1 =>
      obtain ⟨v, e', r⟩ := atD_of a1 e
      exact .inl (.inr (.inl ⟨_, _, i, v, rfl, rfl, same_t o.sub h1.t, e', q w _ H (.refl o) r⟩))
  | str s =>
    cases dy with
    | int i =>
      obtain ⟨c, h⟩ := sat_if h
      obtain ⟨d, e, q⟩ := sat_opt h
      cases ry
      cases rx
      obtain ⟨c', e', rfl⟩ := atC_of e
      exact .inl (.inr (.inr ⟨_, i, c', rfl, rfl, by rw [← line_eq]; exact c, e', q w _ H (.refl o) (.str _)⟩))
    | _ => exact (show False from h).elim
  | ref r =>
    rw [fIx_ref] at h
    obtain ⟨r1, o1, e1, g1, h⟩ := sat_get h
    cases e1
    cases rx with
    | ref i1 =>
      have lists : ∀ {xs : List D}, o1.seq = some xs → (∃ i d, dy = .int i ∧ atD xs i = some d ∧ QV g w H Q d z) → rIxA g.K _ y H Q := fun hs hh => by
        obtain ⟨i, d, rfl, e, q⟩ := hh
        cases ry
        obtain ⟨vs, h1, h2⟩ := o.seq i1 g1 hs
        obtain ⟨v, e', r⟩ := atD_of h2 e
        exact .inl (.inl ⟨_, _, i, v, rfl, rfl, h1, e', q w _ H (.refl o) r⟩)
      have dicts : ∀ {xs : List (D × D)}, o1.kvs = some xs → (dy.isKey = true ∧ ∃ d, kGet dy xs = some d ∧ QV g w H Q d z) → rIxA g.K _ y H Q := fun hs hh => by
        obtain ⟨hk, d, e, q⟩ := hh
        obtain ⟨v, h1, h2⟩ := ixK_of o i1 g1 hs ry hk e
        exact .inr ⟨_, v, rfl, h1, q w _ H (.refl o) h2⟩
      cases o1 with
      | lst xs => exact lists rfl (sat_at h)
      | flst xs => exact lists rfl (sat_at h)
      | dct xs => obtain ⟨c, h⟩ := sat_if h; obtain ⟨d, e, q⟩ := sat_opt h; exact dicts rfl ⟨c, d, e, q⟩
      | fdct xs => obtain ⟨c, h⟩ := sat_if h; obtain ⟨d, e, q⟩ := sat_opt h; exact dicts rfl ⟨c, d, e, q⟩
      | _ => exact (show False from h).elim
  | _ => exact (show False from h).elim
theorem nox_opt {α : Type} {x : Option α} : NoX (mOpt x) := by cases x <;> exact fun _ => trivial
theorem nox_at {xs : List D} {y : D} : NoX (fAt xs y) := by cases y <;> first | exact fun _ => trivial | exact nox_opt
theorem nox_ix : ∀ x y, NoX (fIx x y) := fun x y => by
  cases x with
  | tup xs => exact nox_at
  | str s => cases y <;> first | exact fun _ => trivial | exact nox_ite nox_opt nox_bad
  | ref r =>
    rw [fIx_ref]
    refine nox_get fun _ o => ?_
    cases o with
    | lst xs => exact nox_at
    | flst xs => exact nox_at
    | dct xs => exact nox_ite nox_opt nox_bad
    | fdct xs => exact nox_ite nox_opt nox_bad
    | _ => exact fun _ => trivial
  | _ => exact fun _ => trivial
/-! ### slices -/
def EvO (g : Gb) (W : WX) (to : TO) (dO : DO) : Prop := ∀ (w : Wd) (σ : L2.St) (H : Hp) (z : PH) (ρ : Env), EnvOk g w σ ρ → Ok g w z H → ∀ Q : Option Int → Hp → Prop,
  Sat (dO ρ z) (fun i z' => ∀ w' H', Go g w H z' w' H' → Q i H') (QX g w H σ W) → to σ H Q
variable {W : WX}
theorem eo_none : EvO g W tNoPart oNone := fun w σ H z ρ E o Q h => h w H (.refl o)
theorem eo_some {ta : TE} {a : DE} (ha : EvE g W ta a) : EvO g W (tPart ta) (oSome a) := fun w σ H z ρ E o Q h =>
  ha w σ H z ρ E o _ (sat_mono (sat_bind h) (fun x z1 s1 w1 vx H1 g1 r1 => by
    cases x with
    | int i => cases r1; exact ⟨i, rfl, s1 w1 H1 g1⟩
    | _ => exact (show False from s1).elim) fun _ _ _ q => q)
def rSlAny (K : PySem.W.Frag) : V → Option Int → Option Int → Hp → VK → Prop := fun x lo hi H Q => rSlF K x lo hi H Q ∨ rSlL K x lo hi H Q ∨ rSlS x lo hi H Q
theorem sIxD_eq {n d : Nat} {i : Option Int} : sIxD n d i = HT.sIx n d i := by
  cases i with
  | none => rfl
  | some v =>
    show (if 0 ≤ v then min v.toNat n else (v + n).toNat) = (if v < 0 then (v + (n : Int)).toNat else min v.toNat n)
    by_cases h : v < 0
    · rw [if_pos h, if_neg (by omega)]
    · rw [if_neg h, if_pos (by omega)]
theorem cut_of {w : Wd} {xs : List V} {ds : List D} (a : RvA g w xs ds) (lo hi : Option Int) : RvA g w (cutV xs lo hi) (cutL ds lo hi) := by
  unfold cutV cutL
  rw [a.length]
  simp only [sIxD_eq]
  exact (a.drop _).take _
theorem cut_whole {α : Type} {xs : List α} {lo hi : Option Int} (h : HT.sIx xs.length 0 lo = 0 ∧ HT.sIx xs.length xs.length hi = xs.length) : cutL xs lo hi = xs := by
  unfold cutL
  simp only [sIxD_eq]
  rw [h.1, h.2, List.drop_zero, Nat.sub_zero, List.take_length]
theorem cutS_eq {s : Str} {lo hi : Option Int} : (⟨(cutL s.cps.toList lo hi).toArray⟩ : Str) = cutS s lo hi := by
  unfold cutL cutS
  simp only [sIxD_eq]
  rfl
theorem ev_slice {te : TE} {tl th : TO} {a : DE} {lo hi : DO} (ha : EvE g W te a) (hl : EvO g W tl lo) (hh : EvO g W th hi) : EvE g W (tSl (rSlAny g.K) te tl th) (dSlice a lo hi) := fun w σ H z ρ E o Q h =>
  ha w σ H z ρ E o _ (sat_mono (sat_bind h) (fun x z1 s1 w1 vx H1 g1 r1 => hl w1 σ H1 z1 ρ (E.mono g1.le) g1.ok _ (sat_mono (sat_bind s1) (fun l z2 s2 w2 H2 g2 =>
    hh w2 σ H2 z2 ρ (E.mono (g1.trans g2).le) g2.ok _ (sat_mono (sat_bind s2) (fun u z3 s3 w3 H3 g3 => by
      have g13 := (g1.trans g2).trans g3
      have r3 := (r1.mono g2.le).mono g3.le
      cases x with
      | tup ds =>
        cases r3 with
        | tup h1 a1 =>
          refine .inl ⟨_, _, rfl, same_t g3.ok.sub h1.t, fun hwh => ?_, fun _ p ob hp hd => ?_⟩
          · refine (show QV g w H Q _ z3 from s3) w3 _ H3 g13 ?_
            have hwh' : HT.sIx ds.length 0 l = 0 ∧ HT.sIx ds.length ds.length u = ds.length := by rw [← a1.length]; exact hwh
            rw [cut_whole hwh']
            exact .tup h1 a1
          · obtain ⟨go, r⟩ := mk_tup g3.ok hp hd (cut_of a1 l u)
            exact (show QV g w H Q _ z3 from s3) _ _ _ (g13.trans go) r
      | str s =>
        cases r3
        obtain ⟨c, q⟩ := sat_if (show Sat ((if s.length ≤ line then mPure (.str ⟨(cutL s.cps.toList l u).toArray⟩) else mBad : M D) z3) _ _ from s3)
        exact .inr (.inr ⟨s, rfl, by rw [← line_eq]; exact c, by rw [← cutS_eq]; exact q w3 _ H3 g13 (.str _)⟩)
      | ref r =>
        obtain ⟨r', o1, e1, gt, h⟩ := sat_get (show Sat (mGet (.ref r) (fun _ o => match o with | .lst xs | .flst xs => mNew (.lst (cutL xs l u)) | _ => mBad) z3) _ _ from s3)
        cases e1
        cases r3 with
        | ref i1 =>
          have lists : ∀ {xs : List D}, o1.seq = some xs → Sat (mNew (.lst (cutL xs l u)) z3) (QV g w H Q) (QX g w H σ W) → rSlAny g.K _ l u H3 Q := fun hs q => by
            obtain ⟨vs, h1, h2⟩ := g3.ok.seq i1 gt hs
            refine .inr (.inl ⟨_, _, rfl, h1, fun p hp => ?_⟩)
            obtain ⟨go, r⟩ := mk_lst g3.ok hp (cut_of h2 l u)
            exact (show QV g w H Q _ _ from q) _ _ _ (g13.trans go) r
          cases o1 with
          | lst xs => exact lists rfl h
          | flst xs => exact lists rfl h
          | _ => exact (show False from h).elim
      | _ => exact (show False from s3).elim) fun _ _ _ q => q.at (g1.trans g2))) fun _ _ _ q => q.at g1)) fun _ _ _ q => q)
end
end UW

/-! U6 -/
namespace UW
open PySem PySem.Spec PyProof.Rows L2
section
variable {X : Cx}
/-- y in d, by values -/
def rInDc (neg : Bool) : R2 := fun y x H Q => ∃ a o, x = .ref a ∧ DGet H a y o ∧ Q (.bl (if neg then !o.isSome else o.isSome)) H
theorem op_inDc (hu : X.A.units + 1 < cLine) : OpR X (compareOp .In) (rInDc false) := by
  intros pins s σ H x y v u Q I rx ry h
  obtain ⟨a, o, rfl, gt, q⟩ := h
  cases ry
  exact d_in hu I gt rx fun s3 I3 => ⟨.bl o.isSome, H, I3, rfl, q⟩
theorem op_notInDc (hu : X.A.units + 1 < cLine) : OpR X (compareOp .NotIn) (rInDc true) := by
  intros pins s σ H x y v u Q I rx ry h
  obtain ⟨a, o, rfl, gt, q⟩ := h
  cases ry
  exact d_notIn hu I gt rx fun s3 I3 => ⟨.bl (!o.isSome), H, I3, rfl, q⟩
def rInA (K : PySem.W.Frag) (neg : Bool) : R2 := fun x y H Q => rIn K neg x y H Q ∨ (∃ i j, x = .str i ∧ y = .str j ∧ Q (.bl (if neg then !(!(Builtin.Str.occurrences j i 0 j.length 1).isEmpty) else !(Builtin.Str.occurrences j i 0 j.length 1).isEmpty)) H) ∨ rInDc neg x y H Q
theorem op_inA (hu : X.A.units + 1 < cLine) : OpR X (compareOp .In) (rInA X.K false) := op_in_seq.or (op_in_str.or (op_inDc hu))
theorem op_notInA (hu : X.A.units + 1 < cLine) : OpR X (compareOp .NotIn) (rInA X.K true) := op_notIn_seq.or (op_notin_str.or (op_notInDc hu))
def rLenA (K : PySem.W.Frag) : List V → Hp → VK → Prop := fun xs H Q => (∃ x n, xs = [x] ∧ LenV K x H n ∧ Q (.int n) H) ∨ ∃ a kvs, xs = [V.ref a] ∧ H a = some (.dK kvs) ∧ Q (.int kvs.length) H
theorem call_lenA : CallR X (.builtin "len") (rLenA X.K) := call_len.or call_lenD
end
section
variable {g : Gb} {w : Wd}
theorem eqF_of {x y : V} {dx dy : D} (rx : Rv g w x dx) (ry : Rv g w y dy) (hx : dx.isSc = true) (hy : dy.isSc = true) : eqV x y = eqF dx dy := by
  cases rx <;> simp [D.isSc] at hx <;> cases ry <;> simp [D.isSc] at hy <;> simp [eqV, eqF] <;> rfl
theorem isSc_of {x : V} {dx : D} (rx : Rv g w x dx) (h : dx.isSc = true) : flatV x = true := by
  cases rx <;> simp [D.isSc] at h <;> rfl
theorem isSc_all : ∀ {xs : List V} {ds : List D}, RvA g w xs ds → ds.all D.isSc = true → xs.all flatV = true
  | _, _, .nil, _ => rfl
  | _, _, .cons h t, e => by
    rw [List.all_cons, Bool.and_eq_true] at e ⊢
    exact ⟨isSc_of h e.1, isSc_all t e.2⟩
theorem inL_of {x : V} {dx : D} (rx : Rv g w x dx) (hx : dx.isSc = true) : ∀ {xs : List V} {ds : List D}, RvA g w xs ds → ds.all D.isSc = true → inV x xs = inL dx ds
  | _, _, .nil, _ => rfl
  | _, _, .cons h t, e => by
    rw [List.all_cons, Bool.and_eq_true] at e
    have ih := inL_of rx hx t e.2
    unfold inV inL at ih ⊢
    rw [List.any_cons, List.any_cons, ih, eqF_of h rx e.1 hx]
theorem fInB_ref {x : D} {r : Nat} : fInB x (.ref r) = mGet (.ref r) fun _ o => match o with
    | .lst ys | .flst ys => if x.isSc = true ∧ ys.all D.isSc = true then mPure (inL x ys) else mBad
    | .dct kvs | .fdct kvs => if x.isKey = true then mPure (kGet x kvs).isSome else mBad
    | _ => mBad := rfl
theorem in_of {neg : Bool} {z : PH} {H : Hp} {x y : V} {dx dy : D} (o : Ok g w z H) (rx : Rv g w x dx) (ry : Rv g w y dy) {Q : VK} (h : Sat (fInB dx dy z) (fun b z' => z' = z ∧ ∀ H', H' = H → Q (.bl (if neg then !b else b)) H') (fun _ _ _ => False)) : rInA g.K neg x y H Q := by
  cases dy with
  | str s =>
    cases dx with
    | str t =>
      cases rx
      cases ry
      exact .inr (.inl ⟨t, s, rfl, rfl, h.2 H rfl⟩)
    | _ => exact (show False from h).elim
  | tup ys =>
    obtain ⟨⟨c1, c2⟩, q⟩ := sat_if h
    cases ry with
    | tup h1 a1 => exact .inl ⟨_, _, rfl, .inr (same_t o.sub h1.t), isSc_of rx c1, isSc_all a1 c2, by rw [inL_of rx c1 a1 c2]; exact q.2 H rfl⟩
  | ref r =>
    rw [fInB_ref] at h
    obtain ⟨r1, o1, e1, g1, h⟩ := sat_get h
    cases e1
    cases ry with
    | ref i1 =>
      have lists : ∀ {ys : List D}, o1.seq = some ys → (dx.isSc = true ∧ ys.all D.isSc = true) ∧ (z = z ∧ ∀ H', H' = H → Q (.bl (if neg then !(inL dx ys) else inL dx ys)) H') → rInA g.K neg x _ H Q := fun hs hh => by
        obtain ⟨⟨c1, c2⟩, q⟩ := hh
        obtain ⟨vs, h1, h2⟩ := o.seq i1 g1 hs
        exact .inl ⟨_, _, rfl, .inl h1, isSc_of rx c1, isSc_all h2 c2, by rw [inL_of rx c1 h2 c2]; exact q.2 H rfl⟩
      have dicts : ∀ {ys : List (D × D)}, o1.kvs = some ys → dx.isKey = true ∧ (z = z ∧ ∀ H', H' = H → Q (.bl (if neg then !(kGet dx ys).isSome else (kGet dx ys).isSome)) H') → rInA g.K neg x _ H Q := fun {ys} hs hh => by
        obtain ⟨c, q⟩ := hh
        obtain ⟨kvs, h1, h2⟩ := o.kvs i1 g1 hs
        obtain ⟨kk, rfl, hkk⟩ := key_of rx c
        refine .inr (.inr ⟨_, _, rfl, dget_of h1, ?_⟩)
        have e : (valV kvs kk).isSome = (kGet dx ys).isSome := by
          rcases kGet_of hkk h2 with ⟨q1, q2⟩ | ⟨e', v, q1, q2, _⟩
          · rw [q1, q2]; rfl
          · rw [q1, q2]; rfl
        rw [e]
        exact q.2 H rfl
      cases o1 with
      | lst xs => exact lists rfl (sat_if h)
      | flst xs => exact lists rfl (sat_if h)
      | dct xs => exact dicts rfl (sat_if h)
      | fdct xs => exact dicts rfl (sat_if h)
      | _ => exact (show False from h).elim
  | _ => exact (show False from h).elim
theorem inB_same {x y : D} {z : PH} {P : Bool → PH → Prop} {E : XD} (h : Sat (fInB x y z) P E) : Sat (fInB x y z) (fun b z' => z' = z ∧ P b z') E := by
  cases y with
  | str s => cases x <;> first | exact (show False from h).elim | exact ⟨rfl, h⟩
  | tup ys =>
    obtain ⟨c, q⟩ := sat_if h
    show Sat ((if _ then _ else _ : M Bool) z) _ _
    rw [if_pos c]
    exact ⟨rfl, q⟩
  | ref r =>
    rw [fInB_ref] at h ⊢
    obtain ⟨r1, o1, e1, g1, h⟩ := sat_get h
    cases e1
    unfold mGet
    simp only [g1]
    cases o1 with
    | lst xs => obtain ⟨c, q⟩ := sat_if h; simp only; rw [if_pos c]; exact ⟨rfl, q⟩
    | flst xs => obtain ⟨c, q⟩ := sat_if h; simp only; rw [if_pos c]; exact ⟨rfl, q⟩
    | dct xs => obtain ⟨c, q⟩ := sat_if h; simp only; rw [if_pos c]; exact ⟨rfl, q⟩
    | fdct xs => obtain ⟨c, q⟩ := sat_if h; simp only; rw [if_pos c]; exact ⟨rfl, q⟩
    | _ => exact (show False from h).elim
  | _ => exact (show False from h).elim
end
section
variable {g : Gb}
theorem rw_in : RW g (rInA g.K false) fIn := fun w H z x y dx dy o rx ry Q h => by
  refine in_of (neg := false) o rx ry (sat_mono (inB_same (sat_bind h)) (fun b z' q => ⟨q.1, fun H' e => ?_⟩) fun _ _ _ q => q)
  obtain ⟨rfl, q⟩ := q
  subst e
  exact (show QV g w H' Q (.bl b) z' from q) w _ H' (.refl o) (.bl b)
theorem rw_notIn : RW g (rInA g.K true) fNotIn := fun w H z x y dx dy o rx ry Q h => by
  refine in_of (neg := true) o rx ry (sat_mono (inB_same (sat_bind h)) (fun b z' q => ⟨q.1, fun H' e => ?_⟩) fun _ _ _ q => q)
  obtain ⟨rfl, q⟩ := q
  subst e
  exact (show QV g w H' Q (.bl (!b)) z' from q) w _ H' (.refl o) (.bl (!b))
theorem nox_inB {x y : D} : NoX (fInB x y) := by
  cases y with
  | str s => cases x <;> exact fun _ => trivial
  | tup ys => exact nox_ite nox_pure nox_bad
  | ref r =>
    rw [fInB_ref]
    refine nox_get fun _ o => ?_
    cases o <;> first | exact nox_bad | exact nox_ite nox_pure nox_bad
  | _ => exact fun _ => trivial
theorem nox_in : ∀ x y, NoX (fIn x y) := fun x y => nox_bind nox_inB fun _ => nox_pure
theorem nox_notIn : ∀ x y, NoX (fNotIn x y) := fun x y => nox_bind nox_inB fun _ => nox_pure
/-! ### is None -/
theorem rw_isN : RW g (fun x y H Q => y = .non ∧ Q (.bl (decide (x = .non))) H) fIs := fun w H z x y dx dy o rx ry Q h => by
  cases dy with
  | non =>
    cases ry
    obtain ⟨c, q⟩ := sat_if (show Sat ((if dx.known = true then mPure (.bl dx.isNon) else mBad : M D) z) _ _ from h)
    refine ⟨rfl, ?_⟩
    rw [isNon_of rx c]
    exact (show QV g w H Q _ z from q) w _ H (.refl o) (.bl _)
  | _ => exact (show False from h).elim
theorem rw_notN : RW g (fun x y H Q => y = .non ∧ Q (.bl (!decide (x = .non))) H) fIsNot := fun w H z x y dx dy o rx ry Q h => by
  cases dy with
  | non =>
    cases ry
    obtain ⟨c, q⟩ := sat_if (show Sat ((if dx.known = true then mPure (.bl (!dx.isNon)) else mBad : M D) z) _ _ from h)
    refine ⟨rfl, ?_⟩
    rw [isNon_of rx c]
    exact (show QV g w H Q _ z from q) w _ H (.refl o) (.bl _)
  | _ => exact (show False from h).elim
theorem nox_is : ∀ x y, NoX (fIs x y) := fun x y => by cases y <;> first | exact fun _ => trivial | exact nox_ite nox_pure nox_bad
theorem nox_isNot : ∀ x y, NoX (fIsNot x y) := fun x y => by cases y <;> first | exact fun _ => trivial | exact nox_ite nox_pure nox_bad
theorem rw_neg : RW1 g (rU fun i => .int (-i)) fNeg := fun w H z x dx o rx Q h => by
  cases dx with
  | int i => cases rx; exact ⟨i, rfl, h w _ H (.refl o) (.int _)⟩
  | _ => exact (show False from h).elim
theorem nox_neg : ∀ x, NoX (fNeg x) := fun x => by cases x <;> exact fun _ => trivial
theorem rw_inv : RW1 g (rU fun i => .int (Builtin.bitNot i)) fInv := fun w H z x dx o rx Q h => by
  cases dx with
  | int i => cases rx; exact ⟨i, rfl, h w _ H (.refl o) (.int _)⟩
  | _ => exact (show False from h).elim
theorem nox_inv : ∀ x, NoX (fInv x) := fun x => by cases x <;> exact fun _ => trivial
/-! ### truth -/
def rTru (K : PySem.W.Frag) : V → Hp → (Bool → Hp → Prop) → Prop := fun x H Q => ∃ k, TruV K x H k ∧ Q k H
theorem fTru_ref {r : Nat} : fTru (.ref r) = mGet (.ref r) fun _ o => match o with
    | .lst xs | .flst xs => mPure (!xs.isEmpty)
    | .dct kvs => mPure (!kvs.isEmpty)
    | _ => mBad := rfl
theorem RvA.empty {w : Wd} {xs : List V} {ds : List D} (a : RvA g w xs ds) : (!ds.isEmpty) = !xs.isEmpty := by cases a <;> rfl
theorem KvR.empty {w : Wd} {xs : List (Key × V)} {ds : List (D × D)} (a : KvR g w xs ds) : (!ds.isEmpty) = !xs.isEmpty := by cases a <;> rfl
variable {W : WX}
theorem et_truth {te : TE} {a : DE} (ha : EvE g W te a) : EvT g W (fun σ H Q => te σ H fun x H1 => rTru g.K x H1 Q) (tTru a) := fun w σ H z ρ E o Q h =>
  ha w σ H z ρ E o _ (sat_mono (sat_bind h) (fun x z1 s1 w1 vx H1 g1 r1 => by
    cases x with
    | non => cases r1; exact ⟨_, rfl, s1 w1 H1 g1⟩
    | bl b => cases r1; exact ⟨_, rfl, s1 w1 H1 g1⟩
    | int i =>
      cases r1
      refine ⟨_, rfl, ?_⟩
      have e : (i != 0) = decide (i ≠ 0) := by
        by_cases c : i = 0 <;> simp [c]
      rw [e]
      exact (show ∀ w' H', Go g w H z1 w' H' → Q (decide (i ≠ 0)) H' from s1) w1 H1 g1
    | str s =>
      cases r1
      obtain ⟨c, q⟩ := sat_if (show Sat ((if s.length ≤ line then mPure (decide (s.length ≠ 0)) else mBad : M Bool) z1) _ _ from s1)
      refine ⟨_, ⟨by rw [← line_eq]; exact c, rfl⟩, ?_⟩
      have e : (((s.length : Nat) : Int) != 0) = decide (s.length ≠ 0) := by
        by_cases c : s.length = 0
        · simp [c]
        · simp only [ne_eq, c, not_false_eq_true, decide_true]
          have : ¬ ((s.length : Nat) : Int) = 0 := by omega
          simp [this, c]
      rw [e]
      exact (show ∀ w' H', Go g w H z1 w' H' → Q (decide (s.length ≠ 0)) H' from q) w1 H1 g1
    | tup xs =>
      cases r1 with
      | tup h1 a1 => exact ⟨_, .inr (.inl ⟨_, same_t g1.ok.sub h1.t, a1.empty⟩), (show ∀ w' H', Go g w H z1 w' H' → Q (!xs.isEmpty) H' from s1) w1 H1 g1⟩
    | ref r =>
      have s1 : Sat (fTru (.ref r) z1) (fun b z' => ∀ w' H', Go g w H z' w' H' → Q b H') (QX g w H σ W) := s1
      rw [fTru_ref] at s1
      obtain ⟨r', o1, e1, gt, h⟩ := sat_get s1
      cases e1
      cases r1 with
      | ref i1 =>
        cases o1 with
        | lst xs => obtain ⟨vs, h1, h2⟩ := g1.ok.seq i1 gt rfl; exact ⟨_, .inl ⟨_, h1, h2.empty⟩, h w1 H1 g1⟩
        | flst xs => obtain ⟨vs, h1, h2⟩ := g1.ok.seq i1 gt rfl; exact ⟨_, .inl ⟨_, h1, h2.empty⟩, h w1 H1 g1⟩
        | dct xs => obtain ⟨vs, h1, h2⟩ := g1.ok.obj _ _ _ i1 gt; exact ⟨_, .inr (.inr ⟨_, h1, h2.empty⟩), h w1 H1 g1⟩
        | _ => exact (show False from h).elim
    | _ => exact (show False from s1).elim) fun _ _ _ q => q)
/-! ### built-in calls -/
theorem fLen_ref {r : Nat} : fLen [.ref r] = mGet (.ref r) fun _ o => match o with
    | .lst xs | .flst xs => mPure (.int xs.length)
    | .dct kvs => mPure (.int kvs.length)
    | _ => mBad := rfl
theorem one_of {f : List D → M D} {ds : List D} {z : PH} {P : D → PH → Prop} {E : XD} (h : Sat (f ds z) P E) (h0 : f [] = mBad) (h2 : ∀ a b r, f (a :: b :: r) = mBad) : ∃ d, ds = [d] := by
  match ds, h with
  | [], h => rw [h0] at h; exact (show False from h).elim
  | [d], _ => exact ⟨d, rfl⟩
  | a :: b :: r, h => rw [h2] at h; exact (show False from h).elim
theorem RvA.one {w : Wd} {vs : List V} {d : D} (a : RvA g w vs [d]) : ∃ v, vs = [v] ∧ Rv g w v d := by
  cases a with
  | cons h t => cases t; exact ⟨_, rfl, h⟩
theorem rws_len : RWs g (rLenA g.K) fLen := fun w H z vs ds o r Q h => by
  obtain ⟨d, rfl⟩ := one_of h rfl fun a b r => by cases a <;> rfl
  obtain ⟨v, rfl, rv⟩ := r.one
  cases d with
  | str s =>
    obtain ⟨c, q⟩ := sat_if (show Sat ((if s.length ≤ line then mPure (.int s.length) else mBad : M D) z) _ _ from h)
    cases rv
    exact .inl ⟨_, _, rfl, ⟨by rw [← line_eq]; exact c, rfl⟩, q w _ H (.refl o) (.int _)⟩
  | tup xs =>
    cases rv with
    | tup h1 a1 => exact .inl ⟨_, _, rfl, .inr ⟨_, same_t o.sub h1.t, rfl⟩, by rw [a1.length]; exact (show QV g w H Q _ z from h) w _ H (.refl o) (.int _)⟩
  | klst xs =>
    cases rv with
    | klst h1 a1 => exact .inl ⟨_, _, rfl, .inl ⟨_, same_l o.sub h1, rfl⟩, by rw [a1.length]; exact (show QV g w H Q _ z from h) w _ H (.refl o) (.int _)⟩
  | ref r =>
    rw [fLen_ref] at h
    obtain ⟨r', o1, e1, gt, h⟩ := sat_get h
    cases e1
    cases rv with
    | ref i1 =>
      cases o1 with
      | lst xs => obtain ⟨vs, h1, h2⟩ := o.seq i1 gt rfl; exact .inl ⟨_, _, rfl, .inl ⟨_, h1, rfl⟩, by rw [h2.length]; exact h w _ H (.refl o) (.int _)⟩
      | flst xs => obtain ⟨vs, h1, h2⟩ := o.seq i1 gt rfl; exact .inl ⟨_, _, rfl, .inl ⟨_, h1, rfl⟩, by rw [h2.length]; exact h w _ H (.refl o) (.int _)⟩
      | dct xs => obtain ⟨vs, h1, h2⟩ := o.obj _ _ _ i1 gt; exact .inr ⟨_, _, rfl, h1, by rw [h2.length]; exact h w _ H (.refl o) (.int _)⟩
      | _ => exact (show False from h).elim
  | _ => exact (show False from h).elim
def rListA (K : PySem.W.Frag) : List V → Hp → VK → Prop := fun xs H Q => ∃ p ys, xs = [.ref p] ∧ (SqL K H p ys ∨ SqT K H p ys) ∧ ∀ l, H l = none → Q (.ref l) (upd H l (.lst ys))
theorem fListOf_ref {r : Nat} : fListOf [.ref r] = mGet (.ref r) fun _ o => match o with
    | .lst xs | .flst xs => mNew (.lst xs)
    | _ => mBad := rfl
theorem rws_list : RWs g (rListA g.K) fListOf := fun w H z vs ds o r Q h => by
  obtain ⟨d, rfl⟩ := one_of h rfl fun a b r => by cases a <;> rfl
  obtain ⟨v, rfl, rv⟩ := r.one
  cases d with
  | tup xs =>
    cases rv with
    | tup h1 a1 => exact ⟨_, _, rfl, .inr (same_t o.sub h1.t), fun l hl => let ⟨go, r⟩ := mk_lst o hl a1; (show QV g w H Q _ _ from h) _ _ _ go r⟩
  | klst xs =>
    cases rv with
    | klst h1 a1 => exact ⟨_, _, rfl, .inl (same_l o.sub h1), fun l hl => let ⟨go, r⟩ := mk_lst o hl a1; (show QV g w H Q _ _ from h) _ _ _ go r⟩
  | ref r =>
    rw [fListOf_ref] at h
    obtain ⟨r', o1, e1, gt, h⟩ := sat_get h
    cases e1
    cases rv with
    | ref i1 =>
      cases o1 with
      | lst xs => obtain ⟨vs, h1, h2⟩ := o.seq i1 gt rfl; exact ⟨_, _, rfl, .inl h1, fun l hl => let ⟨go, r⟩ := mk_lst o hl h2; (show QV g w H Q _ _ from h) _ _ _ go r⟩
      | flst xs => obtain ⟨vs, h1, h2⟩ := o.seq i1 gt rfl; exact ⟨_, _, rfl, .inl h1, fun l hl => let ⟨go, r⟩ := mk_lst o hl h2; (show QV g w H Q _ _ from h) _ _ _ go r⟩
      | _ => exact (show False from h).elim
  | _ => exact (show False from h).elim
def rTupA (K : PySem.W.Frag) : List V → Hp → VK → Prop := fun xs H Q => ∃ p ys, xs = [.ref p] ∧ ((SqL K H p ys ∧ NewT H ys Q) ∨ (SqT K H p ys ∧ Q (.ref p) H))
theorem fTupOf_ref {r : Nat} : fTupOf [.ref r] = mGet (.ref r) fun _ o => match o with
    | .lst xs | .flst xs => mPure (.tup xs)
    | _ => mBad := rfl
theorem rws_tup : RWs g (rTupA g.K) fTupOf := fun w H z vs ds o r Q h => by
  obtain ⟨d, rfl⟩ := one_of h rfl fun a b r => by cases a <;> rfl
  obtain ⟨v, rfl, rv⟩ := r.one
  cases d with
  | tup xs =>
    cases rv with
    | tup h1 a1 => exact ⟨_, _, rfl, .inr ⟨same_t o.sub h1.t, (show QV g w H Q _ z from h) w _ H (.refl o) (.tup h1 a1)⟩⟩
  | ref r =>
    rw [fTupOf_ref] at h
    obtain ⟨r', o1, e1, gt, h⟩ := sat_get h
    cases e1
    cases rv with
    | ref i1 =>
      cases o1 with
      | lst xs => obtain ⟨vs, h1, h2⟩ := o.seq i1 gt rfl; exact ⟨_, _, rfl, .inl ⟨h1, fun l ob hl hd => let ⟨go, r⟩ := mk_tup o hl hd h2; (show QV g w H Q _ _ from h) _ _ _ go r⟩⟩
      | flst xs => obtain ⟨vs, h1, h2⟩ := o.seq i1 gt rfl; exact ⟨_, _, rfl, .inl ⟨h1, fun l ob hl hd => let ⟨go, r⟩ := mk_tup o hl hd h2; (show QV g w H Q _ _ from h) _ _ _ go r⟩⟩
      | _ => exact (show False from h).elim
  | _ => exact (show False from h).elim
def rIntA : List V → Hp → VK → Prop := fun xs H Q => (∃ i, xs = [.int i] ∧ Q (.int i) H) ∨ ∃ k, xs = [.bl k] ∧ Q (.int (if k then 1 else 0)) H
theorem rws_int : RWs g rIntA fIntOf := fun w H z vs ds o r Q h => by
  obtain ⟨d, rfl⟩ := one_of h rfl fun a b r => by cases a <;> rfl
  obtain ⟨v, rfl, rv⟩ := r.one
  cases d with
  | int i => cases rv; exact .inl ⟨i, rfl, h w _ H (.refl o) (.int _)⟩
  | bl b => cases rv; exact .inr ⟨b, rfl, h w _ H (.refl o) (.int _)⟩
  | _ => exact (show False from h).elim
def rMin2 : List V → Hp → VK → Prop := fun xs H Q => ∃ i j, xs = [.int i, .int j] ∧ Q (.int (if j < i then j else i)) H
def rMax2 : List V → Hp → VK → Prop := fun vs H Q => ∃ i j, vs = [.int i, .int j] ∧ Q (.int (if j > i then j else i)) H
theorem two_ints {f : List D → M D} {ds : List D} {z : PH} {P : D → PH → Prop} {E : XD} (h : Sat (f ds z) P E) (hf : ∀ ds, (∀ i j, ds ≠ [.int i, .int j]) → f ds = mBad) : ∃ i j, ds = [.int i, .int j] := by
  by_cases c : ∃ i j, ds = [.int i, .int j]
  · exact c
  · rw [hf ds fun i j e => c ⟨i, j, e⟩] at h
    exact (show False from h).elim
theorem rws_min2 : RWs g rMin2 fMin2 := fun w H z vs ds o r Q h => by
  obtain ⟨i, j, rfl⟩ := two_ints h fun ds n => by unfold fMin2; split <;> first | exact absurd rfl (n _ _) | rfl
  cases r with
  | cons a t =>
    cases a
    cases t with
    | cons b t => cases b; cases t; exact ⟨i, j, rfl, (show QV g w H Q _ z from h) w _ H (.refl o) (.int _)⟩
theorem rws_max2 : RWs g rMax2 fMax2 := fun w H z vs ds o r Q h => by
  obtain ⟨i, j, rfl⟩ := two_ints h fun ds n => by unfold fMax2; split <;> first | exact absurd rfl (n _ _) | rfl
  cases r with
  | cons a t =>
    cases a
    cases t with
    | cons b t => cases b; cases t; exact ⟨i, j, rfl, (show QV g w H Q _ z from h) w _ H (.refl o) (.int _)⟩
theorem bools_of {w : Wd} : ∀ {ds : List D} {bs : List Bool} {vs : List V}, boolsD ds = some bs → RvA g w vs ds → vs = bs.map V.bl
  | [], bs, vs, e, a => by simp [boolsD] at e; subst e; cases a; rfl
  | d :: ds, bs, vs, e, a => by
    cases a with
    | cons h t =>
      cases d with
      | bl b =>
        simp only [boolsD] at e
        cases q : boolsD ds with
        | none => (rw [q] at e; cases e)
        | some s => rw [q] at e; cases e; cases h; rw [bools_of q t]; rfl
      | _ => simp [boolsD] at e
theorem ints_of {w : Wd} : ∀ {ds : List D} {bs : List Int} {vs : List V}, intsD ds = some bs → RvA g w vs ds → vs = bs.map V.int
  | [], bs, vs, e, a => by simp [intsD] at e; subst e; cases a; rfl
  | d :: ds, bs, vs, e, a => by
    cases a with
    | cons h t =>
      cases d with
      | int b =>
        simp only [intsD] at e
        cases q : intsD ds with
        | none => (rw [q] at e; cases e)
        | some s => rw [q] at e; cases e; cases h; rw [ints_of q t]; rfl
      | _ => simp [intsD] at e
theorem ofLst_of {α : Type} {f : List D → Option α} {k : α → M D} {w : Wd} {z : PH} {H : Hp} {vs : List V} {ds : List D} {P : D → PH → Prop} {E : XD} (o : Ok g w z H) (ra : RvA g w vs ds) (h : Sat (ofLst f k ds z) P E) : ∃ a xs us x, vs = [.ref a] ∧ SqL g.K H a us ∧ RvA g w us xs ∧ f xs = some x ∧ Sat (k x z) P E := by
  obtain ⟨d, rfl⟩ := one_of h rfl fun a b r => by cases a <;> rfl
  obtain ⟨v, rfl, rv⟩ := ra.one
  cases d with
  | ref n =>
    have h : Sat (mGet (.ref n) (fun _ o => match o with | .lst xs | .flst xs => mBind (mOpt (f xs)) k | _ => mBad) z) P E := h
    obtain ⟨r', o1, e1, gt, h⟩ := sat_get h
    cases e1
    cases rv with
    | ref i1 =>
      cases o1 with
      | lst xs => obtain ⟨vs, h1, h2⟩ := o.seq i1 gt rfl; obtain ⟨x, q1, q2⟩ := sat_opt (sat_bind h); exact ⟨_, _, _, x, rfl, h1, h2, q1, q2⟩
      | flst xs => obtain ⟨vs, h1, h2⟩ := o.seq i1 gt rfl; obtain ⟨x, q1, q2⟩ := sat_opt (sat_bind h); exact ⟨_, _, _, x, rfl, h1, h2, q1, q2⟩
      | _ => exact (show False from h).elim
  | _ => exact (show False from h).elim
theorem rws_all : RWs g (rAll g.K) fAll := fun w H z vs ds o r Q h => by
  obtain ⟨a, xs, us, bs, rfl, h1, h2, e, q⟩ := ofLst_of o r h
  rw [bools_of e h2] at h1
  exact ⟨a, bs, rfl, h1, q w _ H (.refl o) (.bl _)⟩
theorem rws_any : RWs g (rAny g.K) fAny := fun w H z vs ds o r Q h => by
  obtain ⟨a, xs, us, bs, rfl, h1, h2, e, q⟩ := ofLst_of o r h
  rw [bools_of e h2] at h1
  exact ⟨a, bs, rfl, h1, q w _ H (.refl o) (.bl _)⟩
theorem rws_sum : RWs g (rSum g.K) fSum := fun w H z vs ds o r Q h => by
  obtain ⟨a, xs, us, bs, rfl, h1, h2, e, q⟩ := ofLst_of o r h
  rw [ints_of e h2] at h1
  exact ⟨a, bs, rfl, h1, q w _ H (.refl o) (.int _)⟩
theorem nox_ofLst {α : Type} {f : List D → Option α} {k : α → M D} (hk : ∀ a, NoX (k a)) : ∀ xs, NoX (ofLst f k xs) := fun xs => by
  unfold ofLst
  split
  · refine nox_get fun _ o => ?_
    cases o <;> first | exact nox_bad | exact nox_bind nox_opt hk
  · exact nox_bad
theorem nox_all : ∀ xs, NoX (fAll xs) := nox_ofLst fun _ => nox_pure
theorem nox_any : ∀ xs, NoX (fAny xs) := nox_ofLst fun _ => nox_pure
theorem nox_sum : ∀ xs, NoX (fSum xs) := nox_ofLst fun _ => nox_pure
theorem nox_len : ∀ xs, NoX (fLen xs) := fun xs => by
  unfold fLen
  split
  · exact nox_ite nox_pure nox_bad
  · exact nox_pure
  · exact nox_pure
  · refine nox_get fun _ o => ?_
    cases o <;> first | exact nox_bad | exact nox_pure
  · exact nox_bad
theorem nox_list : ∀ xs, NoX (fListOf xs) := fun xs => by
  unfold fListOf
  split
  · exact nox_new
  · exact nox_new
  · refine nox_get fun _ o => ?_
    cases o <;> first | exact nox_bad | exact nox_new
  · exact nox_bad
theorem nox_tup : ∀ xs, NoX (fTupOf xs) := fun xs => by
  unfold fTupOf
  split
  · exact nox_pure
  · refine nox_get fun _ o => ?_
    cases o <;> first | exact nox_bad | exact nox_pure
  · exact nox_bad
theorem nox_int : ∀ xs, NoX (fIntOf xs) := fun xs => by unfold fIntOf; split <;> first | exact nox_pure | exact nox_bad
theorem nox_min2 : ∀ xs, NoX (fMin2 xs) := fun xs => by unfold fMin2; split <;> first | exact nox_pure | exact nox_bad
theorem nox_max2 : ∀ xs, NoX (fMax2 xs) := fun xs => by unfold fMax2; split <;> first | exact nox_pure | exact nox_bad
end
end UW

/-! UP3 -/
namespace UW
open PySem
/-! ### statements -/
inductive Fl where
  | nx | rt (d : D) | bk | ct
abbrev DS := Env → M (Fl × Env)
abbrev DG := D → Env → M Env
def gNm (i : Nat) : DG := fun d ρ => mPure (ρ.set i (some d))
def gAll : List DG → List D → Env → M Env
  | [], [], ρ => mPure ρ
  | g :: gs, d :: ds, ρ => mBind (g d ρ) fun ρ' => gAll gs ds ρ'
  | _, _, _ => mBad
def gTp (gs : List DG) : DG := fun d ρ => match d with
  | .tup xs => gAll gs xs ρ
  | _ => mBad
/-- x, *y = .. -/
def stPut (i j : Nat) (xs : List D) (ρ : Env) : M Env := match xs with
  | x :: r => if r.length ≤ 16000 then mBind (mNew (.lst r)) fun l => mPure ((ρ.set i (some x)).set j (some l)) else mBad
  | [] => mBad
def gSt (i j : Nat) : DG := fun d ρ => match d with
  | .tup xs => stPut i j xs ρ
  | .ref r => mGet (.ref r) fun _ o => match o with
    | .lst xs => stPut i j xs ρ
    | _ => mBad
  | _ => mBad
def sNext : DS := fun ρ => mPure (.nx, ρ)
def sBreak : DS := fun ρ => mPure (.bk, ρ)
def sCont : DS := fun ρ => mPure (.ct, ρ)
def sNever : DS := fun _ => mBad
def sSeq (a b : DS) : DS := fun ρ => mBind (a ρ) fun p => match p.1 with
  | .nx => b p.2
  | _ => mPure p
def sAsg (e : DE) (g : DG) : DS := fun ρ => mBind (e ρ) fun d => mBind (g d ρ) fun ρ' => mPure (.nx, ρ')
def sDrop (e : DE) : DS := fun ρ => mBind (e ρ) fun _ => mPure (.nx, ρ)
def sRet (e : DE) : DS := fun ρ => mBind (e ρ) fun d => mPure (.rt d, ρ)
def sRetN : DS := fun ρ => mPure (.rt .non, ρ)
def sIf (t : DT) (a b : DS) : DS := fun ρ => mBind (t ρ) fun k => if k = true then a ρ else b ρ
def sPar (a : DA) (gs : List DG) : DS := fun ρ => mBind (a ρ) fun ds => mBind (gAll gs ds ρ) fun ρ' => mPure (.nx, ρ')
def sAug (i : Nat) (f : D → D → M D) (e : DE) : DS := fun ρ => mBind (dVar i ρ) fun x => mBind (e ρ) fun y => mBind (f x y) fun d => mPure (.nx, ρ.set i (some d))
def loopW (c : DT) (b : DS) : Nat → DS
  | 0 => sNever
  | n + 1 => fun ρ => mBind (c ρ) fun k => if k = true then mBind (b ρ) fun p => match p.1 with
    | .nx | .ct => loopW c b n p.2
    | .bk => mPure (.nx, p.2)
    | .rt d => mPure (.rt d, p.2)
    else mPure (.nx, ρ)
def sWhile (c : DT) (b : DS) : DS := loopW c b maxTurns
/-! ### what is walked -/
inductive ItR where
  | stop | item (d : D) | bad
abbrev Wk := Nat → PH → ItR
abbrev DI := Env → M Wk
def wkList (xs : List D) : Wk := fun i _ => match xs[i]? with
  | some d => .item d
  | none => .stop
def wkRef (r : Nat) : Wk := fun i h => match h.get r with
  | some (.lst xs) | some (.flst xs) => match xs[i]? with
    | some d => .item d
    | none => .stop
  | _ => .bad
def wkRange (lo hi : Int) : Wk := fun i _ => if lo + (i : Int) < hi then .item (.int (lo + (i : Int))) else .stop
def itOf : D → M Wk
  | .tup xs => mPure (wkList xs)
  | .str s => mPure (wkList (s.cps.toList.map letter))
  | .ref r => mGet (.ref r) fun _ o => match o with
    | .lst _ | .flst _ => mPure (wkRef r)
    | _ => mBad
  | _ => mBad
def iAny (e : DE) : DI := fun ρ => mBind (e ρ) itOf
def okRg (i : Int) : Bool := decide (-(2 ^ 62) ≤ i) && decide (i < 2 ^ 62)
def iRange1 (e : DE) : DI := fun ρ => mBind (e ρ) fun x => mBind (mInt x) fun j => if okRg j = true then mPure (wkRange 0 j) else mBad
def iRange2 (e f : DE) : DI := fun ρ => mBind (e ρ) fun x => mBind (f ρ) fun y => mBind (mInt x) fun i => mBind (mInt y) fun j => if okRg i = true ∧ okRg j = true then mPure (wkRange i j) else mBad
def loopF (w : Wk) (g : DG) (b : DS) : Nat → Nat → DS
  | 0, _ => sNever
  | n + 1, i => fun ρ h => match w i h with
    | .stop => .ok (.nx, ρ) h
    | .bad => .bad
    | .item d => mBind (g d ρ) (fun ρ1 => mBind (b ρ1) fun p => match p.1 with
      | .nx | .ct => loopF w g b n (i + 1) p.2
      | .bk => mPure (.nx, p.2)
      | .rt d => mPure (.rt d, p.2)) h
def sFor (it : DI) (g : DG) (b : DS) : DS := fun ρ => mBind (it ρ) fun w => loopF w g b maxTurns 0 ρ
/-! comprehensions -/
def wipeE (ρ : Env) (vs : List Nat) : Env := match vs with
  | [] => ρ
  | i :: r => (wipeE ρ r).set i none
def loopC (w : Wk) (g : DG) (t : DT) (e : DE) (ρ : Env) : Nat → Nat → M (List D)
  | 0, _ => mBad
  | n + 1, i => fun h => match w i h with
    | .stop => .ok [] h
    | .bad => .bad
    | .item d => mBind (g d ρ) (fun ρ1 => mBind (t ρ1) fun k => if k = true then mBind (e ρ1) fun y => mBind (loopC w g t e ρ n (i + 1)) fun ys => mPure (y :: ys) else loopC w g t e ρ n (i + 1)) h
def tYesD : DT := fun _ => mPure true
def dLc (it : DI) (g : DG) (t : DT) (e : DE) (vs : List Nat) : DE := fun ρ => mBind (it ρ) fun w => mBind (mCalm (loopC w g t e (wipeE ρ vs) maxTurns 0)) fun ys => mNew (.lst ys)
end UW

/-! U7 -/
namespace UW
open PySem PySem.Spec PyProof.Rows L2
/-! ### statements -/
def QXS (g : Gb) (w : Wd) (H : Hp) (W : WX) : XD := fun c fs z' => ∀ σ' C dd w' H', Go g w H z' w' H' → ExR g w' c fs C dd → W (.ref C) (some dd) σ' H'
theorem QXS.qx {g : Gb} {w : Wd} {H : Hp} {W : WX} {σ : L2.St} {c : Str} {fs : List (Str × D)} {z : PH} (h : QXS g w H W c fs z) : QX g w H σ W c fs z := fun C dd w' H' g r => h σ C dd w' H' g r
theorem QXS.at {g : Gb} {W : WX} {w w' : Wd} {H H' : Hp} {z' : PH} (go : Go g w H z' w' H') {cc : Str} {fs : List (Str × D)} {z2 : PH} (h : QXS g w H W cc fs z2) : QXS g w' H' W cc fs z2 := fun σ C dd w2 H2 g2 r => h σ C dd w2 H2 (go.trans g2) r
/-- the wish behind a statement -/
def QS (g : Gb) (w : Wd) (H : Hp) (Dn : Ends) : (Fl × Env) → PH → Prop := fun p z' => match p.1 with
  | .nx => ∀ w' σ' H', Go g w H z' w' H' → EnvOk g w' σ' p.2 → Dn.nx σ' H'
  | .rt d => ∀ w' v H', Go g w H z' w' H' → Rv g w' v d → Dn.rt v H'
  | .bk => ∀ w' σ' H', Go g w H z' w' H' → EnvOk g w' σ' p.2 → Dn.bk σ' H'
  | .ct => ∀ w' σ' H', Go g w H z' w' H' → EnvOk g w' σ' p.2 → Dn.ct σ' H'
theorem QS.at {g : Gb} {w w' : Wd} {H H' : Hp} {z' : PH} {Dn : Ends} (go : Go g w H z' w' H') {p : Fl × Env} {z2 : PH} (h : QS g w H Dn p z2) : QS g w' H' Dn p z2 := by
  obtain ⟨f, ρ⟩ := p
  cases f with
  | nx => exact fun w2 σ2 H2 g2 E => h w2 σ2 H2 (go.trans g2) E
  | rt d => exact fun w2 v H2 g2 r => h w2 v H2 (go.trans g2) r
  | bk => exact fun w2 σ2 H2 g2 E => h w2 σ2 H2 (go.trans g2) E
  | ct => exact fun w2 σ2 H2 g2 E => h w2 σ2 H2 (go.trans g2) E
def EvS (g : Gb) (W : WX) (ts : TS) (ds : DS) : Prop := ∀ (w : Wd) (σ : L2.St) (H : Hp) (z : PH) (ρ : Env), EnvOk g w σ ρ → Ok g w z H → ∀ Dn : Ends, Sat (ds ρ z) (QS g w H Dn) (QXS g w H W) → ts Dn σ H
/-- σ' is σ but at the places is -/
def Off (is : List Nat) (σ σ' : L2.St) : Prop := σ'.length = σ.length ∧ ∀ j, j ∉ is → σ'[j]? = σ[j]?
theorem Off.refl {is : List Nat} {σ : L2.St} : Off is σ σ := ⟨rfl, fun _ _ => rfl⟩
theorem Off.trans {a b : List Nat} {σ σ1 σ2 : L2.St} (h : Off a σ σ1) (k : Off b σ1 σ2) : Off (a ++ b) σ σ2 :=
  ⟨k.1.trans h.1, fun j hj => (k.2 j fun z => hj (List.mem_append_right _ z)).trans (h.2 j fun z => hj (List.mem_append_left _ z))⟩
theorem Off.set {i : Nat} {σ : L2.St} {v : Option V} : Off [i] σ (σ.set i v) := ⟨by simp, fun j hj => List.getElem?_set_ne (fun e => hj (by simp [e]))⟩
def QG (g : Gb) (w : Wd) (σ : L2.St) (H : Hp) (is : List Nat) (Q : L2.St → Hp → Prop) : Env → PH → Prop := fun ρ' z' => ∀ w' σ' H', Go g w H z' w' H' → EnvOk g w' σ' ρ' → Off is σ σ' → Q σ' H'
structure EvG (g : Gb) (gt : TG) (is : List Nat) (dg : DG) : Prop where
  run : ∀ (w : Wd) (σ : L2.St) (H : Hp) (z : PH) (ρ : Env) (v : V) (d : D), EnvOk g w σ ρ → Ok g w z H → Rv g w v d → ∀ Q : L2.St → Hp → Prop, Sat (dg d ρ z) (QG g w σ H is Q) (fun _ _ _ => False) → gt v σ H Q
  nox : ∀ d ρ, NoX (dg d ρ)
structure EvGs (g : Gb) (gt : TGs) (is : List Nat) (dgs : List DG) : Prop where
  run : ∀ (w : Wd) (σ : L2.St) (H : Hp) (z : PH) (ρ : Env) (vs : List V) (ds : List D), EnvOk g w σ ρ → Ok g w z H → RvA g w vs ds → ∀ Q : L2.St → Hp → Prop, Sat (gAll dgs ds ρ z) (QG g w σ H is Q) (fun _ _ _ => False) → gt vs σ H Q
  nox : ∀ ds ρ, NoX (gAll dgs ds ρ)
section
variable {g : Gb} {W : WX} {te : TE} {e : DE} {t u : TS} {a b : DS} {tt : TT} {c : DT} {gt : TG} {is js : List Nat} {dg : DG}
theorem eg_name {i : Nat} : EvG g (gName i) [i] (gNm i) := ⟨fun w σ H z ρ v d E o r Q h => h w _ H (.refl o) (E.set r) Off.set, fun _ _ => nox_pure⟩
theorem egs_nil : EvGs g gNil [] [] := by
  refine ⟨fun w σ H z ρ vs ds E o r Q h => ?_, fun ds ρ => ?_⟩
  · cases ds with
    | nil => cases r; exact ⟨rfl, h w σ H (.refl o) E Off.refl⟩
    | cons => exact (show False from h).elim
  · cases ds <;> exact fun _ => trivial
theorem egs_cons {gs : TGs} {dgs : List DG} (h1 : EvG g gt is dg) (h2 : EvGs g gs js dgs) : EvGs g (gCons gt gs) (is ++ js) (dg :: dgs) := by
  refine ⟨fun w σ H z ρ vs ds E o r Q h => ?_, fun ds ρ => ?_⟩
  · cases ds with
    | nil => exact False.elim (show False from h)
    | cons d ds =>
      cases r with
      | cons ha hb =>
        refine ⟨_, _, rfl, h1.run w σ H z ρ _ d E o ha _ (sat_mono (sat_bind h) (fun ρ1 z1 s1 w1 σ1 H1 g1 E1 o1 => ?_) fun _ _ _ q => q)⟩
        exact h2.run w1 σ1 H1 z1 ρ1 _ ds E1 g1.ok (hb.mono g1.le) _ (sat_mono s1 (fun ρ2 z2 s2 w2 σ2 H2 g2 E2 o2 => s2 w2 σ2 H2 (g1.trans g2) E2 (o1.trans o2)) fun _ _ _ q => q)
  · cases ds with
    | nil => exact fun _ => trivial
    | cons d ds => exact nox_bind (h1.nox d ρ) fun ρ' => h2.nox ds ρ'
theorem gAll_len : ∀ {gs : List DG} {ds : List D} {ρ : Env} {z : PH} {P : Env → PH → Prop} {E : XD}, Sat (gAll gs ds ρ z) P E → (∀ g ∈ gs, ∀ d ρ, NoX (g d ρ)) → ds.length = gs.length
  | [], [], _, _, _, _, _, _ => rfl
  | [], _ :: _, _, _, _, _, h, _ => (show False from h).elim
  | _ :: _, [], _, _, _, _, h, _ => (show False from h).elim
  | g :: gs, d :: ds, ρ, z, P, E, h, nx => by
    have h2 := sat_bind h
    cases e : g d ρ z with
    | ok ρ' z' =>
      rw [e] at h2
      rw [List.length_cons, List.length_cons, gAll_len (show Sat (gAll gs ds ρ' z') P E from h2) fun g m => nx g (List.mem_cons_of_mem _ m)]
    | exc c fs z' =>
      have := nx g (List.mem_cons_self ..) d ρ z
      rw [e] at this
      exact this.elim
    | bad => rw [e] at h2; exact h2.elim
theorem eg_tup {n : Nat} {gs : TGs} {dgs : List DG} (h : EvGs g gs is dgs) (hn : dgs.length = n) (hx : ∀ x ∈ dgs, ∀ d ρ, NoX (x d ρ)) : EvG g (gTup g.K n gs) is (gTp dgs) := by
  refine ⟨fun w σ H z ρ v d E o r Q hw => ?_, fun d ρ => ?_⟩
  · cases d with
    | tup xs =>
      have hw : Sat (gAll dgs xs ρ z) (QG g w σ H is Q) (fun _ _ _ => False) := hw
      have hl := gAll_len hw hx
      cases r with
      | tup h1 a1 => exact ⟨_, _, rfl, same_t o.sub h1.t, by rw [a1.length, hl, hn], h.run w σ H z ρ _ xs E o a1 Q hw⟩
    | _ => exact (show False from hw).elim
  · cases d <;> first | exact fun _ => trivial | exact h.nox _ _
theorem es_next : EvS g W tNext sNext := fun w σ H z ρ E o Dn h => h w σ H (.refl o) E
theorem es_break : EvS g W tBreak sBreak := fun w σ H z ρ E o Dn h => h w σ H (.refl o) E
theorem es_cont : EvS g W tCont sCont := fun w σ H z ρ E o Dn h => h w σ H (.refl o) E
theorem es_never {t : TS} : EvS g W t sNever := fun w σ H z ρ E o Dn h => (show False from h).elim
theorem es_seq (h1 : EvS g W t a) (h2 : EvS g W u b) : EvS g W (tSeq t u) (sSeq a b) := fun w σ H z ρ E o Dn h =>
  h1 w σ H z ρ E o { Dn with nx := u Dn } (sat_mono (sat_bind h) (fun p z1 s1 => by
    obtain ⟨f, ρ1⟩ := p
    cases f with
    | nx => exact fun w1 σ1 H1 g1 E1 => h2 w1 σ1 H1 z1 ρ1 E1 g1.ok Dn (sat_mono s1 (fun _ _ q => q.at g1) fun _ _ _ q => q.at g1)
    | rt d => exact s1
    | bk => exact s1
    | ct => exact s1) fun _ _ _ q => q)
theorem es_asg (he : EvE g W te e) (hg : EvG g gt is dg) : EvS g W (tAsg te gt) (sAsg e dg) := fun w σ H z ρ E o Dn h =>
  he w σ H z ρ E o _ (sat_mono (sat_bind h) (fun d z1 s1 w1 v H1 g1 r1 => hg.run w1 σ H1 z1 ρ v d (E.mono g1.le) g1.ok r1 _ (Sat.nox (hg.nox d ρ) (sat_mono (sat_bind s1) (fun ρ2 z2 s2 w2 σ2 H2 g2 E2 _ => s2 w2 σ2 H2 (g1.trans g2) E2) fun _ _ _ q => q))) fun _ _ _ q => q.qx)
theorem es_drop (he : EvE g W te e) : EvS g W (tDrop te) (sDrop e) := fun w σ H z ρ E o Dn h =>
  he w σ H z ρ E o _ (sat_mono (sat_bind h) (fun d z1 s1 w1 v H1 g1 r1 => s1 w1 σ H1 g1 (E.mono g1.le)) fun _ _ _ q => q.qx)
theorem es_ret (he : EvE g W te e) : EvS g W (tRet te) (sRet e) := fun w σ H z ρ E o Dn h =>
  he w σ H z ρ E o _ (sat_mono (sat_bind h) (fun d z1 s1 w1 v H1 g1 r1 => s1 w1 v H1 g1 r1) fun _ _ _ q => q.qx)
theorem es_retN : EvS g W tRetN sRetN := fun w σ H z ρ E o Dn h => h w .non H (.refl o) .non
theorem es_if (hc : EvT g W tt c) (h1 : EvS g W t a) (h2 : EvS g W u b) : EvS g W (tIfS tt t u) (sIf c a b) := fun w σ H z ρ E o Dn h =>
  hc w σ H z ρ E o _ (sat_mono (sat_bind h) (fun k z1 s1 w1 H1 g1 => by
    cases k with
    | true => exact h1 w1 σ H1 z1 ρ (E.mono g1.le) g1.ok Dn (sat_mono s1 (fun _ _ q => q.at g1) fun _ _ _ q => q.at g1)
    | false => exact h2 w1 σ H1 z1 ρ (E.mono g1.le) g1.ok Dn (sat_mono s1 (fun _ _ q => q.at g1) fun _ _ _ q => q.at g1)) fun _ _ _ q => q.qx)
theorem es_par {i j : Nat} {ta : TA} {da : DA} (he : EvA g W ta 2 da) : EvS g W (tPar i j ta) (sPar da [gNm i, gNm j]) := fun w σ H z ρ E o Dn h =>
  he w σ H z ρ E o _ (sat_mono (sat_bind h) (fun ds z1 s1 hl w1 vs H1 g1 r1 => by
    match ds, hl, r1, s1 with
    | [d, e], _, .cons ra (.cons rb .nil), s1 => exact ⟨_, _, rfl, (show QS g w H Dn (.nx, (ρ.set i (some d)).set j (some e)) z1 from s1) w1 _ H1 g1 (((E.mono g1.le).set ra).set rb)⟩) fun _ _ _ q => q.qx)
theorem es_par3 {i j l : Nat} {ta : TA} {da : DA} (he : EvA g W ta 3 da) : EvS g W (tPar3 i j l ta) (sPar da [gNm i, gNm j, gNm l]) := fun w σ H z ρ E o Dn h =>
  he w σ H z ρ E o _ (sat_mono (sat_bind h) (fun ds z1 s1 hl w1 vs H1 g1 r1 => by
    match ds, hl, r1, s1 with
    | [d, e, f], _, .cons ra (.cons rb (.cons rc .nil)), s1 => exact ⟨_, _, _, rfl, (show QS g w H Dn (.nx, ((ρ.set i (some d)).set j (some e)).set l (some f)) z1 from s1) w1 _ H1 g1 ((((E.mono g1.le).set ra).set rb).set rc)⟩) fun _ _ _ q => q.qx)
theorem es_aug {i : Nat} {r : R2} {f : D → D → M D} (hr : RW g r f) (hf : ∀ x y, NoX (f x y)) (he : EvE g W te e) : EvS g W (tAug i te r) (sAug i f e) := fun w σ H z ρ E o Dn h => by
  have h := sat_bind h
  match q : ρ[i]? with
  | some (some d) =>
    obtain ⟨v, h1, h2⟩ := E.dat i d q
    have hv : dVar i ρ z = .ok d z := by unfold dVar; rw [q]; rfl
    rw [hv] at h
    refine ⟨v, h1, he w σ H z ρ E o _ (sat_mono (sat_bind h) (fun y z1 s1 w1 vy H1 g1 r1 => hr w1 H1 z1 v vy d y g1.ok (h2.mono g1.le) r1 _ (Sat.nox (hf d y) (sat_mono (sat_bind s1) (fun d2 z2 s2 w2 v2 H2 g2 r2 => s2 w2 _ H2 (g1.trans g2) ((E.mono (g1.trans g2).le).set r2)) fun _ _ _ q => q))) fun _ _ _ q => q.qx)⟩
  | some none => have hv : dVar i ρ z = .bad := by { unfold dVar; rw [q]; rfl }; rw [hv] at h; exact h.elim
  | none => have hv : dVar i ρ z = .bad := by { unfold dVar; rw [q]; rfl }; rw [hv] at h; exact h.elim
theorem es_while (hc : EvT g W tt c) (hb : EvS g W t a) : EvS g W (tWhile tt t) (sWhile c a) := fun w σ H z ρ E o Dn h => by
  refine ⟨fun m σ1 H1 => ∃ w1 z1 ρ1, Go g w H z1 w1 H1 ∧ EnvOk g w1 σ1 ρ1 ∧ Sat (loopW c a m ρ1 z1) (QS g w H Dn) (QXS g w H W), ⟨maxTurns, w, z, ρ, .refl o, E, h⟩, fun m σ1 H1 hw => ?_⟩
  obtain ⟨w1, z1, ρ1, g1, E1, hs⟩ := hw
  cases m with
  | zero => exact (show False from hs).elim
  | succ m =>
    refine hc w1 σ1 H1 z1 ρ1 E1 g1.ok _ (sat_mono (sat_bind hs) (fun k z2 s2 w2 H2 g2 => ?_) fun _ _ _ q => (q.at g1).qx)
    have g12 := g1.trans g2
    cases k with
    | false => exact (show QS g w H Dn (.nx, ρ1) z2 from s2) w2 σ1 H2 g12 (E1.mono g2.le)
    | true =>
      refine ⟨fun σ3 H3 => ∃ w3 z3 ρ3, Go g w H z3 w3 H3 ∧ EnvOk g w3 σ3 ρ3 ∧ Sat (loopW c a m ρ3 z3) (QS g w H Dn) (QXS g w H W), fun σ3 H3 q => ⟨m, Nat.lt_succ_self m, q⟩, ?_⟩
      refine hb w2 σ1 H2 z2 ρ1 (E1.mono g2.le) g2.ok _ (sat_mono (sat_bind s2) (fun p z3 s3 => ?_) fun _ _ _ q => q.at g12)
      obtain ⟨f, ρ3⟩ := p
      cases f with
      | nx => exact fun w3 σ3 H3 g3 E3 => ⟨w3, z3, ρ3, g12.trans g3, E3, s3⟩
      | ct => exact fun w3 σ3 H3 g3 E3 => ⟨w3, z3, ρ3, g12.trans g3, E3, s3⟩
      | bk => exact fun w3 σ3 H3 g3 E3 => (show QS g w H Dn (.nx, ρ3) z3 from s3) w3 σ3 H3 (g12.trans g3) E3
      | rt d => exact fun w3 v H3 g3 r3 => (show QS g w H Dn (.rt d, ρ3) z3 from s3) w3 v H3 (g12.trans g3) r3
end
/-! ### what is walked -/
def WkOk (g : Gb) (w : Wd) (H : Hp) (it : Wk) (J : It) : Prop := ∀ (i : Nat) (w' : Wd) (H' : Hp) (z' : PH), Go g w H z' w' H' → match it i z' with
  | .stop => J.stop i H'
  | .bad => True
  | .item d => J.go i H' ∧ ∀ x H2, J.yld i H' x H2 → ∃ w2, Go g w' H' z' w2 H2 ∧ Rv g w2 x d
def EvI (g : Gb) (W : WX) (ti : TI) (di : DI) : Prop := ∀ (w : Wd) (σ : L2.St) (H : Hp) (z : PH) (ρ : Env), EnvOk g w σ ρ → Ok g w z H → ∀ R : It → Hp → Prop,
  Sat (di ρ z) (fun it z' => ∀ w' J H', Go g w H z' w' H' → WkOk g w' H' it J → R J H') (QX g w H σ W) → ti σ H R
section
variable {g : Gb} {W : WX} {te : TE} {e : DE}
theorem wk_tup {w : Wd} {H : Hp} {a : Addr} {xs : List V} {ds : List D} (h : SqT g.K w.B a xs) (r : RvA g w xs ds) : WkOk g w H (wkList ds) (Itt g.K a) := fun i w' H' z' go => by
  have le := go.le
  have o := go.ok
  have ht : SqT g.K H' a xs := same_t (le.B.trans o.sub) h
  unfold wkList
  cases e : ds[i]? with
  | none =>
    simp only
    exact ⟨xs, ht, by rw [r.length]; exact List.getElem?_eq_none_iff.mp e⟩
  | some d =>
    simp only
    obtain ⟨v, h1, h2⟩ := r.get e
    refine ⟨⟨xs, v, ht, h1⟩, fun x H2 y => ?_⟩
    obtain ⟨rfl, hx⟩ := y
    have := hx xs ht
    rw [h1] at this
    cases this
    exact ⟨w', .refl o, h2.mono le⟩
theorem wk_ref {w : Wd} {H : Hp} {a : Addr} {n : Nat} (h : w.io[n]? = some a) : WkOk g w H (wkRef n) (Itl g.K a) := fun i w' H' z' go => by
  have le := go.le
  have o := go.ok
  have key : ∀ {xs : List D} {po : PO}, z'.get n = some po → po.seq = some xs → match (match xs[i]? with | some d => ItR.item d | none => ItR.stop) with
      | .stop => (Itl g.K a).stop i H' | .bad => True | .item d => (Itl g.K a).go i H' ∧ ∀ x H2, (Itl g.K a).yld i H' x H2 → ∃ w2, Go g w' H' z' w2 H2 ∧ Rv g w2 x d := fun {xs po} gt hs => by
    obtain ⟨vs, h1, h2⟩ := o.seq (le.io _ _ h) gt hs
    cases e : xs[i]? with
    | none =>
      simp only
      exact ⟨vs, h1, by rw [h2.length]; exact List.getElem?_eq_none_iff.mp e⟩
    | some d =>
      simp only
      obtain ⟨v, q1, q2⟩ := h2.get e
      refine ⟨⟨vs, v, h1, q1⟩, fun x H2 y => ?_⟩
      obtain ⟨rfl, hx⟩ := y
      have := hx vs h1
      rw [q1] at this
      cases this
      exact ⟨w', .refl o, q2⟩
  unfold wkRef
  cases gt : z'.get n with
  | none => simp only
  | some po =>
    cases po with
    | lst xs => exact key gt rfl
    | flst xs => exact key gt rfl
    | _ => simp only
theorem wk_str {w : Wd} {H : Hp} (s : Str) : WkOk g w H (wkList (s.cps.toList.map letter)) (Its s) := fun i w' H' z' go => by
  have o := go.ok
  unfold wkList
  rw [List.getElem?_map]
  cases e : s.cps.toList[i]? with
  | none =>
    simp only [Option.map_none]
    have := List.getElem?_eq_none_iff.mp e
    exact (by simpa using this : s.cps.size ≤ i)
  | some c =>
    simp only [Option.map_some]
    have e' : s.cps[i]? = some c := by rw [← Array.getElem?_toList]; exact e
    refine ⟨(Array.getElem?_eq_some_iff.mp e').1, fun x H2 y => ?_⟩
    obtain ⟨rfl, c', hc, rfl⟩ := y
    rw [e'] at hc
    cases hc
    exact ⟨w', .refl o, .str _⟩
theorem wk_range {w : Wd} {H : Hp} {lo hi : Int} : WkOk g w H (wkRange lo hi) (Itr lo (hi - lo).toNat) := fun i w' H' z' go => by
  have o := go.ok
  unfold wkRange
  by_cases c : lo + (i : Int) < hi
  · rw [if_pos c]
    refine ⟨show i < (hi - lo).toNat by omega, fun x H2 y => ?_⟩
    obtain ⟨rfl, rfl⟩ := y
    exact ⟨w', .refl o, .int _⟩
  · rw [if_neg c]
    exact show (hi - lo).toNat ≤ i by omega
def tiAny (K : PySem.W.Frag) (te : TE) : TI := fun σ H R => te σ H fun x H1 =>
  (∃ a, x = .ref a ∧ (∃ xs, SqL K H1 a xs) ∧ R (Itl K a) H1) ∨ (∃ a, x = .ref a ∧ (∃ xs, SqT K H1 a xs) ∧ R (Itt K a) H1) ∨ ∃ s, x = .str s ∧ R (Its s) H1
theorem itOf_ref {r : Nat} : itOf (.ref r) = mGet (.ref r) fun _ o => match o with
    | .lst _ | .flst _ => mPure (wkRef r)
    | _ => mBad := rfl
theorem ei_any (he : EvE g W te e) : EvI g W (tiAny g.K te) (iAny e) := fun w σ H z ρ E o R h =>
  he w σ H z ρ E o _ (sat_mono (sat_bind h) (fun d z1 s1 w1 v H1 g1 r1 => by
    cases d with
    | tup xs =>
      cases r1 with
      | tup h1 a1 => exact .inr (.inl ⟨_, rfl, ⟨_, same_t g1.ok.sub h1.t⟩, (show ∀ w' J H', Go g w H z1 w' H' → WkOk g w' H' (wkList xs) J → R J H' from s1) w1 _ H1 g1 (wk_tup h1.t a1)⟩)
    | str s => cases r1; exact .inr (.inr ⟨s, rfl, (show ∀ w' J H', Go g w H z1 w' H' → WkOk g w' H' (wkList (s.cps.toList.map letter)) J → R J H' from s1) w1 _ H1 g1 (wk_str s)⟩)
    | ref n =>
      have s1 : Sat (itOf (.ref n) z1) (fun it z' => ∀ w' J H', Go g w H z' w' H' → WkOk g w' H' it J → R J H') (QX g w H σ W) := s1
      rw [itOf_ref] at s1
      obtain ⟨r', o1, e1, gt, h⟩ := sat_get s1
      cases e1
      cases r1 with
      | ref i1 =>
        cases o1 with
        | lst xs => obtain ⟨vs, h1, h2⟩ := g1.ok.seq i1 gt rfl; exact .inl ⟨_, rfl, ⟨vs, h1⟩, h w1 _ H1 g1 (wk_ref i1)⟩
        | flst xs => obtain ⟨vs, h1, h2⟩ := g1.ok.seq i1 gt rfl; exact .inl ⟨_, rfl, ⟨vs, h1⟩, h w1 _ H1 g1 (wk_ref i1)⟩
        | _ => exact (show False from h).elim
    | _ => exact (show False from s1).elim) fun _ _ _ q => q)
theorem sat_int {d : D} {z : PH} {P : Int → PH → Prop} {E : XD} (h : Sat (mInt d z) P E) : ∃ i, d = .int i ∧ P i z := by
  cases d with
  | int i => exact ⟨i, rfl, h⟩
  | _ => exact (show False from h).elim
theorem okRg_of {i : Int} (h : okRg i = true) : -(2 ^ 62) ≤ i ∧ i < 2 ^ 62 := by
  unfold okRg at h
  simpa using h
theorem ei_range1 (he : EvE g W te e) : EvI g W (iRng1 (tCons te tNil)) (iRange1 e) := fun w σ H z ρ E o R h =>
  he w σ H z ρ E o _ (sat_mono (sat_bind h) (fun d z1 s1 w1 v H1 g1 r1 => by
    obtain ⟨j, rfl, s2⟩ := sat_int (sat_bind s1)
    obtain ⟨c, s3⟩ := sat_if s2
    cases r1
    obtain ⟨c1, c2⟩ := okRg_of c
    refine ⟨j, rfl, c1, c2, (show ∀ w' J H', Go g w H z1 w' H' → WkOk g w' H' (wkRange 0 j) J → R J H' from s3) w1 _ H1 g1 ?_⟩
    have := wk_range (g := g) (w := w1) (H := H1) (lo := 0) (hi := j)
    rw [Int.sub_zero] at this
    exact this) fun _ _ _ q => q)
theorem ei_range2 {tf : TE} {f : DE} (he : EvE g W te e) (hf : EvE g W tf f) : EvI g W (iRng2 (tCons te (tCons tf tNil))) (iRange2 e f) := fun w σ H z ρ E o R h =>
  he w σ H z ρ E o _ (sat_mono (sat_bind h) (fun d z1 s1 w1 v H1 g1 r1 => hf w1 σ H1 z1 ρ (E.mono g1.le) g1.ok _ (sat_mono (sat_bind s1) (fun d2 z2 s2 w2 v2 H2 g2 r2 => by
    obtain ⟨i, rfl, s3⟩ := sat_int (sat_bind s2)
    obtain ⟨j, rfl, s4⟩ := sat_int (sat_bind s3)
    obtain ⟨⟨ci, cj⟩, s5⟩ := sat_if s4
    cases r1
    cases r2
    obtain ⟨c1, c2⟩ := okRg_of ci
    obtain ⟨c3, c4⟩ := okRg_of cj
    exact ⟨i, j, rfl, ⟨c1, c2, c3, c4⟩, (show ∀ w' J H', Go g w H z2 w' H' → WkOk g w' H' (wkRange i j) J → R J H' from s5) w2 _ H2 (g1.trans g2) wk_range⟩) fun _ _ _ q => q.at g1)) fun _ _ _ q => q)
/-! ### for -/
theorem es_for {ti : TI} {gt : TG} {tb : TS} {di : DI} {dg : DG} {b : DS} {is : List Nat} (hi : EvI g W ti di) (hg : EvG g gt is dg) (hb : EvS g W tb b) : EvS g W (tFor ti gt tb) (sFor di dg b) := fun w σ H z ρ E o Dn h => by
  refine hi w σ H z ρ E o _ (sat_mono (sat_bind h) (fun it z1 s1 w1 J H1 g1 wk => ?_) fun _ _ _ q => q.qx)
  refine ⟨fun i m σ2 H2 => ∃ w2 z2 ρ2, Go g w H z2 w2 H2 ∧ Go g w1 H1 z2 w2 H2 ∧ EnvOk g w2 σ2 ρ2 ∧ Sat (loopF it dg b m i ρ2 z2) (QS g w H Dn) (QXS g w H W), ⟨maxTurns, w1, z1, ρ, g1, .refl g1.ok, E.mono g1.le, s1⟩, fun i m σ2 H2 hw => ?_⟩
  obtain ⟨w2, z2, ρ2, g2, le2, E2, hs⟩ := hw
  cases m with
  | zero => exact (show False from hs).elim
  | succ m =>
    have wki := wk i w2 H2 z2 le2
    unfold loopF at hs
    cases e : it i z2 with
    | stop =>
      rw [e] at wki hs
      exact .inl ⟨wki, (show QS g w H Dn (.nx, ρ2) z2 from hs) w2 σ2 H2 g2 E2⟩
    | bad => simp only [e] at hs; exact (show False from hs).elim
    | item d =>
      rw [e] at wki
      simp only [e] at hs
      obtain ⟨hgo, hy⟩ := wki
      refine .inr ⟨hgo, fun σ3 H3 => ∃ w3 z3 ρ3, Go g w H z3 w3 H3 ∧ Go g w1 H1 z3 w3 H3 ∧ EnvOk g w3 σ3 ρ3 ∧ Sat (loopF it dg b m (i + 1) ρ3 z3) (QS g w H Dn) (QXS g w H W), fun σ3 H3 q => ⟨m, Nat.lt_succ_self m, q⟩, fun x H3 y => ?_⟩
      obtain ⟨w3, g3, r3⟩ := hy x H3 y
      have g23 := g2.trans g3
      refine hg.run w3 σ2 H3 z2 ρ2 x d (E2.mono g3.le) g3.ok r3 _ (Sat.nox (hg.nox d ρ2) (sat_mono (sat_bind hs) (fun ρ4 z4 s4 w4 σ4 H4 g4 E4 _ => ?_) fun _ _ _ q => q))
      have g24 := g23.trans g4
      refine hb w4 σ4 H4 z4 ρ4 E4 g4.ok _ (sat_mono (sat_bind s4) (fun p z5 s5 => ?_) fun _ _ _ q => q.at g24)
      obtain ⟨f, ρ5⟩ := p
      have le4 := (le2.trans g3).trans g4
      cases f with
      | nx => exact fun w5 σ5 H5 g5 E5 => ⟨w5, z5, ρ5, g24.trans g5, le4.trans g5, E5, s5⟩
      | ct => exact fun w5 σ5 H5 g5 E5 => ⟨w5, z5, ρ5, g24.trans g5, le4.trans g5, E5, s5⟩
      | bk => exact fun w5 σ5 H5 g5 E5 => (show QS g w H Dn (.nx, ρ5) z5 from s5) w5 σ5 H5 (g24.trans g5) E5
      | rt d => exact fun w5 v H5 g5 r5 => (show QS g w H Dn (.rt d, ρ5) z5 from s5) w5 v H5 (g24.trans g5) r5
end
end UW

/-! U8 -/
namespace UW
open PySem PySem.Spec PyProof.Rows L2
section
variable {g : Gb} {w w' : Wd} {z z' : PH} {H H' : Hp}
/-- an object of one's own, neither known nor the store's, is changed -/
theorem Go.mut {p : Addr} {o : HO} (a : Go g w H z' w' H') (hp : H p = none) (hb : w'.B p = none) (ni : ∀ n : Nat, w'.io[n]? ≠ some p) (ho : Cold o) (nt : ∀ ps, H' p ≠ some (.tbl ps)) (nx : ∀ q, H' p ≠ some (LamX.CodeO p q)) : Go g w H z' w' (upd H' p o) := by
  refine ⟨a.le, ⟨fun x u e => by rw [upd_ne (ne_of_none e hb)]; exact a.ok.sub x u e, a.ok.off, a.ok.inj, a.ok.len, fun n x e => pl_upd ho x (a.ok.dom n x e), fun n x r e1 e2 => ?_, a.ok.up, tabs_upd a.ok.tab nt nx, a.ok.nt⟩, fun x u n c e => by rw [upd_ne (ne_of_none e hp)]; exact a.fr x u n c e, a.gr, fun x h => pl_upd ho x (a.ex x h), a.sep, fun x o' u e => by rw [upd_ne (ne_of_none e hp)]; exact a.fz x o' u e⟩
  exact (a.ok.obj n x r e1 e2).mono (.refl _) (by rw [upd_ne]; intro q; exact ni n (by rw [← q]; exact e1))
/-- it becomes the store's -/
theorem Go.adopt {p : Addr} {q : PO} (a : Go g w H z' w' H') (hp : H p = none) (hb : w'.B p = none) (ni : ∀ n : Nat, w'.io[n]? ≠ some p) (hq : ObjR g w' H' p q) : Go g w H (z'.new q) (w'.snoc p) H' := by
  have neI : ∀ (n : Nat) (x : Addr), w'.io[n]? = some x → x ≠ p := fun n x e q => ni n (by rw [← q]; exact e)
  have h := a.ok
  refine ⟨a.le.trans Wd.le_snoc, ⟨h.sub, fun n x e => ?_, fun n m x e1 e2 => ?_, ?_, fun n x e => ?_, fun n x r e1 e2 => ?_, fun n r e => ?_, h.tab, h.nt⟩, a.fr, fun n x e => ?_, a.ex, a.sep, a.fz⟩
  · rcases Wd.snoc_cases e with e | ⟨_, e⟩
    · exact h.off n x e
    · rw [e]; exact hb
  · rcases Wd.snoc_cases e1 with e1 | ⟨h1, e1⟩ <;> rcases Wd.snoc_cases e2 with e2 | ⟨h2, e2⟩
    · exact h.inj n m x e1 e2
    · exact absurd e2 (neI n x e1)
    · exact absurd e1 (neI m x e2)
    · omega
  · show (w'.io ++ [p]).length = (z'.new q).n
    rw [PH.n_new, List.length_append, h.len]; rfl
  · rcases Wd.snoc_cases e with e | ⟨_, e⟩
    · exact h.dom n x e
    · rw [e]; exact hq.pl
  · rw [PH.get_new] at e2
    rcases Wd.snoc_cases e1 with e1 | ⟨h1, e1⟩
    · have : n ≠ z'.n := by
        have := (List.getElem?_eq_some_iff.mp e1).1
        rw [h.len] at this; omega
      rw [if_neg this] at e2
      exact (h.obj n x r e1 e2).mono Wd.le_snoc rfl
    · rw [if_pos (by rw [h1, h.len])] at e2
      cases e2
      rw [e1]
      exact hq.mono Wd.le_snoc rfl
  · rw [PH.get_new] at e
    by_cases c : n = z'.n
    · rw [if_pos c] at e
      cases e
      exact .inl (D.ltAll_mono (Nat.le_succ _) (hq.lt (Nat.le_of_eq (by rw [h.len, c]))))
    · rw [if_neg c] at e
      rw [PH.low_new]; exact h.up n r e
  · rcases Wd.snoc_cases e with e | ⟨_, e⟩
    · exact a.gr n x e
    · rw [e]; exact .inr fun ⟨u, h1, _⟩ => by rw [hp] at h1; cases h1
theorem Go.notI (a : Go g w H z' w' H') {p : Addr} (n : ∀ m : Nat, w.io[m]? ≠ some p) (h : Pl H p) : ∀ m : Nat, w'.io[m]? ≠ some p := fun m e => by
  rcases a.gr m p e with q | q
  · exact n m q
  · exact q h
theorem cold_lst {xs : List V} : Cold (.lst xs) := fun ps z => by cases z
theorem not_tbl {p : Addr} {o : HO} (h : H p = some o) (c : Cold o) : ∀ ps, H p ≠ some (.tbl ps) := fun ps z => by rw [h] at z; exact c ps (Option.some.inj z)
theorem not_code {p : Addr} {o : HO} (h : H p = some o) (c : ∀ f, o ≠ .ext f) : ∀ q, H p ≠ some (LamX.CodeO p q) := fun q z => by rw [h] at z; exact c _ (Option.some.inj z)
theorem not_tbl0 {p : Addr} (h : H p = none) : ∀ ps, H p ≠ some (.tbl ps) := fun ps z => by rw [h] at z; cases z
theorem not_code0 {p : Addr} (h : H p = none) : ∀ q, H p ≠ some (LamX.CodeO p q) := fun q z => by rw [h] at z; cases z
end
/-! ### a comprehension -/
theorem wipe_get (σ : L2.St) : ∀ (vs : List Nat) (j : Nat), (L2.wipe σ vs)[j]? = if j ∈ vs ∧ j < σ.length then some none else σ[j]? := by
  intro vs
  induction vs with
  | nil => intro j; simp [L2.wipe]
  | cons i r ih =>
    intro j
    show ((L2.wipe σ r).set i none)[j]? = _
    by_cases e : i = j
    · subst e
      by_cases h : i < σ.length
      · rw [List.getElem?_set_self (by rw [wipe_length]; exact h), if_pos ⟨List.mem_cons_self, h⟩]
      · rw [List.getElem?_eq_none (by rw [List.length_set, wipe_length]; omega), if_neg (fun q => h q.2), List.getElem?_eq_none (by omega)]
    · rw [List.getElem?_set_ne e, ih j]
      have : (j ∈ i :: r) ↔ j ∈ r := by simp [Ne.symm e]
      simp only [this]
theorem wipe_off {σ σ' : L2.St} {is vs : List Nat} (h : Off is (L2.wipe σ vs) σ') (hs : ∀ i ∈ is, i ∈ vs) : L2.wipe σ' vs = L2.wipe σ vs := by
  have hl : σ'.length = σ.length := by rw [h.1, wipe_length]
  apply List.ext_getElem?
  intro j
  rw [wipe_get, wipe_get, hl]
  by_cases c : j ∈ vs ∧ j < σ.length
  · rw [if_pos c, if_pos c]
  · rw [if_neg c, if_neg c]
    by_cases hj : j ∈ vs
    · have : ¬ j < σ.length := fun q => c ⟨hj, q⟩
      rw [List.getElem?_eq_none (by omega), List.getElem?_eq_none (by omega)]
    · rw [h.2 j fun q => hj (hs j q), wipe_get, if_neg c]
theorem EnvOk.wipe {g : Gb} {w : Wd} {σ : L2.St} {ρ : Env} (h : EnvOk g w σ ρ) : ∀ vs : List Nat, EnvOk g w (L2.wipe σ vs) (wipeE ρ vs)
  | [] => h
  | i :: r => by
    show EnvOk g w ((L2.wipe σ r).set i none) ((wipeE ρ r).set i none)
    exact (EnvOk.wipe h r).forget
/-- the wish of a comprehension's parts: no exception leaves -/
abbrev WNo : WX := fun _ _ _ _ => False
theorem sat_calm {α : Type} {m : M α} {z : PH} {P : α → PH → Prop} {E : XD} (h : Sat (mCalm m z) P E) : Sat (m z) P (fun _ _ _ => False) := by
  unfold mCalm at h
  cases e : m z with
  | ok a z' => rw [e] at h; exact h
  | exc c fs z' => rw [e] at h; exact h.elim
  | bad => rw [e] at h; exact h.elim
section
variable {g : Gb} {W : WX}
theorem et_yes {W : WX} : EvT g W tYes tYesD := fun w σ H z ρ E o Q h => h w H (.refl o)
theorem ev_lc {ti : TI} {gt : TG} {tt : TT} {te : TE} {vs is : List Nat} {di : DI} {dg : DG} {dt : DT} {de : DE} (hi : EvI g W ti di) (hg : EvG g gt is dg) (ht : EvT g WNo tt dt) (he : EvE g WNo te de) (hs : ∀ i ∈ is, i ∈ vs) :
    EvE g W (tLc ti gt tt te vs) (dLc di dg dt de vs) := fun w σ H z ρ E o Q h => by
  refine hi w σ H z ρ E o _ (sat_mono (sat_bind h) (fun it z1 s1 w1 J H1 g1 wk => ?_) fun _ _ _ q => q)
  intro Dl hD
  obtain ⟨nI, nB⟩ := g1.ok.fresh hD
  have s2 := sat_calm (sat_bind s1)
  have E1 := E.mono g1.le
  refine ⟨fun i m H' => ∃ w' z' accv acc, Go g w1 H1 z' w' H' ∧ H' Dl = some (.lst accv) ∧ (∀ n : Nat, w'.io[n]? ≠ some Dl) ∧ w'.B Dl = none ∧ RvA g w' accv acc ∧ acc.length ≤ i ∧ i + m = maxTurns ∧
      Sat (loopC it dg dt de (wipeE ρ vs) m i z') (fun ys z2 => QV g w H Q (.ref z2.n) (z2.new (.lst (acc ++ ys)))) (fun _ _ _ => False),
    ⟨maxTurns, w1, z1, [], [], (Go.refl g1.ok).mut hD nB nI cold_lst (not_tbl0 hD) (not_code0 hD), upd_same, nI, nB, .nil, Nat.le_refl _, Nat.zero_add _, s2⟩, fun i m H' hw => ?_⟩
  obtain ⟨w', z', accv, acc, g', hl, nI', nB', ra, hlen, hm, hs'⟩ := hw
  cases m with
  | zero => exact (show False from hs').elim
  | succ m =>
    have wki := wk i w' H' z' g'
    unfold loopC at hs'
    cases e : it i z' with
    | stop =>
      rw [e] at wki
      simp only [e] at hs'
      refine .inl ⟨wki, ?_⟩
      have ga := g'.adopt hD nB' nI' (q := .lst acc) ⟨accv, hl, ra⟩
      have q : QV g w H Q (.ref z'.n) (z'.new (.lst (acc ++ []))) := hs'
      rw [List.append_nil] at q
      exact q _ _ _ (g1.trans ga) (.ref (Wd.snoc_last g'.ok.len))
    | bad => simp only [e] at hs'; exact (show False from hs').elim
    | item d =>
      rw [e] at wki
      simp only [e] at hs'
      obtain ⟨hgo, hy⟩ := wki
      refine .inr ⟨hgo, fun H3 => ∃ w3 z3 accv acc, Go g w1 H1 z3 w3 H3 ∧ H3 Dl = some (.lst accv) ∧ (∀ n : Nat, w3.io[n]? ≠ some Dl) ∧ w3.B Dl = none ∧ RvA g w3 accv acc ∧ acc.length ≤ i + 1 ∧ i + 1 + m = maxTurns ∧
        Sat (loopC it dg dt de (wipeE ρ vs) m (i + 1) z3) (fun ys z2 => QV g w H Q (.ref z2.n) (z2.new (.lst (acc ++ ys)))) (fun _ _ _ => False), fun H3 q => ⟨m, Nat.lt_succ_self m, q⟩, fun x H2 y => ?_⟩
      obtain ⟨w2, g2, r2⟩ := hy x H2 y
      have hne : Pl H' Dl := ⟨_, hl, cold_lst⟩
      have hl2 : H2 Dl = some (.lst accv) := g2.fr _ _ nI' cold_lst hl
      have n2 := g2.notI nI' hne
      have b2 := g2.sep Dl nB' hne
      have E2 : EnvOk g w2 (L2.wipe σ vs) (wipeE ρ vs) := (E1.mono (g'.le.trans g2.le)).wipe vs
      refine hg.run w2 (L2.wipe σ vs) H2 z' (wipeE ρ vs) x d E2 g2.ok r2 _ (sat_mono (sat_bind hs') (fun ρ3 z3 s3 w3 σ3 H3 g3 E3 off => ⟨wipe_off off hs, ?_⟩) fun _ _ _ q => q)
      have hne2 : Pl H2 Dl := ⟨_, hl2, cold_lst⟩
      have hl3 : H3 Dl = some (.lst accv) := g3.fr _ _ n2 cold_lst hl2
      have n3 := g3.notI n2 hne2
      have b3 := g3.sep Dl b2 hne2
      refine ht w3 σ3 H3 z3 ρ3 E3 g3.ok _ (sat_mono (sat_bind s3) (fun k z4 s4 w4 H4 g4 => ?_) fun _ _ _ q => q.elim)
      have hne3 : Pl H3 Dl := ⟨_, hl3, cold_lst⟩
      have hl4 : H4 Dl = some (.lst accv) := g4.fr _ _ n3 cold_lst hl3
      have n4 := g4.notI n3 hne3
      have b4 := g4.sep Dl b3 hne3
      have g14 := ((g'.trans g2).trans g3).trans g4
      have ra4 := ((ra.mono g2.le).mono g3.le).mono g4.le
      cases k with
      | false => exact ⟨w4, z4, accv, acc, g14, hl4, n4, b4, ra4, by omega, by omega, s4⟩
      | true =>
        refine he w4 σ3 H4 z4 ρ3 (E3.mono g4.le) g4.ok _ (sat_mono (sat_bind s4) (fun dy z5 s5 w5 vy H5 g5 r5 => ?_) fun _ _ _ q => q.elim)
        have hne4 : Pl H4 Dl := ⟨_, hl4, cold_lst⟩
        have hl5 : H5 Dl = some (.lst accv) := g5.fr _ _ n4 cold_lst hl4
        have n5 := g5.notI n4 hne4
        have b5 := g5.sep Dl b4 hne4
        have ra5 := ra4.mono g5.le
        refine ⟨accv, hl5, ?_, w5, z5, accv ++ [vy], acc ++ [dy], (g14.trans g5).mut hD b5 n5 cold_lst (not_tbl hl5 cold_lst) (not_code hl5 fun f z => by cases z), upd_same, n5, b5, ra5.append (.cons r5 .nil), by rw [List.length_append, List.length_singleton]; omega, by omega, ?_⟩
        · rw [ra5.length, ← line_eq]
          have : maxTurns = 1000000 := rfl
          have : line = 16777216 := rfl
          omega
        · refine sat_mono (sat_bind s5) (fun ys z6 s6 => ?_) fun _ _ _ q => q
          have q : QV g w H Q (.ref z6.n) (z6.new (.lst (acc ++ dy :: ys))) := s6
          rw [List.append_assoc]
          exact q
end
end UW

/-! UP4 -/
namespace UW
open PySem
/-! ### calls -/
abbrev DF := List D → M D
/-- a call: what the callee made is forgotten where nothing tells of it -/
def mCut (m : M D) : M D := fun h => match m h with
  | .ok d h' => if d.lt h.n = true then .ok d (h'.cut h.n) else .ok d h'
  | .exc c fs h' => .exc c fs h'
  | .bad => .bad
/-- a call of a def that is handed plain data alone and hands back such: the store is not seen -/
def mApart (f : DF) (ds : List D) : M D := fun h => if D.ltAll 0 ds = true then match f ds .nil with
    | .ok d _ => if d.lt 0 = true then .ok d h else .bad
    | .exc c fs _ => if D.ltAll 0 (fs.map (·.2)) = true then .exc c fs h else .bad
    | .bad => .bad
  else .bad
def dCall (f : DF) (a : DA) : DE := fun ρ => mBind (a ρ) fun ds => mCut (f ds)
def dCallP (f : DF) (a : DA) : DE := fun ρ => mBind (a ρ) fun ds => mApart f ds
/-- a def's body: so many names -/
def dFun (n : Nat) (b : DS) : DF := fun ds => mBind (b (ds.map some ++ List.replicate (n - ds.length) none)) fun p => match p.1 with
  | .nx => mPure .non
  | .rt d => mPure d
  | _ => mBad
/-! ### objects -/
def fLook (f : Str) : List (Str × D) → Option D
  | [] => none
  | (g, d) :: r => if g = f then some d else fLook f r
def fStore (f : Str) (v : D) : List (Str × D) → List (Str × D)
  | [] => [(f, v)]
  | (g, d) :: r => if g = f then (g, v) :: r else (g, d) :: fStore f v r
def fFld (c f : Str) : D → M D := fun o => mGet o fun _ q => match q with
  | .ins c' fs => if c' = c then mOpt (fLook f fs) else mBad
  | _ => mBad
def dFld (c f : Str) (o : DE) : DE := fun ρ => mBind (o ρ) (fFld c f)
/-- o.f = e -/
def sFldD (c f : Str) (o e : DE) : DS := fun ρ => mBind (e ρ) fun v => mBind (o ρ) fun x => mGet x fun r q => match q with
  | .ins c' fs => if c' = c ∧ fs.length < 1000 then mBind (mPut r (.ins c (fStore f v fs)) [v]) fun _ => mPure (.nx, ρ) else mBad
  | _ => mBad
/-- o.m(..) of an instance of c -/
def dMeth (c m : Str) (f : DF) (o : DE) (a : DA) : DE := fun ρ => mBind (o ρ) fun x => mGet x fun _ q => match q with
  | .ins c' fs => if c' = c ∧ (fLook m fs).isNone = true then mBind (a ρ) fun ds => mCut (f (x :: ds)) else mBad
  | _ => mBad
/-- C(..) -/
def dMake (c : Str) (init : DF) (a : DA) : DE := fun ρ => mBind (a ρ) fun ds => mBind (mNew (.ins c [])) fun x => mBind (init (x :: ds)) fun d => match d with
  | .non => mPure x
  | _ => mBad
end UW

/-! U9 -/
namespace UW
open PySem PySem.Spec PyProof.Rows L2
/-! ### a def's promise where no repr is under way -/
section
variable (P : Program) (w : World) (K : PySem.W.Frag) (mg : Str → Option Value) (base : Heap)
structure FnG (gd : Bool) (k : Nat) (f : Addr) (fd : FuncData) (ps : List Str) (sp : Sp) : Prop where
  len : ∀ xs h q e, sp xs h q e → xs.length = ps.length
  go : ∀ (A : Around) (outer : List PySem.Env) (s : Shared) (h : Hp) (args : Args) (argv : List Value) (xs : List V) (q : VK) (e : XK),
    (gd = true → A.guards = some []) → Room k A → Env0 P w K mg base A outer s h → BindsTo s fd args (ps.zip argv) → Vals xs argv → sp xs h q e →
    codeAny (model P w) A (.call (.ref f) args) (CR (L2.CX P w) outer P w h s q e) s
end
/-- a def of the text, whatever its defaults -/
structure FunA (K : PySem.W.Frag) (x qual : Str) (st : Stmt) (f : Addr) (fd : FuncData) : Prop where
  ex : ∃ (oc : Value) (od : Option Addr)
    (dV kV doc pm : Value) (an : Option Addr) (cdv ct : Value) (osl : Array (Option Value)),
    fd = PySem.W.fnOf x qual (defArgs st) (defBody st) (defScope st) dV kV doc pm an cdv ct ∧ K.lookup f = some ⟨oc, od, .func fd, osl⟩ ∧ PySem.W.codeIn K cdv qual = true
  kp : PySem.W.keepIn K (Value.ref f) = true
theorem _root_.L2.Fun.any {K : PySem.W.Frag} {x qual : Str} {st : Stmt} {f : Addr} {fd : FuncData} (F : Fun K x qual st f fd) : FunA K x qual st f fd := by
  obtain ⟨oc, od, kV, doc, pm, an, cdv, ct, osl, h1, h2, h3⟩ := F.ex
  exact ⟨⟨oc, od, .none, kV, doc, pm, an, cdv, ct, osl, h1, h2, h3⟩, F.kp⟩
section
variable {P : Program} {w : World} {K : PySem.W.Frag} {mg : Str → Option Value} {base : Heap} {gd : Bool} {j k : Nat} {f : Addr} {fd : FuncData} {ps : List Str} {sp sp' : Sp}
theorem FnG.up (F : FnG P w K mg base gd j f fd ps sp) (h : j ≤ k) : FnG P w K mg base gd k f fd ps sp :=
  ⟨F.len, fun A o s h' a argv xs q e g r => F.go A o s h' a argv xs q e g (r.mono h)⟩
/-- a def of the text that makes lambdas: its code object -/
structure FunL (K : PySem.W.Frag) (x qual : Str) (st : Stmt) (f : Addr) (fd : FuncData) (c : Addr) : Prop where
  ex : ∃ (oc : Value) (od : Option Addr)
    (dV kV doc pm : Value) (an : Option Addr) (ct : Value) (osl : Array (Option Value)),
    fd = PySem.W.fnOf x qual (defArgs st) (defBody st) (defScope st) dV kV doc pm an (.ref c) ct ∧ K.lookup f = some ⟨oc, od, .func fd, osl⟩ ∧ PySem.W.codeIn K (.ref c) qual = true
  kp : PySem.W.keepIn K (Value.ref f) = true
/-- a def of the text keeps its promise, by its body -/
theorem fn_body {x qual : Str} {st : Stmt} {N : List Str} (F : FunA K x qual st f fd) (S : FnScope N ps (defScope st)) (len : ∀ xs h q e, sp xs h q e → xs.length = ps.length)
    (body : ∀ (cdv : Value) (A : Around) (outer : List PySem.Env) (s : Shared) (h : Hp) (xs : List V) (q : VK) (e : XK),
      PySem.W.codeIn K cdv qual = true → (gd = true → (A.deeper (envOfC qual (defScope st) s.heap.objs.size f cdv)).guards = some []) → Room k (A.deeper (envOfC qual (defScope st) s.heap.objs.size f cdv)) → sp xs h q e →
      ∃ t, PSs (cxOf (L2.CX P w) P w K mg base N qual (defScope st) f cdv A outer s h e) (defBody st) t ∧ t { nx := fun _ h' => q .non h', rt := q } (start N xs) h) :
    FnG P w K mg base gd (k + 1) f fd ps sp := by
  obtain ⟨ocl, odi, dV, kwV, doc, pm, an, cdv, ct, osl, rfl, lkf, hcd⟩ := F.ex
  refine ⟨len, fun A outer s h args argv xs q e hg hr e0 hb rv hsp => ?_⟩
  have kk : ∀ b o, base.get? b = some o → s.heap.get? b = some o := fun b o z => (e0.bs b o z).1
  have kin := e0.mod.kin.keeps kk
  have lim := e0.mod.nolimit.keeps kk
  refine codeAny_call_function hr.depth (kin _ _ lkf) rfl S.co S.gen rfl (PySem.W.codeRec_of kin hcd) (hb _ _ _ _ ?_)
  refine wpAny_newFunctionEnv_cells S.kind (fun y hy => ?_) fun env he s1 ic => ?_
  · rcases S.par y.1 (List.of_mem_zip hy).1 with z | z
    · exact .inl z
    · exact .inr ⟨z, PySem.W.cellsFrom_some _ _ _ (.inl z)⟩
  subst he
  refine ⟨lim.keeps ic.toInCall.keep, codeAny_func ?_⟩
  obtain ⟨t, ht, hq⟩ := body cdv A outer s h xs q e hcd hg (hr.deeper _) hsp
  have J := inv_start (CX := L2.CX P w) (P := P) (w := w) (K := K) (mg := mg) (base := base) (f := f) (cd := cdv) (E := e) S hr.hd e0 (len _ _ _ _ hsp) rv ic
  refine wpAny_mono (ht.run [] s1 (start N xs) h _ J hq) (fun fl s' hs => ?_) fun _ _ z => z
  cases fl with
  | next => obtain ⟨σ', h', J', z⟩ := hs; exact ⟨V.non, h', J'.os, J'.bare, J'.base, J'.hok, rfl, z⟩
  | brk => obtain ⟨_, _, _, z⟩ := hs; exact False.elim z
  | cont => obtain ⟨_, _, _, z⟩ := hs; exact False.elim z
  | ret u => obtain ⟨v, σ', h', J', r', z⟩ := hs; exact ⟨v, h', J'.os, J'.bare, J'.base, J'.hok, r', z⟩
theorem fn_bodyL {c : Addr} {x qual : Str} {st : Stmt} {N : List Str} (F : FunL K x qual st f fd c) (S : FnScope N ps (defScope st)) (len : ∀ xs h q e, sp xs h q e → xs.length = ps.length)
    (body : ∀ (A : Around) (outer : List PySem.Env) (s : Shared) (h : Hp) (xs : List V) (q : VK) (e : XK),
       (gd = true → (A.deeper (envOfC qual (defScope st) s.heap.objs.size f (.ref c))).guards = some []) → Room k (A.deeper (envOfC qual (defScope st) s.heap.objs.size f (.ref c))) → sp xs h q e →
      ∃ t, PSs (cxOf (L2.CX P w) P w K mg base N qual (defScope st) f (.ref c) A outer s h e) (defBody st) t ∧ t { nx := fun _ h' => q .non h', rt := q } (start N xs) h) :
    FnG P w K mg base gd (k + 1) f fd ps sp := by
  obtain ⟨ocl, odi, dV, kwV, doc, pm, an, ct, osl, rfl, lkf, hcd⟩ := F.ex
  refine ⟨len, fun A outer s h args argv xs q e hg hr e0 hb rv hsp => ?_⟩
  have kk : ∀ b o, base.get? b = some o → s.heap.get? b = some o := fun b o z => (e0.bs b o z).1
  have kin := e0.mod.kin.keeps kk
  have lim := e0.mod.nolimit.keeps kk
  refine codeAny_call_function hr.depth (kin _ _ lkf) rfl S.co S.gen rfl (PySem.W.codeRec_of kin hcd) (hb _ _ _ _ ?_)
  refine wpAny_newFunctionEnv_cells S.kind (fun y hy => ?_) fun env he s1 ic => ?_
  · rcases S.par y.1 (List.of_mem_zip hy).1 with z | z
    · exact .inl z
    · exact .inr ⟨z, PySem.W.cellsFrom_some _ _ _ (.inl z)⟩
  subst he
  refine ⟨lim.keeps ic.toInCall.keep, codeAny_func ?_⟩
  obtain ⟨t, ht, hq⟩ := body A outer s h xs q e hg (hr.deeper _) hsp
  have J := inv_start (CX := L2.CX P w) (P := P) (w := w) (K := K) (mg := mg) (base := base) (f := f) (cd := (.ref c)) (E := e) S hr.hd e0 (len _ _ _ _ hsp) rv ic
  refine wpAny_mono (ht.run [] s1 (start N xs) h _ J hq) (fun fl s' hs => ?_) fun _ _ z => z
  cases fl with
  | next => obtain ⟨σ', h', J', z⟩ := hs; exact ⟨V.non, h', J'.os, J'.bare, J'.base, J'.hok, rfl, z⟩
  | brk => obtain ⟨_, _, _, z⟩ := hs; exact False.elim z
  | cont => obtain ⟨_, _, _, z⟩ := hs; exact False.elim z
  | ret u => obtain ⟨v, σ', h', J', r', z⟩ := hs; exact ⟨v, h', J'.os, J'.bare, J'.base, J'.hok, r', z⟩
end
end UW
namespace UW
open PySem PySem.Spec PyProof.Rows L2
/-! ### calls -/
section
variable {X : Cx} {gd : Bool} {k : Nat} {f C : Addr} {fd : FuncData} {ps : List Str} {sp : Sp} {dvs : List V} {dd : List Value} {W : WX} {x m : Str} {p pos apos : Pos} {e o : Expr} {es : List Expr} {t : TA} {ta : TE}
/-- a call, its exceptions by the wish W -/
def tCallW (sp : Sp) (dvs : List V) (W : WX) (t : TA) : TE := fun σ H Q => t σ H fun xs H1 => sp (xs ++ dvs) H1 Q (WE W σ)
theorem run_g {pins : List (Addr × Obj)} {σ : L2.St} {h : Hp} {s : Shared} {q : VK} {argv : List Value} {xs : List V} (F : FnG X.prog X.w X.K X.mg X.base gd k f fd ps sp) (hg : gd = true → X.A.guards = some []) (hr : Room k X.A) (hb : Binds X.K fd ps dd) (hd : Vals dvs dd)
    (tk : Takes X W) (I : Inv X pins σ h s) (r : Vals xs argv) (z : sp (xs ++ dvs) h q (WE W σ)) : wpAny (model X.prog X.w) X.A (call (.ref f) argv) (EP X pins σ q) X.xe s := by
  have r2 := r.append hd
  have hl : (argv ++ dd).length = ps.length := r2.length.symm.trans (F.len _ _ _ _ z)
  refine wpAny_call (codeAny_mono (F.go X.A X.stack s h ⟨argv, []⟩ (argv ++ dd) (xs ++ dvs) q _ hg hr I.env0 (hb s argv I.kIn hl) r2 z) fun res s' hq => ?_)
  match res, hq with
  | .error ee, hq => exact passAt tk σ pins h s ee s' I hq
  | .ok (.ret u), hq => exact I.after hq
theorem pe_callW (F : FnG X.prog X.w X.K X.mg X.base gd k f fd ps sp) (hg : gd = true → X.A.guards = some []) (hr : Room k X.A) (hgl : Gl X x) (hm : X.mg x = some (.ref f)) (hk : PySem.W.keepIn X.K (.ref f) = true) (hb : Binds X.K fd ps dd) (hd : Vals dvs dd)
    (tk : Takes X W) (ha : PA X (e :: es) t) (hdb : (x == ("__debug__" : Str)) = false := by decide)
    (he : starEach (e :: es) X.env = (false, eval e X.env) :: starEach es X.env := by rfl)
    (hpl : (backTo pos (starEach es X.env)).any (·.1) = false := by rfl) : PE X (.Call (.Name x p) (e :: es) [] pos) (tCallW sp dvs W t) :=
  ⟨fun pins s σ h q I z => wpAny_Call_Name_kw (ld_glob I hgl hm (PySem.W.callWith_K (h₀ := X.base) I.ok.mod.kin hk
    (thn (ha.run pos pins s σ h _ I z) fun argv s1 ⟨xs, h1, I1, r, z1⟩ => ⟨I1.kIn, run_g F hg hr hb hd tk I1 r z1⟩) he hpl) hdb)⟩
theorem pe_callW0 (F : FnG X.prog X.w X.K X.mg X.base gd k f fd ps sp) (hg : gd = true → X.A.guards = some []) (hr : Room k X.A) (hgl : Gl X x) (hm : X.mg x = some (.ref f)) (hk : PySem.W.keepIn X.K (.ref f) = true) (hb : Binds X.K fd ps dd) (hd : Vals dvs dd)
    (tk : Takes X W) (hdb : (x == ("__debug__" : Str)) = false := by decide) : PE X (.Call (.Name x p) [] [] pos) (tCallW sp dvs W tNil) :=
  ⟨fun pins s σ h q I z => wpAny_Call_Name_kw (ld_glob I hgl hm (PySem.W.callWith_K0 I.kIn hk (run_g (argv := []) F hg hr hb hd tk I .nil z)) hdb)⟩
/-- o.m(..) -/
def tMethW (C : Addr) (m : Str) (sp : Sp) (dvs : List V) (W : WX) (ta : TE) (t : TA) : TE := fun σ H Q => ta σ H fun x H1 => ∃ a dx fs, x = .ref a ∧ H1 a = some (.ins C dx fs) ∧ fs.lookup m = none ∧
  t σ H1 fun vs H2 => sp (x :: (vs ++ dvs)) H2 Q (WE W σ)
theorem pe_methW {pl : Sem Bool} (he : PE X o ta) (c : Cls X.K C) (hm : Meth X.K C m f) (F : FnG X.prog X.w X.K X.mg X.base gd k f fd ps sp) (hgd : gd = true → X.A.guards = some []) (hr : Room k X.A) (hb : Binds X.K fd ps dd) (hd : Vals dvs dd) (tk : Takes X W) (ha : PA X (e :: es) t)
    (hst : starEach (e :: es) X.env = (false, eval e X.env) :: starEach es X.env := by rfl)
    (hpl : (backTo pos (starEach es X.env)).any (·.1) = false := by rfl)
    (ht : eval (Expr.Call (.Attribute o m apos) (e :: es) [] pos) X.env = (do
      let ov ← eval o X.env
      standAt apos.atName
      let (fn, bnd) ← holding [ov] (getMethod ov m pl)
      callWith pos fn bnd (backTo pos (starEach (e :: es) X.env)) (backToKw pos (keywordEach [] X.env))) := by rfl) :
    PE X (.Call (.Attribute o m apos) (e :: es) [] pos) (tMethW C m sp dvs W ta t) := by
  refine .mk fun pins s σ H Q I h => ?_
  refine (PySem.W.methodCall_KW (pl := pl) (thn (he.run pins s σ H _ I h) fun u s1 ⟨x, H1, I1, rx, a, dx, fs, ex, ea, l, q⟩ => ?_) ht)
  subst ex
  rcases (show u = Value.ref a from rx) with rfl
  refine (getmeth_ok I1 ea c hm l ?_)
  refine (PySem.W.callWith_K (first := [.ref a]) (h₀ := X.base) I.ok.mod.kin hm.kp (thn (ha.run pos pins s1 σ H1 _ I1 q) fun us s2 ⟨vs, H2, I2, r, q2⟩ => ⟨I2.kIn, ?_⟩) hst hpl)
  exact run_g (argv := .ref a :: us) (xs := .ref a :: vs) F hgd hr hb hd tk I2 (.cons rfl r) q2
theorem pe_methW0 {pl : Sem Bool} (he : PE X o ta) (c : Cls X.K C) (hm : Meth X.K C m f) (F : FnG X.prog X.w X.K X.mg X.base gd k f fd ps sp) (hgd : gd = true → X.A.guards = some []) (hr : Room k X.A) (hb : Binds X.K fd ps dd) (hd : Vals dvs dd) (tk : Takes X W)
    (ht : eval (Expr.Call (.Attribute o m apos) [] [] pos) X.env = (do
      let ov ← eval o X.env
      standAt apos.atName
      let (fn, bnd) ← holding [ov] (getMethod ov m pl)
      callWith pos fn bnd (backTo pos (starEach [] X.env)) (backToKw pos (keywordEach [] X.env))) := by rfl) :
    PE X (.Call (.Attribute o m apos) [] [] pos) (tMethW C m sp dvs W ta tNil) := by
  refine .mk fun pins s σ H Q I h => ?_
  refine (PySem.W.methodCall_KW (pl := pl) (thn (he.run pins s σ H _ I h) fun u s1 ⟨x, H1, I1, rx, a, dx, fs, ex, ea, l, q⟩ => ?_) ht)
  subst ex
  rcases (show u = Value.ref a from rx) with rfl
  refine (getmeth_ok I1 ea c hm l ?_)
  exact PySem.W.callWith_K0 (first := [.ref a]) I1.kIn hm.kp (run_g (argv := [.ref a]) (xs := [.ref a]) F hgd hr hb hd tk I1 (.cons rfl .nil) q)
/-- C(..) -/
def tMakeW (C : Addr) (sp : Sp) (dvs : List V) (W : WX) (t : TA) : TE := fun σ H Q => t σ H fun vs H1 => ∀ x dx, H1 x = none → H1 dx = none → dx ≠ x →
  sp (.ref x :: (vs ++ dvs)) (upd (upd H1 dx (.own x)) x (.ins C dx [])) (fun v H2 => v = .non ∧ Q (.ref x) H2) (WE W σ)
theorem run_makeG {pins : List (Addr × Obj)} {σ : L2.St} {H : Hp} {s : Shared} {Q : VK} {us : List Value} {vs : List V} (M : Mk X.K C f) (F : FnG X.prog X.w X.K X.mg X.base gd k f fd ps sp) (hgd : gd = true → X.A.guards = some []) (hr : Room (k + 1) X.A) (hb : Binds X.K fd ps dd) (hd : Vals dvs dd)
    (tk : Takes X W) (I : Inv X pins σ H s) (r : Vals vs us)
    (h : ∀ x dx, H x = none → H dx = none → dx ≠ x → sp (.ref x :: (vs ++ dvs)) (upd (upd H dx (.own x)) x (.ins C dx [])) (fun v H2 => v = .non ∧ Q (.ref x) H2) (WE W σ)) :
    wpAny (model X.prog X.w) X.A (call (Value.ref C) us) (EP X pins σ Q) X.xe s := by
  have hq := (h (s.heap.objs.size + 1) s.heap.objs.size (I.hok.fresh (Nat.le_succ _)) (I.hok.fresh (Nat.le_refl _)) (Nat.ne_of_lt (Nat.lt_succ_self _)))
  have I2 := (Inv.made (C := C) I)
  have r2 : Vals (V.ref (s.heap.objs.size + 1) :: (vs ++ dvs)) (Value.ref (s.heap.objs.size + 1) :: (us ++ dd)) := .cons rfl (r.append hd)
  have hl : (Value.ref (s.heap.objs.size + 1) :: us ++ dd).length = ps.length := by
    have e := r2.length
    rw [F.len _ _ _ _ hq] at e
    exact e.symm
  refine wpAny_call (make_map (f := f) I.kIn M.makes M.init (beq_iff_eq.mp M.fn) (codeAny_mono (F.go _ X.stack _ _ ⟨Value.ref (s.heap.objs.size + 1) :: us, []⟩ (Value.ref (s.heap.objs.size + 1) :: (us ++ dd)) _ _ _ (fun y => by rw [← hgd y]; rfl) (hr.make C us [])
    (I2.env0.make C us [])
      (hb _ (Value.ref (s.heap.objs.size + 1) :: us) I2.kIn hl) r2 hq) fun r s' hq' => ?_))
  cases r with
  | error e => exact passAt tk σ pins _ _ e s' I2 hq'
  | ok fl =>
    cases fl with
    | ret u =>
      rcases I2.after hq' with ⟨v, H', I3, rv, ev, q3⟩
      subst ev
      exact (⟨rv, ⟨V.ref (s.heap.objs.size + 1), H', I3, rfl, q3⟩⟩)
    | next => exact (False.elim hq')
    | brk => exact False.elim hq'
    | cont => exact (False.elim hq')
theorem pe_makeW (M : Mk X.K C f) (F : FnG X.prog X.w X.K X.mg X.base gd k f fd ps sp) (hgd : gd = true → X.A.guards = some []) (hr : Room (k + 1) X.A) (hg : Gl X x) (hm : X.mg x = some (.ref C)) (hb : Binds X.K fd ps dd) (hd : Vals dvs dd) (tk : Takes X W)
    (ha : PA X (e :: es) t) (hdb : (x == ("__debug__" : Str)) = false := by decide)
    (he : starEach (e :: es) X.env = (false, eval e X.env) :: starEach es X.env := by rfl)
    (hpl : (backTo pos (starEach es X.env)).any (·.1) = false := by rfl) :
    PE X (.Call (.Name x p) (e :: es) [] pos) (tMakeW C sp dvs W t) := by
  refine .mk fun pins s σ H Q I h => ?_
  refine (wpAny_Call_Name_kw (ld_glob I hg hm ?_ hdb))
  refine (PySem.W.callWith_K (h₀ := X.base) I.ok.mod.kin M.kp (thn (ha.run pos pins s σ H _ I h) fun us s1 ⟨vs, H1, I1, r, q⟩ => ⟨I1.kIn, ?_⟩) he hpl)
  exact run_makeG M F hgd hr hb hd tk I1 r q
theorem pe_makeW0 (M : Mk X.K C f) (F : FnG X.prog X.w X.K X.mg X.base gd k f fd ps sp) (hgd : gd = true → X.A.guards = some []) (hr : Room (k + 1) X.A) (hg : Gl X x) (hm : X.mg x = some (.ref C)) (hb : Binds X.K fd ps dd) (hd : Vals dvs dd) (tk : Takes X W)
    (hdb : (x == ("__debug__" : Str)) = false := by decide) : PE X (.Call (.Name x p) [] [] pos) (tMakeW C sp dvs W tNil) := by
  refine .mk fun pins s σ H Q I h => ?_
  refine (wpAny_Call_Name_kw (ld_glob I hg hm ?_ hdb))
  exact PySem.W.callWith_K0 I.kIn M.kp (run_makeG (us := []) M F hgd hr hb hd tk I .nil h)
end
/-! ### promises over data -/
/-- the wish of a def about exceptions -/
def QE (g : Gb) (w : Wd) (H : Hp) (E : XK) : XD := fun c fs z' => ∀ C dd w' H', Go g w H z' w' H' → ExR g w' c fs C dd → E (.ref C) (some dd) H'
theorem QE.at {g : Gb} {E : XK} {w w' : Wd} {H H' : Hp} {z' : PH} (go : Go g w H z' w' H') {cc : Str} {fs : List (Str × D)} {z2 : PH} (h : QE g w H E cc fs z2) : QE g w' H' E cc fs z2 := fun C dd w2 H2 g2 r => h C dd w2 H2 (go.trans g2) r
def spF (g : Gb) (n : Nat) (f : DF) : Sp := fun xs H Q E => xs.length = n ∧ ∃ (w : Wd) (z : PH) (ds : List D), Ok g w z H ∧ RvA g w xs ds ∧ Sat (f ds z) (QV g w H Q) (QE g w H E)
theorem spF_len {g : Gb} {ps : List Str} {f : DF} : ∀ xs h q e, spF g ps.length f xs h q e → xs.length = ps.length := fun _ _ _ _ h => h.1
section
variable {g : Gb} {W : WX} {ta : TA} {da : DA} {n : Nat} {f : DF}
theorem lt_nil {d : D} {m : Nat} (h : d.lt 0 = true) : d.lt m = true := D.lt_mono (Nat.zero_le m) h
theorem ltAll_nil {ds : List D} {m : Nat} (h : D.ltAll 0 ds = true) : D.ltAll m ds = true := D.ltAll_mono (Nat.zero_le m) h
/-- the store seen as empty -/
theorem Ok.apart {w : Wd} {z : PH} {H : Hp} (o : Ok g w z H) : Ok g ⟨[], w.B, w.op⟩ .nil H :=
  ⟨o.sub, fun n a e => by simp at e, fun n m a e => by simp at e, rfl, fun n a e => by simp at e, fun n a p e => by simp at e, fun n p e => by simp [PH.get, PH.nil] at e, o.tab, o.nt⟩
theorem Go.apart {w : Wd} {z z' : PH} {H H' : Hp} {w' : Wd} (o : Ok g w z H) (a : Go g ⟨[], w.B, w.op⟩ H z' w' H') : Go g w H z ⟨w.io, w'.B, w.op⟩ H' := by
  have keep : ∀ (x : Addr) (u : HO), Cold u → H x = some u → H' x = some u := fun x u c e => a.fr x u (fun m q => by simp at q) c e
  have le : Wd.Le w ⟨w.io, w'.B, w.op⟩ := ⟨fun _ _ e => e, a.le.B, rfl⟩
  refine ⟨le, ⟨a.ok.sub, fun n x e => ?_, o.inj, o.len, fun n x e => ?_, fun n x p e1 e2 => ?_, o.up, a.ok.tab, a.ok.nt⟩, fun x u _ c e => keep x u c e, fun n x e => .inl e, a.ex, fun x e1 e2 => a.sep x e1 e2, a.fz⟩
  · exact a.sep x (o.off n x e) (o.dom n x e)
  · exact a.ex x (o.dom n x e)
  · have q := o.obj n x p e1 e2
    obtain ⟨u, hu, hc, _⟩ := q.there
    exact q.mono le (by rw [hu]; exact keep x u hc hu)
theorem RvA.apart {w : Wd} {vs : List V} {ds : List D} (a : RvA g w vs ds) (h : D.ltAll 0 ds = true) : RvA g ⟨[], w.B, w.op⟩ vs ds := RvA.cut (w := w) (w' := ⟨[], w.B, w.op⟩) (Same.refl _) rfl (m := 0) (fun n x hn => absurd hn (Nat.not_lt_zero n)) a h
theorem Rv.widen {w w' : Wd} {v : V} {d : D} (r : Rv g w' v d) (h : d.lt 0 = true) (hB : w'.B = w.B) (ho : w'.op = w.op) : Rv g w v d := r.cut (w := w') (w' := w) (by rw [hB]; exact Same.refl _) ho.symm (m := 0) (fun n x hn => absurd hn (Nat.not_lt_zero n)) h
theorem FsR.widen {w w' : Wd} {gs : List (Str × V)} {fs : List (Str × D)} (r : FsR g w' gs fs) (h : D.ltAll 0 (fs.map (·.2)) = true) (hB : w'.B = w.B) (ho : w'.op = w.op) : FsR g w gs fs := r.cut (w := w') (w' := w) (by rw [hB]; exact Same.refl _) ho.symm (m := 0) (fun n x hn => absurd hn (Nat.not_lt_zero n)) h
theorem ev_callP (h : EvA g W ta n da) : EvE g W (tCallW (spF g n f) [] W ta) (dCallP f da) := fun w σ H z ρ E o Q hq =>
  h w σ H z ρ E o _ (sat_mono (sat_bind hq) (fun ds z1 s1 hl w1 vs H1 g1 r1 => by
    have s1 : Sat (mApart f ds z1) (QV g w H Q) (QX g w H σ W) := s1
    unfold mApart at s1
    by_cases c : D.ltAll 0 ds = true
    · rw [if_pos c] at s1
      refine ⟨by rw [List.append_nil, r1.length, hl], ⟨[], w1.B, w1.op⟩, .nil, ds, g1.ok.apart, by rw [List.append_nil]; exact r1.apart c, ?_⟩
      cases e : f ds .nil with
      | ok d z2 =>
        rw [e] at s1
        by_cases cd : d.lt 0 = true
        · simp only [cd, if_true] at s1
          have s1 : QV g w H Q d z1 := s1
          exact fun w2 v H2 g2 r2 => s1 _ v H2 (g1.trans (g2.apart g1.ok)) (r2.widen cd rfl g2.le.op)
        · simp only [cd, if_false] at s1
          exact (show False from s1).elim
      | exc cc fs z2 =>
        rw [e] at s1
        by_cases cd : D.ltAll 0 (fs.map (·.2)) = true
        · simp only [cd, if_true] at s1
          have s1 : QX g w H σ W cc fs z1 := s1
          refine fun C dd w2 H2 g2 ⟨x1, gs, x2, x3⟩ => ?_
          exact s1 C dd ⟨w1.io, w2.B, w1.op⟩ H2 (g1.trans (g2.apart g1.ok)) ⟨x1, gs, x2, x3.widen cd rfl g2.le.op⟩
        · simp only [cd, if_false] at s1
          exact (show False from s1).elim
      | bad => rw [e] at s1; exact (show False from s1).elim
    · rw [if_neg c] at s1
      exact (show False from s1).elim) fun _ _ _ q => q)
/-- behind a call: what was made is forgotten where it may be -/
theorem sat_cut {m : M D} {w : Wd} {z : PH} {H : Hp} {Q : VK} {E : XD} (hlen : w.io.length = z.n) (h : Sat (mCut m z) (QV g w H Q) E) : Sat (m z) (QV g w H Q) E := by
  unfold mCut at h
  cases e : m z with
  | ok d z' =>
    rw [e] at h
    simp only at h
    by_cases c : d.lt z.n = true
    · rw [if_pos c] at h
      by_cases cl : z'.lowOk z.n = true
      · intro w' v H' g' r
        exact (show QV g w H Q d (z'.cut z.n) from h) ⟨w.io, w'.B, w.op⟩ v H' (g'.cut hlen cl) (g'.cutV hlen r c)
      · have e2 : z'.cut z.n = z' := by unfold PH.cut; rw [if_neg cl]
        rw [e2] at h
        exact h
    · rw [if_neg c] at h
      exact h
  | exc cc fs z' => rw [e] at h; exact h
  | bad => rw [e] at h; exact h
theorem ev_call_ (h : EvA g W ta n da) : EvE g W (tCallW (spF g n f) [] W ta) (dCall f da) := fun w σ H z ρ E o Q hq =>
  h w σ H z ρ E o _ (sat_mono (sat_bind hq) (fun ds z1 s1 hl w1 vs H1 g1 r1 => by
    have s2 : Sat (f ds z1) (QV g w1 H1 Q) (QX g w H σ W) := sat_cut g1.ok.len (sat_mono s1 (fun d z2 q => q.at g1) fun _ _ _ q => q)
    refine ⟨by rw [List.append_nil, r1.length, hl], w1, z1, ds, g1.ok, by rw [List.append_nil]; exact r1, sat_mono s2 (fun _ _ q => q) fun cc fs z2 q => ?_⟩
    exact fun C dd w2 H2 g2 r2 => q C dd w2 H2 (g1.trans g2) r2) fun _ _ _ q => q)
/-! a def's body -/
theorem body_of {ts : TS} {b : DS} {N : List Str} {xs : List V} {H : Hp} {Q : VK} {E : XK} (h : EvS g (fun cls d _ H => E cls d H) ts b) (hN : n ≤ N.length) (hsp : spF g n (dFun N.length b) xs H Q E) : ts { nx := fun _ h' => Q .non h', rt := Q } (L2.start N xs) H := by
  obtain ⟨hl, w, z, ds, o, r, hs⟩ := hsp
  have hd : ds.length = n := r.length.symm.trans hl
  refine h w (L2.start N xs) H z (ds.map some ++ List.replicate (N.length - ds.length) none) ⟨?_, fun i d e => ?_⟩ o _ (sat_mono (sat_bind hs) (fun p z1 s1 => ?_) fun c fs z1 q => fun σ' C dd w' H' g' r' => q C dd w' H' g' r')
  · unfold L2.start
    simp [hl, hd]
  · unfold L2.start
    by_cases hi : i < ds.length
    · rw [List.getElem?_append_left (by simpa using hi), List.getElem?_map] at e
      cases q : ds[i]? with
      | none => (rw [q] at e; cases e)
      | some d' =>
        rw [q] at e
        simp only [Option.some.injEq, Option.map_some] at e
        subst e
        obtain ⟨v, h1, h2⟩ := r.get q
        refine ⟨v, ?_, h2⟩
        rw [List.getElem?_append_left (by rw [List.length_map]; exact (List.getElem?_eq_some_iff.mp h1).1), List.getElem?_map, h1]
        rfl
    · rw [List.getElem?_append_right (by simpa using hi), List.getElem?_replicate] at e
      split at e <;> cases e
  · obtain ⟨fl, ρ'⟩ := p
    cases fl with
    | nx => exact fun w' σ' H' g' E' => (show QV g w H Q .non z1 from s1) w' .non H' g' .non
    | rt d => exact fun w' v H' g' r' => (show QV g w H Q d z1 from s1) w' v H' g' r'
    | bk => exact (show False from s1).elim
    | ct => exact (show False from s1).elim
/-! ### objects -/
theorem look_of {w : Wd} {m : Str} : ∀ {gs : List (Str × V)} {fs : List (Str × D)}, FsR g w gs fs → (fLook m fs = none ∧ gs.lookup m = none) ∨ ∃ d v, fLook m fs = some d ∧ gs.lookup m = some v ∧ Rv g w v d
  | _, _, .nil => .inl (And.intro rfl rfl)
  | _, _, .cons (f := f) (v := v) (e := e) (r := r) (s := s) hv t => by
    by_cases c : f = m
    · right
      refine ⟨e, v, ?_, ?_, hv⟩
      · unfold fLook; rw [if_pos c]
      · subst c; simp [List.lookup]
    · have e1 : fLook m ((f, e) :: s) = fLook m s := by conv => lhs; unfold fLook; rw [if_neg c]
      have e2 : ((f, v) :: r).lookup m = r.lookup m := by
        have : (m == f) = false := beq_eq_false_iff_ne.mpr (Ne.symm c)
        simp [List.lookup, this]
      rw [e1, e2]
      exact look_of t
theorem FsR.store {w : Wd} {f : Str} {v : V} {d : D} (hv : Rv g w v d) : ∀ {gs : List (Str × V)} {fs : List (Str × D)}, FsR g w gs fs → FsR g w (putF f v gs) (fStore f d fs)
  | _, _, .nil => .cons hv .nil
  | _, _, .cons (f := f') (v := v') (e := e) (r := r) (s := s) h t => by
    unfold putF fStore
    by_cases c : f' = f
    · rw [if_pos c, if_pos c]; exact .cons hv t
    · rw [if_neg c, if_neg c]; exact .cons h (FsR.store hv t)
theorem FsR.length {w : Wd} : ∀ {gs : List (Str × V)} {fs : List (Str × D)}, FsR g w gs fs → gs.length = fs.length
  | _, _, .nil => rfl
  | _, _, .cons _ t => by rw [List.length_cons, List.length_cons, FsR.length t]
variable {c m : Str} {C : Addr} {te tv : TE} {e o : DE}
theorem Ok.insAt {w : Wd} {z : PH} {H : Hp} {r : Nat} {a : Addr} {fs : List (Str × D)} (k : Ok g w z H) (hc : g.mg c = some (.ref C)) (hr : w.io[r]? = some a) (ho : z.get r = some (.ins c fs)) : ∃ dx gs, H a = some (.ins C dx gs) ∧ FsR g w gs fs := by
  obtain ⟨C', dx, gs, h1, h2, h3⟩ := k.obj r a _ hr ho
  rw [hc] at h2
  cases h2
  exact ⟨dx, gs, h1, h3⟩
theorem ev_fld (hc : g.mg c = some (.ref C)) (cl : Cls g.K C) (na : NoAttr g.K C m) (he : EvE g W te e) : EvE g W (tFld g.K te m) (dFld c m e) := fun w σ H z ρ E o Q hq =>
  he w σ H z ρ E o _ (sat_mono (sat_bind hq) (fun d z1 s1 w1 v H1 g1 r1 => by
    obtain ⟨r, q, rfl, gt, s2⟩ := sat_get (show Sat (mGet d (fun _ q => match q with | .ins c' fs => if c' = c then mOpt (fLook m fs) else mBad | _ => mBad) z1) _ _ from s1)
    cases q with
    | ins c' fs =>
      obtain ⟨rfl, s3⟩ := sat_if s2
      obtain ⟨d', q1, q2⟩ := sat_opt s3
      cases r1 with
      | ref i1 =>
        obtain ⟨dx, gs, h1, h2⟩ := g1.ok.insAt hc i1 gt
        rcases look_of (m := m) h2 with ⟨z, _⟩ | ⟨d2, v2, y1, y2, y3⟩
        · rw [z] at q1; cases q1
        · rw [q1] at y1; cases y1
          exact ⟨_, C, dx, gs, v2, rfl, h1, cl, na, y2, (show QV g w H Q d' z1 from q2) w1 v2 H1 g1 y3⟩
    | _ => exact (show False from s2).elim) fun _ _ _ q => q)
theorem es_fld (hc : g.mg c = some (.ref C)) (cl : Cls g.K C) (na : NoAttr g.K C m) (ho : EvE g W te o) (hv : EvE g W tv e) : EvS g W (sFld g.K te tv m) (sFldD c m o e) := fun w σ H z ρ E ok Dn hq =>
  hv w σ H z ρ E ok _ (sat_mono (sat_bind hq) (fun dv z1 s1 w1 v H1 g1 r1 => ho w1 σ H1 z1 ρ (E.mono g1.le) g1.ok _ (sat_mono (sat_bind s1) (fun dx0 z2 s2 w2 x H2 g2 r2 => by
    have g12 := g1.trans g2
    obtain ⟨r, q, rfl, gt, s3⟩ := sat_get s2
    cases q with
    | ins c' fs =>
      obtain ⟨⟨rfl, hl⟩, s4⟩ := sat_if s3
      cases r2 with
      | @ref a _ i1 =>
        obtain ⟨dx, gs, h1, h2⟩ := g2.ok.insAt hc i1 gt
        refine ⟨a, C, dx, gs, rfl, h1, cl, na, by rw [h2.length]; exact hl, ?_⟩
        have gs2 := Go.set (o := .ins C dx (putF m v gs)) (q := .ins c' (fStore m dv fs)) (vs := [dv]) g2.ok i1 ⟨C, dx, putF m v gs, upd_same, hc, h2.store (r1.mono g2.le)⟩ (fun r' hr' x hx => ?_) ⟨_, gt⟩ (fun o' u e => by rw [h1] at e; cases e)
        · exact (show QS g w H Dn (.nx, ρ) _ from s4) w2 σ _ (g12.trans gs2) (E.mono g12.le)
        · rw [gt] at hr'
          cases hr'
          exact vals_store hx
    | _ => exact (show False from s3).elim) fun _ _ _ q => (q.at g1).qx)) fun _ _ _ q => q.qx)
where
  vals_store {m : Str} {dv x : D} : ∀ {fs : List (Str × D)} {c' : Str}, x ∈ (PO.ins c' (fStore m dv fs)).vals → x ∈ (PO.ins c' fs).vals ∨ x ∈ [dv]
    | [], c', h => by
      simp [PO.vals, fStore] at h
      exact .inr (by simp [h])
    | (f, e) :: r, c', h => by
      unfold fStore at h
      by_cases q : f = m
      · rw [if_pos q] at h
        simp only [PO.vals, List.map_cons, List.mem_cons] at h ⊢
        rcases h with h | h
        · exact .inr (.inl h)
        · exact .inl (.inr h)
      · rw [if_neg q] at h
        simp only [PO.vals, List.map_cons, List.mem_cons] at h ⊢
        rcases h with h | h
        · exact .inl (.inl h)
        · rcases vals_store (c' := c') (fs := r) h with h | h
          · exact .inl (.inr h)
          · exact (.inr (by simpa using h))
theorem ev_meth (hc : g.mg c = some (.ref C)) (ho : EvE g W te o) (ha : EvA g W ta n da) : EvE g W (tMethW C m (spF g (n + 1) f) [] W te ta) (dMeth c m f o da) := fun w σ H z ρ E ok Q hq =>
  ho w σ H z ρ E ok _ (sat_mono (sat_bind hq) (fun d z1 s1 w1 v H1 g1 r1 => by
    obtain ⟨r, q, rfl, gt, s2⟩ := sat_get s1
    cases q with
    | ins c' fs =>
      obtain ⟨⟨rfl, hn⟩, s3⟩ := sat_if s2
      cases r1 with
      | @ref a _ i1 =>
        obtain ⟨dx, gs, h1, h2⟩ := g1.ok.insAt hc i1 gt
        have hlk : gs.lookup m = none := by
          rcases look_of (m := m) h2 with ⟨_, z⟩ | ⟨d2, v2, y1, y2, y3⟩
          · exact z
          · rw [y1] at hn; cases hn
        refine ⟨a, dx, gs, rfl, h1, hlk, ha w1 σ H1 z1 ρ (E.mono g1.le) g1.ok _ (sat_mono (sat_bind s3) (fun ds z2 s4 hl w2 vs H2 g2 r2 => ?_) fun _ _ _ q => q.at g1)⟩
        have g12 := g1.trans g2
        have s5 : Sat (f (.ref r :: ds) z2) (QV g w2 H2 Q) (QX g w H σ W) := sat_cut g2.ok.len (sat_mono s4 (fun d z3 q => q.at g12) fun _ _ _ q => q)
        refine ⟨by rw [List.append_nil, List.length_cons, r2.length, hl], w2, z2, .ref r :: ds, g2.ok, by rw [List.append_nil]; exact .cons (.ref (g2.le.io _ _ i1)) r2, sat_mono s5 (fun _ _ q => q) fun cc fs z3 q => ?_⟩
        exact fun C dd w3 H3 g3 r3 => q C dd w3 H3 (g12.trans g3) r3
    | _ => exact (show False from s2).elim) fun _ _ _ q => q)
theorem ev_make (hc : g.mg c = some (.ref C)) (ha : EvA g W ta n da) : EvE g W (tMakeW C (spF g (n + 1) f) [] W ta) (dMake c f da) := fun w σ H z ρ E ok Q hq =>
  ha w σ H z ρ E ok _ (sat_mono (sat_bind hq) (fun ds z1 s1 hl w1 vs H1 g1 r1 => fun x dx nx ndx nex => by
    have s2 := sat_bind (show Sat (mBind (mNew (.ins c [])) (fun x => mBind (f (x :: ds)) fun d => match d with | .non => mPure x | _ => mBad) z1) _ _ from s1)
    -- the instance's own dict, then the instance
    have H2own : upd H1 dx (.own x) x = none := by rw [upd_ne (Ne.symm nex)]; exact nx
    have gA : Go g w1 H1 z1 w1 (upd H1 dx (.own x)) := by
      obtain ⟨nI, nB⟩ := g1.ok.fresh ndx
      exact (Go.refl g1.ok).mut ndx nB nI (fun ps z => by cases z) (not_tbl0 ndx) (not_code0 ndx)
    have gB := Go.make (p := x) (o := .ins C dx []) (q := .ins c []) gA.ok H2own ⟨C, dx, [], upd_same, hc, .nil⟩
    have gAB := gA.trans gB
    have hx : Rv g (w1.snoc x) (.ref x) (.ref z1.n) := .ref (Wd.snoc_last g1.ok.len)
    have s3 : Sat (mBind (f (.ref z1.n :: ds)) (fun d => match d with | .non => mPure (.ref z1.n) | _ => mBad) (z1.new (.ins c []))) (QV g w H Q) (QX g w H σ W) := s2
    refine ⟨by rw [List.append_nil, List.length_cons, r1.length, hl], w1.snoc x, z1.new (.ins c []), .ref z1.n :: ds, gB.ok, by rw [List.append_nil]; exact .cons hx (r1.mono gAB.le), sat_mono (sat_bind s3) (fun d z4 s4 => ?_) fun cc fs z3 q => ?_⟩
    · intro w4 v H4 g4 r4
      cases d with
      | non =>
        cases r4
        exact ⟨rfl, (show QV g w H Q (.ref z1.n) z4 from s4) w4 _ H4 ((g1.trans gAB).trans g4) (hx.mono g4.le)⟩
      | _ => exact (show False from s4).elim
    · exact fun C dd w3 H3 g3 r3 => q C dd w3 H3 ((g1.trans gAB).trans g3) r3) fun _ _ _ q => q)
end
end UW

/-! H1 -/
namespace UW
open PySem PySem.Spec PyProof.Rows L2
/-! ### enumerate and zip over lists and tuples alike (b: a tuple) -/
def SqA (K : PySem.W.Frag) (H : Hp) (b : Bool) (a : Addr) (xs : List V) : Prop := match b with
  | true => SqT K H a xs
  | false => SqL K H a xs
def IterA (h : Heap) (b : Bool) (it a : Addr) (i : Nat) : Prop := match b with
  | true => h.IsTupleIter it a i
  | false => h.IsListIter it a i
def HoldA (h : Heap) (b : Bool) (a : Addr) (items : Array Value) : Prop := match b with
  | true => h.IsTuple a items
  | false => h.IsList a items
def recA (b : Bool) (a : Addr) : Obj := match b with
  | true => { cls := .type "tuple_iterator", data := .fields #[.ref a, .int 0 0] }
  | false => { cls := .type "list_iterator", data := .fields #[.ref a, .int 0 0] }
theorem drawsA {prog : Program} {w : World} {A : Around} (hh : A.handled = none) (b : Bool) (it a : Addr) (hne : a ≠ it) (items : Array Value) :
    Draws prog w A it [it, a] items.size (fun i v => items[i]? = some v) (fun i h => IterA h b it a i ∧ HoldA h b a items) := by
  cases b with
  | true => exact Draws.tuple hh it a hne items
  | false => exact Draws.list hh it a hne items
theorem beginsA (b : Bool) (a : Addr) (items : Array Value) : Begins (.ref a) (recA b a) fun h => HoldA h b a items := by
  cases b with
  | true => exact begins_tuple a items
  | false => exact begins_list a items
theorem IterA.kept {h h' : Heap} {b : Bool} {it a : Addr} {i : Nat} (x : IterA h b it a i) (e : ∀ o, h.get? it = some o → h'.get? it = some o) : IterA h' b it a i := by
  cases b with
  | true => exact Heap.IsTupleIter.at x e
  | false => exact Heap.IsListIter.at x e
theorem IterA.obj {h : Heap} {b : Bool} {it a : Addr} {i : Nat} (x : IterA h b it a i) : ∃ o, h.get? it = some o ∧ (o.cls = .type "tuple_iterator" ∨ o.cls = .type "list_iterator") ∧ ∀ v, o.data ≠ .cell v := by
  cases b with
  | true => obtain ⟨o, e, c, d⟩ := x; exact ⟨o, e, .inl c, fun v q => by rw [d] at q; cases q⟩
  | false => obtain ⟨o, e, c, d⟩ := x; exact ⟨o, e, .inr c, fun v q => by rw [d] at q; cases q⟩
theorem IterA.new {h : Heap} {b : Bool} {it a : Addr} (e : h.get? it = some (recA b a)) : IterA h b it a 0 := by
  cases b with
  | true => exact ⟨_, e, rfl, rfl⟩
  | false => exact ⟨_, e, rfl, rfl⟩
theorem HoldA.obj {h : Heap} {b : Bool} {a : Addr} {items : Array Value} (x : HoldA h b a items) : ∃ o, h.get? a = some o ∧ (o.cls = .type "tuple" ∨ o.cls = .type "list") := by
  cases b with
  | true => obtain ⟨o, e, c, _⟩ := x; exact ⟨o, e, .inl c⟩
  | false => obtain ⟨o, e, c, _⟩ := x; exact ⟨o, e, .inr c⟩
theorem cne {a b : String} (h : a ≠ b) : (Value.type a : Value) ≠ .type b := fun q => by
  injection q with q
  exact h q
theorem apart_it {h : Heap} {b b' : Bool} {a it c : Addr} {items : Array Value} {i : Nat} (x : HoldA h b a items) (y : IterA h b' it c i) : a ≠ it := fun q => by
  obtain ⟨o, e, z⟩ := x.obj
  obtain ⟨o', e', z', _⟩ := y.obj
  rw [q, e'] at e
  cases e
  rcases z with z | z <;> rcases z' with z' | z' <;> (rw [z] at z'; exact absurd z' (cne (by decide)))
theorem apart_rec {h : Heap} {b : Bool} {a e : Addr} {items : Array Value} {o' : Obj} (x : HoldA h b a items) (y : h.get? e = some o') (n1 : o'.cls ≠ .type "tuple") (n2 : o'.cls ≠ .type "list") : e ≠ a := fun q => by
  obtain ⟨o, z, c⟩ := x.obj
  rw [q, z] at y
  cases y
  rcases c with c | c
  · exact n1 c
  · exact n2 c
section
variable {X : Cx} {pins : List (Addr × Obj)} {σ : L2.St} {H : Hp} {s : Shared} {b : Bool} {a : Addr} {xs ys : List V}
theorem _root_.L2.Inv.sqA (I : Inv X pins σ H s) (h : SqA X.K H b a xs) : ∃ its : List Value, Vals xs its ∧ HoldA s.heap b a its.toArray := by
  cases b with
  | true => obtain ⟨its, r, p, _⟩ := I.tuple h; exact ⟨its, r, p⟩
  | false => obtain ⟨its, r, p, _⟩ := I.list h; exact ⟨its, r, p.isList⟩
theorem _root_.L2.Inv.sqA_inj (I : Inv X pins σ H s) (h : SqA X.K H b a xs) (h' : SqA X.K H b a ys) : xs = ys := by
  cases b with
  | true => exact I.tuple_inj h h'
  | false => exact I.list_inj h h'
end
def ItE (K : PySem.W.Frag) (b : Bool) (a : Addr) : It :=
  ⟨fun i H => ∃ (xs : List V) (x : V), SqA K H b a xs ∧ xs[i]? = some x,
   fun i H v H' => ∃ T ob x, v = .ref T ∧ H T = none ∧ Obj.dict ob = none ∧ H' = upd H T (.frz ob (.tup [.int (i : Nat), x])) ∧ ∀ xs, SqA K H b a xs → xs[i]? = some x,
   fun i H => ∃ xs : List V, SqA K H b a xs ∧ xs.length = i⟩
theorem turn_enumA {P : Program} {w : World} {K : PySem.W.Frag} {elts : List Expr} {kk : Nat} {tpos : Pos} (b : Bool) (a e it : Addr) :
    Turn P w K (.Tuple elts kk tpos) (ItE K b a) [e, it] e (fun i h => (∃ old, IsEnum h e it ((i : Nat) : Int) old) ∧ IterA h b it a i ∧ e ≠ it) where
  mem := List.mem_cons_self
  obj := fun i h stt c hc => by
    obtain ⟨⟨old, hen⟩, hi, _⟩ := stt
    rcases List.mem_cons.mp hc with q | q
    · rw [q]; exact ⟨_, hen, fun v z => nomatch z⟩
    · rw [List.mem_singleton.mp q]
      obtain ⟨o, h1, _, h2⟩ := hi.obj
      exact ⟨o, h1, h2⟩
  keep := fun i h h' stt k => by
    obtain ⟨⟨old, hen⟩, hi, hne⟩ := stt
    exact ⟨⟨old, k e (by simp) _ hen⟩, hi.kept fun o q => k it (by simp) o q, hne⟩
  item := by
    intro X eP ew eK hc i pins s σ H E I hf stt hg
    subst eP ew eK
    obtain ⟨⟨old, hen⟩, hit, hne⟩ := stt
    obtain ⟨xs, x, hq, hix⟩ := hg
    obtain ⟨its, rv, hold⟩ := I.sqA hq
    obtain ⟨u, hun, rel⟩ := rv.get hix
    have hae : e ≠ a := apart_rec hold hen (cne (by decide)) (cne (by decide))
    have hai : a ≠ it := apart_it hold hit
    have hlt : i < its.toArray.size := by simpa using (List.getElem?_eq_some_iff.mp hun).1
    have helt : e < s.heap.objs.size := Heap.lt_size hen
    have hil : it < s.heap.objs.size := by obtain ⟨_, q, _⟩ := hit.obj; exact Heap.lt_size q
    refine wpAny_pyNext_enum_itemD (drawsA (A := X.A.in1) (I.ok.hd hc) b it a hai its.toArray) hen ⟨hit, hold⟩ hlt hne (by simp [hne, hae]) fun y h1 tok1 hy ho hst hT _ hk => ?_
    have hy' : y = u := by
      rw [show its.toArray[i]? = its[i]? by simp, hun] at hy
      exact (Option.some.inj hy).symm
    subst hy'
    refine ⟨_, rfl, wpAny_letOwnedTupleGo_enum (s := { s with heap := h1, toks := tok1 + 1 }) ho fun h2 he2 sb => ?_⟩
    have hT2 : h2.get? s.heap.objs.size = some { cls := .type "tuple", data := .seq #[.int i tok1, y] } := (sb.2 _ (Nat.ne_of_gt helt)).trans hT
    have new : ObjOk X.prog X.w (upd H s.heap.objs.size (.frz { cls := .type "tuple", data := .seq #[.int i tok1, y] } (.tup [.int (i : Nat), x]))) h2 s.heap.objs.size (.frz { cls := .type "tuple", data := .seq #[.int i tok1, y] } (.tup [.int (i : Nat), x])) :=
      ⟨hT2, (by decide : 2 ≤ sizeLine), [.int i tok1, y], .cons ⟨_, rfl⟩ (.cons rel .nil), ⟨_, hT2, rfl, _, rfl⟩⟩
    have J := I.turnedNew (h' := h2) (t' := tok1 + 1) (ch := [e, it]) (fun c ob hc' q => by
      have n1 : c ≠ e := fun z => hc' (by simp [z])
      have n2 : c ≠ it := fun z => hc' (by simp [z])
      exact (sb.2 c n1).trans (hk c ob n1 n2 q)) hf (Nat.le_refl _) new
    refine ⟨.ref s.heap.objs.size, _, J, rfl, ⟨_, _, x, rfl, I.hok.fresh (Nat.le_refl _), rfl, rfl, fun zs hz => by rw [I.sqA_inj hz hq]; exact hix⟩, ⟨⟨y, ?_⟩, hst.1.kept fun o q => (sb.2 it (Ne.symm hne)).trans q, hne⟩, fun c hc' => ?_⟩
    · have eq1 : ((i + 1 : Nat) : Int) = (i : Int) + 1 := by omega
      rw [eq1]
      exact he2
    · have lt : c < s.heap.objs.size := by
        rcases List.mem_cons.mp hc' with q | q
        · rw [q]; exact helt
        · rw [List.mem_singleton.mp q]; exact hil
      rw [upd_ne (Nat.ne_of_lt lt)]
      exact (hf c hc').1
  done := by
    intro X eP ew eK hc i pins s σ H E I hf stt hg
    subst eP ew eK
    obtain ⟨⟨old, hen⟩, hit, hne⟩ := stt
    obtain ⟨xs, hq, hix⟩ := hg
    obtain ⟨its, rv, hold⟩ := I.sqA hq
    have hae : e ≠ a := apart_rec hold hen (cne (by decide)) (cne (by decide))
    have hai : a ≠ it := apart_it hold hit
    have hn : its.toArray.size = i := by rw [List.size_toArray, ← rv.length, hix]
    have st2 : IterA s.heap b it a its.toArray.size ∧ HoldA s.heap b a its.toArray := ⟨by rw [hn]; exact hit, hold⟩
    exact wpAny_pyNext_enum_endD (drawsA (A := X.A.in1) (I.ok.hd hc) b it a hai its.toArray) hen st2 fun h' eb => ⟨rfl, I.turnedL (t' := s.toks) (ch := [e, it]) (fun c o hc' q => eb c o (fun z => hc' (by simp [z])) q) hf⟩
  self := fun A i s Q E stt h => let ⟨⟨_, hen⟩, _⟩ := stt; wpAny_pyIter_enum hen h

theorem enum_new1 {v : Value} {o : Obj} {Hh : Heap → Prop} (B : Begins v o Hh) :
    Meets (Builtin.«enumerate.__new__» ⟨[.type "enumerate", v], []⟩) (fun _ Rx s => Hh s.heap ∧
      Rx (.ok (.ret (.ref (s.heap.push o).objs.size)))
        { s with heap := (s.heap.push o).push { cls := .type "enumerate", data := .fields #[.none, .bool false, .ref s.heap.objs.size, rawInt 0, .none, .none] } }) :=
  .of_wp fun prog w A Rx s h => by
    obtain ⟨hp, g, d, tok1, os⟩ := s
    obtain ⟨h1, h⟩ := h
    have hsub := sub_enumerate
    have q1 : ∀ {A' : Around} {E : Value → Shared → Prop} {Q : Value → Shared → Prop}, Q (.ref hp.objs.size) ⟨(hp.push o), g, d, tok1, os⟩ → wpAny (model prog w) A' (pyIter v) Q E ⟨hp, g, d, tok1, os⟩ :=
      fun q => B.iter prog w _ _ ⟨hp, g, d, tok1, os⟩ _ h1 q
    wp_walk
    refine wpAny_stack_any fun stt => wpAny_pure ?_
    split
    · rename_i c _ _ _ _ _
      cases (c == (Value.type "enumerate"))
      · wp_walk using q1
        exact ⟨_, rfl, h⟩
      · wp_walk using q1
        exact ⟨_, rfl, h⟩
    · wp_walk using q1
      exact ⟨_, rfl, h⟩

def iEnumA (K : PySem.W.Frag) (ta : TA) : TI := fun σ H Rx => ta σ H fun vs H1 => ∃ b a xs, vs = [.ref a] ∧ SqA K H1 b a xs ∧ Rx (ItE K b a) H1
theorem pi_enumA {X : Cx} {e : Expr} {ta : TA} {p pos tpos : Pos} {elts : List Expr} {kk : Nat} (hg : Gl X "enumerate") (hm : X.mg "enumerate" = none) (ha : PA X [e] ta) (hs : starEach [e] X.env = [(false, eval e X.env)] := by rfl) :
    PI X (.Tuple elts kk tpos) (.Call (.Name "enumerate" p) [e] [] pos) (iEnumA X.K ta) := by
  refine ⟨fun pins s σ H Rx I h => Call_ (ld_blt I hg hm boot_enumerate (PyProof.Rows.callWith_type1 (thn (ha.run pos pins s σ H _ I h) fun us s1 hv => ?_) hs rfl))⟩
  obtain ⟨vs, H1, I1, r1, b, a, xs, rfl, hq, q⟩ := hv
  obtain ⟨u, rfl, rel⟩ := vals1 r1
  cases rel
  obtain ⟨its, rv, hold⟩ := I1.sqA hq
  refine callType_new F.called_enumerate (by decide) (F.typeCall_enumerate_1 _) (F.newCall_enumerate_1 _) (fun obj => F.args_object_init_2 obj _) F.entry_enumerate_new (enum_new1 (beginsA b a its.toArray)) ⟨hold, ?_⟩
  have hz : (s1.heap.push (recA b a)).objs.size = s1.heap.objs.size + 1 := Heap.size_push ..
  have fr : (recA b a).isFreed = false := by cases b <;> rfl
  show _ ∧ _
  rw [hz]
  have hen : IsEnum ((s1.heap.push (recA b a)).push { cls := .type "enumerate", data := .fields #[.none, .bool false, .ref s1.heap.objs.size, rawInt 0, .none, .none] }) (s1.heap.objs.size + 1) s1.heap.objs.size 0 .none := by
    have z := Heap.get?_push_size (s1.heap.push (recA b a)) (o := { cls := .type "enumerate", data := .fields #[.none, .bool false, .ref s1.heap.objs.size, rawInt 0, .none, .none] }) rfl
    rw [hz] at z
    exact z
  have hi := Heap.get?_push_of_some { cls := .type "enumerate", data := .fields #[.none, .bool false, .ref s1.heap.objs.size, rawInt 0, .none, .none] } (Heap.get?_push_size s1.heap fr)
  refine ⟨⟨_, hen, rfl⟩, wpAny_pyIter_enum hen ?_⟩
  have I2 := I1.kept (t' := s1.toks) (h' := (s1.heap.push (recA b a)).push { cls := .type "enumerate", data := .fields #[.none, .bool false, .ref s1.heap.objs.size, rawInt 0, .none, .none] }) fun c o x => Heap.get?_push_of_some _ (Heap.get?_push_of_some _ x)
  refine ⟨s1.heap.objs.size + 1, [s1.heap.objs.size + 1, s1.heap.objs.size], _, _, H1, rfl, I2, turn_enumA b a (s1.heap.objs.size + 1) s1.heap.objs.size, ⟨⟨.none, hen⟩, IterA.new hi, Nat.succ_ne_self _⟩, fun c hc => ?_, q⟩
  have hless : s1.heap.objs.size ≤ c := by
    rcases List.mem_cons.mp hc with z | z
    · rw [z]; exact Nat.le_succ _
    · rw [List.mem_singleton.mp z]; exact Nat.le_refl _
  exact I1.fpOk hless (I1.hok.fresh hless)
def ItZ (K : PySem.W.Frag) (b1 b2 : Bool) (a c : Addr) : It :=
  ⟨fun i H => ∃ (xs ys : List V) (x y : V), SqA K H b1 a xs ∧ SqA K H b2 c ys ∧ xs[i]? = some x ∧ ys[i]? = some y,
   fun i H v H' => ∃ T ob x y, v = .ref T ∧ H T = none ∧ Obj.dict ob = none ∧ H' = upd H T (.frz ob (.tup [x, y])) ∧ (∀ xs, SqA K H b1 a xs → xs[i]? = some x) ∧ ∀ ys, SqA K H b2 c ys → ys[i]? = some y,
   fun i H => ∃ xs ys : List V, SqA K H b1 a xs ∧ SqA K H b2 c ys ∧ xs.length = i ∧ ys.length = i⟩
/-- the records of a zip lie apart -/
structure ZA (z TI TO i1 i2 : Addr) : Prop where
  a1 : TI ≠ z
  a2 : TO ≠ z
  a3 : TI ≠ TO
  a4 : TI ≠ i1
  a5 : TI ≠ i2
  a6 : z ≠ i1
  a7 : z ≠ i2
  a8 : TO ≠ i1
  a9 : TO ≠ i2
  a10 : i1 ≠ i2
theorem ZA.sep {z TI TO i1 i2 a c : Addr} (A : ZA z TI TO i1 i2) (za : z ≠ a) (zc : z ≠ c) (ta : TO ≠ a) (tc : TO ≠ c) (h1 : i1 ≠ c) (h2 : i2 ≠ a) : ZipSep2 z TI TO i1 i2 [i1, a] [i2, c] where
  TIz := A.a1
  TOz := A.a2
  TITO := A.a3
  TIi1 := A.a4
  mem1 := by simp
  zf1 := by simp [A.a6, za]
  Tf1 := by simp [A.a8, ta]
  TIi2 := A.a5
  mem2 := by simp
  zf2 := by simp [A.a7, zc]
  Tf2 := by simp [A.a9, tc]
  sep1_2 := by simp [A.a10, h1]
  sep2_1 := by simp [Ne.symm A.a10, h2]
theorem turn_zipB {P : Program} {w : World} {K : PySem.W.Frag} {elts : List Expr} {kk : Nat} {tpos : Pos} (b1 b2 : Bool) (a c z TI TO i1 i2 : Addr) (Z : ZA z TI TO i1 i2) :
    Turn P w K (.Tuple elts kk tpos) (ItZ K b1 b2 a c) [z, TI, TO, i1, i2] z
      (fun i h => IsZip h z TI TO .none ∧ IsTupOf2 h TI (.ref i1) (.ref i2) ∧ (∃ x y, IsTupOf2 h TO x y) ∧ IterA h b1 i1 a i ∧ IterA h b2 i2 c i ∧ TO ≠ a ∧ TO ≠ c) where
  mem := List.mem_cons_self
  obj := fun i h stt d hd => by
    obtain ⟨hz, hTI, ⟨x, y, hTO⟩, h1, h2, _⟩ := stt
    obtain ⟨o1, e1, _, d1⟩ := h1.obj
    obtain ⟨o2, e2, _, d2⟩ := h2.obj
    have m : d = z ∨ d = TI ∨ d = TO ∨ d = i1 ∨ d = i2 := by simpa using hd
    rcases m with rfl | rfl | rfl | rfl | rfl
    · exact ⟨_, hz, fun v q => nomatch q⟩
    · exact ⟨_, hTI, fun v q => nomatch q⟩
    · exact ⟨_, hTO, fun v q => nomatch q⟩
    · exact ⟨o1, e1, d1⟩
    · exact ⟨o2, e2, d2⟩
  keep := fun i h h' stt k => by
    obtain ⟨hz, hTI, ⟨x, y, hTO⟩, h1, h2, n1, n2⟩ := stt
    exact ⟨k z (by simp) _ hz, k TI (by simp) _ hTI, ⟨x, y, k TO (by simp) _ hTO⟩, h1.kept fun o q => k i1 (by simp) o q, h2.kept fun o q => k i2 (by simp) o q, n1, n2⟩
  item := by
    intro X eP ew eK hc i pins s σ H E I hf stt hg
    subst eP ew eK
    obtain ⟨hz, hTI, ⟨x0, y0, hTO⟩, h1, h2, n1, n2⟩ := stt
    obtain ⟨xs, ys, x, y, sqx, sqy, hx, hy⟩ := hg
    obtain ⟨its, rv, hold⟩ := I.sqA sqx
    obtain ⟨its2, rv2, hold2⟩ := I.sqA sqy
    obtain ⟨u, hu, rel⟩ := rv.get hx
    obtain ⟨u2, hu2, rel2⟩ := rv2.get hy
    have S := Z.sep (apart_rec hold hz (cne (by decide)) (cne (by decide))) (apart_rec hold2 hz (cne (by decide)) (cne (by decide))) n1 n2 (Ne.symm (apart_it hold2 h1)) (Ne.symm (apart_it hold h2))
    have hlt : z < s.heap.objs.size := Heap.lt_size hz
    refine wpAny_pyNext_zipD2_item S (drawsA (A := X.A.in1) (I.ok.hd hc) b1 i1 a (apart_it hold h1) its.toArray) (drawsA (A := X.A.in1) (I.ok.hd hc) b2 i2 c (apart_it hold2 h2) its2.toArray) hz hTI hTO ⟨h1, hold⟩ ⟨h2, hold2⟩
      (by simpa using (List.getElem?_eq_some_iff.mp hu).1) (by simpa using (List.getElem?_eq_some_iff.mp hu2).1) fun v1 v2 hh tk e1 e2 hz' hTO' st1 st2 hT _ hk => ?_
    have q1 : v1 = u := by rw [show its.toArray[i]? = its[i]? by simp, hu] at e1; exact (Option.some.inj e1).symm
    have q2 : v2 = u2 := by rw [show its2.toArray[i]? = its2[i]? by simp, hu2] at e2; exact (Option.some.inj e2).symm
    subst q1 q2
    refine ⟨_, rfl, wpAny_letOwnedTupleGo_zip (s := { s with heap := hh, toks := tk }) hz' fun h3 hz3 sb => ?_⟩
    have hT2 : IsTupOf2 h3 s.heap.objs.size v1 v2 := (sb.2 _ (Nat.ne_of_gt hlt)).trans hT
    have new : ObjOk X.prog X.w (upd H s.heap.objs.size (.frz { cls := .type "tuple", data := .seq #[v1, v2] } (.tup [x, y]))) h3 s.heap.objs.size (.frz { cls := .type "tuple", data := .seq #[v1, v2] } (.tup [x, y])) :=
      ⟨hT2, (by decide : 2 ≤ sizeLine), [v1, v2], .cons rel (.cons rel2 .nil), ⟨_, hT2, rfl, _, rfl⟩⟩
    have J := I.turnedNew (h' := h3) (t' := tk) (ch := [z, TI, TO, i1, i2]) (fun d o hd q => by
      have m1 : d ≠ z := fun e => hd (by simp [e])
      exact (sb.2 d m1).trans (hk d o m1 (fun e => hd (by simp [e])) (fun e => hd (by simp [e])) (fun e => hd (by simp [e])) q)) hf (Nat.le_refl _) new
    have lt : ∀ d ∈ [z, TI, TO, i1, i2], d < s.heap.objs.size := fun d hd => by
      obtain ⟨o1, g1, _⟩ := h1.obj
      obtain ⟨o2, g2, _⟩ := h2.obj
      have m : d = z ∨ d = TI ∨ d = TO ∨ d = i1 ∨ d = i2 := by simpa using hd
      rcases m with rfl | rfl | rfl | rfl | rfl
      · exact hlt
      · exact Heap.lt_size hTI
      · exact Heap.lt_size hTO
      · exact Heap.lt_size g1
      · exact Heap.lt_size g2
    refine ⟨.ref s.heap.objs.size, _, J, rfl, ⟨_, _, x, y, rfl, I.hok.fresh (Nat.le_refl _), rfl, rfl, fun l hl => by rw [I.sqA_inj hl sqx]; exact hx, fun l hl => by rw [I.sqA_inj hl sqy]; exact hy⟩,
      ⟨hz3, ?_, ⟨v1, v2, ?_⟩, st1.1.kept fun o q => (sb.2 i1 (Ne.symm Z.a6)).trans q, st2.1.kept fun o q => (sb.2 i2 (Ne.symm Z.a7)).trans q, n1, n2⟩, fun d hd => ?_⟩
    · exact (sb.2 _ Z.a1).trans (hk _ _ Z.a1 Z.a3 Z.a4 Z.a5 hTI)
    · exact (sb.2 _ Z.a2).trans hTO'
    · rw [upd_ne (Nat.ne_of_lt (lt d hd))]
      exact (hf d hd).1
  done := by
    intro X eP ew eK hc i pins s σ H E I hf stt hg
    subst eP ew eK
    obtain ⟨hz, hTI, ⟨x0, y0, hTO⟩, h1, h2, n1, n2⟩ := stt
    obtain ⟨xs, ys, sqx, sqy, l1, l2⟩ := hg
    obtain ⟨its, rv, hold⟩ := I.sqA sqx
    obtain ⟨its2, rv2, hold2⟩ := I.sqA sqy
    have S := Z.sep (apart_rec hold hz (cne (by decide)) (cne (by decide))) (apart_rec hold2 hz (cne (by decide)) (cne (by decide))) n1 n2 (Ne.symm (apart_it hold2 h1)) (Ne.symm (apart_it hold h2))
    have s1 : its.toArray.size = i := by rw [List.size_toArray, ← rv.length, l1]
    have s2 : its2.toArray.size = i := by rw [List.size_toArray, ← rv2.length, l2]
    refine wpAny_pyNext_zipD2_end S (drawsA (A := X.A.in1) (I.ok.hd hc) b1 i1 a (apart_it hold h1) its.toArray) (drawsA (A := X.A.in1) (I.ok.hd hc) b2 i2 c (apart_it hold2 h2) its2.toArray) hz hTI hTO ⟨h1, hold⟩ ⟨h2, hold2⟩
      (by omega) (by omega) (.inl s1.symm) fun hh tk hk => ⟨rfl, I.turnedL (t' := tk) (ch := [z, TI, TO, i1, i2]) (fun d o hd q => hk d o (fun e => hd (by simp [e])) (fun e => hd (by simp [e])) (fun e => hd (by simp [e])) (fun e => hd (by simp [e])) q) hf⟩
  self := fun A i s Q E stt h => wpAny_pyIter_zip stt.1 h
def iZipB (K : PySem.W.Frag) (ta : TA) : TI := fun σ H R => ta σ H fun vs H1 => ∃ b1 b2 a c xs ys, vs = [.ref a, .ref c] ∧ SqA K H1 b1 a xs ∧ SqA K H1 b2 c ys ∧ R (ItZ K b1 b2 a c) H1
theorem pi_zipB {X : Cx} {e e2 : Expr} {ta : TA} {p pos tpos : Pos} {elts : List Expr} {kk : Nat} (hg : Gl X "zip") (hm : X.mg "zip" = none) (ha : PA X [e, e2] ta)
    (hst : starEach [e, e2] X.env = (false, eval e X.env) :: starEach [e2] X.env := by rfl) (hpl : (backTo pos (starEach [e2] X.env)).any (·.1) = false := by rfl) :
    PI X (.Tuple elts kk tpos) (.Call (.Name "zip" p) [e, e2] [] pos) (iZipB X.K ta) := by
  refine ⟨fun pins s σ H R I h => Call_ (ld_blt I hg hm PyProof.Rows.boot_zip (PyProof.Rows.callWith_type1 (thn (ha.run pos pins s σ H _ I h) fun us s1 hv => ?_) hst hpl))⟩
  obtain ⟨vs, H1, I1, r1, b1, b2, a, c, xs, ys, rfl, hq, hq2, q⟩ := hv
  obtain ⟨u, u2, rfl, rel, rel2⟩ := vals2 r1
  cases rel
  cases rel2
  obtain ⟨its, rv, hold⟩ := I1.sqA hq
  obtain ⟨its2, rv2, hold2⟩ := I1.sqA hq2
  generalize hN : s1.heap.objs.size = N
  refine zip_begins2 (beginsA b1 a its.toArray) (beginsA b2 c its2.toArray) hold hold2 fun h' hz hTI hTO g1 g2 _ hk => wpAny_pyIter_zip hz ?_
  rw [hN] at hz hTI hTO g1 g2
  have lta : a < N := by obtain ⟨o, e, _⟩ := hold.obj; rw [← hN]; exact Heap.lt_size e
  have ltc : c < N := by obtain ⟨o, e, _⟩ := hold2.obj; rw [← hN]; exact Heap.lt_size e
  have I2 := I1.kept (t' := s1.toks) hk
  rw [hN]
  refine ⟨N + 4, [N + 4, N + 2, N + 3, N, N + 1], _, _, H1, rfl, I2, turn_zipB b1 b2 a c (N + 4) (N + 2) (N + 3) N (N + 1) ?_, ⟨hz, hTI, ⟨_, _, hTO⟩, IterA.new g1, IterA.new g2, ?_, ?_⟩, fun d hd => ?_, q⟩
  · constructor <;> (refine fun e => ?_; have e' : (_ : Nat) = _ := e; omega)
  · exact Nat.ne_of_gt (Nat.lt_of_lt_of_le lta (Nat.le_add_right N 3))
  · exact Nat.ne_of_gt (Nat.lt_of_lt_of_le ltc (Nat.le_add_right N 3))
  · have hless : s1.heap.objs.size ≤ d := by
      have m : d = N + 4 ∨ d = N + 2 ∨ d = N + 3 ∨ d = N ∨ d = N + 1 := by simpa using hd
      rw [hN]
      rcases m with q | q | q | q | q
      · rw [q]; exact Nat.le_add_right N 4
      · rw [q]; exact Nat.le_add_right N 2
      · rw [q]; exact Nat.le_add_right N 3
      · rw [q]; exact Nat.le_refl N
      · rw [q]; exact Nat.le_add_right N 1
    exact I1.fpOk hless (I1.hok.fresh hless)
/-! ### enumerate(thing, start=k) -/
def ItES (st : Nat) (K : PySem.W.Frag) (b : Bool) (a : Addr) : It :=
  ⟨fun i H => ∃ (xs : List V) (x : V), SqA K H b a xs ∧ xs[i]? = some x,
   fun i H v H' => ∃ T ob x, v = .ref T ∧ H T = none ∧ Obj.dict ob = none ∧ H' = upd H T (.frz ob (.tup [.int ((st + i : Nat) : Int), x])) ∧ ∀ xs, SqA K H b a xs → xs[i]? = some x,
   fun i H => ∃ xs : List V, SqA K H b a xs ∧ xs.length = i⟩
theorem turn_enumS (st : Nat) {P : Program} {w : World} {K : PySem.W.Frag} {elts : List Expr} {kk : Nat} {tpos : Pos} (b : Bool) (a e it : Addr) :
    Turn P w K (.Tuple elts kk tpos) (ItES st K b a) [e, it] e (fun i h => (∃ old, IsEnum h e it ((st + i : Nat) : Int) old) ∧ IterA h b it a i ∧ e ≠ it) where
  mem := List.mem_cons_self
  obj := fun i h stt c hc => by
    obtain ⟨⟨old, hen⟩, hi, _⟩ := stt
    rcases List.mem_cons.mp hc with q | q
    · rw [q]; exact ⟨_, hen, fun v z => nomatch z⟩
    · rw [List.mem_singleton.mp q]
      obtain ⟨o, h1, _, h2⟩ := hi.obj
      exact ⟨o, h1, h2⟩
  keep := fun i h h' stt k => by
    obtain ⟨⟨old, hen⟩, hi, hne⟩ := stt
    exact ⟨⟨old, k e (by simp) _ hen⟩, hi.kept fun o q => k it (by simp) o q, hne⟩
  item := by
    intro X eP ew eK hc i pins s σ H E I hf stt hg
    subst eP ew eK
    obtain ⟨⟨old, hen⟩, hit, hne⟩ := stt
    obtain ⟨xs, x, hq, hix⟩ := hg
    obtain ⟨its, rv, hold⟩ := I.sqA hq
    obtain ⟨u, hun, rel⟩ := rv.get hix
    have hae : e ≠ a := apart_rec hold hen (cne (by decide)) (cne (by decide))
    have hai : a ≠ it := apart_it hold hit
    have hlt : i < its.toArray.size := by simpa using (List.getElem?_eq_some_iff.mp hun).1
    have helt : e < s.heap.objs.size := Heap.lt_size hen
    have hil : it < s.heap.objs.size := by obtain ⟨_, q, _⟩ := hit.obj; exact Heap.lt_size q
    refine wpAny_pyNext_enum_itemC (drawsA (A := X.A.in1) (I.ok.hd hc) b it a hai its.toArray) hen ⟨hit, hold⟩ hlt hne (by simp [hne, hae]) fun y h1 tok1 hy ho hst hT _ hk => ?_
    have hy' : y = u := by
      rw [show its.toArray[i]? = its[i]? by simp, hun] at hy
      exact (Option.some.inj hy).symm
    subst hy'
    refine ⟨_, rfl, wpAny_letOwnedTupleGo_enum (s := { s with heap := h1, toks := tok1 + 1 }) ho fun h2 he2 sb => ?_⟩
    have hT2 : h2.get? s.heap.objs.size = some { cls := .type "tuple", data := .seq #[.int ((st + i : Nat) : Int) tok1, y] } := (sb.2 _ (Nat.ne_of_gt helt)).trans hT
    have new : ObjOk X.prog X.w (upd H s.heap.objs.size (.frz { cls := .type "tuple", data := .seq #[.int ((st + i : Nat) : Int) tok1, y] } (.tup [.int ((st + i : Nat) : Int), x]))) h2 s.heap.objs.size (.frz { cls := .type "tuple", data := .seq #[.int ((st + i : Nat) : Int) tok1, y] } (.tup [.int ((st + i : Nat) : Int), x])) :=
      ⟨hT2, (by decide : 2 ≤ sizeLine), [.int ((st + i : Nat) : Int) tok1, y], .cons ⟨_, rfl⟩ (.cons rel .nil), ⟨_, hT2, rfl, _, rfl⟩⟩
    have J := I.turnedNew (h' := h2) (t' := tok1 + 1) (ch := [e, it]) (fun c ob hc' q => by
      have n1 : c ≠ e := fun z => hc' (by simp [z])
      have n2 : c ≠ it := fun z => hc' (by simp [z])
      exact (sb.2 c n1).trans (hk c ob n1 n2 q)) hf (Nat.le_refl _) new
    refine ⟨.ref s.heap.objs.size, _, J, rfl, ⟨_, _, x, rfl, I.hok.fresh (Nat.le_refl _), rfl, rfl, fun zs hz => by rw [I.sqA_inj hz hq]; exact hix⟩, ⟨⟨y, ?_⟩, hst.1.kept fun o q => (sb.2 it (Ne.symm hne)).trans q, hne⟩, fun c hc' => ?_⟩
    · have eq1 : ((st + (i + 1) : Nat) : Int) = ((st + i : Nat) : Int) + 1 := by omega
      rw [eq1]
      exact he2
    · have lt : c < s.heap.objs.size := by
        rcases List.mem_cons.mp hc' with q | q
        · rw [q]; exact helt
        · rw [List.mem_singleton.mp q]; exact hil
      rw [upd_ne (Nat.ne_of_lt lt)]
      exact (hf c hc').1
  done := by
    intro X eP ew eK hc i pins s σ H E I hf stt hg
    subst eP ew eK
    obtain ⟨⟨old, hen⟩, hit, hne⟩ := stt
    obtain ⟨xs, hq, hix⟩ := hg
    obtain ⟨its, rv, hold⟩ := I.sqA hq
    have hae : e ≠ a := apart_rec hold hen (cne (by decide)) (cne (by decide))
    have hai : a ≠ it := apart_it hold hit
    have hn : its.toArray.size = i := by rw [List.size_toArray, ← rv.length, hix]
    have st2 : IterA s.heap b it a its.toArray.size ∧ HoldA s.heap b a its.toArray := ⟨by rw [hn]; exact hit, hold⟩
    exact wpAny_pyNext_enum_endD (drawsA (A := X.A.in1) (I.ok.hd hc) b it a hai its.toArray) hen st2 fun h' eb => ⟨rfl, I.turnedL (t' := s.toks) (ch := [e, it]) (fun c o hc' q => eb c o (fun z => hc' (by simp [z])) q) hf⟩
  self := fun A i s Q E stt h => let ⟨⟨_, hen⟩, _⟩ := stt; wpAny_pyIter_enum hen h


section
variable {env : Env} {M : Model} {A : Around} {E : Value → Shared → Prop} {s : Shared}
/-- a built-in class called with names -/
theorem cw_typeKw {pos : Pos} {T : String} {fs : List Value} {as : List (Bool × Sem Value)} {kw : List (Option Str × Sem Value)} {Q : Value → Shared → Prop} (h1 : as.any (·.1) = false) (h2 : kw.any (·.1.isNone) = false)
    (hr : wpAny M A (evalArgs (.type T) true as kw) (fun a s₁ => wpAny M A (call (.type T) (fs ++ a.pos) a.kw) Q E s₁) E s) :
    wpAny M A (callWith pos (.type T) fs as kw) Q E s := by
  unfold callWith
  refine wpAny_bind (wpAny_holding (wpAny_mono hr (fun a sA hA => wpAny_bind (wpAny_standAt ?_)) fun _ _ y => y))
  simp only [h1, h2, Bool.or_false]
  exact wpAny_bind (wpAny_pure (wpAny_bind (wpAny_mono hA (fun r sB hB => wpAny_bind (wpAny_holding (wpAny_point (wpAny_pure hB)))) fun _ _ y => y)))
end
def iEnumS (st : Nat) (K : PySem.W.Frag) (ta : TA) : TI := fun σ H Rx => ta σ H fun vs H1 => ∃ b a xs, vs = [.ref a] ∧ SqA K H1 b a xs ∧ Rx (ItES st K b a) H1
theorem pi_enumS {X : Cx} {e : Expr} {ta : TA} {p pos tpos kp cp : Pos} {elts : List Expr} {kk jj : Nat} {st : Nat} (hst : ((st : Nat) : Int) < 2 ^ 62) (hg : Gl X "enumerate") (hm : X.mg "enumerate" = none) (ha : PA X [e] ta)
    (hs : backTo pos (starEach [e] X.env) = (false, eval e X.env) :: backTo pos (starEach [] X.env) := by rfl) :
    PI X (.Tuple elts kk tpos) (.Call (.Name "enumerate" p) [e] [⟨some "start", .Constant (.int st) jj cp, kp⟩] pos) (iEnumS st X.K ta) := by
  refine ⟨fun pins s σ H Rx I h => wpAny_Call_Name_kw (ld_blt I hg hm boot_enumerate (cw_typeKw ?_ rfl ?_))⟩
  · rw [hs]; rfl
  rw [hs]
  refine evalArgs_kwB rfl (thn (by rw [← hs]; exact ha.run pos pins s σ H _ I h) fun us s1 hv => ?_)
  obtain ⟨vs, H1, I1, r1, b, a, xs, rfl, hq, q⟩ := hv
  obtain ⟨u, rfl, rel⟩ := vals1 r1
  cases rel
  refine kws_cons (wpAny_Constant_int (kws_nil ?_))
  obtain ⟨its, rv, hold⟩ := I1.sqA hq
  show wpAny _ _ (call (.type "enumerate") [.ref a] [(Str.ofString "start", .int st _)]) _ _ _
  have fr : (recA b a).isFreed = false := by cases b <;> rfl
  have I1' : Inv X pins σ H1 { s1 with toks := s1.toks + 1 } := I1.tok _
  refine enum_begins_start (s := { s1 with toks := s1.toks + 1 }) (beginsA b a its.toArray) hold (by omega) (by have := hst; omega) fun h' hen hi hz kk => ?_
  refine wpAny_pyIter_enum hen ?_
  have I2 := I1'.kept (t' := s1.toks + 1) (h' := h') kk
  refine ⟨s1.heap.objs.size + 1, [s1.heap.objs.size + 1, s1.heap.objs.size], _, _, H1, rfl, I2, turn_enumS st b a (s1.heap.objs.size + 1) s1.heap.objs.size, ⟨⟨.none, hen⟩, IterA.new hi, Nat.succ_ne_self _⟩, fun c hc => ?_, q⟩
  have hless : s1.heap.objs.size ≤ c := by
    rcases List.mem_cons.mp hc with z | z
    · rw [z]; exact Nat.le_succ _
    · rw [List.mem_singleton.mp z]; exact Nat.le_refl _
  exact I1'.fpOk hless (I1'.hok.fresh hless)
structure KVals (K : PySem.W.Frag) (d : Addr) (es : Array DictEntry) (n : Nat) (vs : List V) : Prop where
  at_ : K.lookup d = some ⟨Value.type "dict", none, .dict es n, #[]⟩
  low : ((d == sysModules)) = false
  rel : Vals vs (es.toList.map (·.val))
def ItV (vs : List V) : It := ⟨fun i _ => i < vs.length, fun i H x H' => H' = H ∧ vs[i]? = some x, fun i _ => vs.length ≤ i⟩
section
variable {P : Program} {w : World} {K : PySem.W.Frag} {tg : Expr} {d : Addr} {es : Array DictEntry} {n : Nat} {vs : List V}
theorem KVals.raw (T : KVals K d es n vs) {h : Heap} (k : K.In h) : h.DictRaw d es n := ⟨_, k _ _ T.at_, ⟨rfl, rfl, rfl⟩, rfl⟩
theorem KVals.len (T : KVals K d es n vs) : vs.length = es.size := by
  have := T.rel.length
  rw [List.length_map] at this
  rw [this, Array.length_toList]
theorem turn_valsK (T : KVals K d es n vs) (it : Addr) (hne : d ≠ it) : Turn P w K tg (ItV vs) [it] it (fun i h => h.IsValIter it d i es.size n) where
  mem := List.mem_singleton.mpr rfl
  obj := fun i h st b hb => by
    rw [List.mem_singleton.mp hb]
    obtain ⟨oi, e, c, dd⟩ := st
    exact ⟨oi, e, fun v z => (by rw [dd] at z; cases z)⟩
  keep := fun i h h' st k => st.at fun oi e => k it (List.mem_singleton.mpr rfl) oi e
  item := by
    intro X eP ew eK hc i pins s σ H E I hf st hg
    subst eP ew eK
    have hg : i < vs.length := hg
    obtain ⟨f0, f1, f2, f3, f4, f5⟩ := hf it (List.mem_singleton.mpr rfl)
    have hi : i < es.size := by rw [← T.len]; exact hg
    obtain ⟨u, hu, ru⟩ := T.rel.get (List.getElem?_eq_getElem hg)
    have eu : u = es[i].val := by
      rw [List.getElem?_map, Array.getElem?_toList, Array.getElem?_eq_getElem hi] at hu
      exact (Option.some.inj hu).symm
    subst eu
    refine wpAny_pyNext_values_item_raw st (T.raw I.kIn) hi fun h' st' sb => ?_
    have I1 : Inv X pins σ H { s with heap := h' } := (I.turned (t' := s.toks) (fun b ob hb e => (sb.2 b hb).trans e) f0 f1 f3 f4 f5)
    rcases id st' with ⟨oi, e, c, dd⟩
    exact ⟨es[i].val, rfl, go_of (s := { s with heap := h' }) e c dd (by decide) ⟨vs[i], H, I1, ru, ⟨rfl, List.getElem?_eq_getElem hg⟩, st', fun b hb => (hf b hb).1⟩⟩
  done := by
    intro X eP ew eK hc i pins s σ H E I hf st hg
    subst eP ew eK
    have hg : vs.length ≤ i := hg
    obtain ⟨f0, f1, f2, f3, f4, f5⟩ := hf it (List.mem_singleton.mpr rfl)
    exact wpAny_pyNext_values_end_raw (I.ok.hd hc) st (T.raw I.kIn) (by rw [← T.len]; exact hg) fun h' eb => ⟨rfl, I.turned (t' := s.toks) (fun b ob hb e => eb b ob hb e) f0 f1 f3 f4 f5⟩
  self := fun A i s Q E st h => (wpAny_pyIter_valiter st h)
def iValsK (vs : List V) : TI := fun σ H R => R (ItV vs) H
theorem pi_valsK {X : Cx} {e : Expr} {apos cpos : Pos} (T : KVals X.K d es n vs) (he : PE X e (tC (.ref d))) (hbase : attributeBase e "values" X.env (eval e X.env) = eval e X.env := by rfl) (hline : (apos.endLine == cpos.line) = true := by rfl) :
    PI X tg (.Call (.Attribute e "values" apos) [] [] cpos) (iValsK vs) := by
  refine .mk fun pins s σ H R I h => ?_
  refine wpAny_Call_method (T := "dict") (id := "dict.values") hbase rfl hline F.plainAttrs_dict F.slot_dict_values F.type_dict_values (thn (he.run pins s σ H (fun v H1 => v = .ref d ∧ R (ItV vs) H1) I ⟨rfl, h⟩) fun u s1 ⟨x, H1, I1, rx, ex, q⟩ => ?_)
  subst ex
  rcases (show u = Value.ref d from rx) with rfl
  have raw := T.raw I1.kIn
  obtain ⟨o, ho, hx, hd⟩ := id raw
  refine ⟨⟨_, ho, hx.1⟩, ?_, ?_⟩
  · intro a e
    cases e
    exact ⟨_, ho, hx.2.1⟩
  have kp : ∀ b ob, s1.heap.get? b = some ob → (s1.heap.push { cls := .type "dict_values", data := .fields #[.ref d] }).get? b = some ob := fun b ob q => Heap.get?_push_of_some _ q
  have I2 : Inv X pins σ H1 { s1 with heap := s1.heap.push { cls := .type "dict_values", data := .fields #[.ref d] } } := I1.kept (t' := s1.toks) kp
  have raw2 : (s1.heap.push { cls := .type "dict_values", data := .fields #[.ref d] }).DictRaw d es n := T.raw (I1.kIn.keeps kp)
  have hne : d ≠ (s1.heap.push { cls := .type "dict_values", data := .fields #[.ref d] }).objs.size := Nat.ne_of_lt (Heap.lt_size (kp _ _ ho))
  have fin : wpAny (model X.prog X.w) X.A (pyIter (.ref s1.heap.objs.size)) (PIE X pins σ tg R) X.xe { s1 with heap := s1.heap.push { cls := .type "dict_values", data := .fields #[.ref d] } } :=
    wpAny_pyIter_values_raw (d := d) ⟨_, Heap.get?_push_size _ rfl, rfl, rfl⟩ raw2 (pi_one (tk := s1.toks) I2 _ (turn_valsK T _ hne) ⟨_, Heap.get?_push_size _ rfl, rfl, rfl⟩ q)
  show (wpAny _ _ (callWith cpos (.builtin "dict.values") [.ref d] [] []) _ X.xe s1)
  exact method_meetsIn F.slot_dict_values F.entry_dict_values rfl (PySem.evalArgs_none ⟨rfl, ⟨_, ho, hx.1⟩, F.args_dict_values_1 _, _, meets_dict_values_raw d T.low, ⟨_, _, raw⟩, fin⟩)
end
end UW

/-! H2 -/
namespace UW
open PySem PySem.Spec PyProof.Rows L2
theorem ns_one {h : Heap} {a : Addr} {m m' : Str → Option Value} (x : h.Ns a m) (y : h.Ns a m') : m' = m := by
  obtain ⟨o, es, ep, e, d, _, f⟩ := x
  obtain ⟨o', es', ep', e', d', _, f'⟩ := y
  rw [e] at e'
  cases e'
  rw [d] at d'
  cases d'
  funext n
  rw [← f n, ← f' n]
theorem ho_there {P : Program} {w : World} {H : Hp} {h : Heap} {a : Addr} : ∀ {o : HO}, ObjOk P w H h a o → ∃ ob, h.get? a = some ob
  | .lst _, ⟨_, _, _, _, e⟩ => ⟨_, e⟩
  | .tup _, ⟨_, _, _, ob, e, _⟩ => ⟨ob, e⟩
  | .dK _, ⟨_, _, _, _, ob, _, _, e, _⟩ => ⟨ob, e⟩
  | .dT _, ⟨_, _, _, _, ob, _, _, e, _⟩ => ⟨ob, e⟩
  | .set _ _, ⟨ob, _, _, _, e, _⟩ => ⟨ob, e⟩
  | .ins _ _ _, ⟨_, _, _, e, _⟩ => ⟨_, e⟩
  | .own _, ⟨ob, e⟩ => ⟨ob, e⟩
  | .xd _, ⟨_, ⟨ob, _, _, e, _⟩, _⟩ => ⟨ob, e⟩
  | .rng _ _, ⟨_, _, _, e⟩ => ⟨_, e⟩
  | .frz ob _, ⟨e, _⟩ => ⟨ob, e⟩
  | .tbl _, e => ⟨_, e⟩
  | .met _ _, e => ⟨_, e⟩
  | .ext _, ⟨_, ⟨ob, e⟩, _⟩ => ⟨ob, e⟩
section
variable {X : Cx} {pos : Pos}
/-- a, *b = a tuple -/
def gStar (K : PySem.W.Frag) (t : TGs) : TG := fun v σ H Q => ∃ a x xs, v = .ref a ∧ (SqT K H a (x :: xs) ∨ SqL K H a (x :: xs)) ∧ xs.length ≤ 16000 ∧ ∀ D, H D = none → t [x, .ref D] σ (upd H D (.lst xs)) Q
theorem pg_star {e0 e1 : Expr} {k : Nat} {sp : Pos} {t : TGs} (hc : X.calm = true) (h : PGs X [e0, e1] t)
    (he : (assignEach [e0, .Starred e1 sp] X.env).map (·.2) = (assignEach [e0, e1] X.env).map (·.2) := by rfl) (hn : (assignEach [e0, .Starred e1 sp] X.env).length = 2 := by rfl)
    (hs : (assignEach [e0, .Starred e1 sp] X.env).findIdx? (·.1) = some 1 := by rfl) : PG X (.Tuple [e0, .Starred e1 sp] k pos) (gStar X.K t) := by
  refine ⟨fun pins s σ H v u Q I r hw => (?_)⟩
  obtain ⟨a, x, xs, rfl, hq, hl, hw⟩ := hw
  cases r
  obtain ⟨m, hm, hlk⟩ := id I.loc
  have F : Fr X.base X.env.locals s.heap m := ⟨hm, I.bk, Nat.le_trans I.ok.bsz I.ok.above⟩
  have rest : ∀ (u0 : Value) (us : List Value), RelV x u0 → Vals xs us → us.length = xs.length → ∀ (D : Addr) (h' : Heap) (tk : Tok), Fr X.base X.env.locals h' m → News X.base X.env.locals h' ((D, PySem.W.listOf us.toArray 0) :: allNews X.base s.heap X.env.locals) → (∀ p ∈ allNews X.base s.heap X.env.locals, p.1 < D) →
      wpAny (model X.prog X.w) X.A (assignInOrder ((assignEach [e0, .Starred e1 sp] X.env).map (·.2)) ([u0] ++ [.ref D] ++ [])) (fun _ s' => ∃ σ' H', Inv X pins σ' H' s' ∧ Q σ' H') X.xe { s with heap := h', toks := tk } := fun u0 us r0 rr hlen D h' tk F' N' lt => by
    have hD : h'.get? D = some (PySem.W.listOf us.toArray 0) := (N' _ List.mem_cons_self).1
    have hDL : D ≠ X.env.locals := (N' _ List.mem_cons_self).2.1
    have hDb : X.base.get? D = none := (N' _ List.mem_cons_self).2.2
    have keep : ∀ b o, b ≠ X.env.locals → s.heap.get? b = some o → h'.get? b = some o := fun b o hb e => by
      cases q : X.base.get? b with
      | some o' =>
        have := I.bk b o' q
        rw [e] at this
        cases this
        exact F'.keep b _ q
      | none => exact (N' (b, o) (List.mem_cons_of_mem _ (mem_allNews hb q e))).1
    have hDn : s.heap.get? D = none := by
      cases q : s.heap.get? D with
      | none => rfl
      | some o => exact absurd (lt (D, o) (mem_allNews hDL hDb q)) (Nat.lt_irrefl _)
    have hHD : H D = none := by
      cases q : H D with
      | none => rfl
      | some o =>
        obtain ⟨ob, z⟩ := ho_there (I.hok D o q)
        rw [hDn] at z
        cases z
    have neD : ∀ b o, s.heap.get? b = some o → b ≠ D := fun b o e z => by rw [z, hDn] at e; cases e
    have new : ObjOk X.prog X.w (upd H D (.lst xs)) h' D (.lst xs) := ⟨Nat.le_trans hl (by decide), us, 0, rr, hD⟩
    have hok : HOk X.prog X.w (upd H D (.lst xs)) h' := fun b o e => by
      by_cases q : b = D
      · subst q; rw [upd_same] at e; cases e; exact new
      · rw [upd_ne q] at e
        refine (I.hok b o e).stay (fun c w' hc' z => keep c w' (fun y => ?_) z) (fun c z => by rw [upd_ne (ne_of_none z hHD)]; exact z) fun c ys z => by rw [upd_ne (ne_of_none z hHD)]; exact z
        rcases hc' with y2 | y2
        · rw [← y2, y, I.free] at e; cases e
        · rw [y, I.free] at y2; cases y2
    have J : Inv X pins σ (upd H D (.lst xs)) { s with heap := h', toks := tk } := by
      refine I.step (g' := s.gens) (d' := s.drawn) (ch := []) (fun _ z => nomatch z) (fun b o hb _ _ e _ => keep b o hb e) (fun b o hb _ _ e _ => ⟨o.slots, keep b o hb e⟩) (fun b o _ e n => by rw [upd_ne (neD b o e)]; exact n)
        (fun b o _ e => ?_) (fun b ys e => by rw [upd_ne (ne_of_none e hHD)]; exact e) (fun b o u' e => by rw [upd_ne (ne_of_none e hHD)]; exact e) (fun b ps' e => ⟨#[], by rw [upd_ne (ne_of_none e hHD), e]; simp⟩)
        (fun m' hm' => by rw [ns_one hm hm']; exact F'.ns) hok I.bare
      by_cases hb : b = X.env.locals
      · obtain ⟨o', es, ep, z, _⟩ := F'.ns
        exact ⟨o', by rw [hb]; exact z⟩
      · exact ⟨o, keep b o hb e⟩
    rw [he]
    exact h.run pins _ σ _ [x, .ref D] _ Q J (.cons r0 (.cons rfl .nil)) (hw D hHD)
  rcases hq with hq | hq
  · obtain ⟨its, rv, ht, _⟩ := I.tuple hq
    cases rv with
    | @cons _ u0 _ us r0 rr =>
    have hlen : us.length = xs.length := rr.length.symm
    exact PySem.W.kun_assignT (n := 2) (i := 1) (first := [u0]) (mids := us) (lasts := []) F (news_all (h := s.heap)) ht (I.ok.hd hc) hn hs (by decide) (by simp) (by rw [List.size_toArray, List.length_cons]; omega) (by simp) (by simp) (by simp) fun D h' tk F' N' lt => rest u0 us r0 rr hlen D h' tk F' N' lt
  · obtain ⟨its, rv, ht, _⟩ := I.list hq
    cases rv with
    | @cons _ u0 _ us r0 rr =>
    have hlen : us.length = xs.length := rr.length.symm
    exact PySem.W.kun_assignL (n := 2) (i := 1) (first := [u0]) (mids := us) (lasts := []) F (news_all (h := s.heap)) ht.isList (I.ok.hd hc) hn hs (by decide) (by simp) (by rw [List.size_toArray, List.length_cons]; omega) (by simp) (by simp) (by simp) fun D h' tk F' N' lt => rest u0 us r0 rr hlen D h' tk F' N' lt
end
end UW
namespace DSI
open PySem PyProof.Rows Srt SrtO PySem.Spec
section
variable {pg : Program} {w : World} {A : Around} {E : Value → Shared → Prop} {s : Shared}
/-- v is a tuple of an int and of an object -/
def PrI (h : Heap) (v : Value) (x : Int) : Prop := ∃ a o t b n, v = .ref a ∧ h.get? a = some o ∧ o.cls = .type "tuple" ∧ o.data = .seq #[.int x t, .ref b] n
theorem PrI.keeps {h h' : Heap} {v : Value} {x : Int} (p : PrI h v x) (k : ∀ b o, h.get? b = some o → o.cls = .type "tuple" → h'.get? b = some o) : PrI h' v x := by
  obtain ⟨a, o, t, u, n, e, oAt, oCl, oDa⟩ := p
  exact ⟨a, o, t, u, n, e, k _ _ oAt oCl, oCl, oDa⟩
theorem swo_int (k : Value → Int) : Swo fun v u => decide (k v < k u) := by
  refine ⟨fun a b h => ?_, fun a b c h1 h2 => ?_⟩
  · have := of_decide_eq_true h
    exact (decide_eq_false (by omega))
  · have := of_decide_eq_false h1
    have := of_decide_eq_false h2
    exact (decide_eq_false (by omega))
theorem eqBool_same {b : Addr} {Q : Bool → Shared → Prop} (h : Q true s) : wpAny (model pg w) A (eqBool (.ref b) (.ref b)) Q E s := by
  unfold eqBool
  refine wpAny_holding ?_
  rw [if_pos (beq_self_eq_true _)]; exact wpAny_bind (wpAny_rule (wpAny_pure h))
theorem pri_cmp {vs : List Value} {k : Value → Int} (hp : ∀ v ∈ vs, PrI s.heap v (k v)) (inj : ∀ v ∈ vs, ∀ u ∈ vs, k v = k u → v = u) : Cmp pg w A s (tuples' true) (fun p => p.1 ∈ vs) (lt2 fun v u => decide (k v < k u)) := by
  intro p q mem1 mem2
  have h1 := hp _ mem1
  have h2 := hp _ mem2
  show wpAny (model pg w) A (keyLt' (tuples' true) p.1 q.1) (fun r s' => s' = s ∧ r = decide (k p.1 < k q.1)) (fun _ _ => False) s
  by_cases ek : k p.1 = k q.1
  · have e := inj _ mem1 _ mem2 ek
    rw [← e]
    have e3 : decide (k p.1 < k p.1) = false := decide_eq_false (Int.lt_irrefl _)
    rw [e3]
    generalize k p.1 = x at h1
    obtain ⟨a, o, t, u, n, e, oAt, oCl, oDa⟩ := h1
    rw [e]
    refine PySem.W.kat_lt oAt oDa oAt oDa ?_
    show PySem.W.KatLex pg w A true (decide (2 < 2)) _ [(.int x t, .int x t), (.ref u, .ref u)] 0 s
    refine PySem.W.kat_cons (SeqAt.EqAt.int_int x t x t pg w _ _ ?_)
    refine PySem.W.kat_go (fun _ => ?_) (fun e1 => absurd e1 (by simp))
    refine PySem.W.kat_yes (PySem.W.kat_cons (eqBool_same ?_))
    refine PySem.W.kat_go (fun _ => ?_) (fun e1 => absurd e1 (by simp))
    exact PySem.W.kat_yes (PySem.W.kat_nil ⟨rfl, rfl⟩)
  · generalize k p.1 = x at h1 ek ⊢
    generalize k q.1 = x' at h2 ek ⊢
    obtain ⟨a, o, t, u, n, e, oAt, oCl, oDa⟩ := h1
    obtain ⟨a', o', t', u', n', e', oAt', oCl', oDa'⟩ := h2
    rw [e, e']
    refine PySem.W.kat_lt oAt oDa oAt' oDa' ?_
    show PySem.W.KatLex pg w A true (decide (2 < 2)) _ [(.int x t, .int x' t'), (.ref u, .ref u')] 0 s
    refine PySem.W.kat_cons (SeqAt.EqAt.int_int x t x' t' pg w _ _ ?_)
    refine PySem.W.kat_go (fun e1 => absurd (by simpa using e1) ek) (fun e1 => ?_)
    exact PySem.W.kat_no (oneLt_int ⟨rfl, rfl⟩)
theorem firsts_of {h : Heap} {k : Value → Int} : ∀ {vs : List Value}, (∀ v ∈ vs, PrI h v (k v)) → ∃ heads : List Value, PySem.W.KatTups h vs heads ∧ heads.length = vs.length ∧ ∀ f ∈ heads, ∃ x t, f = Value.int x t
  | [], _ => ⟨[], PySem.W.KatTups.nil, rfl, fun _ mem1 => by simp at mem1⟩
  | v :: vs, hp => by
    obtain ⟨heads, h1, h2, h3⟩ := firsts_of (vs := vs) fun v' mem1 => hp v' (List.mem_cons_of_mem _ mem1)
    have hv := hp v (List.mem_cons_self ..)
    generalize k v = x at hv
    obtain ⟨a, o, t, u, n, e, oAt, oCl, oDa⟩ := hv
    subst e
    refine ⟨.int x t :: heads, PySem.W.KatTups.cons oAt oCl oDa rfl h1, by rw [List.length_cons, List.length_cons, h2], fun f mem1 => ?_⟩
    rcases List.mem_cons.mp mem1 with rfl | mem1
    · exact ⟨x, t, rfl⟩
    · exact h3 f mem1
theorem pri_sortable {a : Addr} {vs : List Value} {k : Value → Int} (h0 : 0 < vs.length) (hp : ∀ v ∈ vs, PrI s.heap v (k v)) (inj : ∀ v ∈ vs, ∀ u ∈ vs, k v = k u → v = u) (ha : ∀ o, s.heap.get? a = some o → o.cls ≠ .type "tuple") : SortableO pg w A s a vs fun v u => decide (k v < k u) := by
  intro h' keep
  have prs' : ∀ v ∈ vs, PrI h' v (k v) := fun v mem1 => (hp v mem1).keeps fun b o e c => keep b o (fun z => by subst z; exact ha o e c) e
  obtain ⟨heads, h1, h2, h3⟩ := firsts_of prs'
  refine ⟨tuples' true, fun Q E hq => ?_, pri_cmp prs' inj⟩
  refine PySem.W.kat_kind (T := .type "int") h1 (by omega) (fun f mem1 => ?_) (by rfl) ?_
  · obtain ⟨x, t, rfl⟩ := h3 f mem1
    exact PySem.W.Looks.now
  · have e : (Value.type "int" != Value.type "tuple") = true := by decide +kernel
    rw [e]
    exact hq
end
end DSI
namespace UW
open PySem PySem.Spec PyProof.Rows L2 L2.DX DT
section
variable {X : Cx}
def rItemsK : V → List V → Hp → VK → Prop := fun x args H Q => ∃ (a : Addr) (kvs : List (Key × V)), x = .ref a ∧ args = [] ∧ H a = some (.dK kvs) ∧ ∀ p, H p = none → Q (.ref p) (upd H p (itemsO p a))
theorem mt_itemsK : MtR X "dict.items" rItemsK := by
  intro pins s σ H x args v argv Q I rel1 rxs h
  obtain ⟨a, prs, rfl, rfl, ha, q⟩ := h
  cases rel1
  cases rxs
  obtain ⟨z, hnm, vs, rel, ob, es, ep, hob, hex, hdat, _⟩ := dk_of I.hok ha
  refine DT.callItems (es := es) (ep := ep) hnm ⟨ob, hob, hex, hdat⟩ ?_
  have hfr : H s.heap.objs.size = none := I.hok.fresh (Nat.le_refl _)
  exact ⟨.ref s.heap.objs.size, upd H s.heap.objs.size (itemsO s.heap.objs.size a), I.laid (t' := s.toks) (fun b u e => Heap.get?_push_of_some _ e) (Nat.le_refl _) (itemsO_ok (Heap.get?_push_size _ rfl)), rfl, q _ hfr⟩
abbrev entI (e : Int × Addr) : Key × V := (Sum.inl e.1, V.ref e.2)
/-- keys are ints, values objects: the pairs, ascending -/
def rSortIK : List V → Hp → VK → Prop := fun vs H Q => ∃ (p a : Addr) (ents : List (Int × Addr)), vs = [.ref p] ∧ H p = some (itemsO p a) ∧ H a = some (.dK (ents.map entI)) ∧ (ents.map (·.1)).Nodup ∧ ents.length ≤ 1000 ∧
  ∀ (H' : Hp) (l : Addr) (ps : List (Addr × Int × Addr)), (∀ b ob, H b = some ob → H' b = some ob) → H l = none → (∀ z ∈ ps, H z.1 = none) → (ps.map (·.2)).Perm ents → (ps.map (·.2)).Pairwise (fun e f => e.1 ≤ f.1) →
    H' l = some (.lst (ps.map fun z => V.ref z.1)) → (∀ z ∈ ps, H' z.1 = some (.tup [.int z.2.1, .ref z.2.2])) → Q (.ref l) H'
/-- the int that a pair begins with -/
def fstI (h : Heap) (v : Value) : Int := match v with
  | .ref b => match h.get? b with
    | some ob => match ob.data with
      | .seq args _ => match (args[0]? : Option Value) with
        | some (Value.int ix _) => ix
        | _ => 0
      | _ => 0
    | none => 0
  | _ => 0
theorem fstI_of {h : Heap} {v : Value} {x : Int} (p : DSI.PrI h v x) : fstI h v = x := by
  obtain ⟨a, ob, t, b, n, rfl, hob, hc, hnm⟩ := p
  unfold fstI
  simp only [hob, hnm]
  rfl
theorem pairs_get {P : Program} {w : World} : ∀ {es : List DictEntry} {kvs : List (Key × Value)} {jx : Nat} {e : DictEntry}, Pairs (mixKind P w) es kvs → es[jx]? = some e → ∃ kv, kvs[jx]? = some kv ∧ keyIs kv.1 e.key = true ∧ e.val = kv.2
  | _, _, jx, e, .nil, h => by simp at h
  | _, _, 0, e, .cons h1 hp2 _, h => by simp at h; subst h; exact ⟨_, rfl, h1, hp2⟩
  | _, _, jx + 1, e, .cons _ _ t, h => by
    obtain ⟨kv, a, b⟩ := pairs_get (jx := jx) t (by simpa using h)
    exact ⟨kv, by simpa using a, b⟩
theorem pairs_len {P : Program} {w : World} : ∀ {es : List DictEntry} {kvs : List (Key × Value)}, Pairs (mixKind P w) es kvs → es.length = kvs.length
  | _, _, .nil => rfl
  | _, _, .cons _ _ t => by rw [List.length_cons, List.length_cons, pairs_len t]
theorem cr_sortedIK (hc : X.calm = true) : CallR X (.builtin "sorted") rSortIK := by
  intro pins s σ H args argv Q I r h
  obtain ⟨p, a, ents, rfl, hp, ha, nd, hlk, q⟩ := h
  obtain rfl := Vals.ref1 r
  have vw : s.heap.IsItemsView p a := (show ObjOk X.prog X.w H s.heap p (itemsO p a) from I.hok p _ hp).1
  obtain ⟨z, hnm, vs, rel, ob, es, ep, hob, hex, hdat, hkeys, hes, hn⟩ := dk_of I.hok ha
  have l1 : (ents.map entI).length = vs.length := Paired.length rel
  rw [List.length_map] at l1
  have l2 : es.size = vs.length := by rw [← Array.length_toList]; exact pairs_len hes
  have calm0 : X.A.handled = none := I.ok.hd hc
  refine DT.sortedI (es := es) (ep := ep) calm0 vw ⟨ob, hob, hex, hdat⟩ (by rw [sizeLine_eq]; omega) fun hp1 tok1 news hkeep hless hsz mkd => ?_
  have lenA : news.length = ents.length := by omega
  have nda : news.Nodup := List.Pairwise.imp (fun h => Nat.ne_of_lt h) mkd.rise
  -- the pairs that were made
  have pr0 : ∀ (jx : Nat) (b : Addr), news[jx]? = some b → ∃ (e : Int × Addr) (t : Tok), ents[jx]? = some e ∧ hp1.get? b = some { cls := .type "tuple", data := .seq #[Value.int e.1 t, Value.ref e.2] } := by
    intro jx b hjx
    obtain ⟨ent0, he, hg⟩ := mkd.pairs jx b hjx
    obtain ⟨kv, h1, hp2, h3⟩ := pairs_get hes (by rw [Array.getElem?_toList]; exact he)
    obtain ⟨e0, he0, r1, r3⟩ := pget rel h1
    rw [List.getElem?_map] at he0
    cases hkj : ents[jx]? with
    | none => rw [hkj] at he0; exact nomatch (show (none : Option (Key × V)) = some e0 from he0)
    | some e =>
      rw [hkj] at he0
      have ee : entI e = e0 := Option.some.inj he0
      rw [← ee] at r1 r3
      have r1 : Sum.inl e.1 = kv.1 := r1
      have r3 : kv.2 = Value.ref e.2 := r3
      rw [← r1] at hp2
      obtain ⟨t, ht⟩ := Value.isInt_shape (k := e.1) (v := ent0.key) hp2
      refine ⟨e, t, rfl, ?_⟩
      rw [hg, ht, h3, r3]
  have hlst : (hp1.push { cls := .type "list", data := .seq (news.map Value.ref).toArray }).get? hp1.objs.size = some (seqObj "list" (news.map Value.ref).toArray 0) := Heap.get?_push_size _ rfl
  have kept0 : ∀ b ob, s.heap.get? b = some ob → (hp1.push { cls := .type "list", data := .seq (news.map Value.ref).toArray }).get? b = some ob := fun b ob e => Heap.get?_push_of_some _ (hkeep b ob e)
  have olds : ∀ b ob, hp1.get? b = some ob → b ≠ hp1.objs.size := fun b ob e => Nat.ne_of_lt (Heap.lt_size e)
  generalize hh2 : hp1.push { cls := .type "list", data := .seq (news.map Value.ref).toArray } = hp2 at hlst kept0 ⊢
  have kept1 : ∀ b ob, hp1.get? b = some ob → hp2.get? b = some ob := fun b ob e => by rw [← hh2]; exact Heap.get?_push_of_some _ e
  have prI : ∀ (jx : Nat) (b : Addr), news[jx]? = some b → ∃ e : Int × Addr, ents[jx]? = some e ∧ DSI.PrI hp2 (.ref b) e.1 := by
    intro jx b hjx
    obtain ⟨e, t, he, hg⟩ := pr0 jx b hjx
    exact ⟨e, he, b, _, t, e.2, _, rfl, kept1 _ _ hg, rfl, rfl⟩
  have fst0 : ∀ (jx : Nat) (b : Addr) (e : Int × Addr), news[jx]? = some b → ents[jx]? = some e → fstI hp2 (.ref b) = e.1 := by
    intro jx b e hjx he
    obtain ⟨eqq, heq, hpr⟩ := prI jx b hjx
    have ee : eqq = e := Option.some.inj (heq.symm.trans he)
    rw [← ee]
    exact fstI_of hpr
  have memb : ∀ v ∈ news.map Value.ref, ∃ (jx : Nat) (b : Addr) (e : Int × Addr), v = .ref b ∧ news[jx]? = some b ∧ ents[jx]? = some e := by
    intro v hv'
    obtain ⟨b, hbm, rfl⟩ := List.mem_map.mp hv'
    obtain ⟨jx, hjx⟩ := List.mem_iff_getElem?.mp hbm
    obtain ⟨e, _, he, _⟩ := pr0 jx b hjx
    exact ⟨jx, b, e, rfl, hjx, he⟩
  refine wpAny_call_entry PyProof.Rows.slot_list_sort ⟨_, hlst, rfl⟩ PyProof.Rows.entry_list_sort
    (SrtO.list_sort_ord (s := { s with heap := hp2, toks := tok1 }) (ltv := fun v u => decide (fstI hp2 v < fstI hp2 u)) (DSI.swo_int _) hlst (by rw [List.length_map, sizeLine_eq]; omega) (fun h2l => ?_) fun out o1 o2 => ⟨.none, rfl, ?_⟩) (PyProof.Rows.args_list_sort _)
  · refine DSI.pri_sortable (by omega) (fun v hv' => ?_) (fun v hv' u hu' e => ?_) fun o' eqq => ?_
    · obtain ⟨jx, b, e, rfl, hjx, he⟩ := memb v hv'
      obtain ⟨eqq, heq, hpr⟩ := prI jx b hjx
      rw [fstI_of hpr]
      exact hpr
    · obtain ⟨jx, b, e1, rfl, hjx, he⟩ := memb v hv'
      obtain ⟨jx2, b2, e2, rfl, hj2, he2⟩ := memb u hu'
      rw [fst0 jx b e1 hjx he, fst0 jx2 b2 e2 hj2 he2] at e
      have hij : jx = jx2 := by
        have g1 : (ents.map (·.1))[jx]? = some e1.1 := by rw [List.getElem?_map, he]; rfl
        have g2 : (ents.map (·.1))[jx2]? = some e1.1 := by rw [List.getElem?_map, he2, e]; rfl
        exact (List.getElem?_inj (List.getElem?_eq_some_iff.mp g1).1 nd).mp (g1.trans g2.symm)
      subst hij
      rw [Option.some.inj (hjx.symm.trans hj2)]
    · have eqq : some o' = some (seqObj "list" (news.map Value.ref).toArray 0) := eqq.symm.trans hlst
      cases eqq
      intro cl0
      exact absurd (Value.type.inj cl0) (by decide)
  · show EP X pins σ Q (.ref hp1.objs.size) { s with heap := sortedHeap hp2 hp1.objs.size (news.map Value.ref) out.toArray, toks := tok1 }
    obtain ⟨ordd, pz, ez⟩ := perm_lift (fun z : Addr × Int × Addr => Value.ref z.1) (show out.Perm ((news.zip ents).map fun z => Value.ref z.1) from by
      have e : (news.zip ents).map (fun z => Value.ref z.1) = news.map Value.ref := by
        rw [show (fun z : Addr × Int × Addr => Value.ref z.1) = Value.ref ∘ Prod.fst from rfl, ← List.map_map, List.map_fst_zip (by rw [lenA]; exact Nat.le_refl _)]
      rw [e]; exact o2.perm) (news.zip ents) rfl
    have ixs : ∀ z ∈ ordd, ∃ jx : Nat, news[jx]? = some z.1 ∧ ents[jx]? = some z.2 := by
      intro z' hz'
      obtain ⟨jx, hjx⟩ := List.mem_iff_getElem?.mp (pz.mem_iff.mp hz')
      exact ⟨jx, List.getElem?_zip_eq_some.mp hjx⟩
    have hout : out = ordd.map fun z => Value.ref z.1 := ez.symm
    have prm : (ordd.map (·.2)).Perm ents := by
      have e := pz.map (·.2)
      have m2 : (news.zip ents).map (·.2) = ents := List.map_snd_zip (by rw [lenA]; exact Nat.le_refl _)
      rw [m2] at e
      exact e
    have srt : (ordd.map (·.2)).Pairwise (fun e f => e.1 ≤ f.1) := by
      have o3 := o1
      rw [← ez] at o3
      have o3 := List.pairwise_map.mp o3
      rw [List.pairwise_map]
      refine List.Pairwise.imp_of_mem (fun {x y} hex hy h => ?_) o3
      obtain ⟨jx, jx1, jx2⟩ := ixs x hex
      obtain ⟨ix, ix1, ix2⟩ := ixs y hy
      have hp1 : decide (fstI hp2 (.ref y.1) < fstI hp2 (.ref x.1)) = false := h
      rw [fst0 jx _ _ jx1 jx2, fst0 ix _ _ ix1 ix2] at hp1
      have := of_decide_eq_false hp1
      omega
    -- behind the sort
    have kF : ∀ b ob, b ≠ hp1.objs.size → hp2.get? b = some ob → (sortedHeap hp2 hp1.objs.size (news.map Value.ref) out.toArray).get? b = some ob := fun b ob hb e => (PyProof.Rows.sortedHeap_old hb (Heap.lt_size e)).trans e
    have kS : ∀ b ob, s.heap.get? b = some ob → (sortedHeap hp2 hp1.objs.size (news.map Value.ref) out.toArray).get? b = some ob := fun b ob e => kF b ob (olds _ _ (hkeep b ob e)) (kept0 b ob e)
    obtain ⟨eF, heF⟩ := PyProof.Rows.sortedHeap_at (vs := news.map Value.ref) (out := out.toArray) hlst
    have I1 : Inv X pins σ H { s with heap := sortedHeap hp2 hp1.objs.size (news.map Value.ref) out.toArray, toks := tok1 } := I.kept (t' := tok1) kS
    have noH : H hp1.objs.size = none := I.hok.fresh (Nat.le_of_lt hless)
    have lnL : (ordd.map fun z => V.ref z.1).length ≤ sizeLine := by
      have e := prm.length_eq
      rw [List.length_map] at e
      rw [List.length_map, sizeLine_eq]; omega
    have rv : Vals (ordd.map fun z => V.ref z.1) out := by
      rw [hout]
      exact vals_maps (fun z : Addr × Int × Addr => V.ref z.1) (fun z => Value.ref z.1) ordd fun _ _ => rfl
    have I2 : Inv X pins σ (upd H hp1.objs.size (.lst (ordd.map fun z => V.ref z.1))) { s with heap := sortedHeap hp2 hp1.objs.size (news.map Value.ref) out.toArray, toks := tok1 } :=
      I1.take (h' := sortedHeap hp2 hp1.objs.size (news.map Value.ref) out.toArray) (t' := tok1) (fun b ob _ e => e) (I.fpOk (Nat.le_of_lt hless) noH) ⟨lnL, out, eF, rv, heF⟩
    obtain ⟨H2, I3, g, qt⟩ := takeT (P := fun b vs => ∃ (jx : Nat) (e : Int × Addr), news[jx]? = some b ∧ ents[jx]? = some e ∧ vs = [.int e.1, .ref e.2]) I news _ I2 nda fun b hb => by
      obtain ⟨jx, hjx⟩ := List.mem_iff_getElem?.mp hb
      obtain ⟨e, t, he, hg⟩ := pr0 jx b hjx
      have low : s.heap.objs.size ≤ b := Nat.le_of_lt (mkd.above b hb)
      refine ⟨low, ?_, [.int e.1, .ref e.2], ⟨jx, e, hjx, he, rfl⟩, fun H3 => ⟨(by rw [sizeLine_eq]; show 2 ≤ 16777216; omega), [Value.int e.1 t, Value.ref e.2], .cons ⟨t, rfl⟩ (.cons rfl .nil), ⟨_, kF _ _ (olds _ _ hg) (kept1 _ _ hg), rfl, 0, rfl⟩⟩⟩
      rw [upd_ne (olds _ _ hg)]
      exact I.hok.fresh low
    have grow : ∀ b ob, H b = some ob → H2 b = some ob := fun b ob e => g b ob (by rw [upd_ne (ne_of_none e noH)]; exact e)
    refine ⟨.ref hp1.objs.size, H2, I3, rfl, q H2 hp1.objs.size ordd grow noH (fun z' hz' => ?_) prm srt (g _ _ upd_same) fun z' hz' => ?_⟩
    · obtain ⟨ix, ix1, _⟩ := ixs z' hz'
      exact I.hok.fresh (Nat.le_of_lt (mkd.above _ (List.mem_of_getElem? ix1)))
    obtain ⟨ix, ix1, ix2⟩ := ixs z' hz'
    obtain ⟨vs', ⟨jx, e, jx1, jx2, ev⟩, hH⟩ := qt z'.1 (List.mem_of_getElem? ix1)
    have eij : ix = jx := (List.getElem?_inj (List.getElem?_eq_some_iff.mp ix1).1 nda).mp (ix1.trans jx1.symm)
    subst eij
    have ee : e = z'.2 := Option.some.inj (jx2.symm.trans ix2)
    rw [ev, ee] at hH
    exact hH
end
end UW
namespace UW
open PySem PySem.Spec PyProof.Rows L2
theorem kds_of_code {K : PySem.W.Frag} {cd : Value} {q : Str} (e : PySem.W.codeIn K cd q = true) : PySem.W.kdsCode K cd = true := by
  unfold PySem.W.codeIn at e
  unfold PySem.W.kdsCode
  split at e
  · split at e
    · rename_i ho
      simp only [ho]
    · cases e
  · cases e
/-- an empty set, as it is laid -/
abbrev set0 (w : World) : Obj := { cls := .type "set", data := .set #[] 0 (.fresh 0 0 (!w.params.followText "set-order")), dict := none }
section
variable {pg : Program} {w : World} {A : Around} {E : Value → Shared → Prop} {s : Shared}
theorem set_new {Q : Value → Shared → Prop} (h : SetR w (s.heap.push (set0 w)) s.heap.objs.size (fun _ => false) 0 →
      Q (.ref s.heap.objs.size) { s with heap := s.heap.push (set0 w) }) :
    wpAny (model pg w) A (newSet (.type "set")) Q E s := by
  have q := h (setR_fresh w)
  unfold newSet setsByText
  refine wpAny_bind (wpAny_bind (wpAny_askSetting (wpAny_pure ?_))); dsimp only
  simp only [newObj]
  exact wpAny_bind (wpAny_alloc (wpAny_pure q))
theorem disp_core {b : Bool} {elts : List (Bool × Sem Value)} {ts : List (Sem Value)} {Q : Value → Shared → Prop} (hs : elts.findIdx? (·.1) = none) (hlen : elts.length ≤ 30) (hsnd : elts.map (·.2) = ts)
    (h : SetR w (s.heap.push (set0 w)) s.heap.objs.size (fun _ => false) 0 →
      wpAny (model pg w) A (evalAll ts) (fun vs s' => PySem.W.KdsFill (model pg w) A E false s.heap.objs.size Q vs s') E { s with heap := s.heap.push (set0 w) }) :
    wpAny (model pg w) A (setDisplay .oneByOne b elts) Q E s := by
  have hcut : (if elts.length > 30 then 0 else (elts.findIdx? (·.1)).getD elts.length) = elts.length := by rw [if_neg (by omega), hs]; rfl
  unfold setDisplay
  try dsimp only
  rw [if_neg (show ¬ ((DisplayRoad.oneByOne == DisplayRoad.constants) = true) by decide)]
  refine wpAny_bind (set_new fun R => ?_)
  dsimp only
  rw [hcut, List.take_length, List.drop_length, hsnd]
  refine wpAny_bind (wpAny_holding (wpAny_bind (wpAny_mono (h R) (fun vs s' h' => ?_) fun _ _ x => x)))
  refine wpAny_bind (wpAny_holding (wpAny_bind (wpAny_mono (PySem.W.kds_for (fun x P s hadd => ?_) vs s' h') (fun _ s1 h1 => ?_) fun _ _ x => x)))
  · refine wpAny_bind (wpAny_mono hadd (fun _ sB got => ?_) fun _ _ x => x)
    first | exact wpAny_pure ⟨rfl, got⟩ | exact wpAny_bind (wpAny_pure (wpAny_pure ⟨rfl, got⟩))
  · have got : Q (.ref s.heap.objs.size) s1 := by simpa [PySem.W.KdsFill] using h1
    rw [if_neg (show ¬ ((DisplayRoad.oneByOne == DisplayRoad.unsure) = true) by decide)]
    refine wpAny_pure ?_
    rw [List.forIn_nil]
    exact wpAny_pure (wpAny_pure got)
end
/-! ### sorted({e1, e2}), two ints -/
def tSet2 (w : World) (t1 t2 : TE) : TE := fun σ H Q => ∀ p, H p = none → t1 σ (upd H p (SetO w p (fun _ => false) 0)) fun x H1 => t2 σ H1 fun y H2 => ∃ i j, x = .int i ∧ y = .int j ∧ H2 p = some (SetO w p (fun _ => false) 0) ∧
  Q (.ref p) (upd H2 p (SetO w p (fun k => decide (k = i) || decide (k = j)) (if i = j then 1 else 2)))
theorem setadd_ok {X : Cx} {pins : List (Addr × Obj)} {s : Shared} {σ : L2.St} {H : Hp} {a : Addr} {k : Int} {tk : Tok} {S : Int → Bool} {n : Nat} {Q : Shared → Prop} (I : Inv X pins σ H s) (ha : H a = some (SetO X.w a S n)) (room : n + 1 < scanBound)
    (q : ∀ s', Inv X pins σ (upd H a (SetO X.w a (fun j => S j || decide (j = k)) (if S k = true then n else n + 1))) s' → Q s') : wpAny (model X.prog X.w) X.A (setAdd a (.int k tk)) (fun _ s' => Q s') X.xe s := by
  unfold setAdd
  refine wpAny_holding (wpAny_bind ((intKind X.prog X.w).pyHash (k := k) (intKind_is _ _ _ _) ?_))
  refine setR_add_hashed (s := { s with toks := s.toks + 1 }) (setO_get (I.tok _) ha) room fun h' sb nw => q _ ?_
  have hthere : ∃ u, h'.get? a = some u := by
    have ⟨o, _, _, _, ho, _⟩ := nw
    exact ⟨o, ho⟩
  exact I.write (e := a) (by rw [ha]; trivial) (.inl rfl) (fun b u hb hu => (sb.2 b hb).trans hu) hthere (setO_new nw)
section
variable {X : Cx} {e1 e2 : Expr} {t1 t2 : TE} {pos : Pos}
theorem pe_set2 (hcd : PySem.W.kdsCode X.K X.env.code = true) (h1 : PE X e1 t1) (got : PE X e2 t2) (hp : [e1, e2].all PySem.W.kdsPlain = true := by rfl) : PE X (.Set [e1, e2] 0 pos) (tSet2 X.w t1 t2) := by
  refine ⟨fun pins s σ H Q I h => ?_⟩; rw [arm_eval_Set]
  refine wpAny_bind (wpAny_standAt (wpAny_bind (PySem.W.kds_main I.kIn hcd fun b => ?_)))
  rw [PySem.W.kds_star [e1, e2] hp, List.map_map, show displayRoad 0 [e1, e2] = DisplayRoad.oneByOne from rfl]
  refine disp_core (ts := (evalEach [e1, e2] X.env).map fun t => do let v ← t; standAt pos; pure v) (List.findIdx?_eq_none_iff.mpr fun x hadd => ?_) (by rw [List.length_map, PySem.W.kds_len]; show 2 ≤ 30; decide) (by rw [List.map_map]; rfl) fun R => ?_
  · obtain ⟨t, _, rfl⟩ := List.mem_map.mp hadd
    rfl
  generalize hD : s.heap.objs.size = Da at R
  have hDn : H Da = none := I.hok.fresh (Nat.le_of_eq hD)
  have I1 : Inv X pins σ (upd H Da (SetO X.w Da (fun _ => false) 0)) { s with heap := s.heap.push (set0 X.w) } :=
    I.laid (t' := s.toks) (fun b o e => Heap.get?_push_of_some _ e) (Nat.le_of_eq hD) (setO_new R)
  refine PySem.W.kds_all pos [e1, e2] _ _ ?_
  refine thn (h1.run pins _ σ _ _ I1 (h Da hDn)) fun v1 s1 ⟨x, H1, J1, r1, q1⟩ => ?_
  refine thn (got.run pins _ σ _ _ J1 q1) fun v2 sB ⟨y, H2, J2, r2, q2⟩ => ?_
  obtain ⟨i, j, rfl, rfl, hs, q⟩ := q2
  obtain ⟨k1, rfl⟩ := r1
  obtain ⟨k2, rfl⟩ := r2
  show PySem.W.KdsFill (model X.prog X.w) X.A X.xe false _ _ [.int i k1, .int j k2] sB
  refine PySem.W.kds_fill_cons (setadd_ok J2 hs (by decide) fun s3 J3 => ?_)
  refine PySem.W.kds_fill_cons (setadd_ok J3 upd_same (by decide) fun s4 J4 => ?_)
  refine PySem.W.kds_fill_nil rfl ⟨.ref Da, _, J4, rfl, ?_⟩
  have e1 : upd (upd H2 Da (SetO X.w Da (fun j_1 => false || decide (j_1 = i)) (if false = true then 0 else 0 + 1))) Da (SetO X.w Da (fun j_1 => (false || decide (j_1 = i)) || decide (j_1 = j)) (if (false || decide (j = i)) = true then (if false = true then 0 else 0 + 1) else (if false = true then 0 else 0 + 1) + 1)) =
      upd H2 Da (SetO X.w Da (fun k => decide (k = i) || decide (k = j)) (if i = j then 1 else 2)) := by
    funext b
    by_cases eb : b = Da
    · subst eb
      rw [upd_same, upd_same]
      have eS : (fun k : Int => (false || decide (k = i)) || decide (k = j)) = fun k => decide (k = i) || decide (k = j) := by funext k; simp
      have eN : (if (false || decide (j = i)) = true then (if false = true then 0 else 0 + 1) else (if false = true then 0 else 0 + 1) + 1) = (if i = j then 1 else 2) := by
        by_cases e : i = j
        · subst e; simp
        · have : ¬ j = i := fun z => e z.symm
          simp [e, this]
      rw [eS, eN]
    · rw [upd_ne eb, upd_ne eb, upd_ne eb]
  rw [e1]
  exact q
end
def sort2 (i j : Int) : List Int := if i = j then [i] else if i < j then [i, j] else [j, i]
theorem sort2_is {i j : Int} {ns : List Int} (hs : ns.Pairwise (· < ·)) (hm : ∀ k, k ∈ ns ↔ (decide (k = i) || decide (k = j)) = true) : ns = sort2 i j := by
  have hm : ∀ k, k ∈ ns ↔ (k = i ∨ k = j) := fun k => by rw [hm k]; simp
  match ns, hs, hm with
  | [], _, hm => exact absurd ((hm i).mpr (.inl rfl)) (by simp)
  | [x], _, hm =>
    have h1 := (hm i).mpr (.inl rfl)
    have h2 := (hm j).mpr (.inr rfl)
    simp at h1 h2
    unfold sort2
    rw [if_pos (h1.trans h2.symm), h1]
  | [x, y], hs, hm =>
    have hxy : x < y := by simpa using hs
    have h1 := (hm x).mp (by simp)
    have h2 := (hm y).mp (by simp)
    unfold sort2
    by_cases e : i = j
    · omega
    · rw [if_neg e]
      by_cases l : i < j
      · rw [if_pos l]
        have hx : x = i := by omega
        have hy : y = j := by omega
        rw [hx, hy]
      · rw [if_neg l]
        have hx : x = j := by omega
        have hy : y = i := by omega
        rw [hx, hy]
  | x :: y :: z :: r, hs, hm =>
    obtain ⟨a1, a2⟩ := List.pairwise_cons.mp hs
    obtain ⟨b1, _⟩ := List.pairwise_cons.mp a2
    have := a1 y (by simp)
    have := a1 z (by simp)
    have := b1 z (by simp)
    have h1 := (hm x).mp (by simp)
    have h2 := (hm y).mp (by simp)
    have h3 := (hm z).mp (by simp)
    omega
end UW

/-! H3 -/
namespace UW
open PySem PySem.Spec PyProof.Rows L2
/-! ### enumerate over a text -/
theorem drawsS {prog : Program} {w : World} {A : Around} (hh : A.handled = none) (it : Addr) (x : Str) (t : Tok) :
    Draws prog w A it [it] x.cps.size
      (fun i v => ∃ c u, x.cps[i]? = some c ∧ v = .str ⟨#[c]⟩ u) (fun i h => h.IsStrIter it (strIterType x) x t i) := by
  unfold strIterType
  cases x.cps.all (· < 128) with
  | true => exact Draws.strAscii hh it x t
  | false => exact Draws.strWide hh it x t
def ItEs (x : Str) : It :=
  ⟨fun i _ => i < x.cps.size,
   fun i H v H' => ∃ T ob c, v = .ref T ∧ H T = none ∧ Obj.dict ob = none ∧ H' = upd H T (.frz ob (.tup [.int (i : Nat), .str ⟨#[c]⟩])) ∧ x.cps[i]? = some c,
   fun i _ => i = x.cps.size⟩
theorem turn_enumStr {P : Program} {w : World} {K : PySem.W.Frag} {elts : List Expr} {kk : Nat} {tpos : Pos} (x : Str) (t : Tok) (e it : Addr) :
    Turn P w K (.Tuple elts kk tpos) (ItEs x) [e, it] e (fun i h => (∃ old, IsEnum h e it ((i : Nat) : Int) old) ∧ h.IsStrIter it (strIterType x) x t i ∧ e ≠ it) where
  mem := List.mem_cons_self
  obj := fun i h stt c hc => by
    obtain ⟨⟨old, hen⟩, hi, _⟩ := stt
    rcases List.mem_cons.mp hc with q | q
    · rw [q]; exact ⟨_, hen, fun v z => nomatch z⟩
    · rw [List.mem_singleton.mp q]
      obtain ⟨o, h1, _, h2⟩ := hi
      exact ⟨o, h1, fun v z => by rw [h2] at z; cases z⟩
  keep := fun i h h' stt k => by
    obtain ⟨⟨old, hen⟩, ⟨o, ho, r⟩, hne⟩ := stt
    exact ⟨⟨old, k e (by simp) _ hen⟩, ⟨o, k it (by simp) o ho, r⟩, hne⟩
  item := by
    intro X eP ew eK hc i pins s σ H E I hf stt hg
    subst eP ew eK
    obtain ⟨⟨old, hen⟩, hit, hne⟩ := stt
    have helt : e < s.heap.objs.size := Heap.lt_size hen
    have hil : it < s.heap.objs.size := (by obtain ⟨_, q, _⟩ := hit; exact Heap.lt_size q)
    refine wpAny_pyNext_enum_itemD (drawsS (A := X.A.in1) (I.ok.hd hc) it x t) hen hit hg hne (by simp [hne]) fun y h1 tok1 hy ho hst hT _ hk => ?_
    obtain ⟨c, u, hcx, rfl⟩ := hy
    refine ⟨_, rfl, wpAny_letOwnedTupleGo_enum (s := { s with heap := h1, toks := tok1 + 1 }) ho fun h2 he2 sb => ?_⟩
    have hT2 : h2.get? s.heap.objs.size = some { cls := .type "tuple", data := .seq #[.int i tok1, .str ⟨#[c]⟩ u] } := (sb.2 _ (Nat.ne_of_gt helt)).trans hT
    have new : ObjOk X.prog X.w (upd H s.heap.objs.size (.frz { cls := .type "tuple", data := .seq #[.int i tok1, .str ⟨#[c]⟩ u] } (.tup [.int (i : Nat), .str ⟨#[c]⟩]))) h2 s.heap.objs.size (.frz { cls := .type "tuple", data := .seq #[.int i tok1, .str ⟨#[c]⟩ u] } (.tup [.int (i : Nat), .str ⟨#[c]⟩])) :=
      ⟨hT2, (by decide : 2 ≤ sizeLine), [.int i tok1, .str ⟨#[c]⟩ u], .cons ⟨_, rfl⟩ (.cons ⟨_, rfl⟩ .nil), ⟨_, hT2, rfl, _, rfl⟩⟩
    have J := I.turnedNew (h' := h2) (t' := tok1 + 1) (ch := [e, it]) (fun c ob hc' q => by
      have n1 : c ≠ e := fun z => hc' (by simp [z])
      have n2 : c ≠ it := fun z => hc' (by simp [z])
      exact (sb.2 c n1).trans (hk c ob n1 n2 q)) hf (Nat.le_refl _) new
    obtain ⟨oi, hoi, ri⟩ := hst
    refine ⟨.ref s.heap.objs.size, _, J, rfl, ⟨_, _, c, rfl, I.hok.fresh (Nat.le_refl _), rfl, rfl, hcx⟩, ⟨⟨.str ⟨#[c]⟩ u, ?_⟩, ⟨oi, (sb.2 it (Ne.symm hne)).trans hoi, ri⟩, hne⟩, fun c hc' => ?_⟩
    · have eq1 : ((i + 1 : Nat) : Int) = (i : Int) + 1 := by omega
      rw [eq1]
      exact he2
    · have lt : c < s.heap.objs.size := by
        rcases List.mem_cons.mp hc' with q | q
        · rw [q]; exact helt
        · rw [List.mem_singleton.mp q]; exact hil
      rw [upd_ne (Nat.ne_of_lt lt)]
      exact (hf c hc').1
  done := by
    intro X eP ew eK hc i pins s σ H E I hf stt hg
    subst eP ew eK
    obtain ⟨⟨old, hen⟩, hit, hne⟩ := stt
    have hg : i = x.cps.size := hg
    have st2 : s.heap.IsStrIter it (strIterType x) x t x.cps.size := by rw [← hg]; exact hit
    exact wpAny_pyNext_enum_endD (drawsS (A := X.A.in1) (I.ok.hd hc) it x t) hen st2 fun h' eb => ⟨rfl, I.turnedL (t' := s.toks) (ch := [e, it]) (fun c o hc' q => eb c o (fun z => hc' (by simp [z])) q) hf⟩
  self := fun A i s Q E stt h => let ⟨⟨_, hen⟩, _⟩ := stt; wpAny_pyIter_enum hen h
def iEnumB (K : PySem.W.Frag) (ta : TA) : TI := fun σ H Rx => ta σ H fun vs H1 => (∃ b a xs, vs = [.ref a] ∧ SqA K H1 b a xs ∧ Rx (ItE K b a) H1) ∨ ∃ x, vs = [.str x] ∧ Rx (ItEs x) H1
theorem pi_enumB {X : Cx} {e : Expr} {ta : TA} {p pos tpos : Pos} {elts : List Expr} {kk : Nat} (hg : Gl X "enumerate") (hm : X.mg "enumerate" = none) (ha : PA X [e] ta) (hs : starEach [e] X.env = [(false, eval e X.env)] := by rfl) :
    PI X (.Tuple elts kk tpos) (.Call (.Name "enumerate" p) [e] [] pos) (iEnumB X.K ta) := by
  refine ⟨fun pins s σ H Rx I h => Call_ (ld_blt I hg hm boot_enumerate (PyProof.Rows.callWith_type1 (thn (ha.run pos pins s σ H _ I h) fun us s1 hv => ?_) hs rfl))⟩
  obtain ⟨vs, H1, I1, r1, qq⟩ := hv
  have begun : ∀ {o : Obj}, o.isFreed = false → IsEnum ((s1.heap.push o).push { cls := .type "enumerate", data := .fields #[.none, .bool false, .ref s1.heap.objs.size, rawInt 0, .none, .none] }) (s1.heap.objs.size + 1) s1.heap.objs.size 0 .none := fun {o} _ => by
    have hz : (s1.heap.push o).objs.size = s1.heap.objs.size + 1 := Heap.size_push ..
    have z := Heap.get?_push_size (s1.heap.push o) (o := { cls := .type "enumerate", data := .fields #[.none, .bool false, .ref s1.heap.objs.size, rawInt 0, .none, .none] }) rfl
    rw [hz] at z
    exact z
  have free : ∀ c ∈ [s1.heap.objs.size + 1, s1.heap.objs.size], s1.heap.objs.size ≤ c := fun c hc => by
    rcases List.mem_cons.mp hc with z | z
    · rw [z]; exact Nat.le_succ _
    · rw [List.mem_singleton.mp z]; exact Nat.le_refl _
  have I2 : ∀ o : Obj, Inv X pins σ H1 { s1 with heap := (s1.heap.push o).push { cls := .type "enumerate", data := .fields #[.none, .bool false, .ref s1.heap.objs.size, rawInt 0, .none, .none] } } := fun o => I1.kept (t' := s1.toks) fun c o x => Heap.get?_push_of_some _ (Heap.get?_push_of_some _ x)
  rcases qq with ⟨b, a, xs, rfl, hq, q⟩ | ⟨x, rfl, q⟩
  · obtain ⟨u, rfl, rel⟩ := vals1 r1
    cases rel
    obtain ⟨its, rv, hold⟩ := I1.sqA hq
    refine callType_new F.called_enumerate (by decide) (F.typeCall_enumerate_1 _) (F.newCall_enumerate_1 _) (fun obj => F.args_object_init_2 obj _) F.entry_enumerate_new (enum_new1 (beginsA b a its.toArray)) ⟨hold, ?_⟩
    have hz : (s1.heap.push (recA b a)).objs.size = s1.heap.objs.size + 1 := Heap.size_push ..
    have fr : (recA b a).isFreed = false := by cases b <;> rfl
    show _ ∧ _
    rw [hz]
    have hen := begun fr
    have hi := Heap.get?_push_of_some { cls := .type "enumerate", data := .fields #[.none, .bool false, .ref s1.heap.objs.size, rawInt 0, .none, .none] } (Heap.get?_push_size s1.heap fr)
    refine ⟨⟨_, hen, rfl⟩, wpAny_pyIter_enum hen ?_⟩
    exact ⟨s1.heap.objs.size + 1, [s1.heap.objs.size + 1, s1.heap.objs.size], _, _, H1, rfl, I2 _, turn_enumA b a (s1.heap.objs.size + 1) s1.heap.objs.size, ⟨⟨.none, hen⟩, IterA.new hi, Nat.succ_ne_self _⟩, fun c hc => I1.fpOk (free c hc) (I1.hok.fresh (free c hc)), q⟩
  · obtain ⟨u, rfl, rel⟩ := vals1 r1
    obtain ⟨t, rfl⟩ := rel
    refine callType_new F.called_enumerate (by decide) (F.typeCall_enumerate_1 _) (F.newCall_enumerate_1 _) (fun obj => F.args_object_init_2 obj _) F.entry_enumerate_new (enum_new1 (begins_text x t)) ⟨trivial, ?_⟩
    have hz : (s1.heap.push ({ cls := .type (strIterType x), data := .fields #[.str x t, .int 0 0] } : Obj)).objs.size = s1.heap.objs.size + 1 := Heap.size_push ..
    have fr : ({ cls := .type (strIterType x), data := .fields #[.str x t, .int 0 0] } : Obj).isFreed = false := rfl
    show _ ∧ _
    rw [hz]
    have hen := begun fr
    have hi := Heap.get?_push_of_some { cls := .type "enumerate", data := .fields #[.none, .bool false, .ref s1.heap.objs.size, rawInt 0, .none, .none] } (Heap.get?_push_size s1.heap fr)
    refine ⟨⟨_, hen, rfl⟩, wpAny_pyIter_enum hen ?_⟩
    exact ⟨s1.heap.objs.size + 1, [s1.heap.objs.size + 1, s1.heap.objs.size], _, _, H1, rfl, I2 _, turn_enumStr x t (s1.heap.objs.size + 1) s1.heap.objs.size, ⟨⟨.none, hen⟩, ⟨_, hi, rfl, rfl⟩, Nat.succ_ne_self _⟩, fun c hc => I1.fpOk (free c hc) (I1.hok.fresh (free c hc)), q⟩
/-! ### a tuple once -/
section
variable {X : Cx}
theorem tuple_mul1 (l : Addr) (items : Array Value) (n : Nat) (dd : Option Addr) (sl : Array (Option Value)) (u : Tok) :
    Meets (Builtin.«tuple.__mul__» ⟨[.ref l, .int 1 u], []⟩) (fun _ R s => s.heap.get? l = some { cls := .type "tuple", dict := dd, data := .seq items n, slots := sl } ∧ R (.ok (.ret (Value.ref l))) s) :=
  .of_wp fun pr w A R s h => by
    rcases s with ⟨hp, g, d, tk, os⟩
    obtain ⟨hl, h⟩ := h
    have f1 := AutoSeq1.idx_int
    wp_walk using (wpAny_loadPart' hl)
    exact ⟨_, rfl, h⟩
theorem op_repT1 : OpR X (binaryOp .Mult) (rRepT1 X.K) := by
  intros pins s σ H x y v u Q I rx ry h
  obtain ⟨l, xs, rfl, rfl, hT, q⟩ := h
  cases rx
  obtain ⟨t, rfl⟩ := ry
  rcases I.tuple hT with ⟨its, r, ⟨⟨cls, dd, data, sl⟩, ho, hc, n, hd⟩, hs⟩
  simp only at hc hd
  subst hc hd
  refine wpAny_binaryOp_repeat_ref (T := "tuple") (U := "int") (by decide) ⟨_, ho, rfl⟩ (fun s' => typeIs_int s' 1 t) noFill_tuple_mul F.fills_int_mul F.slot_int_rmul repeat_tuple F.slot_int_index.lookup
    (call_meets F.slot_int_rmul (typeIs_int s 1 t) F.entry_int_rmul (F.args_int_rmul_2 _ _) (int_rmul_tuple 1 t l its.toArray n dd sl)
      ⟨ho, rfl, ⟨_, ho, rfl⟩, call_meets F.slot_tuple_mul ⟨_, ho, rfl⟩ F.entry_tuple_mul (F.args_tuple_mul_2 _ _) (tuple_mul1 l its.toArray n dd sl t) ⟨ho, ?_⟩⟩)
  exact ⟨.ref l, H, I, rfl, q⟩
end
end UW

/-! U10 -/
namespace UW
open PySem PySem.Spec PyProof.Rows L2
/-! ### how long a shown text is, at most -/
theorem joined_le (ts : List Str) : (Str.join ", " ts).length ≤ piled ts := by
  cases ts with
  | nil => exact Nat.zero_le _
  | cons x r => have := join_length_add (x :: r) (by simp); omega
theorem textFrom_le : ∀ (ts : List Str) (k : Nat) (acc : Str), (textFrom k acc ts).length ≤ acc.length + piled ts
  | [], _, _ => Nat.le_add_right _ _
  | t :: r, k, acc => by
    have ih := textFrom_le r (k + 1) (acc ++ (if k > 0 then ", " else "" : String) ++ t)
    rw [strLen_append (_ ++ _) t, strLen_append acc] at ih
    have e : ((if k > 0 then ", " else "" : String) : Str).length ≤ 2 := by split <;> decide
    rw [piled_cons]
    refine Nat.le_trans ih ?_
    omega
theorem listed_le (ts : List Str) : (listText ts).length ≤ 4 + piled ts := by
  have h := textFrom_le ts 0 "["
  have e1 : ((("[" : String) : Str)).length = 1 := rfl
  have e2 : ((("]" : String) : Str)).length = 1 := rfl
  show (textFrom 0 "[" ts ++ ("]" : String)).length ≤ _
  rw [strLen_append, e2]
  omega
theorem tupled_le (ts : List Str) : (tupleText ts).length ≤ 4 + piled ts := by
  unfold tupleText
  rw [strLen_append, strLen_append, show ((("(" : String) : Str)).length = 1 from rfl]
  have e3 : (((if ts.length == 1 then ",)" else ")" : String) : Str)).length ≤ 2 := by split <;> decide
  have := joined_le ts
  omega
mutual
theorem shown_le : ∀ {d : PyData}, fitS d = true → d.hasDict = false ∧ PyData.showable d = true ∧ d.shown.length ≤ szB d
  | .none, _ => ⟨by simp [PyData.hasDict], rfl, by show (("None" : String) : Str).length ≤ 4; decide⟩
  | .bool b, _ => ⟨by simp [PyData.hasDict], rfl, by cases b <;> (show Str.length _ ≤ 5; decide)⟩
  | .int i, h => by
    have h1 : i.natAbs.log2 < 1920 := by simpa [fitS] using h
    refine ⟨by simp [PyData.hasDict], by simpa [PyData.showable] using h1, ?_⟩
    have := int_text_length_le (a := i) (k := 1920) (by decide) h1
    show (Str.ofString (toString i)).length ≤ 1921
    rw [PySem.ofString_length]
    exact this
  | .str x, h => by
    refine ⟨by simp [PyData.hasDict], rfl, ?_⟩
    have h1 : PyData.strOk x = true := by simpa [fitS] using h
    show (reprText x).length ≤ 10 * x.length + 2
    refine StrLaws.reprText_len x fun c hc => ?_
    unfold PyData.strOk at h1
    rw [← Array.all_toList, List.all_eq_true] at h1
    exact Nat.lt_of_lt_of_le (of_decide_eq_true (h1 c hc)) (by decide)
  | .list xs, h => by
    obtain ⟨a, b, c⟩ := all_le (ds := xs) (by simpa [fitS] using h)
    refine ⟨by simpa [PyData.hasDict] using a, by simpa [PyData.showable] using b, ?_⟩
    have := listed_le (PyData.shownAll xs)
    simp only [PyData.shown, szB]
    omega
  | .tuple xs, h => by
    obtain ⟨a, b, c⟩ := all_le (ds := xs) (by simpa [fitS] using h)
    refine ⟨by simpa [PyData.hasDict] using a, by simpa [PyData.showable] using b, ?_⟩
    have := tupled_le (PyData.shownAll xs)
    simp only [PyData.shown, szB]
    omega
  | .dict _, h => by simp [fitS] at h
theorem all_le : ∀ {ds : List PyData}, fitAll ds = true → PyData.hasDictAll ds = false ∧ PyData.showableAll ds = true ∧ piled (PyData.shownAll ds) ≤ szAll ds
  | [], _ => ⟨by simp [PyData.hasDictAll], rfl, Nat.le_refl _⟩
  | d :: ds, h => by
    rw [fitAll, Bool.and_eq_true] at h
    obtain ⟨a, b, c⟩ := shown_le h.1
    obtain ⟨a2, b2, c2⟩ := all_le h.2
    refine ⟨by simp [PyData.hasDictAll, a, a2], by rw [PyData.showableAll, b, b2]; rfl, ?_⟩
    rw [PyData.shownAll, piled_cons, szAll]
    omega
end
/-! ### repr -/
def rRepr (K : PySem.W.Frag) : List V → Hp → VK → Prop := fun xs H Q => ∃ x d, xs = [x] ∧ Dp K H x d ∧ PyData.showable d = true ∧ d.shown.length ≤ sizeLine ∧ d.hasDict = false ∧ d.depth ≤ 50 ∧ Q (.str d.shown) H
theorem call_repr {X : Cx} (hg : X.A.guards = some []) (hu : X.A.units + 64 < cLine) : CallR X (.builtin "repr") (rRepr X.K) := by
  intro pins s σ H xs argv Q I r h
  obtain ⟨x, d, rfl, dp, sh, sz, nd, dep, q⟩ := h
  obtain ⟨u, rfl, rv0⟩ := vals1 r
  cases dp with
  | non => cases rv0; exact PySem.P.repr_of_none ⟨.str _, H, I.tok _, ⟨_, rfl⟩, q⟩
  | bl b => cases rv0; exact PySem.P.repr_of_bool ⟨.str _, H, I.tok _, ⟨_, rfl⟩, q⟩
  | int i => obtain ⟨t, rfl⟩ := rv0; exact PySem.P.repr_of_int (by simpa [PyData.showable] using sh) ⟨.str _, H, I.tok _, ⟨_, rfl⟩, q⟩
  | str x => obtain ⟨t, rfl⟩ := rv0; exact PySem.P.repr_of_str ⟨.str _, H, I.tok _, ⟨_, rfl⟩, q⟩ sz
  | @lst a xs ds ha hs =>
    cases rv0
    obtain ⟨as, hr⟩ := Dp.reads I _ _ _ (Dp.lst ha hs) rfl
    exact repr_of_reads' hr sh (fun z => by rw [nd] at z; cases z) hg (by omega) (fun _ _ z => z) (fun h' u tk hk => ⟨.str _, H, I.kept hk, ⟨u, rfl⟩, q⟩) sz
  | @tup a xs ds ha hs =>
    cases rv0
    obtain ⟨as, hr⟩ := Dp.reads I _ _ _ (Dp.tup ha hs) rfl
    exact repr_of_reads' hr sh (fun z => by rw [nd] at z; cases z) hg (by omega) (fun _ _ z => z) (fun h' u tk hk => ⟨.str _, H, I.kept hk, ⟨u, rfl⟩, q⟩) sz
section
variable {g : Gb}
theorem sat_repr {d : D} {z : PH} {P : D → PH → Prop} {E : XD} (h : Sat (fRepr [d] z) P E) : ∃ p, frz z deep d = some p ∧ okShow p = true ∧ P (.rep p) z := by
  unfold fRepr at h
  simp only at h
  cases e : frz z deep d with
  | none => rw [e] at h; exact h.elim
  | some p =>
    rw [e] at h
    simp only at h
    by_cases c : okShow p = true
    · rw [if_pos c] at h; exact ⟨p, rfl, c, h⟩
    · rw [if_neg c] at h; exact h.elim
theorem rws_repr : RWs g (rRepr g.K) fRepr := fun w H z vs ds o r Q h => by
  obtain ⟨d, rfl⟩ := one_of h rfl fun a b r => by cases a <;> rfl
  obtain ⟨v, rfl, rv⟩ := r.one
  obtain ⟨p, e, c, q⟩ := sat_repr h
  unfold okShow at c
  rw [Bool.and_eq_true, Bool.and_eq_true] at c
  obtain ⟨⟨c1, c2⟩, c3⟩ := c
  obtain ⟨a1, a2, a3⟩ := shown_le c1
  exact ⟨v, p, rfl, frz_of o _ _ _ _ e rv, a2, Nat.le_trans a3 (by rw [← line_eq]; exact of_decide_eq_true c2), a1, of_decide_eq_true c3, q w _ H (.refl o) (.rep p)⟩
theorem nox_repr : ∀ xs, NoX (fRepr xs) := fun xs z => by
  match xs with
  | [] => trivial
  | [d] =>
    unfold fRepr
    simp only
    cases frz z deep d with
    | none => trivial
    | some p =>
      by_cases c : okShow p = true
      · simp only [if_pos c]
      · simp only [if_neg c]
  | _ :: _ :: _ => trivial
/-! ### isinstance(e, T), T a built-in type -/
theorem tyIs_of {w : Wd} {z : PH} {H : Hp} (o : Ok g w z H) {v : V} {d : D} {T : String} {b : Bool} (r : Rv g w v d) (hT : knownTy T = true) (e : tyIs T d z = some b) : ∃ t : String, TyX g.K H v (.type t) ∧ kitB t T = some b := by
  have k : ∀ t : String, (t = "NoneType" ∨ t = "bool" ∨ t = "int" ∨ t = "str" ∨ t = "tuple" ∨ t = "list" ∨ t = "dict") → kitB t T = some (T == t || (t == "bool" && T == "int")) := fun t ht => by
    unfold knownTy at hT
    simp only [Bool.or_eq_true, beq_iff_eq] at hT
    rcases hT with ((((h | h) | h) | h) | h) | h <;> rcases ht with q | q | q | q | q | q | q <;> rw [h, q] <;> decide +kernel
  cases r with
  | non => cases e; refine ⟨"NoneType", .base .non, ?_⟩; rw [k _ (.inl rfl)]; congr 1; unfold knownTy at hT; simp only [Bool.or_eq_true, beq_iff_eq] at hT; rcases hT with ((((h | h) | h) | h) | h) | h <;> rw [h] <;> decide
  | bl b' => cases e; refine ⟨"bool", .base (.bl b'), ?_⟩; rw [k _ (by simp)]; congr 1
  | int i => cases e; refine ⟨"int", .base (.int i), ?_⟩; rw [k _ (by simp)]; congr 1; simp
  | str x => cases e; refine ⟨"str", .base (.str x), ?_⟩; rw [k _ (by simp)]; congr 1; simp
  | tup h a =>
    cases e
    refine ⟨"tuple", ?_, by rw [k _ (by simp)]; congr 1; simp⟩
    rcases same_t o.sub h.t with (h | ⟨o, h⟩) | ⟨o, its, n, h1, h2, _⟩
    · exact .base (.tup h)
    · exact .fTuple h
    · exact .kTuple h1 h2
  | @ref a n hi =>
    unfold tyIs at e
    simp only at e
    cases gt : z.get n with
    | none => rw [gt] at e; cases e
    | some q =>
      rw [gt] at e
      cases q with
      | lst xs => cases e; obtain ⟨vs, h1, _⟩ := o.obj _ _ _ hi gt; exact ⟨"list", .base (.lst h1), by rw [k _ (by simp)]; congr 1; simp⟩
      | dct xs => cases e; obtain ⟨vs, h1, _⟩ := o.obj _ _ _ hi gt; exact ⟨"dict", .base (.dK h1), by rw [k _ (by simp)]; congr 1; simp⟩
      | fdct xs => cases e; obtain ⟨ob, vs, h1, _⟩ := o.obj _ _ _ hi gt; exact ⟨"dict", .fDict h1, by rw [k _ (by simp)]; congr 1; simp⟩
      | _ => cases e
  | _ => cases e
theorem ev_isi {W : WX} {te : TE} {a : DE} {T : String} (ha : EvE g W te a) : EvE g W (tCB (rIsi g.K) (tCons te (tCons (tC (.ty T)) tNil))) (d1 (fIsi T) a) := fun w σ H z ρ E o Q h =>
  ha w σ H z ρ E o _ (sat_mono (sat_bind h) (fun x z1 s1 w1 vx H1 g1 r1 => by
    unfold fIsi at s1
    by_cases hT : knownTy T = true
    · rw [if_pos hT] at s1
      cases e : tyIs T x z1 with
      | none => rw [e] at s1; exact s1.elim
      | some b =>
        rw [e] at s1
        obtain ⟨t, ty, kb⟩ := tyIs_of g1.ok r1 hT e
        exact ⟨vx, .ty T, .type t, .type T, b, rfl, .ty T, ty, kit_ty kb, (show QV g w H Q (.bl b) z1 from s1) _ _ _ g1 (.bl b)⟩
    · rw [if_neg hT] at s1; exact s1.elim) fun _ _ _ q => q)
/-! ### written dicts with texts as keys -/
def kTab (s : Str) : List (Str × D) → Option D
  | [] => none
  | (x, d) :: r => if x = s then some d else kTab s r
structure DCt (g : Gb) (w : World) (a : Addr) (tab : List (Str × D)) : Prop where
  kd : ∃ es n, KDict g.K w a es n
  hit : ∀ x d, kTab x tab = some d → ∃ u v, PySem.W.nsIn g.K a x = some (some u) ∧ RelV v u ∧ ∀ W, Rv g W v d
  miss : ∀ x, kTab x tab = none → PySem.W.nsIn g.K a x = some none
def rKd (K : PySem.W.Frag) (a : Addr) (neg : Bool) : R2 := fun x y H Q => ∃ (z : Str) (r : Option Value), x = .str z ∧ y = .ref a ∧ PySem.W.nsIn K a z = some r ∧ Q (.bl (if neg then !r.isSome else r.isSome)) H
def fInK (tab : List (Str × D)) (neg : Bool) : D → M D
  | .str s => mPure (.bl (if neg then !(kTab s tab).isSome else (kTab s tab).isSome))
  | _ => mBad
def fIxK (tab : List (Str × D)) : D → M D
  | .str s => mOpt (kTab s tab)
  | _ => mBad
section
variable {X : Cx} {a : Addr} {tab : List (Str × D)} {w : World} {W : WX} {ta : TE} {da : DE}
theorem op_inK (T : DCt g w a tab) (hK : X.K = g.K) (hw : X.w = w) : OpR X (compareOp .In) (rKd g.K a false) := by
  obtain ⟨es, n, kd⟩ := T.kd
  subst hw
  rw [← hK] at kd ⊢
  exact op_in_kd kd
theorem op_notInK (T : DCt g w a tab) (hK : X.K = g.K) (hw : X.w = w) : OpR X (compareOp .NotIn) (rKd g.K a true) := by
  obtain ⟨es, n, kd⟩ := T.kd
  subst hw
  rw [← hK] at kd ⊢
  exact op_notIn_kd kd
theorem ev_inK {neg : Bool} (T : DCt g w a tab) (ha : EvE g W ta da) : EvE g W (tOp (rKd g.K a neg) ta (tC (.ref a))) (d1 (fInK tab neg) da) := fun wd σ H z ρ E o Q h =>
  ha wd σ H z ρ E o _ (sat_mono (sat_bind h) (fun x z1 s1 w1 vx H1 g1 r1 => by
    cases r1 with
    | str s =>
      have q : QV g wd H Q (.bl (if neg then !(kTab s tab).isSome else (kTab s tab).isSome)) z1 := s1
      cases e : kTab s tab with
      | none => rw [e] at q; exact ⟨s, none, rfl, rfl, T.miss s e, q _ _ _ g1 (.bl _)⟩
      | some d =>
        rw [e] at q
        obtain ⟨u, v, h1, _⟩ := T.hit s d e
        exact ⟨s, some u, rfl, rfl, h1, q _ _ _ g1 (.bl _)⟩
    | _ => exact (show False from s1).elim) fun _ _ _ q => q)
theorem ev_ixK (T : DCt g w a tab) (ha : EvE g W ta da) : EvE g W (tOp (rIxD g.K w) (tC (.ref a)) ta) (d1 (fIxK tab) da) := fun wd σ H z ρ E o Q h =>
  ha wd σ H z ρ E o _ (sat_mono (sat_bind h) (fun x z1 s1 w1 vx H1 g1 r1 => by
    cases r1 with
    | str s =>
      obtain ⟨d, e, q⟩ := sat_opt (show Sat (mOpt (kTab s tab) z1) _ _ from s1)
      obtain ⟨es, n, kd⟩ := T.kd
      obtain ⟨u, v, h1, h2, h3⟩ := T.hit s d e
      exact ⟨a, s, v, rfl, rfl, ⟨es, n, u, kd.at_, kd.lit, h1, h2⟩, q _ _ _ g1 (h3 w1)⟩
    | _ => exact (show False from s1).elim) fun _ _ _ q => q)
end
end
end UW

/-! UP5 -/
namespace UW
open PySem
/-! ### what is changed -/
def fSet (x y v : D) : M Unit := mGet x fun r o => match o with
  | .lst xs => match y with
    | .int k => match ixD xs.length k with
      | some j => mPut r (.lst (xs.set j v)) [v]
      | none => mBad
    | _ => mBad
  | .dct kvs => if y.isKey = true ∧ kvs.length < line then mPut r (.dct (kPut y v kvs)) [v] else mBad
  | _ => mBad
/-- o[i] = .. -/
def gSubD (o i : DE) : DG := fun v ρ => mBind (mCalm (o ρ)) fun x => mBind (mCalm (i ρ)) fun y => mBind (fSet x y v) fun _ => mPure ρ
def fAppend (x y : D) : M D := mGet x fun r o => match o with
  | .lst xs => if xs.length < line then mBind (mPut r (.lst (xs ++ [y])) [y]) fun _ => mPure .non else mBad
  | _ => mBad
def fLstQ (x : D) : M D := mGet x fun _ o => match o with
  | .lst _ => mPure x
  | _ => mBad
def dAppend (o e : DE) : DE := fun ρ => mBind (o ρ) fun x => mBind (fLstQ x) fun _ => mBind (e ρ) fun y => fAppend x y
def fPopL (x : D) : M D := mGet x fun r o => match o with
  | .lst xs => match xs[xs.length - 1]? with
    | some y => mBind (mPut r (.lst xs.dropLast) []) fun _ => mPure y
    | none => mBad
  | _ => mBad
def fPopAt (x y : D) : M D := mGet x fun r o => match o with
  | .lst xs => match y with
    | .int i => if okRg i = true then match seqIndex? i xs.length with
      | some k => match xs[k]? with
        | some e => mBind (mPut r (.lst (xs.eraseIdx k)) []) fun _ => mPure e
        | none => mBad
      | none => mBad
      else mBad
    | _ => mBad
  | _ => mBad
def dPopAt (o e : DE) : DE := fun ρ => mBind (o ρ) fun x => mBind (fLstQ x) fun _ => mBind (e ρ) fun y => fPopAt x y
/-! dicts: get -/
def fGet1 (x y : D) : M D := mGet x fun _ o => match o with
  | .dct kvs | .fdct kvs => if y.isKey = true then mPure ((kGet y kvs).getD .non) else mBad
  | _ => mBad
def fGet2 (x y d : D) : M D := mGet x fun _ o => match o with
  | .dct kvs | .fdct kvs => if y.isKey = true then mPure ((kGet y kvs).getD d) else mBad
  | _ => mBad
def fDct (x : D) : M D := mGet x fun _ o => match o with
  | .dct _ | .fdct _ => mPure x
  | _ => mBad
def dGet1 (o e : DE) : DE := fun ρ => mBind (o ρ) fun x => mBind (fDct x) fun _ => mBind (e ρ) fun y => fGet1 x y
def dGet2 (o e f : DE) : DE := fun ρ => mBind (o ρ) fun x => mBind (fDct x) fun _ => mBind (e ρ) fun y => mBind (f ρ) fun d => fGet2 x y d
/-! {k: v, ..} -/
abbrev DP := Env → M (List (D × D))
def pNil : DP := fun _ => mPure []
def pCons (k v : DE) (r : DP) : DP := fun ρ => mBind (k ρ) fun x => mBind (v ρ) fun y => mBind (r ρ) fun ps => mPure ((x, y) :: ps)
def kMerge (ps : List (D × D)) : List (D × D) := ps.foldl (fun acc p => kPut p.1 p.2 acc) []
def dDict (ps : DP) : DE := fun ρ => mBind (ps ρ) fun kvs => if (kvs.all fun p => p.1.isKey) = true ∧ kvs.length ≤ 15 then mNew (.dct (kMerge kvs)) else mBad
/-- {} -/
def dDict0 : DE := fun _ => mNew (.dct [])
end UW

/-! UP6 -/
namespace UW
open PySem
/-! ### enumerate, zip -/
inductive Src where
  | t (xs : List D) | r (n : Nat)
def srcL : Src → PH → Option (List D)
  | .t xs, _ => some xs
  | .r n, z => match z.get n with
    | some (.lst xs) | some (.flst xs) => some xs
    | _ => none
def srcOf : D → M Src
  | .tup xs => mPure (.t xs)
  | .ref r => mGet (.ref r) fun _ o => match o with
    | .lst _ | .flst _ => mPure (.r r)
    | _ => mBad
  | _ => mBad
def wkEnum (st : Nat) (s : Src) : Wk := fun i z => match srcL s z with
  | none => .bad
  | some xs => match xs[i]? with
    | some d => .item (.tup [.int ((st + i : Nat) : Int), d])
    | none => if i = xs.length then .stop else .bad
def wkZip (s s' : Src) : Wk := fun i z => match srcL s z with
  | none => .bad
  | some xs => match srcL s' z with
    | none => .bad
    | some ys => match xs[i]? with
      | some x => match ys[i]? with
        | some y => .item (.tup [x, y])
        | none => .bad
      | none => if i = xs.length ∧ i = ys.length then .stop else .bad
def iEnum (st : Nat) (e : DE) : DI := fun ρ => mBind (e ρ) fun x => mBind (srcOf x) fun s => mPure (wkEnum st s)
def iZip (e f : DE) : DI := fun ρ => mBind (e ρ) fun x => mBind (f ρ) fun y => mBind (srcOf x) fun s => mBind (srcOf y) fun s' => mPure (wkZip s s')
/-- the values of a written dict -/
def iConst (xs : List D) : DI := fun _ => mPure (wkList xs)
/-! ### tuple(range(n)) -/
def intsTo : Nat → List D
  | 0 => []
  | n + 1 => intsTo n ++ [.int n]
def fTupRg : D → M D
  | .int i => if 0 ≤ i ∧ i ≤ 1000000 then mPure (.tup (intsTo i.toNat)) else mBad
  | _ => mBad
end UW

/-! UP7 -/
namespace UW
open PySem
/-! ### sorted({i, j}) -/
def sort2D (i j : Int) : List D := if i = j then [.int i] else if i < j then [.int i, .int j] else [.int j, .int i]
def fSort2 : D → D → M D
  | .int i, .int j => mNew (.lst (sort2D i j))
  | _, _ => mBad
/-! ### stars within displays -/
def fItems (x : D) : M (List D) := match x with
  | .tup xs => mPure xs
  | .ref r => mGet (.ref r) fun _ o => match o with
    | .lst xs | .flst xs => mPure xs
    | _ => mBad
  | _ => mBad
def aStar (a : DE) (r : DA) : DA := fun ρ => mBind (a ρ) fun x => mBind (fItems x) fun xs => mBind (r ρ) fun ys => mPure (xs ++ ys)
def fTupS (xs : List D) : M D := if xs.length ≤ line then mPure (.tup xs) else mBad
def fLstS (xs : List D) : M D := if xs.length ≤ line then mNew (.lst xs) else mBad
/-! ### calls of what a local name holds -/
def fTab (x : Str) : List (Str × DF) → Option DF
  | [] => none
  | (y, f) :: r => if y = x then some f else fTab x r
def dCallL (tab : List (Str × DF)) (i : Nat) (a : DA) : DE := fun ρ => match ρ[i]? with
  | some (some (.gl x)) => match fTab x tab with
    | some f => mBind (a ρ) fun ds => mApart f ds
    | none => mBad
  | _ => mBad
/-! ### raise -/
def mRaise {α : Type} (c : Str) (fs : List (Str × D)) : M α := fun h => .exc c fs h
/-- raise C(..), C's __init__ keeping its arguments under these names -/
def sRaise (c : Str) (ns : List Str) (a : DA) : DS := fun ρ => mBind (a ρ) fun ds => if ds.length = ns.length then mRaise c (ns.zip ds).reverse else mBad
end UW

/-! U11 -/
namespace UW
open PySem PySem.Spec PyProof.Rows L2
section
variable {X : Cx}
def rSetA : TSet := fun o i v H Q => rSetL o i v H Q ∨ rSetD o i v H Q
theorem set_any (hu : X.A.units + 1 < cLine) : PSet X rSetA := by
  intro pins s σ H o i v ov iv u Q I r1 r2 r3 h
  rcases h with h | h
  · exact set_list pins s σ H o i v ov iv u Q I r1 r2 r3 h
  · exact set_dict hu pins s σ H o i v ov iv u Q I r1 r2 r3 h
end
section
variable {g : Gb} {w : Wd} {z : PH} {H : Hp}
/-- a list of the store is now another -/
theorem go_lst {r : Nat} {a : Addr} {xs ys vs : List D} {vys : List V} (o : Ok g w z H) (hi : w.io[r]? = some a) (gt : z.get r = some (.lst xs)) (ry : RvA g w vys ys) (hv : ∀ y ∈ ys, y ∈ xs ∨ y ∈ vs) :
    Go g w H (z.put r (.lst ys) vs) w (upd H a (.lst vys)) := by
  obtain ⟨vxs, h1, _⟩ := o.lst hi gt
  refine Go.set o hi (q := .lst ys) ⟨vys, upd_same, ry⟩ (fun r' e x hx => ?_) ⟨_, gt⟩ (fun o' u e => by rw [h1] at e; cases e)
  rw [gt] at e
  cases e
  exact hv x hx
theorem go_dct {r : Nat} {a : Addr} {xs ys : List (D × D)} {vs : List D} {vys : List (Key × V)} (o : Ok g w z H) (hi : w.io[r]? = some a) (gt : z.get r = some (.dct xs)) (ry : KvR g w vys ys) (hv : ∀ y ∈ ys.map (·.2), y ∈ xs.map (·.2) ∨ y ∈ vs) :
    Go g w H (z.put r (.dct ys) vs) w (upd H a (.dK vys)) := by
  obtain ⟨vxs, h1, _⟩ := o.obj _ _ _ hi gt
  refine Go.set o hi (q := .dct ys) ⟨vys, upd_same, ry⟩ (fun r' e x hx => ?_) ⟨_, gt⟩ (fun o' u e => by rw [h1] at e; cases e)
  rw [gt] at e
  cases e
  exact hv x hx
theorem mem_set {α : Type} {x v : α} : ∀ {xs : List α} {j : Nat}, x ∈ xs.set j v → x ∈ xs ∨ x = v
  | [], _, h => by simp at h
  | a :: r, 0, h => by
    rw [List.set_cons_zero] at h
    rcases List.mem_cons.mp h with h | h
    · exact .inr h
    · exact .inl (List.mem_cons_of_mem _ h)
  | a :: r, j + 1, h => by
    rw [List.set_cons_succ] at h
    rcases List.mem_cons.mp h with h | h
    · exact .inl (by rw [h]; exact List.mem_cons_self)
    · rcases mem_set h with q | q
      · exact .inl (List.mem_cons_of_mem _ q)
      · exact .inr q
theorem mem_kPut {y v : D} {kvs : List (D × D)} {x : D} (h : x ∈ (kPut y v kvs).map (·.2)) : x ∈ kvs.map (·.2) ∨ x ∈ [v] := by
  unfold kPut at h
  split at h
  · rw [List.map_map] at h
    rcases List.mem_map.mp h with ⟨p, hp, rfl⟩
    simp only [Function.comp]
    split
    · exact .inr (by simp)
    · exact .inl (List.mem_map.mpr ⟨p, hp, rfl⟩)
  · rw [List.map_append, List.mem_append] at h
    exact h
theorem key_of' {v : V} {d : D} (r : Rv g w v d) (h : d.isKey = true) : ∃ k : Key, v = kV k ∧ keyR k d := key_of r h
theorem nox_set {x y v : D} : NoX (fSet x y v) := nox_get fun r o => by
  cases o with
  | lst xs =>
    cases y with
    | int k =>
      show NoX (match ixD xs.length k with | some j => mPut r (.lst (xs.set j v)) [v] | none => mBad)
      cases ixD xs.length k with
      | none => exact nox_bad
      | some j => exact nox_put
    | _ => exact nox_bad
  | dct kvs => exact nox_ite nox_put nox_bad
  | _ => exact nox_bad
theorem set_of {vo vi vv : V} {x y v : D} (o : Ok g w z H) (ro : Rv g w vo x) (ri : Rv g w vi y) (rv : Rv g w vv v) {Q : Hp → Prop} {E : XD} (h : Sat (fSet x y v z) (fun _ z' => ∀ w' H', Go g w H z' w' H' → Q H') E) : rSetA vo vi vv H Q := by
  obtain ⟨r, q, rfl, gt, h⟩ := sat_get h
  cases ro with
  | @ref a _ hi =>
    cases q with
    | lst xs =>
      cases y with
      | int k =>
        simp only at h
        cases e : ixD xs.length k with
        | none => rw [e] at h; exact (show False from h).elim
        | some j =>
          rw [e] at h
          obtain ⟨vxs, h1, h2⟩ := o.lst hi gt
          cases ri
          have q := (show ∀ w' H', Go g w H _ w' H' → Q H' from h) w _ (go_lst o hi gt (h2.set rv j) (fun y hy => by
            rcases mem_set hy with q | q
            · exact .inl q
            · exact .inr (by simp [q])))
          exact .inl ⟨a, vxs, k, j, rfl, rfl, h1, by rw [h2.length]; exact e, q⟩
      | _ => exact (show False from h).elim
    | dct kvs =>
      obtain ⟨⟨c1, c2⟩, h⟩ := sat_if h
      obtain ⟨k, rfl, hk⟩ := key_of ri c1
      obtain ⟨vk, h1, h2⟩ := o.obj _ _ _ hi gt
      refine .inr ⟨a, _, rfl, .inl ⟨vk, k, h1, rfl, by rw [h2.length, ← line_eq]; exact c2, rfl⟩, ?_⟩
      exact (show ∀ w' H', Go g w H _ w' H' → Q H' from h) w _ (go_dct o hi gt (h2.put hk rv) fun y hy => mem_kPut hy)
    | _ => exact (show False from h).elim
theorem nox_calm {α : Type} {m : M α} : NoX (mCalm m) := fun z => by
  unfold mCalm
  cases m z <;> trivial
theorem sat_calm' {α : Type} {m : M α} {z : PH} {P : α → PH → Prop} {E E' : XD} (h : Sat (mCalm m z) P E) : Sat (m z) P E' := sat_mono (sat_calm h) (fun _ _ q => q) fun _ _ _ q => q.elim
theorem eg_sub {to ti : TE} {o i : DE} (ho : EvE g WNo to o) (hi : EvE g WNo ti i) : EvG g (gSub to ti rSetA) [] (gSubD o i) := by
  refine ⟨fun w σ H z ρ v d E k r Q h => ?_, fun d ρ => nox_bind nox_calm fun x => nox_bind nox_calm fun y => nox_bind nox_set fun _ => nox_pure⟩
  refine ho w σ H z ρ E k _ (sat_mono (sat_calm (sat_bind h)) (fun x z1 s1 w1 vx H1 g1 r1 => ?_) fun _ _ _ q => q.elim)
  refine hi w1 σ H1 z1 ρ (E.mono g1.le) g1.ok _ (sat_mono (sat_calm (sat_bind s1)) (fun y z2 s2 w2 vy H2 g2 r2 => ?_) fun _ _ _ q => q.elim)
  refine set_of g2.ok (r1.mono g2.le) r2 ((r.mono g1.le).mono g2.le) (sat_mono (sat_bind s2) (fun _ z3 s3 w3 H3 g3 => ?_) fun _ _ _ q => q)
  have go := (g1.trans g2).trans g3
  exact (show ∀ w' σ' H', Go g w H z3 w' H' → EnvOk g w' σ' ρ → Off [] σ σ' → Q σ' H' from s3) w3 σ H3 go (E.mono go.le) .refl
/-! ### methods of lists -/
variable {W : WX} {to te tf : TE} {o e f : DE}
theorem ty_lst {a : Addr} {vs : List V} {K : PySem.W.Frag} (h : H a = some (.lst vs)) : tyV K "list" (.ref a) H := .inl ⟨rfl, vs, .inl (.inl h)⟩
theorem lstQ_of {x : D} {vx : V} {P : D → PH → Prop} {E : XD} (rx : Rv g w vx x) (oo : Ok g w z H) (h : Sat (fLstQ x z) P E) : tyV g.K "list" vx H ∧ P x z := by
  obtain ⟨r, q, rfl, gt, h⟩ := sat_get h
  cases rx with
  | @ref a _ hi =>
    cases q with
    | lst xs =>
      obtain ⟨vs, h1, h2⟩ := oo.lst hi gt
      exact ⟨ty_lst h1, h⟩
    | _ => exact (show False from h).elim
theorem append_of {vx vy : V} {x y : D} (o : Ok g w z H) (rx : Rv g w vx x) (ry : Rv g w vy y) {Q : VK} {E : XD} (h : Sat (fAppend x y z) (QV g w H Q) E) : rAppend vx [vy] H Q := by
  obtain ⟨r, q, rfl, gt, h⟩ := sat_get h
  cases rx with
  | @ref a _ hi =>
    cases q with
    | lst xs =>
      obtain ⟨c, h⟩ := sat_if h
      obtain ⟨vs, h1, h2⟩ := o.lst hi gt
      refine ⟨a, vs, vy, rfl, rfl, h1, by rw [h2.length, ← line_eq]; exact c, ?_⟩
      have q := (show QV g w H Q .non (z.put r (.lst (xs ++ [y])) [y]) from h)
      exact q _ _ _ (go_lst o hi gt (h2.append (.cons ry .nil)) fun u hu => List.mem_append.mp hu) .non
    | _ => exact (show False from h).elim
theorem ev_append (ho : EvE g W to o) (he : EvE g W te e) : EvE g W (tBM g.K "list" rAppend to (tCons te tNil)) (dAppend o e) := fun w σ H z ρ E k Q h => by
  refine ho w σ H z ρ E k _ (sat_mono (sat_bind h) (fun x z1 s1 w1 vx H1 g1 r1 => ?_) fun _ _ _ q => q)
  obtain ⟨ty, s1⟩ := lstQ_of r1 g1.ok (sat_bind s1)
  refine ⟨ty, he w1 σ H1 z1 ρ (E.mono g1.le) g1.ok _ (sat_mono (sat_bind s1) (fun y z2 s2 w2 vy H2 g2 r2 => ?_) fun _ _ _ q => q.at g1)⟩
  exact append_of g2.ok (r1.mono g2.le) r2 (E := QX g w H σ W) (sat_mono s2 (fun d z3 q => q.at (g1.trans g2)) fun _ _ _ q => q)
theorem popAt_of {vx vy : V} {x y : D} (o : Ok g w z H) (rx : Rv g w vx x) (ry : Rv g w vy y) {Q : VK} {E : XD} (h : Sat (fPopAt x y z) (QV g w H Q) E) : rPopAt vx [vy] H Q := by
  obtain ⟨r, q, rfl, gt, h⟩ := sat_get h
  cases rx with
  | @ref a _ hi =>
    cases q with
    | lst xs =>
      cases y with
      | int i =>
        obtain ⟨c, h⟩ := sat_if (show Sat ((if okRg i = true then _ else mBad : M D) z) _ _ from h)
        cases ry
        obtain ⟨vs, h1, h2⟩ := o.lst hi gt
        cases e1 : seqIndex? i xs.length with
        | none => rw [e1] at h; exact (show False from h).elim
        | some k =>
          rw [e1] at h
          simp only at h
          cases e2 : xs[k]? with
          | none => rw [e2] at h; exact (show False from h).elim
          | some d =>
            rw [e2] at h
            obtain ⟨v, h3, rd⟩ := h2.get e2
            have := okRg_of c
            have q := (show QV g w H Q d (z.put r (.lst (xs.eraseIdx k)) []) from h)
            refine ⟨a, vs, i, k, v, rfl, rfl, h1, by omega, by omega, by rw [h2.length]; exact e1, h3, ?_⟩
            have er : RvA g w (vs.eraseIdx k) (xs.eraseIdx k) := by
              rw [List.eraseIdx_eq_take_drop_succ, List.eraseIdx_eq_take_drop_succ]
              exact (h2.take k).append (h2.drop (k + 1))
            exact q _ _ _ (go_lst o hi gt er fun u hu => .inl (List.mem_of_mem_eraseIdx hu)) rd
      | _ => exact (show False from h).elim
    | _ => exact (show False from h).elim
theorem ev_popAt (ho : EvE g W to o) (he : EvE g W te e) : EvE g W (tBM g.K "list" rPopAt to (tCons te tNil)) (dPopAt o e) := fun w σ H z ρ E k Q h => by
  refine ho w σ H z ρ E k _ (sat_mono (sat_bind h) (fun x z1 s1 w1 vx H1 g1 r1 => ?_) fun _ _ _ q => q)
  obtain ⟨ty, s1⟩ := lstQ_of r1 g1.ok (sat_bind s1)
  refine ⟨ty, he w1 σ H1 z1 ρ (E.mono g1.le) g1.ok _ (sat_mono (sat_bind s1) (fun y z2 s2 w2 vy H2 g2 r2 => ?_) fun _ _ _ q => q.at g1)⟩
  exact popAt_of g2.ok (r1.mono g2.le) r2 (E := QX g w H σ W) (sat_mono s2 (fun d z3 q => q.at (g1.trans g2)) fun _ _ _ q => q)
theorem dropLast_take {α : Type} : ∀ xs : List α, xs.dropLast = xs.take (xs.length - 1) := fun xs => by rw [List.dropLast_eq_take]
theorem ev_popL (ho : EvE g W to o) : EvE g W (tBM0 g.K "list" rPop to) (d1 fPopL o) := fun w σ H z ρ E k Q h => by
  refine ho w σ H z ρ E k _ (sat_mono (sat_bind h) (fun x z1 s1 w1 vx H1 g1 r1 => ?_) fun _ _ _ q => q)
  obtain ⟨r, q, rfl, gt, s1⟩ := sat_get s1
  cases r1 with
  | @ref a _ hi =>
    cases q with
    | lst xs =>
      obtain ⟨vs, h1, h2⟩ := g1.ok.lst hi gt
      simp only at s1
      cases e2 : xs[xs.length - 1]? with
      | none => rw [e2] at s1; exact (show False from s1).elim
      | some d =>
        rw [e2] at s1
        obtain ⟨v, h3, rd⟩ := h2.get e2
        have q := (show QV g w H Q d (z1.put r (.lst xs.dropLast) []) from s1)
        refine ⟨ty_lst h1, a, vs, v, rfl, rfl, h1, by rw [h2.length]; exact h3, ?_⟩
        have er : RvA g w1 vs.dropLast xs.dropLast := by rw [dropLast_take, dropLast_take, h2.length]; exact h2.take _
        exact q _ _ _ (g1.trans (go_lst g1.ok hi gt er fun u hu => .inl (List.dropLast_subset _ hu))) rd
    | _ => exact (show False from s1).elim
/-! ### get -/
theorem dct_of {x : D} {vx : V} {P : D → PH → Prop} {E : XD} (rx : Rv g w vx x) (oo : Ok g w z H) (h : Sat (fDct x z) P E) : ∃ r a, x = .ref r ∧ vx = .ref a ∧ w.io[r]? = some a ∧ IsD H a ∧ P x z := by
  obtain ⟨r, q, rfl, gt, h⟩ := sat_get h
  cases rx with
  | @ref a _ hi =>
    cases q with
    | dct kvs => obtain ⟨vs, h1, _⟩ := oo.kvs hi gt rfl; exact ⟨r, a, rfl, rfl, hi, .inl ⟨_, h1⟩, h⟩
    | fdct kvs => obtain ⟨vs, h1, _⟩ := oo.kvs hi gt rfl; exact ⟨r, a, rfl, rfl, hi, .inl ⟨_, h1⟩, h⟩
    | _ => exact (show False from h).elim
theorem kvs_of {r : Nat} {a : Addr} {q : PO} {s : List (D × D)} {vy : V} {y : D} (o : Ok g w z H) (hi : w.io[r]? = some a) (gt : z.get r = some q) (hs : q.kvs = some s) (ry : Rv g w vy y) (c : y.isKey = true) :
    ∃ ov, DGet H a vy ov ∧ ((kGet y s = none ∧ ov = none) ∨ ∃ d v, kGet y s = some d ∧ ov = some v ∧ Rv g w v d) := by
  obtain ⟨vs, h1, h2⟩ := o.kvs hi gt hs
  obtain ⟨k, rfl, hk⟩ := key_of ry c
  refine ⟨_, dget_of h1, ?_⟩
  rcases kGet_of hk h2 with q | q
  · exact .inl q
  · exact .inr q
theorem ev_get1 (ho : EvE g W to o) (he : EvE g W te e) : EvE g W (tDGet1 to te) (dGet1 o e) := fun w σ H z ρ E k Q h => by
  refine ho w σ H z ρ E k _ (sat_mono (sat_bind h) (fun x z1 s1 w1 vx H1 g1 r1 => ?_) fun _ _ _ q => q)
  obtain ⟨r, a, rfl, rfl, hi, hd, s1⟩ := dct_of r1 g1.ok (sat_bind s1)
  refine ⟨a, rfl, hd, he w1 σ H1 z1 ρ (E.mono g1.le) g1.ok _ (sat_mono (sat_bind s1) (fun y z2 s2 w2 vy H2 g2 r2 => ?_) fun _ _ _ q => q.at g1)⟩
  obtain ⟨r', q, e1, gt, s2⟩ := sat_get s2
  cases e1
  have fin : ∀ s, q.kvs = some s → Sat ((if y.isKey = true then mPure ((kGet y s).getD .non) else mBad : M D) z2) (QV g w H Q) (QX g w H σ W) → ∃ ov, DGet H2 a vy ov ∧ Q (ov.getD .non) H2 := fun s hs hh => by
    obtain ⟨c, hh⟩ := sat_if hh
    have qq := (show QV g w H Q ((kGet y s).getD .non) z2 from hh)
    obtain ⟨ov, hg, hv⟩ := kvs_of g2.ok (g2.le.io _ _ hi) gt hs r2 c
    refine ⟨ov, hg, ?_⟩
    rcases hv with ⟨n1, rfl⟩ | ⟨d, v, n1, rfl, rv⟩
    · rw [n1] at qq; exact qq _ _ _ (g1.trans g2) .non
    · rw [n1] at qq; exact qq _ _ _ (g1.trans g2) rv
  cases q with
  | dct kvs => exact fin kvs rfl s2
  | fdct kvs => exact fin kvs rfl s2
  | _ => exact (show False from s2).elim
theorem ev_get2 (ho : EvE g W to o) (he : EvE g W te e) (hf : EvE g W tf f) : EvE g W (tDGet2 to te tf) (dGet2 o e f) := fun w σ H z ρ E k Q h => by
  refine ho w σ H z ρ E k _ (sat_mono (sat_bind h) (fun x z1 s1 w1 vx H1 g1 r1 => ?_) fun _ _ _ q => q)
  obtain ⟨r, a, rfl, rfl, hi, hd, s1⟩ := dct_of r1 g1.ok (sat_bind s1)
  refine ⟨a, rfl, hd, he w1 σ H1 z1 ρ (E.mono g1.le) g1.ok _ (sat_mono (sat_bind s1) (fun y z2 s2 w2 vy H2 g2 r2 => ?_) fun _ _ _ q => q.at g1)⟩
  refine hf w2 σ H2 z2 ρ ((E.mono g1.le).mono g2.le) g2.ok _ (sat_mono (sat_bind s2) (fun dd z3 s3 w3 vd H3 g3 r3 => ?_) fun _ _ _ q => (q.at g1).at g2)
  obtain ⟨r', q, e1, gt, s3⟩ := sat_get s3
  cases e1
  have g13 := (g1.trans g2).trans g3
  have fin : ∀ s, q.kvs = some s → Sat ((if y.isKey = true then mPure ((kGet y s).getD dd) else mBad : M D) z3) (QV g w H Q) (QX g w H σ W) → ∃ ov, DGet H3 a vy ov ∧ Q (ov.getD vd) H3 := fun s hs hh => by
    obtain ⟨c, hh⟩ := sat_if hh
    have qq := (show QV g w H Q ((kGet y s).getD dd) z3 from hh)
    obtain ⟨ov, hg, hv⟩ := kvs_of g3.ok (g3.le.io _ _ (g2.le.io _ _ hi)) gt hs (r2.mono g3.le) c
    refine ⟨ov, hg, ?_⟩
    rcases hv with ⟨n1, rfl⟩ | ⟨d, v, n1, rfl, rv⟩
    · rw [n1] at qq; exact qq _ _ _ g13 r3
    · rw [n1] at qq; exact qq _ _ _ g13 rv
  cases q with
  | dct kvs => exact fin kvs rfl s3
  | fdct kvs => exact fin kvs rfl s3
  | _ => exact (show False from s3).elim
end
end UW

/-! U12 -/
namespace UW
open PySem PySem.Spec PyProof.Rows L2
section
variable {g : Gb} {W : WX} {te tf : TE} {e f : DE}
def SrcOk (g : Gb) (w : Wd) (b : Bool) (a : Addr) : Src → Prop
  | .t xs => b = true ∧ ∃ vs, SqT g.K w.B a vs ∧ RvA g w vs xs
  | .r n => b = false ∧ w.io[n]? = some a
theorem SrcOk.mono {w w' : Wd} {b : Bool} {a : Addr} (e : Wd.Le w w') : ∀ {s : Src}, SrcOk g w b a s → SrcOk g w' b a s
  | .t xs, ⟨h, vs, h1, h2⟩ => ⟨h, vs, same_t e.B h1, h2.mono e⟩
  | .r n, ⟨h, h1⟩ => ⟨h, e.io _ _ h1⟩
theorem src_at {w : Wd} {z : PH} {H : Hp} {b : Bool} {a : Addr} {s : Src} {xs : List D} (o : Ok g w z H) (h : SrcOk g w b a s) (e : srcL s z = some xs) : ∃ vs, SqA g.K H b a vs ∧ RvA g w vs xs := by
  cases s with
  | t ys =>
    obtain ⟨rfl, vs, h1, h2⟩ := h
    cases e
    exact ⟨vs, same_t o.sub h1, h2⟩
  | r n =>
    obtain ⟨rfl, h1⟩ := h
    unfold srcL at e
    simp only at e
    cases gt : z.get n with
    | none => rw [gt] at e; cases e
    | some q =>
      rw [gt] at e
      cases q with
      | lst ys => cases e; exact o.seq h1 gt rfl
      | flst ys => cases e; exact o.seq h1 gt rfl
      | _ => cases e
theorem src_of {w : Wd} {z : PH} {H : Hp} {v : V} {d : D} {P : Src → PH → Prop} {E : XD} (o : Ok g w z H) (r : Rv g w v d) (h : Sat (srcOf d z) P E) : ∃ b a s, v = .ref a ∧ SrcOk g w b a s ∧ (∃ vs, SqA g.K H b a vs) ∧ P s z := by
  cases r with
  | @tup a vs ds h1 h2 => exact ⟨true, a, .t ds, rfl, ⟨rfl, vs, h1.t, h2⟩, ⟨vs, same_t o.sub h1.t⟩, h⟩
  | @ref a n hi =>
    obtain ⟨r, q, e1, gt, h⟩ := sat_get (show Sat (mGet (.ref n) (fun _ o => match o with | .lst _ | .flst _ => mPure (Src.r n) | _ => mBad) z) P E from h)
    cases e1
    cases q with
    | lst ys => obtain ⟨vs, h1, _⟩ := o.seq hi gt rfl; exact ⟨false, a, .r n, rfl, ⟨rfl, hi⟩, ⟨vs, h1⟩, h⟩
    | flst ys => obtain ⟨vs, h1, _⟩ := o.seq hi gt rfl; exact ⟨false, a, .r n, rfl, ⟨rfl, hi⟩, ⟨vs, h1⟩, h⟩
    | _ => exact (show False from h).elim
  | _ => exact (show False from h).elim
theorem wk_enumS {w : Wd} {H : Hp} {b : Bool} {a : Addr} {s : Src} {st : Nat} (h : SrcOk g w b a s) : WkOk g w H (wkEnum st s) (ItES st g.K b a) := fun i w' H' z' go => by
  have o := go.ok
  unfold wkEnum
  cases e : srcL s z' with
  | none => simp only
  | some xs =>
    obtain ⟨vs, h1, h2⟩ := src_at o (h.mono go.le) e
    simp only
    cases e2 : xs[i]? with
    | none =>
      simp only
      by_cases c : i = xs.length
      · rw [if_pos c]; exact ⟨vs, h1, by rw [h2.length, c]⟩
      · rw [if_neg c]; trivial
    | some d =>
      simp only
      obtain ⟨v, q1, q2⟩ := h2.get e2
      refine ⟨⟨vs, v, h1, q1⟩, fun x H2 y => ?_⟩
      obtain ⟨T, ob, x', rfl, hT, hd, rfl, hx⟩ := y
      have := hx vs h1
      rw [q1] at this
      cases this
      obtain ⟨g2, r2⟩ := mk_tup o hT hd (.cons (.int _) (.cons q2 .nil))
      exact ⟨_, g2, r2⟩
theorem ItE_eq {K : PySem.W.Frag} {b : Bool} {a : Addr} : ItE K b a = ItES 0 K b a := by
  unfold ItE ItES
  simp only [Nat.zero_add]
theorem wk_zip {w : Wd} {H : Hp} {b b' : Bool} {a a' : Addr} {s s' : Src} (h : SrcOk g w b a s) (h' : SrcOk g w b' a' s') : WkOk g w H (wkZip s s') (ItZ g.K b b' a a') := fun i w' H' z' go => by
  have o := go.ok
  unfold wkZip
  cases e : srcL s z' with
  | none => simp only
  | some xs =>
    cases e' : srcL s' z' with
    | none => simp only
    | some ys =>
      obtain ⟨vs, h1, h2⟩ := src_at o (h.mono go.le) e
      obtain ⟨us, h3, h4⟩ := src_at o (h'.mono go.le) e'
      simp only
      cases e2 : xs[i]? with
      | none =>
        simp only
        by_cases c : i = xs.length ∧ i = ys.length
        · rw [if_pos c]; exact ⟨vs, us, h1, h3, by rw [h2.length, ← c.1], by rw [h4.length, ← c.2]⟩
        · rw [if_neg c]; trivial
      | some d =>
        cases e3 : ys[i]? with
        | none => simp only
        | some d' =>
          simp only
          obtain ⟨v, q1, q2⟩ := h2.get e2
          obtain ⟨u, q3, q4⟩ := h4.get e3
          refine ⟨⟨vs, us, v, u, h1, h3, q1, q3⟩, fun x H2 y => ?_⟩
          obtain ⟨T, ob, x', y', rfl, hT, hd, rfl, hx, hy⟩ := y
          have hx := hx vs h1
          have hy := hy us h3
          rw [q1] at hx
          rw [q3] at hy
          cases hx
          cases hy
          obtain ⟨g2, r2⟩ := mk_tup o hT hd (.cons q2 (.cons q4 .nil))
          exact ⟨_, g2, r2⟩
theorem ei_enum (he : EvE g W te e) : EvI g W (iEnumA g.K (tCons te tNil)) (iEnum 0 e) := fun w σ H z ρ E o R h => by
  refine he w σ H z ρ E o _ (sat_mono (sat_bind h) (fun x z1 s1 w1 vx H1 g1 r1 => ?_) fun _ _ _ q => q)
  obtain ⟨b, a, s, rfl, hs, ⟨vs, hq⟩, q⟩ := src_of g1.ok r1 (sat_bind s1)
  exact ⟨b, a, vs, rfl, hq, (show ∀ w' J H', Go g w H z1 w' H' → WkOk g w' H' (wkEnum 0 s) J → R J H' from q) _ _ _ g1 (by rw [ItE_eq]; exact wk_enumS hs)⟩
theorem ei_enumS {st : Nat} (he : EvE g W te e) : EvI g W (iEnumS st g.K (tCons te tNil)) (iEnum st e) := fun w σ H z ρ E o R h => by
  refine he w σ H z ρ E o _ (sat_mono (sat_bind h) (fun x z1 s1 w1 vx H1 g1 r1 => ?_) fun _ _ _ q => q)
  obtain ⟨b, a, s, rfl, hs, ⟨vs, hq⟩, q⟩ := src_of g1.ok r1 (sat_bind s1)
  exact ⟨b, a, vs, rfl, hq, (show ∀ w' J H', Go g w H z1 w' H' → WkOk g w' H' (wkEnum st s) J → R J H' from q) _ _ _ g1 (wk_enumS hs)⟩
theorem ei_zip (he : EvE g W te e) (hf : EvE g W tf f) : EvI g W (iZipB g.K (tCons te (tCons tf tNil))) (iZip e f) := fun w σ H z ρ E o R h => by
  refine he w σ H z ρ E o _ (sat_mono (sat_bind h) (fun x z1 s1 w1 vx H1 g1 r1 => ?_) fun _ _ _ q => q)
  refine hf w1 σ H1 z1 ρ (E.mono g1.le) g1.ok _ (sat_mono (sat_bind s1) (fun y z2 s2 w2 vy H2 g2 r2 => ?_) fun _ _ _ q => q.at g1)
  obtain ⟨b, a, s, rfl, hs, ⟨vs, hq⟩, q⟩ := src_of g2.ok (r1.mono g2.le) (sat_bind s2)
  obtain ⟨b', a', s', rfl, hs', ⟨us, hq'⟩, q⟩ := src_of g2.ok r2 (sat_bind q)
  exact ⟨b, b', a, a', vs, us, rfl, hq, hq', (show ∀ w' J H', Go g w H z2 w' H' → WkOk g w' H' (wkZip s s') J → R J H' from q) _ _ _ (g1.trans g2) (wk_zip hs hs')⟩
theorem ei_valsK {vs : List V} {ds : List D} (h : ∀ w, RvA g w vs ds) : EvI g W (iValsK vs) (iConst ds) := fun w σ H z ρ E o R hq => by
  refine (show ∀ w' J H', Go g w H z w' H' → WkOk g w' H' (wkList ds) J → R J H' from hq) w _ H (.refl o) fun i w' H' z' go => ?_
  unfold wkList
  cases e : ds[i]? with
  | none => simp only; exact (by rw [(h w).length]; exact List.getElem?_eq_none_iff.mp e : vs.length ≤ i)
  | some d =>
    simp only
    obtain ⟨v, h1, h2⟩ := (h w').get e
    refine ⟨(List.getElem?_eq_some_iff.mp h1).1, fun x H2 y => ?_⟩
    obtain ⟨rfl, hx⟩ := y
    rw [h1] at hx
    cases hx
    exact ⟨w', .refl go.ok, h2⟩
/-! ### {k: v, ..} -/
def EvP (g : Gb) (W : WX) (trs : List (TE × TE)) (dp : DP) : Prop := ∀ (w : Wd) (σ : L2.St) (H : Hp) (z : PH) (ρ : Env), EnvOk g w σ ρ → Ok g w z H → ∀ Q : List (V × V) → Hp → Prop,
  Sat (dp ρ z) (fun ps z' => ps.length = trs.length → ∀ w' vs us H', Go g w H z' w' H' → RvA g w' vs (ps.map (·.1)) → RvA g w' us (ps.map (·.2)) → Q (vs.zip us) H') (QX g w H σ W) → tPairs trs σ H Q
theorem ep_nil : EvP g W [] pNil := fun w σ H z ρ E o Q h => h rfl w [] [] H (.refl o) .nil .nil
theorem ep_cons {k v : DE} {tk tv : TE} {r : DP} {trs : List (TE × TE)} (hk : EvE g W tk k) (hv : EvE g W tv v) (hr : EvP g W trs r) : EvP g W ((tk, tv) :: trs) (pCons k v r) := fun w σ H z ρ E o Q h =>
  hk w σ H z ρ E o _ (sat_mono (sat_bind h) (fun x z1 s1 w1 vx H1 g1 r1 =>
    hv w1 σ H1 z1 ρ (E.mono g1.le) g1.ok _ (sat_mono (sat_bind s1) (fun y z2 s2 w2 vy H2 g2 r2 =>
      hr w2 σ H2 z2 ρ ((E.mono g1.le).mono g2.le) g2.ok _ (sat_mono (sat_bind s2) (fun ps z3 s3 hl w3 vs us H3 g3 r3 r4 =>
        (show ((x, y) :: ps).length = ((tk, tv) :: trs).length → ∀ w' vs us H', Go g w H z3 w' H' → RvA g w' vs (((x, y) :: ps).map (·.1)) → RvA g w' us (((x, y) :: ps).map (·.2)) → Q (vs.zip us) H' from s3) (by rw [List.length_cons, List.length_cons, hl])
          w3 (vx :: vs) (vy :: us) H3 ((g1.trans g2).trans g3) (.cons ((r1.mono g2.le).mono g3.le) r3) (.cons (r2.mono g3.le) r4)) fun _ _ _ q => (q.at g1).at g2)) fun _ _ _ q => q.at g1)) fun _ _ _ q => q)
theorem merge_of {w : Wd} : ∀ {ps : List (D × D)} {vs us : List V} {kv0 : List (Key × V)} {s0 : List (D × D)}, RvA g w vs (ps.map (·.1)) → RvA g w us (ps.map (·.2)) → (ps.all fun p => p.1.isKey) = true → KvR g w kv0 s0 →
    ∃ kvs : List (Key × V), vs.zip us = kvs.map (fun kv => (kV kv.1, kv.2)) ∧ kvs.length = ps.length ∧ KvR g w (kvs.foldl (fun acc kv => putK acc kv.1 kv.2) kv0) (ps.foldl (fun acc p => kPut p.1 p.2 acc) s0)
  | [], _, _, _, _, .nil, .nil, _, h => ⟨[], rfl, rfl, h⟩
  | p :: ps, _, _, _, _, .cons ha hb, .cons hc hd, hk, h => by
    rw [List.all_cons, Bool.and_eq_true] at hk
    obtain ⟨k, rfl, hkr⟩ := key_of ha hk.1
    obtain ⟨kvs, e1, e2, e3⟩ := merge_of hb hd hk.2 (h.put hkr hc)
    exact ⟨(k, _) :: kvs, by rw [List.zip_cons_cons, List.map_cons, e1], by rw [List.length_cons, List.length_cons, e2], e3⟩
theorem ev_dict {trs : List (TE × TE)} {dp : DP} (h : EvP g W trs dp) : EvE g W (tDisp trs) (dDict dp) := fun w σ H z ρ E o Q hq p hp => by
  obtain ⟨nI, nB⟩ := o.fresh hp
  have g0 := (Go.refl o).mut (o := .dK []) hp nB nI (fun ps z => by cases z) (not_tbl0 hp) (not_code0 hp)
  refine h w σ _ z ρ E g0.ok _ (sat_mono (sat_bind hq) (fun ps z1 s1 hl w1 vs us H1 g1 r1 r2 => ?_) fun _ _ _ q => q.at g0)
  have hne : Pl (upd H p (.dK [])) p := ⟨_, upd_same, fun ps z => by cases z⟩
  have he : H1 p = some (.dK []) := g1.fr p _ nI (fun ps z => by cases z) upd_same
  obtain ⟨⟨c1, c2⟩, s1⟩ := sat_if s1
  obtain ⟨kvs, e1, e2, e3⟩ := merge_of r1 r2 c1 .nil
  refine ⟨he, kvs, e1, by rw [e2]; exact c2, ?_⟩
  have nI' := g1.notI nI hne
  have nB' := g1.sep p nB hne
  have g3 := ((g0.trans g1).mut (o := .dK (mergeK [] kvs)) hp nB' nI' (fun ps z => by cases z) (not_tbl he fun ps z => by cases z) (not_code he fun f z => by cases z)).adopt hp nB' nI' (q := .dct (kMerge ps)) ⟨_, upd_same, e3⟩
  exact (show QV g w H Q (.ref z1.n) (z1.new (.dct (kMerge ps))) from s1) _ _ _ g3 (.ref (Wd.snoc_last g1.ok.len))
end
end UW

/-! U14 -/
namespace UW
open PySem PySem.Spec PyProof.Rows L2
section
variable {g : Gb} {W : WX} {te : TE} {e : DE}
def wkNum (xs : List D) : Wk := fun i _ => match xs[i]? with
  | some d => .item (.tup [.int ((i : Nat) : Int), d])
  | none => if i = xs.length then .stop else .bad
def enOf : D → M Wk
  | .str s => mPure (wkNum (s.cps.toList.map letter))
  | x => mBind (srcOf x) fun s => mPure (wkEnum 0 s)
def iEnumX (e : DE) : DI := fun ρ => mBind (e ρ) enOf
theorem wk_num {w : Wd} {H : Hp} (s : Str) : WkOk g w H (wkNum (s.cps.toList.map letter)) (ItEs s) := fun i w' H' z' go => by
  have o := go.ok
  unfold wkNum
  rw [List.getElem?_map]
  cases e : s.cps.toList[i]? with
  | none =>
    simp only [Option.map_none]
    by_cases c : i = (s.cps.toList.map letter).length
    · rw [if_pos c]
      show i = s.cps.size
      rw [c, List.length_map, Array.length_toList]
    · rw [if_neg c]; trivial
  | some c =>
    simp only [Option.map_some]
    have hc : s.cps[i]? = some c := by rw [← Array.getElem?_toList]; exact e
    refine ⟨(Array.getElem?_eq_some_iff.mp hc).1, fun x H2 y => ?_⟩
    obtain ⟨T, ob, c', rfl, hT, hd, rfl, hx⟩ := y
    rw [hc] at hx
    cases hx
    obtain ⟨g2, r2⟩ := mk_tup o hT hd (.cons (.int _) (.cons (.str _) .nil))
    exact ⟨_, g2, r2⟩
theorem ei_enumX (he : EvE g W te e) : EvI g W (iEnumB g.K (tCons te tNil)) (iEnumX e) := fun w σ H z ρ E o R h => by
  refine he w σ H z ρ E o _ (sat_mono (sat_bind h) (fun x z1 s1 w1 vx H1 g1 r1 => ?_) fun _ _ _ q => q)
  have other : (∀ s, x ≠ .str s) → Sat (mBind (srcOf x) (fun s => mPure (wkEnum 0 s)) z1) (fun it z' => ∀ w' J H', Go g w H z' w' H' → WkOk g w' H' it J → R J H') (QX g w H σ W) → iEnumB g.K (fun σ H (Q : List V → Hp → Prop) => Q [vx] H) σ H1 R := fun _ s2 => by
    obtain ⟨b, a, s, rfl, hs, ⟨vs, hq⟩, q⟩ := src_of g1.ok r1 (sat_bind s2)
    exact .inl ⟨b, a, vs, rfl, hq, (show ∀ w' J H', Go g w H z1 w' H' → WkOk g w' H' (wkEnum 0 s) J → R J H' from q) _ _ _ g1 (by rw [ItE_eq]; exact wk_enumS hs)⟩
  cases x with
  | str s =>
    cases r1
    exact .inr ⟨s, rfl, (show ∀ w' J H', Go g w H z1 w' H' → WkOk g w' H' (wkNum (s.cps.toList.map letter)) J → R J H' from s1) _ _ _ g1 (wk_num s)⟩
  | _ => exact other (fun _ e => nomatch e) s1
end
end UW

/-! U13 -/
namespace UW
open PySem PySem.Spec PyProof.Rows L2
section
variable {g : Gb} {W : WX} {te tf : TE} {e f : DE} {w0 : World}
/-! ### {} -/
theorem ev_dict0 : EvE g W tDNewK dDict0 := fun w σ H z ρ E o Q hq p hp => by
  have g2 := Go.make (o := .dK []) (q := .dct []) o hp ⟨[], upd_same, .nil⟩
  exact (show QV g w H Q (.ref z.n) (z.new (.dct [])) from hq) _ _ _ g2 (.ref (Wd.snoc_last o.len))
/-! ### tuple(range(n)) -/
theorem rg_of {w : Wd} : ∀ n : Nat, RvA g w ((List.range n).map fun i => V.int ((0 : Int) + (i : Nat))) (intsTo n)
  | 0 => .nil
  | n + 1 => by
    rw [List.range_succ, List.map_append]
    refine (rg_of n).append (.cons ?_ .nil)
    show Rv g w (V.int ((0 : Int) + (n : Nat))) (D.int n)
    rw [Int.zero_add]
    exact .int _
theorem ev_tupRg (ha : EvE g W te e) : EvE g W (tTupRgF (tRg1 te)) (d1 fTupRg e) := fun w σ H z ρ E o Q h =>
  ha w σ H z ρ E o _ (sat_mono (sat_bind h) (fun x z1 s1 w1 vx H1 g1 r1 => by
    cases r1 with
    | int i =>
      obtain ⟨⟨c1, c2⟩, s1⟩ := sat_if (show Sat ((if 0 ≤ i ∧ i ≤ 1000000 then mPure (.tup (intsTo i.toNat)) else mBad : M D) z1) _ _ from s1)
      refine ⟨i, rfl, RgOk.of_le (by decide) (by omega) (by decide) (by omega), fun p ob hp hd => ?_⟩
      obtain ⟨g2, r2⟩ := mk_tup (xs := rgV 0 i) (ds := intsTo i.toNat) g1.ok hp hd (by unfold rgV; rw [Int.sub_zero]; exact rg_of _)
      exact (show QV g w H Q (.tup (intsTo i.toNat)) z1 from s1) _ _ _ (g1.trans g2) r2
    | _ => exact (show False from s1).elim) fun _ _ _ q => q)
/-! ### sorted({i, j}) -/
theorem ints2 {w : Wd} (i j : Int) : RvA g w ((sort2 i j).map V.int) (sort2D i j) := by
  unfold sort2 sort2D
  by_cases c : i = j
  · rw [if_pos c, if_pos c]; exact .cons (.int _) .nil
  · rw [if_neg c, if_neg c]
    by_cases c2 : i < j
    · rw [if_pos c2, if_pos c2]; exact .cons (.int _) (.cons (.int _) .nil)
    · rw [if_neg c2, if_neg c2]; exact .cons (.int _) (.cons (.int _) .nil)
/-- a set is no code object -/
theorem set_code {w0 : World} {p : Addr} {S : Int → Bool} {n : Nat} {q : Str} : SetO w0 p S n ≠ LamX.CodeO p q := fun z => by
  have z : HO.ext (fun h => SetR w0 h p S n) = HO.ext _ := z
  injection z with z
  have hp : ({ objs := Array.replicate (p + 1) { cls := .none, data := .fields #[.none, .str q 0] } } : Heap).get? p = some { cls := .none, data := .fields #[.none, .str q 0] } := by
    unfold Heap.get?
    simp
  have y := congrFun z { objs := Array.replicate (p + 1) { cls := .none, data := .fields #[.none, .str q 0] } }
  have y2 : SetR w0 ({ objs := Array.replicate (p + 1) { cls := .none, data := .fields #[.none, .str q 0] } } : Heap) p S n := by
    rw [y]
    exact ⟨_, #[.none, .str q 0], 0, hp, rfl, rfl⟩
  obtain ⟨o, es, ep, t, h1, _, h2, _⟩ := y2
  rw [hp] at h1
  cases h1
  cases h2
theorem cold_set {w0 : World} {p : Addr} {S : Int → Bool} {n : Nat} : Cold (SetO w0 p S n) := fun ps z => by
  have z : HO.ext _ = HO.tbl ps := z
  cases z
theorem set_not {w0 : World} {p : Addr} {S : Int → Bool} {n : Nat} {H : Hp} (h : H p = some (SetO w0 p S n)) : ∀ q, H p ≠ some (LamX.CodeO p q) := fun q z => by
  rw [h] at z
  exact set_code (Option.some.inj z)
theorem ev_sort2 (h1 : EvE g W te e) (h2 : EvE g W tf f) : EvE g W (tCB (rSortedSet w0) (tCons (tSet2 w0 te tf) tNil)) (d2 fSort2 e f) := fun w σ H z ρ E o Q hq p hp => by
  obtain ⟨nI, nB⟩ := o.fresh hp
  have g0 := (Go.refl o).mut (o := SetO w0 p (fun _ => false) 0) hp nB nI cold_set (not_tbl0 hp) (not_code0 hp)
  have hp0 : upd H p (SetO w0 p (fun _ => false) 0) p = some (SetO w0 p (fun _ => false) 0) := upd_same
  refine h1 w σ _ z ρ E g0.ok _ (sat_mono (sat_bind hq) (fun x z1 s1 w1 vx H1 g1 r1 => ?_) fun _ _ _ q => q.at g0)
  have hp1 := g1.fr p _ nI cold_set hp0
  have n1 := g1.notI nI ⟨_, hp0, cold_set⟩
  have b1 := g1.sep p nB ⟨_, hp0, cold_set⟩
  refine h2 w1 σ H1 z1 ρ (E.mono g1.le) g1.ok _ (sat_mono (sat_bind s1) (fun y z2 s2 w2 vy H2 g2 r2 => ?_) fun _ _ _ q => (q.at g0).at g1)
  have hp2 := g2.fr p _ n1 cold_set hp1
  have n2 := g2.notI n1 ⟨_, hp1, cold_set⟩
  have b2 := g2.sep p b1 ⟨_, hp1, cold_set⟩
  cases x with
  | int i =>
    cases y with
    | int j =>
      cases r1
      cases r2
      refine ⟨i, j, rfl, rfl, hp2, p, _, _, rfl, upd_same, by split <;> decide, fun ns l hs hm hl hn => ?_⟩
      have e := sort2_is hs hm
      subst e
      have g3 := ((g0.trans g1).trans g2).mut (o := SetO w0 p (fun k => decide (k = i) || decide (k = j)) (if i = j then 1 else 2)) hp b2 n2 cold_set (not_tbl hp2 cold_set) (set_not hp2)
      obtain ⟨g4, r4⟩ := mk_lst g3.ok hn (ints2 (g := g) (w := w2) i j)
      exact (show QV g w H Q (.ref z2.n) (z2.new (.lst (sort2D i j))) from s2) _ _ _ (g3.trans g4) r4
    | _ => exact (show False from s2).elim
  | _ => exact (show False from s2).elim
/-! ### stars within displays -/
def EvB (g : Gb) (W : WX) (ta : TA) (da : DA) : Prop := ∀ (w : Wd) (σ : L2.St) (H : Hp) (z : PH) (ρ : Env), EnvOk g w σ ρ → Ok g w z H → ∀ Q : List V → Hp → Prop,
  Sat (da ρ z) (fun ds z' => ∀ w' vs H', Go g w H z' w' H' → RvA g w' vs ds → Q vs H') (QX g w H σ W) → ta σ H Q
variable {ta tr : TA} {da dr : DA} {n : Nat}
theorem EvA.evB (h : EvA g W ta n da) : EvB g W ta da := fun w σ H z ρ E o Q hq => h w σ H z ρ E o Q (sat_mono hq (fun ds z' q _ => q) fun _ _ _ q => q)
theorem eb_cons (he : EvE g W te e) (hr : EvB g W tr dr) : EvB g W (tCons te tr) (aCons e dr) := fun w σ H z ρ E o Q h =>
  he w σ H z ρ E o _ (sat_mono (sat_bind h) (fun x z1 s1 w1 vx H1 g1 r1 => hr w1 σ H1 z1 ρ (E.mono g1.le) g1.ok _ (sat_mono (sat_bind s1) (fun ds z2 s2 w2 vs H2 g2 r2 =>
    (show ∀ w' vs H', Go g w H z2 w' H' → RvA g w' vs (x :: ds) → Q vs H' from s2) w2 (vx :: vs) H2 (g1.trans g2) (.cons (r1.mono g2.le) r2)) fun _ _ _ q => q.at g1)) fun _ _ _ q => q)
theorem items_of {w : Wd} {z : PH} {H : Hp} {v : V} {d : D} {P : List D → PH → Prop} {E : XD} (o : Ok g w z H) (r : Rv g w v d) (h : Sat (fItems d z) P E) : ∃ a vs ds, v = .ref a ∧ (SqT g.K H a vs ∨ SqL g.K H a vs) ∧ RvA g w vs ds ∧ P ds z := by
  cases r with
  | @tup a vs ds h1 h2 => exact ⟨a, vs, ds, rfl, .inl (same_t o.sub h1.t), h2, h⟩
  | @ref a n hi =>
    obtain ⟨r, q, e1, gt, h⟩ := sat_get (show Sat (mGet (.ref n) (fun _ o => match o with | .lst xs | .flst xs => mPure xs | _ => mBad) z) P E from h)
    cases e1
    cases q with
    | lst ys => obtain ⟨vs, h1, h2⟩ := o.seq hi gt rfl; exact ⟨a, vs, ys, rfl, .inr h1, h2, h⟩
    | flst ys => obtain ⟨vs, h1, h2⟩ := o.seq hi gt rfl; exact ⟨a, vs, ys, rfl, .inr h1, h2, h⟩
    | _ => exact (show False from h).elim
  | _ => exact (show False from h).elim
theorem eb_star (he : EvE g W te e) (hr : EvB g W tr dr) : EvB g W (StX.tStar g.K te tr) (aStar e dr) := fun w σ H z ρ E o Q h =>
  he w σ H z ρ E o _ (sat_mono (sat_bind h) (fun x z1 s1 w1 vx H1 g1 r1 => by
    obtain ⟨a, vs, xs, rfl, hs, r2, s1⟩ := items_of g1.ok r1 (sat_bind s1)
    refine ⟨a, vs, rfl, hs, hr w1 σ H1 z1 ρ (E.mono g1.le) g1.ok _ (sat_mono (sat_bind s1) (fun ds z2 s2 w2 us H2 g2 r3 => ?_) fun _ _ _ q => q.at g1)⟩
    exact (show ∀ w' vs H', Go g w H z2 w' H' → RvA g w' vs (xs ++ ds) → Q vs H' from s2) w2 (vs ++ us) H2 (g1.trans g2) ((r2.mono g2.le).append r3)) fun _ _ _ q => q)
theorem ev_tupS (h : EvB g W ta da) : EvE g W (tTupF ta) (dN fTupS da) := fun w σ H z ρ E o Q hq =>
  h w σ H z ρ E o _ (sat_mono (sat_bind hq) (fun ds z1 s1 w1 vs H1 g1 r1 => by
    obtain ⟨c, s1⟩ := sat_if (show Sat ((if ds.length ≤ line then mPure (.tup ds) else mBad : M D) z1) _ _ from s1)
    refine ⟨by rw [r1.length, ← line_eq]; exact c, fun p ob hp hd => ?_⟩
    obtain ⟨g2, r2⟩ := mk_tup g1.ok hp hd r1
    exact (show QV g w H Q (.tup ds) z1 from s1) _ _ _ (g1.trans g2) r2) fun _ _ _ q => q)
theorem ev_lstS (h : EvB g W ta da) : EvE g W (tLst ta) (dN fLstS da) := fun w σ H z ρ E o Q hq =>
  h w σ H z ρ E o _ (sat_mono (sat_bind hq) (fun ds z1 s1 w1 vs H1 g1 r1 => by
    obtain ⟨c, s1⟩ := sat_if (show Sat ((if ds.length ≤ line then mNew (.lst ds) else mBad : M D) z1) _ _ from s1)
    refine ⟨by rw [r1.length, ← line_eq]; exact c, fun p hp => ?_⟩
    obtain ⟨g2, r2⟩ := mk_lst g1.ok hp r1
    exact (show QV g w H Q (.ref z1.n) (z1.new (.lst ds)) from s1) _ _ _ (g1.trans g2) r2) fun _ _ _ q => q)
end
/-! ### calls of what a local name holds -/
section
variable {P : Program} {w : World} {base : Heap} {k i : Nat} {g : Gb}
structure HeldU (P : Program) (w : World) (g : Gb) (base : Heap) (k n : Nat) (tab : List (Str × DF)) : Prop where
  ex : ∀ x df, fTab x tab = some df → ∃ (f : Addr) (fd : FuncData) (ps : List Str), g.mg x = some (.ref f) ∧ FnG P w g.K g.mg base true k f fd ps (spF g n df) ∧ PySem.W.keepIn g.K (.ref f) = true ∧ Binds g.K fd ps []
def tCallU (P : Program) (w : World) (K : PySem.W.Frag) (mg : Str → Option Value) (base : Heap) (k i : Nat) (W : WX) (t : TA) : TE := fun σ H Q => ∃ (f : Addr) (fd : FuncData) (ps : List Str) (sp : Sp), σ[i]? = some (some (.ref f)) ∧
  FnG P w K mg base true k f fd ps sp ∧ PySem.W.keepIn K (.ref f) = true ∧ Binds K fd ps [] ∧ t σ H fun vs H1 => sp vs H1 Q (WE W σ)
variable {X : Cx} {x : Str} {p pos : Pos} {e : Expr} {es : List Expr} {t : TA} {W : WX}
theorem pe_callU (hg : true = true → X.A.guards = some []) (hr : Room k X.A) (hN : X.N[i]? = some x) (hv : Vis X.env.scope x) (tk : Takes X W) (ha : PA X (e :: es) t)
    (nodb : (x == ("__debug__" : Str)) = false := by decide) (nocd : (x == ("__classdict__" : Str)) = false := by decide)
    (he : starEach (e :: es) X.env = (false, eval e X.env) :: starEach es X.env := by rfl) (hpl : (backTo pos (starEach es X.env)).any (·.1) = false := by rfl) : PE X (.Call (.Name x p) (e :: es) [] pos) (tCallU X.prog X.w X.K X.mg X.base k i W t) := by
  refine ⟨fun pins s σ H Q I h => ?_⟩; obtain ⟨f, fd, ps, sp, hs, F, hk, hb, ht⟩ := h
  refine wpAny_Call_Name_kw (thn ((pe_var (pos := p) hN hv nodb nocd).run pins s σ H (fun vv H1 => vv = .ref f ∧ H1 = H) I ⟨.ref f, hs, rfl, rfl⟩) fun uu s1 ⟨vv, H1, I1, r1, qq1⟩ => ?_)
  obtain ⟨rfl, rfl⟩ := qq1
  cases r1
  refine PySem.W.callWith_K (h₀ := X.base) I.ok.mod.kin hk (thn (ha.run pos pins s1 σ _ _ I1 ht) fun argv s2 ⟨vs, H2, I2, r, q⟩ => ⟨I2.kIn, ?_⟩) he hpl
  exact run_g (dvs := []) (dd := []) F hg hr hb .nil tk I2 r (by rw [List.append_nil]; exact q)
theorem ev_callU {n : Nat} {ta : TA} {da : DA} {tab : List (Str × DF)} (T : HeldU P w g base k n tab) (h : EvA g W ta n da) : EvE g W (tCallU P w g.K g.mg base k i W ta) (dCallL tab i da) := fun wd σ H z ρ E o Q hq => by
  unfold dCallL at hq
  cases e : ρ[i]? with
  | none => rw [e] at hq; exact (show False from hq).elim
  | some d0 =>
    rw [e] at hq
    cases d0 with
    | none => exact (show False from hq).elim
    | some d =>
      cases d with
      | gl x =>
        simp only at hq
        cases e2 : fTab x tab with
        | none => rw [e2] at hq; exact (show False from hq).elim
        | some df =>
          rw [e2] at hq
          obtain ⟨f, fd, ps, hm, F, hk, hb⟩ := T.ex x df e2
          obtain ⟨v, h1, h2⟩ := E.dat i _ e
          cases h2 with
          | gl hx hrel =>
            rw [hm] at hx
            cases hx
            have hvv : v = V.ref f := by
              cases v <;> first | (cases hrel; rfl) | (obtain ⟨_, q⟩ := hrel; cases q) | (cases hrel)
            subst hvv
            refine ⟨f, fd, ps, _, h1, F, hk, hb, ?_⟩
            have := ev_callP (f := df) h wd σ H z ρ E o Q hq
            unfold tCallW at this
            simpa using this
      | _ => exact (show False from hq).elim
end
end UW

/-! N1 -/
/-! dicts whose keys are tuples, nested: what the model does with them -/
namespace UW
open PySem PySem.Spec PyProof.Rows L2
mutual
/-- the key that stands for a thing -/
inductive NkH (K : PySem.W.Frag) (H : Hp) : V → NestedKey → Prop
  | non : NkH K H .non .none
  | bl (b : Bool) : NkH K H (.bl b) (.num (if b = true then 1 else 0))
  | int (i : Int) : NkH K H (.int i) (.num i)
  | str (x : Str) : NkH K H (.str x) (.text x)
  | tup {a : Addr} {xs : List V} {ks : List NestedKey} : SqT K H a xs → NkA K H xs ks → NkH K H (.ref a) (.tup ks)
inductive NkA (K : PySem.W.Frag) (H : Hp) : List V → List NestedKey → Prop
  | nil : NkA K H [] []
  | cons {v : V} {vs : List V} {k : NestedKey} {ks : List NestedKey} : NkH K H v k → NkA K H vs ks → NkA K H (v :: vs) (k :: ks)
end
section
variable {g : Gb} {w : Wd} {z : PH} {H : Hp}
mutual
theorem nk_of (o : Ok g w z H) : ∀ {v : V} {d : D} {k : NestedKey}, Rv g w v d → D.keyN d = some k → NkH g.K H v k
  | _, _, k, .non, e => by cases e; exact .non
  | _, _, k, .bl b, e => by cases e; exact .bl b
  | _, _, k, .int i, e => by cases e; exact .int i
  | _, _, k, .str x, e => by cases e; exact .str x
  | _, _, k, .tup (ds := ds) h a, e => by
    unfold D.keyN at e
    cases q : D.keyNs ds with
    | none => (rw [q] at e; cases e)
    | some ks =>
      rw [q] at e
      cases e
      exact .tup (same_t o.sub h.t) (nka_of o a q)
  | _, _, _, .rep p, e => by cases e
  | _, _, _, .klst _ _, e => by cases e
  | _, _, _, .ref _, e => by cases e
  | _, _, _, .gl _ _, e => by cases e
  | _, _, _, .ty n, e => by cases e
  | _, _, _, .op _, e => by cases e
  | _, _, _, .exn _ _ _ _ _, e => by cases e
theorem nka_of (o : Ok g w z H) : ∀ {vs : List V} {ds : List D} {ks : List NestedKey}, RvA g w vs ds → D.keyNs ds = some ks → NkA g.K H vs ks
  | _, _, ks, .nil, e => by cases e; exact .nil
  | _, _, ks, .cons (d := d) (ds := ds) h t, e => by
    unfold D.keyNs at e
    cases q : D.keyN d with
    | none => (rw [q] at e; cases e)
    | some k =>
      rw [q] at e
      cases q2 : D.keyNs ds with
      | none => rw [q2] at e; cases e
      | some ks2 =>
        rw [q2] at e
        cases e
        exact .cons (nk_of o h q) (nka_of o t q2)
end
end
section
variable {pins : List (Addr × Obj)} {X : Cx} {σ : L2.St} {H : Hp} {s : Shared}
mutual
theorem nest_of (I : Inv X pins σ H s) : ∀ {v : V} {k : NestedKey} {u : Value}, NkH X.K H v k → L2.RelV v u → NestedIs s.heap k u
  | _, _, _, .non, r => by cases r; exact .none
  | _, _, _, .bl b, r => by cases r; exact .bool rfl
  | _, _, _, .int i, r => by obtain ⟨t, rfl⟩ := r; exact .int i t
  | _, _, _, .str x, r => by obtain ⟨t, rfl⟩ := r; exact .text x t
  | _, _, _, .tup h a, r => by
    cases r
    obtain ⟨its, rv, ⟨o, ho, hc, n, hd⟩, _⟩ := I.tuple h
    exact .tup ho hc hd (by simpa using nests_of I a rv)
theorem nests_of (I : Inv X pins σ H s) : ∀ {vs : List V} {ks : List NestedKey} {us : List Value}, NkA X.K H vs ks → Vals vs us → NestedAll s.heap ks us
  | _, _, _, .nil, r => by cases r; exact .nil
  | _, _, _, .cons h t, r => by
    cases r with
    | cons r1 r2 => exact .cons (nest_of I h r1) (nests_of I t r2)
end
/-- what is known of such a dict's keys -/
structure DnK (K : PySem.W.Frag) (H : Hp) (kvs : List (NestedKey × Addr × V)) : Prop where
  keys : ∀ p ∈ kvs, NkH K H (.ref p.2.1) p.1 ∧ p.1.depth ≤ 8
  nod : (kvs.map (·.1)).Nodup
def nAt (kvs : List (NestedKey × Addr × V)) (k : NestedKey) : Option V := (kvs.find? fun p => decide (p.1 = k)).map (·.2.2)
def nPutV (kvs : List (NestedKey × Addr × V)) (k : NestedKey) (b : Addr) (v : V) : List (NestedKey × Addr × V) :=
  if (kvs.any fun p => decide (p.1 = k)) = true then kvs.map (fun p => if p.1 = k then (p.1, p.2.1, v) else p) else kvs ++ [(k, b, v)]
theorem DnR.keys : ∀ {kvs : List (NestedKey × Addr × V)} {xs : List (NestedKey × Addr × Value)}, DnR kvs xs → kvs.map (·.1) = xs.map (·.1) := by
  intro kvs xs h
  unfold DnR at h
  induction h with
  | nil => rfl
  | cons h t ih => rw [List.map_cons, List.map_cons, ih]; rw [h.1]
theorem DnR.mem : ∀ {kvs : List (NestedKey × Addr × V)} {xs : List (NestedKey × Addr × Value)}, DnR kvs xs → ∀ x ∈ xs, ∃ p ∈ kvs, p.1 = x.1 ∧ p.2.1 = x.2.1 := by
  intro kvs xs h
  unfold DnR at h
  induction h with
  | nil => intro x hx; cases hx
  | cons h t ih =>
    intro x hx
    obtain e | hx := List.mem_cons.mp hx
    · subst e; exact ⟨_, List.mem_cons_self, h.1, h.2.1⟩
    · obtain ⟨p, h1, h2⟩ := ih x hx
      exact ⟨p, List.mem_cons_of_mem _ h1, h2⟩
theorem DnR.at {k : NestedKey} : ∀ {kvs : List (NestedKey × Addr × V)} {xs : List (NestedKey × Addr × Value)}, DnR kvs xs → match nAt kvs k with
    | some v => ∃ p, atKey xs k = some p ∧ L2.RelV v p.2
    | none => atKey xs k = none := by
  intro kvs xs h
  unfold DnR at h
  induction h with
  | nil => rfl
  | @cons p q ps qs h t ih =>
    unfold nAt atKey at ih ⊢
    rw [List.find?_cons, List.find?_cons, ← h.1]
    by_cases c : p.1 = k
    · simp only [c, decide_true, Option.map_some]
      exact ⟨_, rfl, h.2.2⟩
    · simp only [c, decide_false]
      exact ih
theorem DnR.any {k : NestedKey} : ∀ {kvs : List (NestedKey × Addr × V)} {xs : List (NestedKey × Addr × Value)}, DnR kvs xs → (kvs.any fun p => decide (p.1 = k)) = (atKey xs k).isSome := by
  intro kvs xs h
  unfold DnR at h
  induction h with
  | nil => rfl
  | @cons p q ps qs h t ih =>
    unfold atKey at ih ⊢
    rw [List.any_cons, List.find?_cons, ← h.1, ih]
    by_cases c : p.1 = k
    · simp [c]
    · simp [c]
theorem DnR.map {k : NestedKey} {v : V} {u : Value} (hv : L2.RelV v u) : ∀ {kvs : List (NestedKey × Addr × V)} {xs : List (NestedKey × Addr × Value)}, DnR kvs xs → DnR (kvs.map fun p => if p.1 = k then (p.1, p.2.1, v) else p) (xs.map (putAt k u)) := by
  intro kvs xs h
  unfold DnR at h ⊢
  induction h with
  | nil => exact .nil
  | @cons p q ps qs h t ih =>
    rw [List.map_cons]; rw [List.map_cons]
    refine .cons ?_ ih
    unfold putAt
    by_cases c : p.1 = k
    · have c2 : q.1 = k := by rw [← h.1]; exact c
      rw [if_pos c, if_pos c2]; exact ⟨h.1, h.2.1, hv⟩
    · have c2 : ¬ q.1 = k := by rw [← h.1]; exact c
      rw [if_neg c, if_neg c2]; exact h
theorem DnR.snoc {k : NestedKey} {b : Addr} {v : V} {u : Value} (hv : L2.RelV v u) : ∀ {kvs : List (NestedKey × Addr × V)} {xs : List (NestedKey × Addr × Value)}, DnR kvs xs → DnR (kvs ++ [(k, b, v)]) (xs ++ [(k, b, u)]) := by
  intro kvs xs h
  unfold DnR at h ⊢
  induction h with
  | nil => exact .cons ⟨rfl, rfl, hv⟩ .nil
  | @cons p q ps qs h t ih => exact .cons h ih
theorem DnR.put {k : NestedKey} {b : Addr} {v : V} {u : Value} (hv : L2.RelV v u) {kvs : List (NestedKey × Addr × V)} {xs : List (NestedKey × Addr × Value)} (h : DnR kvs xs) : DnR (nPutV kvs k b v) (storedH xs k b u) := by
  unfold nPutV storedH
  rw [h.any]
  split
  · exact h.map hv
  · exact h.snoc hv
theorem nPutV_keys {k : NestedKey} {b : Addr} {v : V} {kvs : List (NestedKey × Addr × V)} : (nPutV kvs k b v).map (·.1) = if (kvs.any fun p => decide (p.1 = k)) = true then kvs.map (·.1) else kvs.map (·.1) ++ [k] := by
  unfold nPutV
  split
  · rw [List.map_map]
    refine (List.map_congr_left fun p _ => ?_)
    show (if p.1 = k then (p.1, p.2.1, v) else p).1 = p.1
    split <;> rfl
  · rw [List.map_append]; rfl
theorem nPutV_len {k : NestedKey} {b : Addr} {v : V} {kvs : List (NestedKey × Addr × V)} : (nPutV kvs k b v).length ≤ kvs.length + 1 := by
  unfold nPutV
  split
  · rw [List.length_map]; omega
  · rw [List.length_append]; exact Nat.le_refl _
theorem nPutV_mem {k : NestedKey} {b : Addr} {v : V} {kvs : List (NestedKey × Addr × V)} {p : NestedKey × Addr × V} (h : p ∈ nPutV kvs k b v) : (∃ q ∈ kvs, q.1 = p.1 ∧ q.2.1 = p.2.1) ∨ (p.1 = k ∧ p.2.1 = b) := by
  unfold nPutV at h
  split at h
  · obtain ⟨q, hq, rfl⟩ := List.mem_map.mp h
    left
    refine ⟨q, hq, ?_⟩
    split <;> exact ⟨rfl, rfl⟩
  · obtain h | h := List.mem_append.mp h
    · exact .inl ⟨p, h, rfl, rfl⟩
    · rw [List.mem_singleton.mp h]; exact .inr ⟨rfl, rfl⟩
theorem nPutV_nod {k : NestedKey} {b : Addr} {v : V} {kvs : List (NestedKey × Addr × V)} (h : (kvs.map (·.1)).Nodup) : ((nPutV kvs k b v).map (·.1)).Nodup := by
  rw [nPutV_keys]
  split
  · exact h
  · rename_i c
    rw [List.nodup_append]
    refine ⟨h, by simp, fun x hx y hy e => c ?_⟩
    rw [List.mem_singleton.mp hy] at e
    obtain ⟨q, hq, rfl⟩ := List.mem_map.mp hx
    exact List.any_eq_true.mpr ⟨q, hq, decide_eq_true e⟩
theorem dn_here (I : Inv X pins σ H s) {a : Addr} {kvs : List (NestedKey × Addr × V)} (e : H a = some (DnO X.w a kvs)) (hk : DnK X.K H kvs) : ∃ xs, DnR kvs xs ∧ xs.length = kvs.length ∧ s.heap.DictOfH (nestedKind X.prog X.w) a xs := by
  obtain ⟨⟨xs, r, o, es, ep, h1, h2, h3, h4⟩, _⟩ := (show ObjOk X.prog X.w H s.heap a (.ext _) from I.hok a _ e)
  refine ⟨xs, r, (Paired.length r).symm, o, es, ep, h1, h2, h3, h4, fun x hx => ?_, by rw [← r.keys]; exact hk.nod⟩
  obtain ⟨p, hp, e1, e2⟩ := r.mem x hx
  obtain ⟨n1, n2⟩ := hk.keys p hp
  exact ⟨by rw [← e1, ← e2]; exact nest_of I n1 rfl, by rw [← e1]; exact n2⟩
theorem dn_ok {P : Program} {w0 : World} {H' : Hp} {h' : Heap} {a : Addr} {kvs : List (NestedKey × Addr × V)} {xs : List (NestedKey × Addr × Value)} (r : DnR kvs xs) (d : h'.DictOfH (nestedKind P w0) a xs) : ObjOk P w0 H' h' a (DnO w0 a kvs) := by
  obtain ⟨o, es, ep, h1, h2, h3, h4, _, _⟩ := d
  refine ⟨⟨xs, r, o, es, ep, h1, h2, h3, h4⟩, ⟨o, h1⟩, fun x y h e => ?_⟩
  obtain ⟨xs, r, o, es, ep, h1, h2⟩ := h
  exact ⟨xs, r, o, es, ep, e o h1, h2⟩
def rInN (w0 : World) (K : PySem.W.Frag) (neg : Bool) : R2 := fun x y H Q => ∃ a b kvs k, x = .ref b ∧ y = .ref a ∧ (a == sysModules) = false ∧ H a = some (DnO w0 a kvs) ∧ DnK K H kvs ∧ NkH K H (.ref b) k ∧ k.depth ≤ 8 ∧ Q (.bl (if neg = true then !(nAt kvs k).isSome else (nAt kvs k).isSome)) H
theorem at_some {kvs : List (NestedKey × Addr × V)} {xs : List (NestedKey × Addr × Value)} {k : NestedKey} (r : DnR kvs xs) : (nAt kvs k).isSome = (atKey xs k).isSome := by
  have h := r.at (k := k)
  cases e : nAt kvs k with
  | none => rw [e] at h; rw [h]; rfl
  | some v => rw [e] at h; obtain ⟨p, h1, _⟩ := h; rw [h1]; rfl
theorem op_inN (hu : X.A.units + 64 < cLine) : OpR X (compareOp .In) (rInN X.w X.K false) := by
  intros pins s σ H x y v u Q I rx ry h
  obtain ⟨a, b, kvs, k, rfl, rfl, hs, e, hk, hn, hd, q⟩ := h
  cases ry
  cases rx
  obtain ⟨xs, r, _, dd⟩ := dn_here I e hk
  refine wpAny_in_heap (knd := nestedKind X.prog X.w) (show X.A.in1.units + 8 < cLine by show X.A.units + 1 + 8 < cLine; omega) ⟨nest_of I hn rfl, hd⟩ hs dd ?_
  exact ⟨.bl (nAt kvs k).isSome, H, I.tok _, (show Value.bool _ = Value.bool _ by rw [at_some r]), q⟩
theorem op_notInN (hu : X.A.units + 64 < cLine) : OpR X (compareOp .NotIn) (rInN X.w X.K true) := by
  intros pins s σ H x y v u Q I rx ry h
  obtain ⟨a, b, kvs, k, rfl, rfl, hs, e, hk, hn, hd, q⟩ := h
  cases ry
  cases rx
  obtain ⟨xs, r, _, dd⟩ := dn_here I e hk
  refine wpAny_notIn_heap (knd := nestedKind X.prog X.w) (show X.A.in1.units + 8 < cLine by show X.A.units + 1 + 8 < cLine; omega) ⟨nest_of I hn rfl, hd⟩ hs dd ?_
  exact ⟨.bl (!(nAt kvs k).isSome), H, I.tok _, (show Value.bool _ = Value.bool _ by rw [at_some r]), q⟩
def rIxN (w0 : World) (K : PySem.W.Frag) : R2 := fun x y H Q => ∃ a b kvs k v, x = .ref a ∧ y = .ref b ∧ H a = some (DnO w0 a kvs) ∧ DnK K H kvs ∧ NkH K H (.ref b) k ∧ k.depth ≤ 8 ∧ nAt kvs k = some v ∧ Q v H
theorem ix_N (hu : X.A.units + 64 < cLine) : IxR X (rIxN X.w X.K) := by
  intros value slice pins s σ H x y v u Q I rx ry h tl
  obtain ⟨a, b, kvs, k, v, rfl, rfl, e, hk, hn, hd, hv, q⟩ := h
  cases ry
  cases rx
  obtain ⟨xs, r, _, dd⟩ := dn_here I e hk
  have ha := r.at (k := k)
  rw [hv] at ha
  obtain ⟨p, h1, h2⟩ := ha
  exact tail_any dd.typeIs PySem.F.slot_dict_getitem.lookup (wpAny_getItem_heap (knd := nestedKind X.prog X.w) (show X.A.in1.units + 8 < cLine by show X.A.units + 1 + 8 < cLine; omega) ⟨nest_of I hn rfl, hd⟩ dd h1 ⟨v, H, I.tok _, h2, q⟩) tl
def rSetN (w0 : World) (K : PySem.W.Frag) : TSet := fun o i v H Q => ∃ a b kvs k, o = .ref a ∧ i = .ref b ∧ (a == sysModules) = false ∧ H a = some (DnO w0 a kvs) ∧ DnK K H kvs ∧ kvs.length < sizeLine ∧ NkH K H (.ref b) k ∧ k.depth ≤ 8 ∧ Q (upd H a (DnO w0 a (nPutV kvs k b v)))
theorem set_N (hu : X.A.units + 64 < cLine) : PSet X (rSetN X.w X.K) := by
  intro pins s σ H o i v ov iv u Q I r1 r2 r3 h
  obtain ⟨a, b, kvs, k, rfl, rfl, hs, e, hk, hl, hn, hd, q⟩ := h
  cases r1
  cases r2
  obtain ⟨xs, r, len, dd⟩ := dn_here I e hk
  refine wpAny_setItem_heap (knd := nestedKind X.prog X.w) (hsz := by rw [len]; exact Nat.le_of_lt hl) (show X.A.in1.units + 8 < cLine by show X.A.units + 1 + 8 < cLine; omega) ⟨nest_of I hn rfl, hd⟩ dd fun h' dd' hs' => ?_
  have here : ∃ q, h'.get? a = some q := let ⟨q, _, _, hq, _⟩ := dd'; ⟨q, hq⟩
  exact ⟨_, d_write I (by rw [e]; exact True.intro) hs' here (dn_ok (r.put r3) dd'), q⟩
/-! the display -/
def nMerge (kvs ps : List (NestedKey × Addr × V)) : List (NestedKey × Addr × V) := ps.foldl (fun acc p => nPutV acc p.1 p.2.1 p.2.2) kvs
def tDispN (w0 : World) (K : PySem.W.Frag) (trs : List (TE × TE)) : TE := fun σ H Q => ∀ p, H p = none → (p == sysModules) = false → tPairs trs σ (upd H p (DnO w0 p [])) fun ps H2 => H2 p = some (DnO w0 p []) ∧
  ∃ kvs : List (NestedKey × Addr × V), ps = kvs.map (fun q => (V.ref q.2.1, q.2.2)) ∧ (∀ q ∈ kvs, NkH K H2 (.ref q.2.1) q.1 ∧ q.1.depth ≤ 8) ∧ kvs.length ≤ 15 ∧ Q (.ref p) (upd H2 p (DnO w0 p (nMerge [] kvs)))
theorem DnR.merge : ∀ {ps : List (NestedKey × Addr × V)} {qs : List (NestedKey × Addr × Value)} {kvs : List (NestedKey × Addr × V)} {xs : List (NestedKey × Addr × Value)}, DnR ps qs → DnR kvs xs → DnR (nMerge kvs ps) (storedAllH xs qs)
  | [], _, _, _, h, r => by cases h; exact r
  | p :: ps, _, kvs, xs, h, r => by
    cases h with
    | @cons _ q _ qs h t =>
      have e : DnR (nPutV kvs p.1 p.2.1 p.2.2) (storedH xs q.1 q.2.1 q.2.2) := by rw [← h.1, ← h.2.1]; exact r.put h.2.2
      exact DnR.merge (ps := ps) (qs := qs) t e
theorem carry_of {h : Heap} {P : Program} {w0 : World} : ∀ {kvs : List (NestedKey × Addr × V)} {ws : List (Value × Value)}, (∀ q ∈ kvs, NestedIs h q.1 (.ref q.2.1) ∧ q.1.depth ≤ 8) → VV (kvs.map fun q => (V.ref q.2.1, q.2.2)) ws → ∃ qs, CarriesH (nestedKind P w0) h ws qs ∧ DnR kvs qs
  | [], _, _, r => by rw [List.map_nil] at r; cases r; exact ⟨[], True.intro, .nil⟩
  | p :: kvs, _, hn, r => by
    rw [List.map_cons] at r
    cases r with
    | @cons _ b _ bs h t =>
      obtain ⟨qs, c, q⟩ := carry_of (fun q hq => hn q (List.mem_cons_of_mem _ hq)) t
      obtain ⟨b1, b2⟩ := b
      obtain ⟨h1, h2⟩ := h
      cases h1
      exact ⟨(p.1, p.2.1, b2) :: qs, ⟨rfl, rfl, hn p List.mem_cons_self, c⟩, .cons ⟨rfl, rfl, h2⟩ q⟩
theorem disp_N {P : Program} {w0 : World} {A : Around} {E : Value → Shared → Prop} {s0 : Shared} {env : PySem.Env} {keys : List (Option Expr)} {values : List Expr} {pos : Pos} {R : Value → Shared → Prop} (room : A.units + 8 < cLine)
    (hall : keys.all (·.isSome) = true) (hl : keys.length = values.length) (h0 : keys ≠ []) (h15 : keys.length ≤ 15)
    (h : wpAny (model P w0) A (evalPairs (pairTrees keys values env pos)) (fun vs s1 => ∃ qs, CarriesH (nestedKind P w0) s1.heap vs qs ∧ s1.heap.DictOfH (nestedKind P w0) s0.heap.objs.size [] ∧
      ∀ hp tk, hp.DictOfH (nestedKind P w0) s0.heap.objs.size (storedAllH [] qs) → Heap.SameBut s0.heap.objs.size s1.heap hp → R (.ref s0.heap.objs.size) { s1 with heap := hp, toks := tk }) E
      { s0 with heap := s0.heap.push { cls := .type "dict", data := .dict #[] } }) : wpAny (model P w0) A (eval (.Dict keys values pos) env) R E s0 := by
  have n := pairTrees_length keys values env pos hall hl
  have ne : pairTrees keys values env pos ≠ [] := fun e => h0 (List.length_eq_zero_iff.mp (by rw [← n, e]; rfl))
  rw [arm_eval_Dict, zip_pairTrees keys values env pos hall hl]
  rw [dictDisplay_pairs _ ne (by omega)]
  refine wpAny_bind (wpAny_standAt (wpAny_bind (wpAny_subDictH (knd := nestedKind P w0) (Q := fun d s' => wpAny (model P w0) A (pure (Value.ref d)) R E s') room (by omega) (wpAny_mono h (fun vs s1 q => ?_) fun _ _ e => e))))
  obtain ⟨qs, c, d, q⟩ := q
  exact ⟨qs, c, d, fun hp tk x y => wpAny_pure (q hp tk x y)⟩
theorem pe_dispN (hu : X.A.units + 64 < cLine) {pos : Pos} {keys : List (Option Expr)} {values : List Expr} {trs : List (TE × TE)} (h : PPs X pos keys values trs) (hall : keys.all (·.isSome) = true) (hl : keys.length = values.length) (h0 : keys ≠ [])
    (h15 : keys.length ≤ 15) : PE X (.Dict keys values pos) (tDispN X.w X.K trs) := by
  refine .mk fun pins s σ H Q I q => ?_
  have hn := (I.hok.fresh (Nat.le_refl s.heap.objs.size))
  have big := I.big
  have hsm : (s.heap.objs.size == sysModules) = false := by
    rw [beq_eq_false_iff_ne]
    exact Nat.ne_of_gt big
  have I1 := I.laid (a := s.heap.objs.size) (o := DnO X.w s.heap.objs.size []) (h' := s.heap.push { cls := .type "dict", data := .dict #[] }) (t' := s.toks) (fun _ _ q => Heap.get?_push_of_some _ q) (Nat.le_refl _) (dn_ok .nil (Heap.DictOfH.new s.heap))
  refine disp_N (show X.A.units + 8 < cLine by omega) hall hl h0 h15 (thn (h.run pins _ σ _ _ I1 (q _ hn hsm)) fun ws s2 ⟨ps, H2, I2, rel, e, kvs, ep, hk, lk, q2⟩ => ?_)
  subst ep
  obtain ⟨qs, c, rk⟩ := carry_of (P := X.prog) (w0 := X.w) (fun p hp => ⟨nest_of I2 (hk p hp).1 rfl, (hk p hp).2⟩) rel
  obtain ⟨xs, r0, l0, dd⟩ := dn_here I2 e ⟨(fun _ h => nomatch h), List.nodup_nil⟩
  have : xs = [] := List.length_eq_zero_iff.mp l0
  subst this
  refine ⟨qs, c, dd, fun h' tk dd' hs => ?_⟩
  have here : ∃ q, h'.get? s.heap.objs.size = some q := let ⟨q, _, _, hq, _⟩ := dd'; ⟨q, hq⟩
  exact ⟨.ref s.heap.objs.size, _, d_write I2 (by rw [e]; exact True.intro) hs here (dn_ok (DnR.merge rk .nil) dd'), rfl, q2⟩
end
end UW

/-! N2 -/
/-! dicts whose keys are tuples, nested: plain functions -/
namespace UW
open PySem PySem.Spec PyProof.Rows L2
def tupK (d : D) : Option NestedKey := match d with
  | .tup xs => match D.keyN (.tup xs) with
    | some k => if k.depth ≤ 8 then some k else none
    | none => none
  | _ => none
def nGet (k : NestedKey) : List (D × D) → Option D
  | [] => none
  | (d, e) :: r => if D.keyN d = some k then some e else nGet k r
def nPut (d e : D) (k : NestedKey) (kvs : List (D × D)) : List (D × D) :=
  if (kvs.any fun p => decide (D.keyN p.1 = some k)) = true then kvs.map (fun p => if D.keyN p.1 = some k then (p.1, e) else p) else kvs ++ [(d, e)]
/-- such a dict, if there is one -/
def ndcAt (z : PH) (y : D) : Option (List (D × D)) := match y with
  | .ref r => match z.get r with
    | some (.ndc kvs) => some kvs
    | _ => none
  | _ => none
def fInX (x y : D) : M D := fun z => match ndcAt z y with
  | some kvs => (match tupK x with | some k => mPure (.bl (nGet k kvs).isSome) | none => mBad : M D) z
  | none => fIn x y z
def fNotInX (x y : D) : M D := fun z => match ndcAt z y with
  | some kvs => (match tupK x with | some k => mPure (.bl (!(nGet k kvs).isSome)) | none => mBad : M D) z
  | none => fNotIn x y z
def fIxX (x y : D) : M D := fun z => match ndcAt z x with
  | some kvs => (match tupK y with | some k => mOpt (nGet k kvs) | none => mBad : M D) z
  | none => fIx x y z
def fSetX (x y v : D) : M Unit := fun z => match x with
  | .ref r => (match z.get r with
    | some (.ndc kvs) => (match tupK y with | some k => if kvs.length < line then mPut r (.ndc (nPut y v k kvs)) [v] else mBad | none => mBad : M Unit) z
    | _ => fSet x y v z)
  | _ => fSet x y v z
def gSubX (o i : DE) : DG := fun v ρ => mBind (mCalm (o ρ)) fun x => mBind (mCalm (i ρ)) fun y => mBind (fSetX x y v) fun _ => mPure ρ
/-- {k: v, ..} -/
def nMergeD : List (D × D) → List (D × D) → Option (List (D × D))
  | acc, [] => some acc
  | acc, p :: ps => match tupK p.1 with
    | some k => nMergeD (nPut p.1 p.2 k acc) ps
    | none => none
def fDictX (kvs : List (D × D)) : M D := if kvs.length ≤ 15 then (if (kvs.all fun p => p.1.isKey) = true then mNew (.dct (kMerge kvs)) else match nMergeD [] kvs with
  | some xs => mNew (.ndc xs)
  | none => mBad) else mBad
def dDictX (ps : DP) : DE := fun ρ => mBind (ps ρ) fDictX
section
variable {g : Gb} {w : Wd} {z : PH} {H : Hp}
theorem tupK_of {x : V} {d : D} {k : NestedKey} (o : Ok g w z H) (r : Rv g w x d) (e : tupK d = some k) : ∃ b, x = .ref b ∧ D.keyN d = some k ∧ k.depth ≤ 8 ∧ NkH g.K H (.ref b) k := by
  unfold tupK at e
  cases d with
  | tup xs =>
    simp only at e
    cases q : D.keyN (.tup xs) with
    | none => (rw [q] at e; cases e)
    | some k2 =>
      rw [q] at e
      by_cases c : k2.depth ≤ 8
      · simp only [c, if_true] at e
        cases e
        cases r with
        | tup h a => exact ⟨_, rfl, rfl, c, nk_of o (.tup h a) q⟩
      · simp only [c, if_false] at e
        cases e
  | _ => cases e
theorem NvR.at {k : NestedKey} : ∀ {r : List (NestedKey × Addr × V)} {s : List (D × D)}, NvR g w r s → match nGet k s with
    | some d => ∃ v, nAt r k = some v ∧ Rv g w v d
    | none => nAt r k = none
  | _, _, .nil => rfl
  | _, _, @NvR.cons _ _ k2 b v d e r s hk hd hb hv t => by
    unfold nGet nAt
    rw [List.find?_cons, hk]
    by_cases c : k2 = k
    · subst c
      simp only [decide_true, if_true, Option.map_some]
      exact ⟨v, rfl, hv⟩
    · have c2 : ¬ some k2 = some k := fun e => c (Option.some.inj e)
      simp only [c, c2, decide_false, if_false]
      exact NvR.at t
theorem nv_isSome {k : NestedKey} {r : List (NestedKey × Addr × V)} {s : List (D × D)} (h : NvR g w r s) : (nAt r k).isSome = (nGet k s).isSome := by
  have q := h.at (k := k)
  cases e : nGet k s with
  | none => rw [e] at q; rw [q]; rfl
  | some d => rw [e] at q; obtain ⟨v, h1, _⟩ := q; rw [h1]; rfl
theorem NvR.any {k : NestedKey} : ∀ {r : List (NestedKey × Addr × V)} {s : List (D × D)}, NvR g w r s → (s.any fun p => decide (D.keyN p.1 = some k)) = (r.any fun p => decide (p.1 = k))
  | _, _, .nil => rfl
  | _, _, .cons hk _ _ _ t => by
    rw [List.any_cons, List.any_cons, NvR.any t, hk]
    congr 1
    simp
theorem NvR.append : ∀ {r r' : List (NestedKey × Addr × V)} {s s' : List (D × D)}, NvR g w r s → NvR g w r' s' → NvR g w (r ++ r') (s ++ s')
  | _, _, _, _, .nil, h => h
  | _, _, _, _, .cons a b c d t, h => .cons a b c d (NvR.append t h)
theorem NvR.length : ∀ {r : List (NestedKey × Addr × V)} {s : List (D × D)}, NvR g w r s → r.length = s.length
  | _, _, .nil => rfl
  | _, _, .cons _ _ _ _ t => by rw [List.length_cons, List.length_cons, NvR.length t]
theorem NvR.map {k : NestedKey} {v : V} {e : D} (hv : Rv g w v e) : ∀ {r : List (NestedKey × Addr × V)} {s : List (D × D)}, NvR g w r s → NvR g w (r.map fun p => if p.1 = k then (p.1, p.2.1, v) else p) (s.map fun p => if D.keyN p.1 = some k then (p.1, e) else p)
  | _, _, .nil => .nil
  | _, _, @NvR.cons _ _ k2 b v2 d e2 r s hk hd hb hv2 t => by
    rw [List.map_cons]; rw [List.map_cons]
    simp only [hk]
    by_cases c : k2 = k
    · have c2 : some k2 = some k := by rw [c]
      simp only [c2, if_true]
      rw [if_pos c]
      exact .cons hk hd hb hv (NvR.map hv t)
    · have c2 : ¬ some k2 = some k := fun e => c (Option.some.inj e)
      rw [if_neg c, if_neg c2]
      exact .cons hk hd hb hv2 (NvR.map hv t)
theorem NvR.put {k : NestedKey} {b : Addr} {v : V} {d e : D} (hk : D.keyN d = some k) (hd : k.depth ≤ 8) (hb : Rv g w (.ref b) d) (hv : Rv g w v e) {r : List (NestedKey × Addr × V)} {s : List (D × D)} (h : NvR g w r s) : NvR g w (nPutV r k b v) (nPut d e k s) := by
  unfold nPutV nPut
  rw [h.any]
  split
  · exact h.map hv
  · exact h.append (.cons hk hd hb hv .nil)
theorem NvR.known (o : Ok g w z H) : ∀ {r : List (NestedKey × Addr × V)} {s : List (D × D)}, NvR g w r s → ∀ p ∈ r, NkH g.K H (.ref p.2.1) p.1 ∧ p.1.depth ≤ 8
  | _, _, .nil, p, hp => nomatch hp
  | _, _, .cons hk hd hb hv t, p, hp => by
    obtain e | hp := List.mem_cons.mp hp
    · subst e; exact ⟨nk_of o hb hk, hd⟩
    · exact NvR.known o t p hp
theorem ndc_here (o : Ok g w z H) {y : V} {d : D} {kvs : List (D × D)} (r : Rv g w y d) (e : ndcAt z d = some kvs) : ∃ a n vs, y = .ref a ∧ d = .ref n ∧ w.io[n]? = some a ∧ z.get n = some (.ndc kvs) ∧ (a == sysModules) = false ∧ H a = some (DnO g.wd a vs) ∧ DnK g.K H vs ∧ NvR g w vs kvs := by
  unfold ndcAt at e
  cases d with
  | ref n =>
    cases r with
    | @ref a _ i1 =>
      simp only at e
      split at e
      · rename_i kvs' gt
        cases e
        obtain ⟨vs, h1, h2, h3, h4⟩ := o.obj _ _ _ i1 gt
        exact ⟨a, n, vs, rfl, rfl, i1, gt, h2, h1, ⟨h3.known o, h4⟩, h3⟩
      · cases e
  | _ => cases e
end
section
variable {g : Gb}
def rInX (w0 : World) (K : PySem.W.Frag) (neg : Bool) : R2 := fun x y H Q => rInA K neg x y H Q ∨ rInN w0 K neg x y H Q
theorem op_inX {X : Cx} (hu : X.A.units + 64 < cLine) : OpR X (compareOp .In) (rInX X.w X.K false) := (op_inA (by omega)).or (op_inN hu)
theorem op_notInX {X : Cx} (hu : X.A.units + 64 < cLine) : OpR X (compareOp .NotIn) (rInX X.w X.K true) := (op_notInA (by omega)).or (op_notInN hu)
theorem rw_inX : RW g (rInX g.wd g.K false) fInX := fun w H z x y dx dy o rx ry Q h => by
  unfold fInX at h
  cases e : ndcAt z dy with
  | none => rw [e] at h; exact .inl (rw_in w H z x y dx dy o rx ry Q h)
  | some kvs =>
    rw [e] at h
    obtain ⟨a, n, vs, rfl, rfl, i1, gt, hs, h1, h2, h3⟩ := ndc_here o ry e
    cases q : tupK dx with
    | none => rw [q] at h; exact (show False from h).elim
    | some k =>
      rw [q] at h
      obtain ⟨b, rfl, _, hd, hn⟩ := tupK_of o rx q
      refine .inr ⟨a, b, vs, k, rfl, rfl, hs, h1, h2, hn, hd, ?_⟩
      have := (show QV g w H Q (.bl (nGet k kvs).isSome) z from h) w _ H (.refl o) (.bl _)
      rw [← nv_isSome h3] at this
      exact this
theorem rw_notInX : RW g (rInX g.wd g.K true) fNotInX := fun w H z x y dx dy o rx ry Q h => by
  unfold fNotInX at h
  cases e : ndcAt z dy with
  | none => rw [e] at h; exact .inl (rw_notIn w H z x y dx dy o rx ry Q h)
  | some kvs =>
    rw [e] at h
    obtain ⟨a, n, vs, rfl, rfl, i1, gt, hs, h1, h2, h3⟩ := ndc_here o ry e
    cases q : tupK dx with
    | none => rw [q] at h; exact (show False from h).elim
    | some k =>
      rw [q] at h
      obtain ⟨b, rfl, _, hd, hn⟩ := tupK_of o rx q
      refine .inr ⟨a, b, vs, k, rfl, rfl, hs, h1, h2, hn, hd, ?_⟩
      have := (show QV g w H Q (.bl (!(nGet k kvs).isSome)) z from h) w _ H (.refl o) (.bl _)
      rw [← nv_isSome h3] at this
      exact this
theorem nox_k {α : Type} {x : D} {f : NestedKey → M α} (h : ∀ k, NoX (f k)) : NoX (match tupK x with | some k => f k | none => mBad : M α) := by
  cases tupK x with
  | none => exact nox_bad
  | some k => exact h k
theorem nox_inX : ∀ x y, NoX (fInX x y) := fun x y z => by
  unfold fInX
  cases ndcAt z y with
  | none => exact nox_in x y z
  | some kvs => exact nox_k (fun _ => nox_pure) z
theorem nox_notInX : ∀ x y, NoX (fNotInX x y) := fun x y z => by
  unfold fNotInX
  cases ndcAt z y with
  | none => exact nox_notIn x y z
  | some kvs => exact nox_k (fun _ => nox_pure) z
def rIxX (w0 : World) (K : PySem.W.Frag) : R2 := fun x y H Q => rIxA K x y H Q ∨ rIxN w0 K x y H Q
theorem ix_X {X : Cx} (hu : X.A.units + 64 < cLine) : IxR X (rIxX X.w X.K) := (ix_any (by omega)).or (ix_N hu)
theorem rw_ixX : RW g (rIxX g.wd g.K) fIxX := fun w H z x y dx dy o rx ry Q h => by
  unfold fIxX at h
  cases e : ndcAt z dx with
  | none => rw [e] at h; exact .inl (rw_ix w H z x y dx dy o rx ry Q h)
  | some kvs =>
    rw [e] at h
    obtain ⟨a, n, vs, rfl, rfl, i1, gt, hs, h1, h2, h3⟩ := ndc_here o rx e
    cases q : tupK dy with
    | none => rw [q] at h; exact (show False from h).elim
    | some k =>
      rw [q] at h
      obtain ⟨b, rfl, _, hd, hn⟩ := tupK_of o ry q
      have ha := h3.at (k := k)
      have h : Sat (mOpt (nGet k kvs) z) (QV g w H Q) (fun _ _ _ => False) := h
      cases f : nGet k kvs with
      | none => rw [f] at h; exact (show False from h).elim
      | some d =>
        rw [f] at h ha
        obtain ⟨v, e1, rv⟩ := ha
        exact .inr ⟨a, b, vs, k, v, rfl, rfl, h1, h2, hn, hd, e1, (show QV g w H Q d z from h) w _ H (.refl o) rv⟩
theorem nox_ixX : ∀ x y, NoX (fIxX x y) := fun x y z => by
  unfold fIxX
  cases ndcAt z x with
  | none => exact nox_ix x y z
  | some kvs => exact nox_k (fun _ => nox_opt) z
def rSetX (w0 : World) (K : PySem.W.Frag) : TSet := fun o i v H Q => rSetA o i v H Q ∨ rSetN w0 K o i v H Q
theorem set_X {X : Cx} (hu : X.A.units + 64 < cLine) : PSet X (rSetX X.w X.K) := by
  intro pins s σ H o i v ov iv u Q I r1 r2 r3 h
  rcases h with h | h
  · exact set_any (by omega) pins s σ H o i v ov iv u Q I r1 r2 r3 h
  · exact set_N hu pins s σ H o i v ov iv u Q I r1 r2 r3 h
theorem mem_nPut {y v : D} {k : NestedKey} {kvs : List (D × D)} {x : D} (h : x ∈ (nPut y v k kvs).map (·.2)) : x ∈ kvs.map (·.2) ∨ x ∈ [v] := by
  unfold nPut at h
  split at h
  · rw [List.map_map] at h
    rcases List.mem_map.mp h with ⟨p, hp, rfl⟩
    simp only [Function.comp]
    split
    · exact .inr (by simp)
    · exact .inl (List.mem_map.mpr ⟨p, hp, rfl⟩)
  · rw [List.map_append, List.mem_append] at h
    exact h
theorem set_ofX {w : Wd} {z : PH} {H : Hp} {vo vi vv : V} {x y v : D} (o : Ok g w z H) (ro : Rv g w vo x) (ri : Rv g w vi y) (rv : Rv g w vv v) {Q : Hp → Prop} {E : XD} (h : Sat (fSetX x y v z) (fun _ z' => ∀ w' H', Go g w H z' w' H' → Q H') E) : rSetX g.wd g.K vo vi vv H Q := by
  unfold fSetX at h
  split at h
  · rename_i n
    split at h
    · rename_i kvs gt
      have e : ndcAt z (.ref n) = some kvs := by unfold ndcAt; simp only [gt]
      obtain ⟨a, n', vs, rfl, e2, i1, gt2, hs, h1, h2, h3⟩ := ndc_here o ro e
      cases e2
      cases q : tupK y with
      | none => rw [q] at h; exact (show False from h).elim
      | some k =>
        rw [q] at h
        obtain ⟨c, h⟩ := sat_if h
        obtain ⟨b, rfl, hk, hd, hn⟩ := tupK_of o ri q
        refine .inr ⟨a, b, vs, k, rfl, rfl, hs, h1, h2, by rw [h3.length, ← line_eq]; exact c, hn, hd, ?_⟩
        refine (show ∀ w' H', Go g w H (z.put n (.ndc (nPut y v k kvs)) [v]) w' H' → Q H' from h) w _ ?_
        exact Go.set o i1 (q := .ndc (nPut y v k kvs)) ⟨_, upd_same, hs, h3.put hk hd ri rv, nPutV_nod h2.nod⟩ (fun r' e' x hx => by
          rw [gt] at e'
          cases e'
          exact mem_nPut hx) ⟨_, gt⟩ (fun o' u e' => by rw [h1] at e'; cases e')
    · exact .inl (set_of o ro ri rv h)
  · exact .inl (set_of o ro ri rv h)
theorem setX_ndc {n : Nat} {y v : D} {z : PH} {kvs : List (D × D)} (gt : z.get n = some (.ndc kvs)) : fSetX (.ref n) y v z = (match tupK y with | some k => if kvs.length < line then mPut n (.ndc (nPut y v k kvs)) [v] else mBad | none => mBad : M Unit) z := by
  simp only [fSetX, gt]
  all_goals rfl
theorem setX_or {x y v : D} {z : PH} : (∃ n kvs, x = .ref n ∧ z.get n = some (.ndc kvs)) ∨ fSetX x y v z = fSet x y v z := by
  cases x with
  | ref n =>
    cases gt : z.get n with
    | none => right; simp only [fSetX, gt]
    | some o =>
      cases o with
      | ndc kvs => exact .inl ⟨n, kvs, rfl, gt⟩
      | _ => right; simp only [fSetX, gt]
  | _ => exact .inr rfl
theorem nox_eq' {α : Type} {m m' : M α} {z : PH} (e : m z = m' z) (h : NoX m') : match m z with | .exc .. => False | _ => True := by
  rw [e]
  have := h z
  revert this
  cases m' z <;> intro h
  · trivial
  · exact h
  · trivial
theorem nox_setX {x y v : D} : NoX (fSetX x y v) := fun z => by
  rcases setX_or (x := x) (y := y) (v := v) (z := z) with ⟨n, kvs, rfl, gt⟩ | e
  · rw [setX_ndc gt]
    exact nox_k (fun _ => nox_ite nox_put nox_bad) z
  · have h := nox_eq' (m' := fSet x y v) e nox_set
    revert h
    cases fSetX x y v z <;> intro h
    · trivial
    · exact h
    · trivial
theorem eg_subX {to ti : TE} {o i : DE} (ho : EvE g WNo to o) (hi : EvE g WNo ti i) : EvG g (gSub to ti (rSetX g.wd g.K)) [] (gSubX o i) := by
  refine ⟨fun w σ H z ρ v d E k r Q h => ?_, fun d ρ => nox_bind nox_calm fun x => nox_bind nox_calm fun y => nox_bind nox_setX fun _ => nox_pure⟩
  refine ho w σ H z ρ E k _ (sat_mono (sat_calm (sat_bind h)) (fun x z1 s1 w1 vx H1 g1 r1 => ?_) fun _ _ _ q => q.elim)
  refine hi w1 σ H1 z1 ρ (E.mono g1.le) g1.ok _ (sat_mono (sat_calm (sat_bind s1)) (fun y z2 s2 w2 vy H2 g2 r2 => ?_) fun _ _ _ q => q.elim)
  refine set_ofX g2.ok (r1.mono g2.le) r2 ((r.mono g1.le).mono g2.le) (sat_mono (sat_bind s2) (fun _ z3 s3 w3 H3 g3 => ?_) fun _ _ _ q => q)
  have go := (g1.trans g2).trans g3
  exact (show ∀ w' σ' H', Go g w H z3 w' H' → EnvOk g w' σ' ρ → Off [] σ σ' → Q σ' H' from s3) w3 σ H3 go (E.mono go.le) .refl
/-! the display -/
variable {W : WX}
theorem mergeN_of {w : Wd} {z : PH} {H : Hp} (o : Ok g w z H) : ∀ {ps : List (D × D)} {vs us : List V} {r0 : List (NestedKey × Addr × V)} {s0 xs : List (D × D)}, RvA g w vs (ps.map (·.1)) → RvA g w us (ps.map (·.2)) → nMergeD s0 ps = some xs → NvR g w r0 s0 → (r0.map (·.1)).Nodup →
    ∃ kvs : List (NestedKey × Addr × V), vs.zip us = kvs.map (fun q => (V.ref q.2.1, q.2.2)) ∧ kvs.length = ps.length ∧ (∀ q ∈ kvs, NkH g.K H (.ref q.2.1) q.1 ∧ q.1.depth ≤ 8) ∧ NvR g w (nMerge r0 kvs) xs ∧ ((nMerge r0 kvs).map (·.1)).Nodup
  | [], _, _, _, _, _, .nil, .nil, e, h, hn => by cases e; exact ⟨[], rfl, rfl, (fun _ h => nomatch h), h, hn⟩
  | p :: ps, _, _, _, _, _, .cons ha hb, .cons hc hd, e, h, hn => by
    unfold nMergeD at e
    cases q : tupK p.1 with
    | none => (rw [q] at e; cases e)
    | some k =>
      rw [q] at e
      obtain ⟨b, rfl, hk, hdp, hN⟩ := tupK_of o ha q
      obtain ⟨kvs, e1, e2, e3, e4, e5⟩ := mergeN_of o hb hd e (h.put hk hdp ha hc) (nPutV_nod hn)
      exact ⟨(k, b, _) :: kvs, by rw [List.zip_cons_cons, List.map_cons, e1], by rw [List.length_cons, List.length_cons, e2], List.forall_mem_cons.mpr ⟨⟨hN, hdp⟩, e3⟩, e4, e5⟩
def tDispX (w0 : World) (K : PySem.W.Frag) (trs : List (TE × TE)) : TE := fun σ H Q => tDisp trs σ H Q ∨ tDispN w0 K trs σ H Q
theorem pe_dispX {X : Cx} (hu : X.A.units + 64 < cLine) {pos : Pos} {keys : List (Option Expr)} {values : List Expr} {trs : List (TE × TE)} (h : PPs X pos keys values trs) (hall : keys.all (·.isSome) = true) (hl : keys.length = values.length) (h0 : keys ≠ [])
    (h15 : keys.length ≤ 15) : PE X (.Dict keys values pos) (tDispX X.w X.K trs) := ⟨fun pins s σ H Q I q => by
  rcases q with q | q
  · exact (pe_disp h hall hl h0 h15).run pins s σ H Q I q
  · exact (pe_dispN hu h hall hl h0 h15).run pins s σ H Q I q⟩
theorem ev_dictX {trs : List (TE × TE)} {dp : DP} (h : EvP g W trs dp) : EvE g W (tDispX g.wd g.K trs) (dDictX dp) := fun w σ H z ρ E o Q hq => by
  by_cases c : ∃ ps z1, dp ρ z = .ok ps z1 ∧ (ps.all fun p => p.1.isKey) = false
  · right
    obtain ⟨ps0, z0, e0, c0⟩ := c
    intro p hp hsm
    obtain ⟨nI, nB⟩ := o.fresh hp
    have g0 := (Go.refl o).mut (o := DnO g.wd p []) hp nB nI cold_dno (not_tbl0 hp) (not_code0 hp)
    refine h w σ _ z ρ E g0.ok _ ?_
    have hq2 := sat_bind hq
    rw [e0] at hq2 ⊢
    intro hl w1 vs us H1 g1 r1 r2
    have hne : Pl (upd H p (DnO g.wd p [])) p := ⟨_, upd_same, cold_dno⟩
    have he : H1 p = some (DnO g.wd p []) := g1.fr p _ nI cold_dno upd_same
    have hq3 : Sat (fDictX ps0 z0) (QV g w H Q) (QX g w H σ W) := hq2
    unfold fDictX at hq3
    obtain ⟨c15, hq3⟩ := sat_if hq3
    rw [c0, if_neg (by simp)] at hq3
    cases em : nMergeD [] ps0 with
    | none => rw [em] at hq3; exact (show False from hq3).elim
    | some xs =>
      rw [em] at hq3
      obtain ⟨kvs, e1, e2, e3, e4, e5⟩ := mergeN_of g1.ok r1 r2 em .nil List.nodup_nil
      refine ⟨he, kvs, e1, e3, by rw [e2]; exact c15, ?_⟩
      have nI' := g1.notI nI hne
      have nB' := g1.sep p nB hne
      have g3 := ((g0.trans g1).mut (o := DnO g.wd p (nMerge [] kvs)) hp nB' nI' cold_dno (not_tbl he cold_dno) (fun q z => by rw [he] at z; exact dno_code (Option.some.inj z))).adopt hp nB' nI' (q := .ndc xs) ⟨_, upd_same, hsm, e4, e5⟩
      exact (show QV g w H Q (.ref z0.n) (z0.new (.ndc xs)) from hq3) _ _ _ g3 (.ref (Wd.snoc_last g1.ok.len))
  · left
    refine ev_dict h w σ H z ρ E o Q ?_
    unfold dDictX at hq
    unfold dDict
    unfold mBind at hq ⊢
    cases e : dp ρ z with
    | bad => rw [e] at hq; exact hq
    | exc cc fs z1 => rw [e] at hq; exact hq
    | ok ps z1 =>
      rw [e] at hq
      have hk : (ps.all fun p => p.1.isKey) = true := by
        cases hb : (ps.all fun p => p.1.isKey) with
        | true => rfl
        | false => exact absurd ⟨ps, z1, e, hb⟩ c
      simp only at hq ⊢
      unfold fDictX at hq
      obtain ⟨c15, hq⟩ := sat_if hq
      rw [hk, if_pos rfl] at hq
      rw [if_pos ⟨hk, c15⟩]
      exact hq
end
end UW

/-! U15 -/
/-! xs[::-1], sorted of a list of ints -/
namespace UW
open PySem PySem.Spec PyProof.Rows L2
def fRevL (x : D) : M D := mGet x fun _ o => match o with
  | .lst xs | .flst xs => mNew (.lst xs.reverse)
  | _ => mBad
def sortZ (ns : List Int) : List Int := ns.mergeSort (fun x y => decide (x ≤ y))
def fSortI : List D → M D := ofLst intsD fun ns => mNew (.lst ((sortZ ns).map D.int))
section
variable {g : Gb} {W : WX} {te : TE} {e : DE}
theorem ev_revL (ha : EvE g W te e) : EvE g W (tRevL g.K te) (d1 fRevL e) := fun w σ H z ρ E o Q h =>
  ha w σ H z ρ E o _ (sat_mono (sat_bind h) (fun x z1 s1 w1 vx H1 g1 r1 => by
    obtain ⟨r, q, rfl, gt, h2⟩ := sat_get (show Sat (mGet x _ z1) _ _ from s1)
    cases r1 with
    | ref i1 =>
      have fin : ∀ xs, q.seq = some xs → Sat (mNew (.lst xs.reverse) z1) (QV g w H Q) (QX g w H σ W) → ∃ a ys, V.ref _ = V.ref a ∧ SqL g.K H1 a ys ∧ ∀ p, H1 p = none → Q (.ref p) (upd H1 p (.lst ys.reverse)) := fun xs hs hh => by
        obtain ⟨vs, h1, h3⟩ := g1.ok.seq i1 gt hs
        refine ⟨_, vs, rfl, h1, fun p hp => ?_⟩
        obtain ⟨g2, r2⟩ := mk_lst g1.ok hp h3.reverse
        exact (show QV g w H Q (.ref z1.n) (z1.new (.lst xs.reverse)) from hh) _ _ _ (g1.trans g2) r2
      cases q with
      | lst xs => exact fin xs rfl h2
      | flst xs => exact fin xs rfl h2
      | _ => exact (show False from h2).elim) fun _ _ _ q => q)
theorem ints_map {w : Wd} : ∀ (ns : List Int), RvA g w (ns.map V.int) (ns.map D.int)
  | [] => .nil
  | i :: r => .cons (.int i) (ints_map r)
theorem rws_sortI : RWs g (rSortedI g.K) fSortI := fun w H z vs ds o r Q h => by
  obtain ⟨a, xs, us, ns, rfl, h1, h2, e, q⟩ := ofLst_of o r h
  rw [ints_of e h2] at h1
  refine ⟨a, ns, rfl, h1, fun ns' p hp hs hf => ?_⟩
  have e1 : ns' = sortZ ns := PySem.W.os_sorted_mergeSort hp hs
  subst e1
  obtain ⟨g2, r2⟩ := mk_lst (xs := (sortZ ns).map V.int) (ds := (sortZ ns).map D.int) o hf (ints_map _)
  exact (show QV g w H Q (.ref z.n) (z.new (.lst ((sortZ ns).map D.int))) from q) _ _ _ g2 r2
theorem nox_sortI : ∀ xs, NoX (fSortI xs) := nox_ofLst fun _ => nox_new
end
end UW

/-! H4 -/
/-! sets of ints and texts with what their walk needs: made by a comprehension, sorted -/
namespace SMx
open PySem PySem.Spec PyProof.Rows L2
def keyM (e : Int × Value) : Key := match e.2 with | .int k _ => .inl k | .str x _ => .inr x | _ => .inl 0
def GoodM (w : World) (e : Int × Value) : Prop := ∃ k, keyIs k e.2 = true ∧ e.1 = keyH w k
structure InM (w : World) (es : Array (Int × Value)) (t : SetTable) (S : Key → Bool) (n : Nat) : Prop where
  good : ∀ e ∈ es.toList, GoodM w e
  nd : (es.toList.map keyM).Nodup
  mem : ∀ k, S k = true ↔ k ∈ es.toList.map keyM
  few : es.size < scanBound
  fits : t.fits es.size = true
  size : es.size = n
  ris : Ris t.place.toList
  led : (w.params.followText "set-order" = true) ∨ t.led = true
def SetM (w : World) (h : Heap) (a : Addr) (S : Key → Bool) (n : Nat) : Prop := ∃ o es ep t, h.get? a = some o ∧ o.ExactSet ∧ o.data = .set es ep t ∧ InM w es t S n
section
variable {P : Program} {w : World} {h h' : Heap} {a : Addr} {S : Key → Bool} {n : Nat}
theorem keyM_of {e : Int × Value} {k : Key} (h : keyIs k e.2 = true) : keyM e = k := by
  unfold keyM
  rcases keyIs_shape h with ⟨i, t, rfl, q⟩ | ⟨x, t, rfl, q⟩ <;> rw [q]
theorem goodM_el {l : List (Int × Value)} (g : ∀ e ∈ l, GoodM w e) : ElemsOf (mixKind P w) l := fun e he => by
  obtain ⟨k, h1, h2⟩ := g e he
  refine ⟨⟨k, h1, h2⟩, ?_⟩
  rcases keyIs_shape h1 with ⟨i, t, rfl, q⟩ | ⟨x, t, rfl, q⟩ <;> rw [q] <;> rfl
theorem goodM_is {e : Int × Value} (g : GoodM w e) (k : Key) : keyIs k e.2 = true ↔ keyM e = k := by
  refine ⟨keyM_of, fun q => ?_⟩
  obtain ⟨k', h1, _⟩ := g
  rw [← q, keyM_of h1]; exact h1
theorem goodM_mem {l : List (Int × Value)} (g : ∀ e ∈ l, GoodM w e) (k : Key) : k ∈ l.map keyM ↔ ∃ e ∈ l, (mixKind P w).is k e.2 = true :=
  List.mem_map.trans ⟨fun ⟨e, he, q⟩ => ⟨e, he, (goodM_is (g e he) k).2 q⟩, fun ⟨e, he, q⟩ => ⟨e, he, (goodM_is (g e he) k).1 q⟩⟩
theorem SetM.setOf (R : SetM w h a S n) : h.SetOf (mixKind P w) a S n := by
  obtain ⟨o, es, ep, t, ho, hx, hd, J⟩ := R
  exact ⟨o, es, ep, t, ho, hx, hd, goodM_el J.good, fun k => (J.mem k).trans (goodM_mem J.good k), J.few, J.fits, J.size⟩
end
section
variable {P : Program} {w : World} {A : Around} {E : Value → Shared → Prop} {s : Shared} {a : Addr} {S : Key → Bool} {n : Nat}
theorem putM_at {h : Heap} {a : Addr} {o : Obj} {es es' : Array (Int × Value)} {ep : Nat} {t t' : SetTable} (ho : h.get? a = some o) (hd : o.data = .set es ep t) : (h.update a (Obj.putSet es' t')).get? a = some { o with data := .set es' (ep + 1) t' } := by
  have z := putSet_of es' t' hd
  have q := Heap.get?_update_self (Obj.putSet es' t') ho (by rw [z]; rfl)
  rwa [z] at q
theorem setM_tail {g : Bool → Sem Unit} (hg : ∀ (b : Bool) (s₁ : Shared) (Q' : Unit → Shared → Prop), Q' () s₁ → wpAny (model P w) A (g b) Q' E s₁)
    {es : Array (Int × Value)} {o : Obj} {ep : Nat} {t : SetTable} (hex : o.ExactSet) (ho : s.heap.get? a = some o) (hd : o.data = .set es ep t)
    {es1 : Array (Int × Value)} {t2 : SetTable} {S' : Key → Bool} (J : InM w es1 t2 S' n) {wasDummy : Bool} {R : Option Bool → Shared → Prop}
    (hR : ∀ h', Heap.SameBut a s.heap h' → SetM w h' a S' n → R (some true) { s with heap := h' }) :
    wpAny (model P w) A (do { storeSet a es1 t2; if (!wasDummy && t2.tooFull) = true then (do { g (relayAll t2 es1 (SetTable.grown es1.size)).2.2; storeSet a (relayAll t2 es1 (SetTable.grown es1.size)).1 (relayAll t2 es1 (SetTable.grown es1.size)).2.1; pure (some true) }) else pure (some true) }) R E s := by
  refine wpAny_bind (wpAny_storeSet_of ho hd ?_ (fits_of_scanBound J.few))
  have at1 := putM_at (es' := es1) (t' := t2) ho hd
  have same1 := Heap.SameBut.update s.heap a (Obj.putSet es1 t2)
  split
  · have pm := (relayAll_perm t2 es1 (SetTable.grown es1.size))
    have fi := relayAll_fits t2 es1 (SetTable.grown es1.size)
    have ri := relayAll_ris t2 es1 (SetTable.grown es1.size)
    have le := relayAll_led t2 es1 (SetTable.grown es1.size)
    generalize relayAll t2 es1 (SetTable.grown es1.size) = Z at pm fi ri le ⊢
    obtain ⟨es2, t3, gave⟩ := Z
    dsimp only at pm fi ri le ⊢
    have sz : es2.size = es1.size := by rw [← Array.length_toList, pm.length_eq, Array.length_toList]
    refine wpAny_bind (hg _ _ _ (wpAny_bind (wpAny_storeSet_of at1 rfl ?_ (fits_of_scanBound (by rw [sz]; exact J.few)))))
    have at2 := putM_at (es' := es2) (t' := t3) at1 rfl
    exact wpAny_pure (hR _ (same1.trans (Heap.SameBut.update _ a _)) ⟨_, es2, _, t3, at2, hex, rfl, fun e he => J.good e (pm.mem_iff.mp he), (pm.map keyM).nodup_iff.mpr J.nd, fun k => (J.mem k).trans (pm.map keyM).mem_iff.symm,
      by rw [sz]; exact J.few, fi, sz.trans J.size, ri, J.led.imp id fun z => by rw [le]; exact z⟩)
  · exact wpAny_pure (hR _ same1 ⟨_, es1, _, t2, at1, hex, rfl, J⟩)
theorem setM_hashed {k : Key} {v : Value} {Q : Bool → Shared → Prop} (hv : keyIs k v = true) (R : SetM w s.heap a S n) (room : n + 1 < scanBound)
    (hQ : ∀ h', Heap.SameBut a s.heap h' → SetM w h' a (fun j => S j || decide (j = k)) (if S k = true then n else n + 1) → Q (!S k) { s with heap := h' }) :
    wpAny (model P w) A (setAddHashed a v ((mixKind P w).hash k)) Q E s := by
  obtain ⟨o, es, ep, t, ho, hex, hd, J⟩ := R
  have hkey : (mixKind P w).is k v = true := hv
  have hsc : v.scannable = true := by rcases keyIs_shape hv with ⟨i, t, rfl, rfl⟩ | ⟨x, t, rfl, rfl⟩ <;> rfl
  have el : ElemsOf (mixKind P w) es.toList := goodM_el J.good
  unfold setAddHashed; unfold setAddHashedIn
  refine wpAny_holding (wpAny_bind (wpAny_setState_of ho hd J.fits ?_))
  dsimp only
  rw [byScan_of hsc J.few el]
  simp only [↓reduceIte]
  unfold setAddByScan
  refine wpAny_bind (wpAny_bind (wpAny_rule (wpAny_bind (wpAny_setScan_of hkey ho hd J.fits el ?_))))
  cases hfi : List.findIdx? (fun e => (mixKind P w).is k e.2) es.toList with
  | some j =>
    dsimp only
    rcases List.findIdx?_eq_some_iff_getElem.mp hfi with ⟨hj, pj, _⟩
    have inS : S k = true := (J.mem k).2 ((goodM_mem (P := P) J.good k).2 ⟨es.toList[j], List.getElem_mem hj, pj⟩)
    have q := hQ s.heap (Heap.SameBut.refl a s.heap) ⟨o, es, ep, t, ho, hex, hd, J.good, J.nd, fun i => by
      rw [Bool.or_eq_true, decide_eq_true_eq, ← J.mem i]
      exact ⟨fun z => z.elim id (fun e => e ▸ inS), .inl⟩, J.few, J.fits, by rw [if_pos inS]; exact J.size, J.ris, J.led⟩
    rw [inS] at q
    exact wpAny_pure (wpAny_pure q)
  | none =>
    dsimp only
    have out : k ∉ es.toList.map keyM := fun z => by
      obtain ⟨e, he, q⟩ := (goodM_mem (P := P) J.good k).1 z
      have c := (List.findIdx?_eq_none_iff.mp hfi e he)
      rw [q] at c
      cases c
    have noS : S k = false := by
      cases q : S k with
      | false => rfl
      | true => exact absurd ((J.mem k).1 q) out
    have gave0 : ∀ (b : Bool) {s₁ : Shared} {Q' : Unit → Shared → Prop}, Q' () s₁ → wpAny (model P w) A (match b with | true => rule "set.scan.the-table-gave-way" | false => pure ()) Q' E s₁ :=
      fun b s₁ Q' q => by cases b <;> first | exact wpAny_rule q | exact wpAny_pure q
    have pm := layNew_perm t es ((mixKind P w).hash k) v
    have fi := layNew_fits t es ((mixKind P w).hash k) v
    have ri := layNew_ris t es ((mixKind P w).hash k) v J.ris
    have le := layNew_led t es ((mixKind P w).hash k) v
    generalize layNew t es ((mixKind P w).hash k) v = Z at pm fi ri le ⊢
    rcases Z with ⟨es1, t1, wasDummy, gave⟩
    dsimp only at pm fi ri le ⊢
    rw [Array.toList_push] at pm
    have pc : es1.toList.Perm (((mixKind P w).hash k, v) :: es.toList) := pm.trans (List.perm_append_singleton _ _)
    have pk : (es1.toList.map keyM).Perm (k :: es.toList.map keyM) := by
      have q := pc.map keyM
      rwa [List.map_cons, keyM_of (e := ((mixKind P w).hash k, v)) hv] at q
    have sz : es1.size = n + 1 := by rw [← Array.length_toList, pc.length_eq, List.length_cons, Array.length_toList, J.size]
    have J1 : InM w es1 t1 (fun j => S j || decide (j = k)) (n + 1) := ⟨fun e he => by
        obtain z | z := List.mem_cons.mp (pc.mem_iff.mp he)
        · rw [z]; exact ⟨k, hv, rfl⟩
        · exact J.good e z, pk.nodup_iff.mpr (List.nodup_cons.mpr ⟨out, J.nd⟩), fun i => by
        rw [Bool.or_eq_true, decide_eq_true_eq, J.mem i, pk.mem_iff, List.mem_cons]
        exact Or.comm, by rw [sz]; exact room, fi, sz, ri, J.led.imp id fun z => by rw [le]; exact z⟩
    have fin : ∀ h', Heap.SameBut a s.heap h' → SetM w h' a (fun j => S j || decide (j = k)) (n + 1) → Q true { s with heap := h' } := fun h' sb r => by
      have q := hQ h' sb
      rw [noS] at q
      exact q r
    refine wpAny_bind (gave0 _ ?_)
    split
    · refine wpAny_bind ?_
      rw [hashByValue_scannable _ hsc]
      refine wpAny_pure (setM_tail ?_ hex ho hd (n := n + 1) (S' := fun j => S j || decide (j = k)) ?_ ?_)
      · intros b s₁ Q' q; cases b <;> first | exact wpAny_pure q | exact wpAny_rule q
      · first
          | exact J1
          | (split <;> first | exact J1 | exact ⟨J1.good, J1.nd, J1.mem, J1.few, SetTable.fits_plain_off J1.fits, J1.size, J1.ris, J1.led⟩)
      · intros h' sb r; dsimp only; exact wpAny_pure (fin h' sb r)
    · refine (wpAny_bind (wpAny_pure ?_))
      simp only [↓reduceIte]
      refine setM_tail ?_ hex ho hd (n := n + 1) (S' := fun j => S j || decide (j = k)) J1 ?_
      · intros b s₁ Q' q; cases b <;> first | exact wpAny_pure q | exact wpAny_rule q
      · intros h' sb r; dsimp only; exact wpAny_pure (fin h' sb r)
theorem setM_add {k : Key} {v : Value} {Q : Value → Shared → Prop} (hv : keyIs k v = true) (R : SetM w s.heap a S n) (room : n + 1 < scanBound)
    (hQ : ∀ h', Heap.SameBut a s.heap h' → SetM w h' a (fun j => S j || decide (j = k)) (if S k = true then n else n + 1) → Q .none { s with heap := h', toks := s.toks + 1 }) :
    wpAny (model P w) A (call (.builtin "set.add") [.ref a, v]) Q E s := by
  have hS : s.heap.SetOf (mixKind P w) a S n := R.setOf
  refine (wpAny_call_entry F.slot_set_add hS.typeIs F.entry_set_add ?_ (F.args_set_add_2 _ _))
  unfold Builtin.«set.add»; unfold Builtin.Frozenset.oneOther
  simp only [bind_assoc, List.isEmpty_nil]
  unfold Builtin.Frozenset.addrOf; unfold setAdd
  refine (wpAny_bind (wpAny_pure ?_))
  try dsimp only
  refine (wpAny_bind (wpAny_pure ?_))
  try dsimp only
  refine wpAny_bind (wpAny_holding (wpAny_bind ((mixKind P w).pyHash (k := k) hv (setM_hashed (s := { s with toks := s.toks + 1 }) hv R room fun h' sb r => ?_))))
  show (wpAny _ _ (ret Value.none) _ _ _)
  exact (wpAny_pure ⟨_, rfl, hQ h' sb r⟩)
theorem setM_new {h : Heap} (w : World) : SetM w (h.push { cls := .type "set", dict := none, data := .set #[] 0 (.fresh 0 0 (!w.params.followText "set-order")) }) h.objs.size (fun _ => false) 0 :=
  ⟨_, #[], 0, _, Heap.get?_push_size _ rfl, ⟨rfl, rfl, rfl⟩, rfl, fun e he => by simp at he, by simp, fun k => by simp, by decide, by rfl, rfl, List.Pairwise.nil, by
    show (_ ∨ (!w.params.followText "set-order") = true)
    cases w.params.followText "set-order" <;> simp⟩
end

/-! ### as a tracked object -/
def SetMO (w : World) (a : Addr) (S : Key → Bool) (n : Nat) : HO := .ext fun h => SetM w h a S n
theorem setMO_ok {w : World} {P : Program} {H : Hp} {h : Heap} {a : Addr} {S : Key → Bool} {n : Nat} (R : SetM w h a S n) : ObjOk P w H h a (SetMO w a S n) :=
  have ⟨o, _, _, _, ho, _⟩ := R
  ⟨R, ⟨o, ho⟩, fun _ _ ⟨u, es, ep, t, hu, r⟩ k => ⟨u, es, ep, t, k u hu, r⟩⟩
section
variable {X : Cx} {s : Shared} {pins : List (Addr × Obj)} {σ : L2.St} {H : Hp}
theorem setMO_at {a : Addr} {S : Key → Bool} {n : Nat} (I : Inv X pins σ H s) (ha : H a = some (SetMO X.w a S n)) : SetM X.w s.heap a S n := (I.hok a _ ha).1
abbrev plus (S : Key → Bool) (k : Key) : Key → Bool := fun j => S j || decide (j = k)
abbrev plusN (S : Key → Bool) (k : Key) (n : Nat) : Nat := if S k = true then n else n + 1
theorem addMO {E : Value → Shared → Prop} {D : Addr} {S : Key → Bool} {n : Nat} {k : Key} {v : Value} {Q : Value → Shared → Prop} (I : Inv X pins σ H s) (hD : H D = some (SetMO X.w D S n)) (hv : keyIs k v = true) (room : n + 1 < scanBound)
    (h : ∀ s', Inv X pins σ (upd H D (SetMO X.w D (plus S k) (plusN S k n))) s' → Q .none s') : wpAny (model X.prog X.w) X.A (call (.builtin "set.add") [.ref D, v]) Q E s :=
  setM_add hv (setMO_at I hD) room fun h' same new =>
    have ⟨u, _, _, _, hu, _⟩ := new
    h _ (I.write (e := D) (t' := s.toks + 1) (by rw [hD]; trivial) (.inl rfl) (fun b o hb e => (same.2 b hb).trans e) ⟨u, hu⟩ (setMO_ok new))
/-- what a turn of a comprehension of such a set owes -/
def tScT (w : World) (g : TG) (tt : TT) (te : TE) (vs : List Nat) (σ : L2.St) (D : Addr) (Nx : Hp → Prop) (x : V) (H : Hp) : Prop :=
  g x (wipe σ vs) H fun σ2 H2 => wipe σ2 vs = wipe σ vs ∧ tt σ2 H2 fun b H3 => if b = true then te σ2 H3 fun y H4 => ∃ (k : Key) (S : Key → Bool) (n : Nat), y = kV k ∧ H4 D = some (SetMO w D S n) ∧ n + 1 < scanBound ∧ Nx (upd H4 D (SetMO w D (plus S k) (plusN S k n))) else Nx H3
/-- {elt for target in iter if ..} of ints and texts; D the new set -/
def tScM (w : World) (wi : TI) (g : TG) (tt : TT) (te : TE) (vs : List Nat) : TE := fun σ H Q => wi σ H fun J H1 => ∀ D, H1 D = none → ∃ W : Nat → Nat → Hp → Prop, (∃ m, W 0 m (upd H1 D (SetMO w D (fun _ => false) 0))) ∧
  ∀ i m H', W i m H' → (J.stop i H' ∧ Q (.ref D) H') ∨ (J.go i H' ∧ ∃ Nx : Hp → Prop, (∀ G, Nx G → ∃ m', m' < m ∧ W (i + 1) m' G) ∧ ∀ x G, J.yld i H' x G → tScT w g tt te vs σ D Nx x G)
/-- how a turn begins: i turns are done -/
def AtM (Y : Cx) (fp : List Addr) (tn : Nat → Heap → Prop) (ς : L2.St) (W : Nat → Nat → Hp → Prop) (m : Nat) (s : Shared) : Prop := ∃ i H, Inv Y [] ς H s ∧ tn i s.heap ∧ (∀ b ∈ fp, H b = none) ∧ W i m H
theorem scM_loop {Y : Cx} {elt tg iter : Expr} {ifs : List Expr} {scope : Scope} {pos : Pos} {g : TG} {tt : TT} {te : TE} {vs : List Nat} {J : It} {fp : List Addr} {it D : Addr} {tn : Nat → Heap → Prop} {Qd : Hp → Prop} {W : Nat → Nat → Hp → Prop} {R : Result → Shared → Prop}
    (hc : Y.calm = true) (hx : Y.xe = fun _ _ => False) (T : Turn Y.prog Y.w Y.K tg J fp it tn) (pg : PG Y tg g) (pt : PTs Y ifs tt) (pe : PE Y elt te)
    (own : ∀ {σ' : L2.St} {H' : Hp} {s' : Shared}, Inv Y [] σ' H' s' → (∀ b ∈ fp, H' b = none) → ∀ b ∈ fp, FpOk Y [] H' b)
    (step : ∀ i m H', W i m H' → (J.stop i H' ∧ Qd H') ∨ (J.go i H' ∧ ∃ Nx : Hp → Prop, (∀ G, Nx G → ∃ m', m' < m ∧ W (i + 1) m' G) ∧ ∀ x G, J.yld i H' x G → tScT Y.w g tt te vs σ D Nx x G))
    (done : ∀ H' s', Inv Y [] (wipe σ vs) H' s' → Qd H' → R (.ok .next) s') (m : Nat) (s : Shared) (h : AtM Y fp tn (wipe σ vs) W m s) :
    codeAny (model Y.prog Y.w) Y.A (.compLoop (.SetComp elt [⟨tg, iter, ifs, 0⟩] scope pos) 0 (.ref it) (.ref D) Y.env) R s := by
  refine PpSet.compLoopS_any (AtM Y fp tn (wipe σ vs) W) (fun m s at_ => ?_) m h
  obtain ⟨i, H1, I1, t1, free1, w1⟩ := at_
  rcases step i m H1 w1 with ⟨stop, qd⟩ | ⟨go, Nx, less, each⟩
  · refine thnF (T.done Y rfl rfl rfl hc i [] s _ H1 (fun _ _ => False) I1 (own I1 free1) t1 stop) fun r s2 ⟨e, I2⟩ => ?_
    subst e
    exact done H1 s2 I2 qd
  · refine thnF (T.item Y rfl rfl rfl hc i [] s _ H1 (fun _ _ => False) I1 (own I1 free1) t1 go) fun r s2 ⟨u, e, got⟩ => ?_
    subst e
    refine thnF got fun _ s3 ⟨x, H3, I3, ru, hy, t3, free3⟩ => ?_
    have held := T.obj _ _ t3
    have P3 := I3.pinned (own I3 free3) held
    have body := each x H3 hy
    -- what stands behind a turn
    have behind : ∀ {ς : L2.St} {G : Hp} {s' : Shared}, wipe ς vs = wipe σ vs → Inv Y ([] ++ pinsAt fp s3.heap) ς G s' → Nx G → ∃ m', m' < m ∧ AtM Y fp tn (wipe σ vs) W m' s' := fun {ς G s'} ew J nx => by
      obtain ⟨m', lt, w'⟩ := less G nx
      have kept : ∀ b ∈ fp, ∀ o, s3.heap.get? b = some o → s'.heap.get? b = some o ∧ G b = none := fun b hb o e =>
        have y := J.pin (b, o) (List.mem_append_right _ (List.mem_append_right _ (mem_pinsAt hb e)))
        ⟨y.1, y.2.1⟩
      refine ⟨m', lt, i + 1, G, (J.unpinned (pins := [])).weak (by rw [← ew, wipe_length]) (fun j v e => ?_), T.keep _ _ _ t3 fun b hb o e => (kept b hb o e).1, fun b hb => ?_, w'⟩
      · exact (wipe_some (ew ▸ e)).1
      · have ⟨o, e, _⟩ := held b hb
        exact (kept b hb o e).2
    refine thnF (hx ▸ pg.run _ s3 _ H3 x u _ P3 ru body) fun _ s4 ⟨ς, H4, I4, ew, q4⟩ => ?_
    refine thnF (hx ▸ pt.run _ s4 ς H4 _ I4 q4) fun b s5 ⟨H5, I5, q5⟩ => ?_
    cases b with
    | false =>
      rw [if_neg Bool.false_ne_true] at q5 ⊢
      exact behind ew I5 q5
    | true =>
      rw [if_pos rfl] at q5 ⊢
      refine thnF (hx ▸ pe.run _ s5 ς H5 _ I5 q5) fun v s6 ⟨y, H6, I6, rv, k, S, n, ey, hD, room, nx⟩ => ?_
      rw [ey] at rv
      exact addMO I6 hD (kV_is (P := Y.prog) (w := Y.w) rv) room fun s7 I7 => behind ew I7 nx
/-- the comprehension -/
theorem pe_scM {elt tg iter : Expr} {ifs : List Expr} {scope : Scope} {own : List (PySem.Str × Nat)} {pos : Pos} {wi : TI} {g : TG} {tt : TT} {te : TE} (hc : X.calm = true) (hN : X.N.Nodup) (hi : PI X tg iter wi) (ok : BlkOk X.N X.env.scope scope own)
    (hg : ∀ (s : Shared) (H : Hp) (C : Addr) (cl : List (PySem.Str × Addr)) (fp : List Addr), PG (X.blk s H scope (compEnvC scope cl C X.env) fp) tg g)
    (ht : ∀ (s : Shared) (H : Hp) (C : Addr) (cl : List (PySem.Str × Addr)) (fp : List Addr), PTs (X.blk s H scope (compEnvC scope cl C X.env) fp) ifs tt)
    (he : ∀ (s : Shared) (H : Hp) (C : Addr) (cl : List (PySem.Str × Addr)) (fp : List Addr), PE (X.blk s H scope (compEnvC scope cl C X.env) fp) elt te)
    (hs : ∀ x, foldedSetIterable iter X.env x = pure x := by intro _; rfl) :
    PE X (.SetComp elt [⟨tg, iter, ifs, 0⟩] scope pos) (tScM X.w wi g tt te (own.map (·.2))) := by
  refine .mk fun pins s σ H Q I h => ?_
  rw [PpSet.eval_SetComp]
  refine wpAny_comprehension_free (use := none) rfl hs (closure_ok fun y hy e => (ok.free y hy e).elim (fun k => I.ok.has _ (.inl k)) fun k => I.ok.has _ (.inr k)) ok.kind (fun y hy e => by rw [ok.uniq y hy, e])
    (thn (hi.run pins s σ H _ I h) fun _ s1 came => thn came fun itv s2 ⟨it, fp, tn, J, H2, e, I2, T, t2, fp2, q⟩ => ?_)
  subst e
  refine PpSet.newSet_ok (newEnv_comp ?_)
  have free2 : H2 s2.heap.objs.size = none := I2.hok.fresh (Nat.le_refl _)
  obtain ⟨W, ⟨m, w0⟩, step⟩ := q _ free2
  generalize hS : ({ s2 with heap := s2.heap.push { cls := .type "set", dict := none, data := .set #[] 0 (.fresh 0 0 (!X.w.params.followText "set-order")) } } : Shared) = s3
  have grown : ∀ b o, s2.heap.get? b = some o → s3.heap.get? b = some o := fun b o e => by rw [← hS]; exact Heap.get?_push_of_some _ e
  have size3 : s3.heap.objs.size = s2.heap.objs.size + 1 := by rw [← hS]; exact Heap.size_push _ _
  have I3 : Inv X pins σ (upd H2 s2.heap.objs.size (SetMO X.w s2.heap.objs.size (fun _ => false) 0)) s3 := by
    rw [← hS]
    exact I2.laid (t' := s2.toks) (fun b o e => Heap.get?_push_of_some _ e) (Nat.le_refl _) (setMO_ok (setM_new X.w))
  have fp3 : ∀ b ∈ fp, FpOk X pins (upd H2 s2.heap.objs.size (SetMO X.w s2.heap.objs.size (fun _ => false) 0)) b ∧ b < s3.heap.objs.size := fun b hb => by
    have ⟨o, e, _⟩ := T.obj _ _ t2 b hb
    have lt := Heap.lt_size e
    exact ⟨⟨by rw [upd_ne (Nat.ne_of_lt lt)]; exact (fp2 b hb).1, (fp2 b hb).2⟩, by rw [size3]; exact Nat.lt_succ_of_lt lt⟩
  generalize hH : upd H2 s2.heap.objs.size (SetMO X.w s2.heap.objs.size (fun _ => false) 0) = H3 at I3 fp3 w0
  generalize hD : s2.heap.objs.size = D at *
  have t3 : tn 0 s3.heap := T.keep _ _ _ t2 fun b _ o e => grown b o e
  have IB := block_start I3 ok hN fp3
  have pg := hg s3 H3 s3.heap.objs.size (cellsFrom (s3.heap.objs.size + 1) scope.names (cloFrom X.env.cells scope.names [])) fp
  have pt := ht s3 H3 s3.heap.objs.size (cellsFrom (s3.heap.objs.size + 1) scope.names (cloFrom X.env.cells scope.names [])) fp
  have pe := he s3 H3 s3.heap.objs.size (cellsFrom (s3.heap.objs.size + 1) scope.names (cloFrom X.env.cells scope.names [])) fp
  show codeAny _ _ (.compStart (.SetComp elt [⟨tg, iter, ifs, 0⟩] scope pos) 0 (.ref it) (.ref D) (compEnvC scope (cellsFrom (s3.heap.objs.size + 1) scope.names (cloFrom X.env.cells scope.names [])) s3.heap.objs.size X.env))
    (compPost (model X.prog X.w) X.A X.xe none (fun u s1 => ∃ x H1, Inv X pins σ H1 s1 ∧ RelV x u ∧ Q x H1) (.ref D) s3.heap.objs.size) { s3 with heap := pushCells (s3.heap.push { cls := .type "dict", data := .dict #[] }) scope.names }
  generalize hce : compEnvC scope (cellsFrom (s3.heap.objs.size + 1) scope.names (cloFrom X.env.cells scope.names [])) s3.heap.objs.size X.env = ce at IB pg pt pe ⊢
  have locC : ce.locals = s3.heap.objs.size := by rw [← hce]; rfl
  generalize hB : ({ s3 with heap := pushCells (s3.heap.push { cls := .type "dict", data := .dict #[] }) scope.names } : Shared) = sB at IB ⊢
  have tB : tn 0 sB.heap := T.keep _ _ _ t3 fun b _ o e => by rw [← hB]; exact pushCells_keeps _ _ _ _ (Heap.get?_push_of_some _ e)
  have run : codeAny (model X.prog X.w) X.A (.compLoop (.SetComp elt [⟨tg, iter, ifs, 0⟩] scope pos) 0 (.ref it) (.ref D) ce) (compPost (model X.prog X.w) X.A X.xe none (fun u s1 => ∃ x H1, Inv X pins σ H1 s1 ∧ RelV x u ∧ Q x H1) (.ref D) s3.heap.objs.size) sB :=
    scM_loop (Y := X.blk s3 H3 scope ce fp) (σ := σ) (Qd := fun G => Q (.ref D) G) (W := W) hc rfl T pg pt pe
      (fun {σ' H' s'} J none b hb => ⟨none b hb, (J.ok.exf b hb).1, J.ok.exfs b hb, .inl hb, fun x c e => (J.ok.exf b hb).2 x c e, fun p hp => absurd (show p ∈ ([] : List (Addr × Obj)) ++ [] from hp) (by simp)⟩)
      step (fun G s4 J qd => ?_) m sB ⟨0, H3, IB, tB, fun b hb => (fp3 b hb).1.1, w0⟩
  · exact PpSet.codeAny_compStart_set run (T.self X.A 0 _ _ _ tB run)
  · -- back where the comprehension stands
    have back : Inv X pins σ G s4 := I3.call' (ch := fp) J.os J.base J.hok J.bare fun b hb => ⟨(fp3 b hb).1.2.2.2.1, (fp3 b hb).1.2.1, (fp3 b hb).1.2.2.2.2.1, (fp3 b hb).1.2.2.2.2.2⟩
    have freeC : G s3.heap.objs.size = none := locC ▸ J.free
    obtain ⟨mm, ns, _⟩ := J.loc
    refine ⟨mm, locC ▸ ns, fun h' same => ?_⟩
    obtain ⟨f0, f1, f2, f3, f4, f5⟩ := I3.fpOk (Nat.le_refl _) freeC
    exact ⟨.ref D, G, back.turned (t' := s4.toks) (fun b o hb e => (same.2 b hb).trans e) f0 f1 f3 f4 f5, rfl, qd⟩
/-! ### sorted -/
def rSortM (w : World) : List V → Hp → VK → Prop := fun vs H Q => ∃ (a : Addr) (S : Key → Bool) (n : Nat), vs = [.ref a] ∧ H a = some (SetMO w a S n) ∧ n < 64 ∧
  (((∀ k, S k = true → ∃ x, k = Sum.inr x) ∧ ∀ (ys : List Str) (p : Addr), ys.Nodup → sortedS ys = true → (∀ x, x ∈ ys ↔ S (.inr x) = true) → H p = none → Q (.ref p) (upd H p (.lst (ys.map V.str)))) ∨
   ((∀ k, S k = true → ∃ i, k = Sum.inl i) ∧ ∀ (ns : List Int) (p : Addr), ns.Nodup → ns.Pairwise (· ≤ ·) → (∀ i, i ∈ ns ↔ S (.inl i) = true) → H p = none → Q (.ref p) (upd H p (.lst (ns.map V.int)))))
theorem strsM : ∀ (vs : List Value), (∀ v ∈ vs, ∃ x t, v = Value.str x t) → StrsAre vs (vs.map fun v => match v with | .str x _ => x | _ => Str.empty)
  | [], _ => .nil
  | v :: vs, h => by
    obtain ⟨x, t, rfl⟩ := h v List.mem_cons_self
    exact .cons x t (strsM vs fun u hu => h u (List.mem_cons_of_mem _ hu))
theorem intsM : ∀ (vs : List Value), (∀ v ∈ vs, ∃ i t, v = Value.int i t) → IntsAre vs (vs.map fun v => match v with | .int i _ => i | _ => 0)
  | [], _ => .nil
  | v :: vs, h => by
    obtain ⟨i, t, rfl⟩ := h v List.mem_cons_self
    exact .cons i t (intsM vs fun u hu => h u (List.mem_cons_of_mem _ hu))
def strOf (k : Key) : Str := match k with | .inr x => x | _ => Str.empty
def intOf (k : Key) : Int := match k with | .inl i => i | _ => 0
theorem cr_sortM (hc : X.calm = true) : CallR X (.builtin "sorted") (rSortM X.w) := by
  intros pins s σ H xs us Q I r q
  obtain ⟨a, S, n, rfl, ha, few, q⟩ := q
  rw [Vals.ref1 r]
  obtain ⟨o, es, ep, t, ho, hex, hd, J⟩ := setMO_at I ha
  refine (Calls.call_function_entry PyProof.Rows.kind_sorted PyProof.Rows.plain_sorted PyProof.Rows.entry_sorted (PyProof.Rows.args_sorted1 _) ?_)
  unfold Builtin.«sorted»
  refine (wpAny_bind (m := checkCount "sorted" 1 1 _) (wpAny_pure ?_))
  refine wpAny_bind (collect_set (A := X.A.in1) (I.ok.hd hc) ⟨o, ho, hex.1, hd⟩ J.fits J.few J.ris J.led fun s1 vs k1 hz g1 o1 pm => ?_)
  have len : vs.length = n := by rw [pm.length_eq, List.length_map, Array.length_toList]; exact J.size
  have key : ∀ v ∈ vs, ∃ k, keyIs k v = true ∧ S k = true := fun v hv => by
    rcases List.mem_map.mp (pm.mem_iff.mp hv) with ⟨e, he, q⟩
    obtain ⟨k, h1, _⟩ := J.good e he
    exact ⟨k, q ▸ h1, (J.mem k).2 (List.mem_map.mpr ⟨e, he, keyM_of h1⟩)⟩
  have keys : (vs.map fun v => keyM (0, v)).Perm (es.toList.map keyM) := by
    have := pm.map fun v => keyM (0, v)
    rwa [List.map_map] at this
  have nd : (vs.map fun v => keyM (0, v)).Nodup := keys.nodup_iff.mpr J.nd
  have mem : ∀ k, k ∈ vs.map (fun v => keyM (0, v)) ↔ S k = true := fun k => keys.mem_iff.trans (J.mem k).symm
  have I1 : Inv X pins σ H s1 := I.call' (ch := []) o1 (Un.kept k1) (I.hok.kept k1) (by rw [g1]; exact I.bare) (fun _ z => nomatch z)
  refine wpAny_bind (wpAny_newList ?_ (by rw [len, sizeLine_eq]; omega))
  have at1 : (s1.heap.push (seqObj "list" vs.toArray 0)).get? s1.heap.objs.size = some (seqObj "list" vs.toArray 0) := Heap.get?_push_size _ rfl
  have old : ∀ (out : Array Value) b u, s1.heap.get? b = some u → (PyProof.Rows.sortedHeap (s1.heap.push (seqObj "list" vs.toArray 0)) s1.heap.objs.size vs out).get? b = some u := fun out b u e => by
    have lt := Heap.lt_size e
    rw [PyProof.Rows.sortedHeap_old (Nat.ne_of_lt lt) (by rw [size_push']; exact Nat.lt_succ_of_lt lt)]
    exact (Heap.get?_push_of_some _ e)
  have fresh := I1.hok.fresh (Nat.le_refl s1.heap.objs.size)
  rcases q with ⟨all, q⟩ | ⟨all, q⟩
  · have hS := strsM vs fun v hv => by
      obtain ⟨k, h1, h2⟩ := key v hv
      obtain ⟨x, rfl⟩ := all k h2
      rcases keyIs_shape h1 with ⟨i, t, e, _⟩ | ⟨y, t, _, e⟩
      · cases e
      · exact ⟨y, t, e⟩
    refine wpAny_bind (wpAny_holding (wpAny_call_entry PyProof.Rows.slot_list_sort ⟨_, at1, rfl⟩ PyProof.Rows.entry_list_sort
      (list_sort_treeK strKind_oneLt at1 hS.keysOf (fun v₁ v₂ rest e => keyKind_strs (by rw [← e]; exact hS)) (by rw [len]; exact few) fun st' hp hs => ⟨_, rfl, ?_⟩) (PyProof.Rows.args_list_sort _)))
    obtain ⟨ys, y1, y2, y3⟩ := sorted_out_str hS hp hs
    obtain ⟨c, at2⟩ := PyProof.Rows.sortedHeap_at (vs := vs) (out := (arrOf st').map (·.2)) at1
    have lenY : (ys.map V.str).length ≤ sizeLine := by rw [List.length_map, y2.length_eq, List.length_map, len, sizeLine_eq]; omega
    have same : vs.map (fun v => keyM (0, v)) = (vs.map fun v => match v with | .str x _ => x | _ => Str.empty).map Sum.inr := by
      rw [List.map_map]
      refine List.map_congr_left fun v hv => ?_
      obtain ⟨k, h1, h2⟩ := key v hv
      obtain ⟨x, rfl⟩ := all k h2
      rcases keyIs_shape h1 with ⟨i, t, e, _⟩ | ⟨y, t, _, rfl⟩
      · cases e
      · rfl
    rw [same] at nd mem
    have nd2 : ys.Nodup := y2.nodup_iff.mpr (List.Pairwise.of_map Sum.inr (fun a b h e => h (by rw [e])) nd)
    have mem2 : ∀ x, x ∈ ys ↔ S (.inr x) = true := fun x => by
      rw [y2.mem_iff, ← mem (.inr x), List.mem_map (b := (Sum.inr x : Key))]
      exact ⟨fun h => ⟨x, h, rfl⟩, fun ⟨y, h, e⟩ => by cases e; exact h⟩
    exact wpAny_pure ⟨_, rfl, .ref s1.heap.objs.size, upd H s1.heap.objs.size (.lst (ys.map V.str)), I1.laid (t' := s1.toks) (fun b u e => old _ b u e) (Nat.le_refl _)
      (show ObjOk X.prog X.w _ _ _ (.lst (ys.map V.str)) from ⟨lenY, ((arrOf st').map (·.2)).toList, c, vals_of_strs y1, by rw [Array.toArray_toList]; exact at2⟩), rfl, q ys _ nd2 y3 mem2 fresh⟩
  · have hI := intsM vs fun v hv => by
      obtain ⟨k, h1, h2⟩ := key v hv
      obtain ⟨x, rfl⟩ := all k h2
      rcases keyIs_shape h1 with ⟨i, t, _, e⟩ | ⟨y, t, e, _⟩
      · exact ⟨i, t, e⟩
      · cases e
    refine wpAny_bind (wpAny_holding (wpAny_call_entry slot_list_sort ⟨_, at1, rfl⟩ entry_list_sort (list_sort_tree at1 hI (by rw [len]; exact few) fun out ns y1 y2 y3 => ⟨_, rfl, ?_⟩) (args_list_sort _)))
    obtain ⟨c, at2⟩ := PyProof.Rows.sortedHeap_at (vs := vs) (out := out) at1
    have lenY : (ns.map V.int).length ≤ sizeLine := by rw [List.length_map, y2.length_eq, List.length_map, len, sizeLine_eq]; omega
    have same : vs.map (fun v => keyM (0, v)) = (vs.map fun v => match v with | .int i _ => i | _ => 0).map Sum.inl := by
      rw [List.map_map]
      refine List.map_congr_left fun v hv => ?_
      obtain ⟨k, h1, h2⟩ := key v hv
      obtain ⟨x, rfl⟩ := all k h2
      rcases keyIs_shape h1 with ⟨i, t, _, rfl⟩ | ⟨y, t, e, _⟩
      · rfl
      · cases e
    rw [same] at nd mem
    have nd2 : ns.Nodup := y2.nodup_iff.mpr (List.Pairwise.of_map Sum.inl (fun a b h e => h (by rw [e])) nd)
    have mem2 : ∀ x, x ∈ ns ↔ S (.inl x) = true := fun x => by
      rw [y2.mem_iff, ← mem (.inl x), List.mem_map (b := (Sum.inl x : Key))]
      exact ⟨fun h => ⟨x, h, rfl⟩, fun ⟨y, h, e⟩ => by cases e; exact h⟩
    exact wpAny_pure ⟨_, rfl, .ref s1.heap.objs.size, upd H s1.heap.objs.size (.lst (ns.map V.int)), I1.laid (t' := s1.toks) (fun b u e => old _ b u e) (Nat.le_refl _)
      (show ObjOk X.prog X.w _ _ _ (.lst (ns.map V.int)) from ⟨lenY, out.toList, c, vals_of_ints y1, by rw [Array.toArray_toList]; exact at2⟩), rfl, q ns _ nd2 y3 mem2 fresh⟩
end
end SMx

/-! U16 -/
/-! sorted of texts, sorted of a set comprehension -/
namespace UW
open PySem PySem.Spec PyProof.Rows L2 SMx
/-! ### the order of texts -/
def leS (x y : Str) : Bool := !ltCps y.cps.toList x.cps.toList
theorem ltN_irr : ∀ a : List Nat, ltCps a a = false
  | [] => rfl
  | x :: r => by rw [ltCps_eq]; exact decide_eq_false (List.lt_irrefl _)
theorem leS_trans (x y z : Str) (h1 : leS x y = true) (h2 : leS y z = true) : leS x z = true := by
  unfold leS at *
  rw [ltCps_eq] at *
  simp only [Bool.not_eq_true', decide_eq_false_iff_not] at *
  exact List.le_trans (l₁ := x.cps.toList) h1 h2
theorem leS_total (x y : Str) : (leS x y || leS y x) = true := by
  unfold leS
  rw [ltCps_eq, ltCps_eq]
  simp only [Bool.or_eq_true, Bool.not_eq_true', decide_eq_false_iff_not]
  exact List.le_total x.cps.toList y.cps.toList
theorem leS_anti (x y : Str) (h1 : leS x y = true) (h2 : leS y x = true) : x = y := by
  unfold leS at *
  rw [ltCps_eq] at *
  simp only [Bool.not_eq_true', decide_eq_false_iff_not] at *
  have e := List.le_antisymm (as := x.cps.toList) (bs := y.cps.toList) h1 h2
  obtain ⟨a⟩ := x
  obtain ⟨b⟩ := y
  have : a = b := Array.toList_inj.mp e
  rw [this]
def sortT (xs : List Str) : List Str := xs.mergeSort leS
theorem rising_le : ∀ (r : List Str) (p : Str), risingS p r = true → ∀ y ∈ r, leS p y = true
  | [], _, _, y, h => nomatch h
  | x :: r, p, h, y, hy => by
    obtain ⟨h1, h2⟩ := Bool.and_eq_true_iff.mp (show (!ltCps x.cps.toList p.cps.toList && risingS x r) = true from h)
    obtain rfl | hy := List.mem_cons.mp hy
    · exact h1
    · exact leS_trans p x y h1 (rising_le r x h2 y hy)
theorem rising_pw : ∀ (r : List Str) (p : Str), risingS p r = true → (p :: r).Pairwise (fun a b => leS a b = true)
  | [], p, _ => List.pairwise_singleton _ _
  | x :: r, p, h => by
    refine List.pairwise_cons.mpr ⟨rising_le _ _ h, rising_pw r x ?_⟩
    exact (Bool.and_eq_true_iff.mp (show (!ltCps x.cps.toList p.cps.toList && risingS x r) = true from h)).2
theorem sortedS_pw : ∀ xs : List Str, sortedS xs = true → xs.Pairwise (fun a b => leS a b = true)
  | [], _ => .nil
  | x :: r, h => rising_pw r x h
theorem sorted_uni {α : Type} {le : α → α → Bool} (anti : ∀ x y, le x y = true → le y x = true → x = y) : ∀ {a b : List α}, a.Perm b → a.Pairwise (fun x y => le x y = true) → b.Pairwise (fun x y => le x y = true) → a = b
  | [], b, h, _, _ => by rw [List.nil_perm.mp h]
  | x :: r, [], h, _, _ => by cases List.perm_nil.mp h
  | x :: r, y :: u, h, ha, hb => by
    obtain ⟨a1, a2⟩ := List.pairwise_cons.mp ha
    obtain ⟨b1, b2⟩ := List.pairwise_cons.mp hb
    have e : x = y := by
      rcases List.mem_cons.mp (h.mem_iff.mp List.mem_cons_self) with e | m1
      · exact e
      rcases List.mem_cons.mp (h.mem_iff.mpr List.mem_cons_self) with e | m2
      · exact e.symm
      exact anti _ _ (a1 y m2) (b1 x m1)
    subst e
    rw [sorted_uni anti h.cons_inv a2 b2]
theorem sortT_is {a b : List Str} (h : a.Perm b) (ha : sortedS a = true) : a = sortT b :=
  sorted_uni leS_anti (h.trans (List.mergeSort_perm b _).symm) (sortedS_pw a ha) (List.pairwise_mergeSort leS_trans leS_total b)
/-! ### once -/
def once {α : Type} [DecidableEq α] : List α → List α
  | [] => []
  | x :: r => if x ∈ r then once r else x :: once r
theorem once_mem {α : Type} [DecidableEq α] {x : α} : ∀ xs : List α, x ∈ once xs ↔ x ∈ xs
  | [] => Iff.rfl
  | y :: r => by
    unfold once
    split
    · rename_i h
      rw [once_mem r, List.mem_cons]
      exact ⟨.inr, fun q => q.elim (fun e => e ▸ h) id⟩
    · rw [List.mem_cons, List.mem_cons, once_mem r]
theorem once_nd {α : Type} [DecidableEq α] : ∀ xs : List α, (once xs).Nodup
  | [] => .nil
  | y :: r => by
    unfold once
    split
    · exact once_nd r
    · rename_i h
      exact List.nodup_cons.mpr ⟨fun q => h ((once_mem r).mp q), once_nd r⟩
theorem nd_perm {α : Type} [DecidableEq α] : ∀ {a b : List α}, a.Nodup → b.Nodup → (∀ x, x ∈ a ↔ x ∈ b) → a.Perm b
  | [], b, _, _, h => by
    cases b with
    | nil => exact .nil
    | cons y t => exact absurd ((h y).mpr List.mem_cons_self) (by simp)
  | x :: r, b, ha, hb, h => by
    obtain ⟨a1, a2⟩ := List.nodup_cons.mp ha
    have hx := (h x).mp List.mem_cons_self
    refine .trans (.cons x (nd_perm a2 (hb.erase x) fun y => ?_)) (List.perm_cons_erase hx).symm
    rw [hb.mem_erase_iff, ← h y, List.mem_cons]
    exact ⟨fun m => ⟨fun e => a1 (e ▸ m), .inr m⟩, fun ⟨n, q⟩ => q.resolve_left n⟩
/-! ### the functions -/
def strsD : List D → Option (List Str)
  | [] => some []
  | .str x :: r => match strsD r with
    | some s => some (x :: s)
    | none => none
  | _ :: _ => none
def fSorted (xs : List D) : M D := match intsD xs with
  | some ns => mNew (.lst ((sortZ ns).map D.int))
  | none => match strsD xs with
    | some ts => if ts.length < 64 then mNew (.lst ((sortT ts).map D.str)) else mBad
    | none => mBad
/-- sorted of a list of ints, or of texts -/
def fSortA : List D → M D := ofLst some fSorted
def fSortSet (xs : List D) : M D := if xs.length < 64 then match intsD xs with
    | some ns => mNew (.lst ((sortZ (once ns)).map D.int))
    | none => match strsD xs with
      | some ts => mNew (.lst ((sortT (once ts)).map D.str))
      | none => mBad
  else mBad
/-- sorted({elt for target in iter if ..}) -/
def dSortSc (it : DI) (g : DG) (t : DT) (e : DE) (vs : List Nat) : DE := fun ρ => mBind (it ρ) fun w => mBind (mCalm (loopC w g t e (wipeE ρ vs) maxTurns 0)) fun ys => fSortSet ys
def rSortA (K : PySem.W.Frag) : List V → Hp → VK → Prop := fun vs H Q => rSortedI K vs H Q ∨ rSortedS K vs H Q
theorem cr_sortA {X : Cx} : CallR X (.builtin "sorted") (rSortA X.K) := fun pins s σ H xs us Q I r h => h.elim (cr_sortedI pins s σ H xs us Q I r) (cr_sortedS pins s σ H xs us Q I r)
theorem strs_map {g : Gb} {w : Wd} : ∀ (ts : List Str), RvA g w (ts.map V.str) (ts.map D.str)
  | [] => .nil
  | t :: r => .cons (.str t) (strs_map r)
theorem strs_of {g : Gb} {w : Wd} : ∀ {ds : List D} {bs : List Str} {vs : List V}, strsD ds = some bs → RvA g w vs ds → vs = bs.map V.str
  | [], bs, vs, e, a => by simp [strsD] at e; subst e; cases a; rfl
  | d :: ds, bs, vs, e, a => by
    cases a with
    | cons h t =>
      cases d with
      | str b =>
        simp only [strsD] at e
        cases q : strsD ds with
        | none => (rw [q] at e; cases e)
        | some s => rw [q] at e; cases e; cases h; rw [strs_of q t]; rfl
      | _ => simp [strsD] at e
section
variable {g : Gb} {W : WX}
theorem rws_sortA : RWs g (rSortA g.K) fSortA := fun w H z vs ds o r Q h => by
  obtain ⟨a, xs, us, x, rfl, h1, h2, e, q⟩ := ofLst_of o r h
  cases e
  unfold fSorted at q
  cases e1 : intsD xs with
  | some ns =>
    rw [e1] at q
    rw [ints_of e1 h2] at h1
    refine .inl ⟨a, ns, rfl, h1, fun ns' p hp hs hf => ?_⟩
    have e2 : ns' = sortZ ns := PySem.W.os_sorted_mergeSort hp hs
    subst e2
    obtain ⟨g2, r2⟩ := mk_lst (xs := (sortZ ns).map V.int) (ds := (sortZ ns).map D.int) o hf (ints_map _)
    exact (show QV g w H Q (.ref z.n) (z.new (.lst ((sortZ ns).map D.int))) from q) _ _ _ g2 r2
  | none =>
    rw [e1] at q
    simp only at q
    cases e2 : strsD xs with
    | none => rw [e2] at q; exact (show False from q).elim
    | some ts =>
      rw [e2] at q
      obtain ⟨few, q⟩ := sat_if q
      rw [strs_of e2 h2] at h1
      refine .inr ⟨a, ts, rfl, h1, few, fun ys p hp hs hf => ?_⟩
      have e3 : ys = sortT ts := sortT_is hp hs
      subst e3
      obtain ⟨g2, r2⟩ := mk_lst (xs := (sortT ts).map V.str) (ds := (sortT ts).map D.str) o hf (strs_map _)
      exact (show QV g w H Q (.ref z.n) (z.new (.lst ((sortT ts).map D.str))) from q) _ _ _ g2 r2
theorem nox_sortA : ∀ xs, NoX (fSortA xs) := nox_ofLst fun xs => by
  unfold fSorted
  split
  · exact nox_new
  · split
    · exact nox_ite nox_new nox_bad
    · exact nox_bad
/-! ### sorted of a set comprehension -/
def keyD : D → Option Key
  | .int i => some (.inl i)
  | .str x => some (.inr x)
  | _ => none
theorem keyD_val {w : Wd} {v : V} {d : D} {k : Key} (r : Rv g w v d) (h : keyD d = some k) : v = kV k := by
  cases d <;> first
    | (cases h; done)
    | (cases r; cases h; rfl)
theorem ints_keys : ∀ {xs : List D} {ns : List Int}, intsD xs = some ns → xs.map keyD = (ns.map (Sum.inl (β := Str))).map some
  | [], ns, e => by simp [intsD] at e; subst e; rfl
  | d :: ds, ns, e => by
    cases d with
    | int b =>
      simp only [intsD] at e
      cases q : intsD ds with
      | none => (rw [q] at e; cases e)
      | some s => rw [q] at e; cases e; simp [keyD, ints_keys q]
    | _ => simp [intsD] at e
theorem strs_keys : ∀ {xs : List D} {ns : List Str}, strsD xs = some ns → xs.map keyD = (ns.map (Sum.inr (α := Int))).map some
  | [], ns, e => by simp [strsD] at e; subst e; rfl
  | d :: ds, ns, e => by
    cases d with
    | str b =>
      simp only [strsD] at e
      cases q : strsD ds with
      | none => (rw [q] at e; cases e)
      | some s => rw [q] at e; cases e; simp [keyD, strs_keys q]
    | _ => simp [strsD] at e
/-- what is told where a set is sorted -/
theorem sortSet_of {xs : List D} {z : PH} {P : D → PH → Prop} {E : XD} (h : Sat (fSortSet xs z) P E) : xs.length < 64 ∧ ((∃ ns, intsD xs = some ns ∧ P (.ref z.n) (z.new (.lst ((sortZ (once ns)).map D.int)))) ∨ ∃ ts, strsD xs = some ts ∧ P (.ref z.n) (z.new (.lst ((sortT (once ts)).map D.str)))) := by
  obtain ⟨few, h⟩ := sat_if (show Sat ((if xs.length < 64 then _ else mBad : M D) z) P E from h)
  refine ⟨few, ?_⟩
  cases e1 : intsD xs with
  | some ns => rw [e1] at h; exact .inl ⟨ns, rfl, h⟩
  | none =>
    rw [e1] at h
    simp only at h
    cases e2 : strsD xs with
    | none => rw [e2] at h; exact (show False from h).elim
    | some ts => rw [e2] at h; exact .inr ⟨ts, rfl, h⟩
theorem sortSet_keys {xs : List D} {z : PH} {P : D → PH → Prop} {E : XD} (h : Sat (fSortSet xs z) P E) : ∃ ks : List Key, xs.map keyD = ks.map some ∧ ks.length < 64 := by
  obtain ⟨few, ⟨ns, e, _⟩ | ⟨ts, e, _⟩⟩ := sortSet_of h
  · have q := ints_keys e
    exact ⟨_, q, by have := congrArg List.length q; simp only [List.length_map] at this ⊢; omega⟩
  · have q := strs_keys e
    exact ⟨_, q, by have := congrArg List.length q; simp only [List.length_map] at this ⊢; omega⟩
theorem setM_code {w0 : World} {p : Addr} {S : Key → Bool} {n : Nat} {q : Str} : SetMO w0 p S n ≠ LamX.CodeO p q := fun z => by
  have z : HO.ext (fun h => SetM w0 h p S n) = HO.ext _ := z
  injection z with z
  have hp : ({ objs := Array.replicate (p + 1) { cls := .none, data := .fields #[.none, .str q 0] } } : Heap).get? p = some { cls := .none, data := .fields #[.none, .str q 0] } := by
    unfold Heap.get?
    simp
  have y := congrFun z { objs := Array.replicate (p + 1) { cls := .none, data := .fields #[.none, .str q 0] } }
  obtain ⟨o, es, ep, t, h1, _, h2, _⟩ := y.mpr ⟨_, #[.none, .str q 0], 0, hp, rfl, rfl⟩
  rw [hp] at h1
  cases h1
  cases h2
theorem cold_setM {w0 : World} {p : Addr} {S : Key → Bool} {n : Nat} : Cold (SetMO w0 p S n) := fun ps z => by
  have z : HO.ext _ = HO.tbl ps := z
  cases z
theorem setM_not {w0 : World} {p : Addr} {S : Key → Bool} {n : Nat} {H : Hp} (h : H p = some (SetMO w0 p S n)) : ∀ q, H p ≠ some (LamX.CodeO p q) := fun q z => by
  rw [h] at z
  exact setM_code (Option.some.inj z)
/-- what a set under way is: the keys so far -/
structure SetSt (g : Gb) (w0 : World) (w1 : Wd) (H1 : Hp) (Dl : Addr) (w : Wd) (z : PH) (H : Hp) (acc : List D) : Prop where
  go : Go g w1 H1 z w H
  off : ∀ n : Nat, w.io[n]? ≠ some Dl
  bk : w.B Dl = none
  ob : ∃ (ks : List Key) (S : Key → Bool) (n : Nat), acc.map keyD = ks.map some ∧ (∀ k, S k = true ↔ k ∈ ks) ∧ n ≤ ks.length ∧ H Dl = some (SetMO w0 Dl S n)
theorem SetSt.goes {w0 : World} {w1 w w' : Wd} {H1 H H' : Hp} {Dl : Addr} {z z' : PH} {acc : List D} (s : SetSt g w0 w1 H1 Dl w z H acc) (b : Go g w H z' w' H') : SetSt g w0 w1 H1 Dl w' z' H' acc := by
  obtain ⟨ks, S, n, h1, h2, h3, h4⟩ := s.ob
  exact ⟨s.go.trans b, b.notI s.off ⟨_, h4, cold_setM⟩, b.sep Dl s.bk ⟨_, h4, cold_setM⟩, ks, S, n, h1, h2, h3, b.fr _ _ s.off cold_setM h4⟩
theorem sat_end {α : Type} {m : Out α} {P : α → PH → Prop} (h : Sat m P fun _ _ _ => False) : ∃ a z, P a z := by
  cases m with
  | ok a z => exact ⟨a, z, h⟩
  | exc c fs z => exact h.elim
  | bad => exact (show False from h).elim
theorem ev_sortSc {w0 : World} {ti : TI} {gt : TG} {tt : TT} {te : TE} {vs is : List Nat} {di : DI} {dg : DG} {dt : DT} {de : DE} (hi : EvI g W ti di) (hg : EvG g gt is dg) (ht : EvT g WNo tt dt) (he : EvE g WNo te de) (hs : ∀ i ∈ is, i ∈ vs) :
    EvE g W (tCB (rSortM w0) (tCons (tScM w0 ti gt tt te vs) tNil)) (dSortSc di dg dt de vs) := fun w σ H z ρ E o Q h => by
  refine hi w σ H z ρ E o _ (sat_mono (sat_bind h) (fun it z1 s1 w1 J H1 g1 wk => ?_) fun _ _ _ q => q)
  intro Dl hD
  obtain ⟨nI, nB⟩ := g1.ok.fresh hD
  have s2 := sat_calm (sat_bind s1)
  have E1 := E.mono g1.le
  refine ⟨fun i m H' => ∃ w' z' acc, SetSt g w0 w1 H1 Dl w' z' H' acc ∧ i + m = maxTurns ∧ Sat (loopC it dg dt de (wipeE ρ vs) m i z') (fun ys z2 => Sat (fSortSet (acc ++ ys) z2) (QV g w H Q) (QX g w H σ W)) (fun _ _ _ => False),
    ⟨maxTurns, w1, z1, [], ⟨(Go.refl g1.ok).mut hD nB nI cold_setM (not_tbl0 hD) (not_code0 hD), nI, nB, [], _, 0, rfl, fun k => by simp, Nat.le_refl _, upd_same⟩, Nat.zero_add _, s2⟩, fun i m H' hw => ?_⟩
  obtain ⟨w', z', acc, st, hm, hs'⟩ := hw
  cases m with
  | zero => exact (show False from hs').elim
  | succ m =>
    have wki := wk i w' H' z' st.go
    unfold loopC at hs'
    cases e : it i z' with
    | stop =>
      rw [e] at wki
      simp only [e] at hs'
      refine .inl ⟨wki, ?_⟩
      have hs' : Sat (fSortSet (acc ++ []) z') (QV g w H Q) (QX g w H σ W) := hs'
      rw [List.append_nil] at hs'
      obtain ⟨ks, S, n, k1, k2, k3, k4⟩ := st.ob
      have kl : ks.length = acc.length := by have := congrArg List.length k1; simpa using this.symm
      obtain ⟨few, ⟨ns, e1, q⟩ | ⟨ts, e1, q⟩⟩ := sortSet_of hs'
      · have ek : ks = ns.map Sum.inl := by
          have := (ints_keys e1).symm.trans k1
          exact (List.map_inj_right (fun _ _ h => Option.some.inj h)).mp this.symm
        subst ek
        refine ⟨Dl, S, n, rfl, k4, by omega, .inr ⟨fun k hk => ?_, fun ns' p nd hp hm' hf => ?_⟩⟩
        · obtain ⟨i, _, e⟩ := List.mem_map.mp ((k2 k).mp hk)
          exact ⟨i, e.symm⟩
        · have e2 : ns' = sortZ (once ns) := PySem.W.os_sorted_mergeSort (nd_perm nd (once_nd _) fun x => by
            rw [hm' x, k2, once_mem, List.mem_map]
            exact ⟨fun ⟨y, h, e⟩ => by cases e; exact h, fun h => ⟨x, h, rfl⟩⟩) hp
          subst e2
          obtain ⟨g2, r2⟩ := mk_lst (xs := (sortZ (once ns)).map V.int) (ds := (sortZ (once ns)).map D.int) st.go.ok hf (ints_map _)
          exact q _ _ _ (g1.trans (st.go.trans g2)) r2
      · have ek : ks = ts.map Sum.inr := by
          have := (strs_keys e1).symm.trans k1
          exact (List.map_inj_right (fun _ _ h => Option.some.inj h)).mp this.symm
        subst ek
        refine ⟨Dl, S, n, rfl, k4, by omega, .inl ⟨fun k hk => ?_, fun ys p nd hp hm' hf => ?_⟩⟩
        · obtain ⟨i, _, e⟩ := List.mem_map.mp ((k2 k).mp hk)
          exact ⟨i, e.symm⟩
        · have e2 : ys = sortT (once ts) := sortT_is (nd_perm nd (once_nd _) fun x => by
            rw [hm' x, k2, once_mem, List.mem_map]
            exact ⟨fun ⟨y, h, e⟩ => by cases e; exact h, fun h => ⟨x, h, rfl⟩⟩) hp
          subst e2
          obtain ⟨g2, r2⟩ := mk_lst (xs := (sortT (once ts)).map V.str) (ds := (sortT (once ts)).map D.str) st.go.ok hf (strs_map _)
          exact q _ _ _ (g1.trans (st.go.trans g2)) r2
    | bad => simp only [e] at hs'; exact (show False from hs').elim
    | item d =>
      rw [e] at wki
      simp only [e] at hs'
      obtain ⟨hgo, hy⟩ := wki
      refine .inr ⟨hgo, fun H3 => ∃ w3 z3 acc, SetSt g w0 w1 H1 Dl w3 z3 H3 acc ∧ i + 1 + m = maxTurns ∧ Sat (loopC it dg dt de (wipeE ρ vs) m (i + 1) z3) (fun ys z2 => Sat (fSortSet (acc ++ ys) z2) (QV g w H Q) (QX g w H σ W)) (fun _ _ _ => False),
        fun H3 q => ⟨m, Nat.lt_succ_self m, q⟩, fun x H2 y => ?_⟩
      obtain ⟨w2, g2, r2⟩ := hy x H2 y
      have st2 := st.goes g2
      have E2 : EnvOk g w2 (L2.wipe σ vs) (wipeE ρ vs) := (E1.mono (st.go.le.trans g2.le)).wipe vs
      refine hg.run w2 (L2.wipe σ vs) H2 z' (wipeE ρ vs) x d E2 g2.ok r2 _ (sat_mono (sat_bind hs') (fun ρ3 z3 s3 w3 σ3 H3 g3 E3 off => ⟨wipe_off off hs, ?_⟩) fun _ _ _ q => q)
      have st3 := st2.goes g3
      refine ht w3 σ3 H3 z3 ρ3 E3 g3.ok _ (sat_mono (sat_bind s3) (fun k z4 s4 w4 H4 g4 => ?_) fun _ _ _ q => q.elim)
      have st4 := st3.goes g4
      cases k with
      | false => exact ⟨w4, z4, acc, st4, by omega, s4⟩
      | true =>
        refine he w4 σ3 H4 z4 ρ3 (E3.mono g4.le) g4.ok _ (sat_mono (sat_bind s4) (fun dy z5 s5 w5 vy H5 g5 r5 => ?_) fun _ _ _ q => q.elim)
        have st5 := st4.goes g5
        obtain ⟨ks, S, n, k1, k2, k3, k4⟩ := st5.ob
        have kl : ks.length = acc.length := by have := congrArg List.length k1; simpa using this.symm
        have s6 : Sat (loopC it dg dt de (wipeE ρ vs) m (i + 1) z5) (fun ys z2 => Sat (fSortSet ((acc ++ [dy]) ++ ys) z2) (QV g w H Q) (QX g w H σ W)) (fun _ _ _ => False) :=
          sat_mono (sat_bind s5) (fun ys z6 s6 => by
            rw [List.append_assoc]
            exact (show Sat (fSortSet (acc ++ dy :: ys) z6) _ _ from s6)) fun _ _ _ q => q
        obtain ⟨ys, z6, last⟩ := sat_end s6
        obtain ⟨ks', m1, m2⟩ := sortSet_keys last
        have kd : ∃ k, keyD dy = some k := by
          rw [List.append_assoc, List.map_append] at m1
          have : keyD dy ∈ ks'.map some := by rw [← m1]; exact List.mem_append_right _ List.mem_cons_self
          obtain ⟨k, _, e⟩ := List.mem_map.mp this
          exact ⟨k, e.symm⟩
        obtain ⟨k, ek⟩ := kd
        have short : acc.length < 64 := by
          have := congrArg List.length m1
          simp only [List.length_map, List.length_append, List.length_singleton] at this
          omega
        refine ⟨k, S, n, keyD_val r5 ek, k4, Nat.lt_of_le_of_lt (show n + 1 ≤ 64 by omega) (by decide), w5, z5, acc ++ [dy], ⟨st5.go.mut hD st5.bk st5.off cold_setM (not_tbl k4 cold_setM) (setM_not k4), st5.off, st5.bk, ks ++ [k], _, _, by rw [List.map_append, List.map_append, k1]; simp [ek], fun j => ?_, ?_, upd_same⟩, by omega, s6⟩
        · show (S j || decide (j = k)) = true ↔ _
          rw [Bool.or_eq_true, decide_eq_true_eq, k2, List.mem_append, List.mem_singleton]
        · unfold plusN
          rw [List.length_append]; rw [List.length_singleton]
          split <;> omega
end
end UW

/-! V1 -/
namespace UW
open PySem PySem.Spec PyProof.Rows L2
/-! ### a caught exception is an object of the heap -/
def exG (cl : Value) (dc : Option Addr) (a : Addr) : HO := .ext fun h => ∃ (ob : Obj) (fs : Array Value), h.get? a = some ob ∧ Zc cl dc ob ∧ ob.data = .fields fs
theorem exG_exo {C dd a : Addr} : exG (.ref C) (some dd) a = exoO C dd a := rfl
section
variable {X : Cx} {pp : List (Addr × Obj)} {ρ : L2.St} {J : Hp} {t0 t1 : Shared} {G : Heap} {a : Addr} {cl : Value} {dc : Option Addr} {ob : Obj} {fs : Array Value}
theorem exG_ok {P : Program} {w : World} {H : Hp} {h : Heap} (e : h.get? a = some ob) (z : Zc cl dc ob) (d : ob.data = .fields fs) : ObjOk P w H h a (exG cl dc a) :=
  ⟨⟨ob, fs, e, z, d⟩, ⟨ob, e⟩, fun _ _ ⟨o, f, e1, e2, e3⟩ k => ⟨o, f, k _ e1, e2, e3⟩⟩
/-- back on the ground, the exception known from now on -/
theorem land_known (I : Inv X pp ρ J t0) (gr : ∀ b o, t0.heap.get? b = some o → b ∉ frs X.stack → G.get? b = some o) (st : G.StaysIn t1.heap) (up : t0.heap.UpToSlots t1.heap) (os : t1.os = t0.os) (ag : AllBare t1.gens)
    (nJ : J a = none) (n0 : t0.heap.get? a = none) (e : t1.heap.get? a = some ob) (z : Zc cl dc ob) (d : ob.data = .fields fs) : Inv X pp ρ (upd J a (exG cl dc a)) t1 := by
  have sl : ∀ b ∈ frs X.stack, ∀ o, t0.heap.get? b = some o → ∃ y, t1.heap.get? b = some { o with slots := y } := fun b hb o e => by
    obtain ⟨_, o2, e2, nf⟩ := I.stack.mem hb
    rw [e] at e2
    cases e2
    exact up b o e nf
  refine I.call' (ch := []) os ⟨fun b o e _ hb _ => st b o (gr b o e hb), fun b o e _ hb _ => sl b hb o e, fun b o e n _ => ?_, fun b o e _ => ?_, fun b xs e => ?_, fun b o u e => ?_, fun b ps e => ⟨#[], ?_⟩⟩ (fun b u e2 => ?_) ag (fun _ z => nomatch z)
  · rw [upd_ne fun q => by rw [q, n0] at e; cases e]; exact n
  · by_cases hb : (b ∈ frs X.stack)
    · obtain ⟨y, q⟩ := sl b hb o e
      exact ⟨_, q⟩
    · exact ⟨o, st b o (gr b o e hb)⟩
  · rw [upd_ne (ne_of_none e nJ)]; exact e
  · rw [upd_ne (ne_of_none e nJ)]; exact e
  · rw [upd_ne (ne_of_none e nJ), e]; simp
  · by_cases q : b = a
    · subst q
      rw [upd_same] at e2
      cases e2
      exact exG_ok e z d
    · rw [upd_ne q] at e2
      exact (((I.inGround gr).kept st) b u e2).stay (fun _ _ _ y => y) (fun c y => by rw [upd_ne (ne_of_none y nJ)]; exact y) fun c xs y => by rw [upd_ne (ne_of_none y nJ)]; exact y
/-- into an except suite, out of it -/
theorem into_suite (I : Inv X pp ρ J t0) (a : Addr) : Inv (X.suite a (X.pn ++ pp)) [] ρ J t0 :=
  ⟨I.ok.suite _ _, I.os, I.bare, I.base, I.loc, I.cell, I.free, I.freeC, fun p hp => I.pin p (by have hp : p ∈ (X.pn ++ pp) ++ [] := hp; rw [List.append_nil] at hp; exact hp), I.hok, I.len⟩
theorem out_suite {qq : List (Addr × Obj)} (I : Inv (X.suite a (X.pn ++ pp)) qq ρ J t0) (ok : X.Ok) : Inv X pp ρ J t0 :=
  ⟨ok, I.os, I.bare, I.base, I.loc, I.cell, I.free, I.freeC,
      fun p hp => I.pin p (List.mem_append_left _ hp), I.hok, I.len⟩
end
/-- the wish of a clause 'except x as n' that keeps the exception: slot i is n's -/
def wKp (K : PySem.W.Frag) (c : Value) (i N : Nat) (ts : TS) (Wo : WX) (D : Ends) : WX := fun cl dc σ H =>
  ∃ b, PySem.W.exmOne K cl c = some b ∧ (b = true → ∀ a, H a = none → σ.length = N → ts { nx := fun σ' H' => D.nx (σ'.set i none) H', rt := D.rt, bk := fun σ' H' => D.bk (σ'.set i none) H', ct := fun σ' H' => D.ct (σ'.set i none) H' } (σ.set i (some (.ref a))) (upd H a (exG cl dc a))) ∧
    (b = false → Wo cl dc σ H)
/-- .. of a clause 'except x' -/
def wKo (K : PySem.W.Frag) (c : Value) (N : Nat) (ts : TS) (Wo : WX) (D : Ends) : WX := fun cl dc σ H =>
  ∃ b, PySem.W.exmOne K cl c = some b ∧ (b = true → ∀ a, H a = none → σ.length = N → ts D σ (upd H a (exG cl dc a))) ∧ (b = false → Wo cl dc σ H)
section
variable {X : Cx} {x n : Str} {c : Value} {i : Nat} {bd su : List Stmt} {s1 : Stmt} {np q1 q2 : Pos} {tb : WX → TS} {ts : TS} {Wo : WX}
/-- no clause takes it: it flies on -/
theorem flies_on {pins : List (Addr × Obj)} {σ : L2.St} {H : Hp} {sI s' : Shared} {B : Heap} {a : Addr} {cl : Value} {dc : Option Addr} {h3 : Heap} {D : Ends} (hs : X.stack = X.env :: X.outer) (hf : X.env.frame = some X.env.locals) (tk : Takes X Wo)
    (J : Inv X pins σ H sI) (nb : ∀ b o, sI.heap.get? b = some o → b ∉ frs X.stack → B.get? b = some o) (up : sI.heap.UpToSlots h3) (fl : HandSPX.FlyingZ B (X.env :: X.outer) a (Zc cl dc) h3) (na : H a = none) (os : s'.os = sI.os) (ag : AllBare s'.gens) (hw : Wo cl dc σ H) :
    wpAny (model X.prog X.w) X.A (handleBy (.ref a) X.env []) (SP X pins D) X.xe { s' with heap := h3 } := by
  refine wpAny_handleBy_nil ?_
  obtain ⟨_, _, _, o, f, T, oT, tt, e1, _, e3, e4, _⟩ := id fl
  unfold PySem.passOn
  refine wpAny_bind (wpAny_field e1 e3 e4 ?_)
  rw [if_neg (by simp : ¬ ((Value.ref T == Value.none) = true))]
  have last : wpAny (model X.prog X.w) X.A (setFlight (.ref a) X.env.frame) (fun _ s4 => wpAny (model X.prog X.w) X.A (throw (.ref a) : Sem Flow) (SP X pins D) X.xe s4) X.xe { s' with heap := h3 } := by
    rw [hf]
    refine HandSPX.setFlight_upZ fl fun h4 k4 u4 => wpAny_throw (tk _ _ ⟨a, B, sI, pins, σ, H, cl, dc, rfl, J, nb, up.trans u4, .inr (.inr ?_), na, os, ag, hw⟩)
    rw [hs]; exact k4
  first
    | exact wpAny_bind (wpAny_pure (wpAny_bind last))
    | exact wpAny_bind last
theorem ps_try_kp (hs : X.stack = X.env :: X.outer) (hf : X.env.frame = some X.env.locals) (hN : X.N.Nodup) (hi : X.N[i]? = some n) (hn : X.env.kindOf n = some .local) (hc : Names X x c) (tk : Takes X Wo)
    (hb : ∀ (W : WX) (pn : List (Addr × Obj)) (xe : Value → Shared → Prop), Takes (X.tr pn xe) W → PassesOwn (model X.prog X.w) X.A X.env xe → PSs (X.tr pn xe) bd (tb W))
    (hsu : ∀ (a : Addr) (pn : List (Addr × Obj)), PSs (X.suite a pn) (s1 :: su) ts) :
    PS X (.Try bd [.ExceptHandler (some (.Name x np)) (some n) (s1 :: su) q1] [] [] q2) (fun D σ H => tb (wKp X.K c i X.N.length ts Wo D) D σ H) := by
  refine .mk fun pins s σ H D I h => ?_
  have ok := I.ok
  have fr : X.A.frames = some (X.env :: X.outer) := ok.frames.trans (by rw [hs])
  refine wpAny_Try_except (wpAny_mono ((hb (wKp X.K c i X.N.length ts Wo D) (X.pn ++ pins) (fun e y1 => wpAny (model X.prog X.w) X.A (noteFrame e X.env) (fun _ y2 => wpAny (model X.prog X.w) X.A (setFlight e none)
    (fun _ y3 => wpAny (model X.prog X.w) X.A (handleBy e X.env [.ExceptHandler (some (.Name x np)) (some n) (s1 :: su) q1]) (SP X pins D) X.xe y3) X.xe y2) X.xe y1) (fun u s' xx => ?_) PassesOwn.looking).run [] s σ H D (I.toTry _) h) (fun f y1 hy => ?_) fun e y1 he => he)
  · obtain ⟨a, B, sI, qq, σ', H', cl, dc, rfl, J0, nb, up, sky, na, os, ag, b, hb1, yes, no⟩ := xx
    have J : Inv X pins σ' H' sI := J0.ofTry ok
    have sky2 : Sky B (X.env :: X.outer) a (Zc cl dc) X.env.locals s'.heap := by rw [← hs]; exact sky
    show (wpAny (model X.prog X.w) X.A (noteFrame (.ref a) X.env) _ _ _)
    refine Sky.land Zc.steady fr hf sky2 fun h3 fl3 up3 => ?_
    have g3 : Inv X pins σ' H' { s' with heap := h3 } := J.landed nb fl3.1 (up.trans up3) os ag
    obtain ⟨o3, f3, e3, z3, d3⟩ := fl3.there
    have off : a ∉ frs (X.env :: X.outer) := fun hm => by
      obtain ⟨_, o', e', nf⟩ := fl3.2.2.1.mem hm
      rw [e3] at e'
      cases e'
      exact nf _ d3
    have n0 : sI.heap.get? a = none := by
      cases y : sI.heap.get? a with
      | none => rfl
      | some o =>
        have y2 := nb a o y (by rw [hs]; exact off)
        rw [fl3.2.1] at y2
        cases y2
    refine (wpAny_handleBy_cons (codeAny_handlers_test ?_) (by intro q; cases q))
    have LT : PySem.W.Looks (model X.prog X.w) h3 (typeOf (.ref a)) cl := fun A Q E y k q => wpAny_typeOf_ref (k _ _ e3) (by rw [z3.1]; exact q)
    have LM := PySem.W.exm_one (M := model X.prog X.w) (g3.kIn) LT hb1
    have ask : ∀ {Q E : Value → Shared → Prop}, Q c { s' with heap := h3 } → wpAny (model X.prog X.w) (X.A.mark (some (.ref a))) (eval (.Name x np) X.env) Q E { s' with heap := h3 } := fun {Q E} q => by
      obtain ⟨hg, hd, hm | ⟨hm, hv, hnn⟩⟩ := hc
      · exact ld_glob (X := X.suite a (X.pn ++ pins)) (into_suite g3 a) hg hm q hd
      · exact ld_blt (X := X.suite a (X.pn ++ pins)) (into_suite g3 a) hg hm hv q hnn hd
    refine ask (LM.here ?_)
    cases b with
    | true =>
      refine codeAny_handlers_suite_as (HandSPX.lands_againZ fl3 fun h4 fl4 up4 => ?_)
      obtain ⟨o4, f4, e4, z4, d4⟩ := fl4.there
      have g4 : Inv X pins σ' (upd H' a (exG cl dc a)) { s' with heap := h4 } := land_known J nb fl4.1 ((up.trans up3).trans up4) os ag na n0 e4 z4 d4
      refine store_ok (X := X.suite a (X.pn ++ pins)) (v := .ref a) (into_suite g4 a) hN hi (.inl hn) rfl (fun y5 k5 => ?_) (.inr hn)
      refine wpAny_mono ((hsu a (X.pn ++ pins)).run [] y5 _ _ _ k5 (yes rfl a na J.len)) (fun f y6 hy => ?_) (fun _ _ z => False.elim z)
      have fin : ∀ {σ6 : L2.St} {H6 : Hp} {Q : Shared → Prop}, Inv (X.suite a (X.pn ++ pins)) [] σ6 H6 y6 → (∀ y7, Inv X pins (σ6.set i none) H6 y7 → Q y7) →
          wpAny (model X.prog X.w) X.A (do bindName X.env n .none; unbindBehindTheSuite X.env n q1) (fun _ y7 => Q y7) X.xe y6 := fun {σ6 H6 Q} k6 hq => gone_ok (out_suite k6 ok) hN hi hn hq
      cases f with
      | next => obtain ⟨_, _, k6, q6⟩ := hy; exact fin k6 fun y7 k7 => ⟨_, _, k7, q6⟩
      | brk => obtain ⟨_, _, k6, q6⟩ := hy; exact fin k6 fun y7 k7 => ⟨_, _, k7, q6⟩
      | cont => obtain ⟨_, _, k6, q6⟩ := hy; exact fin k6 fun y7 k7 => ⟨_, _, k7, q6⟩
      | ret u => obtain ⟨_, _, _, k6, r6, q6⟩ := hy; exact fin k6 fun y7 k7 => ⟨_, _, _, k7, r6, q6⟩
    | false =>
      show (wpAny _ X.A (handleBy (.ref a) X.env []) _ _ _)
      exact flies_on hs hf tk J nb (up.trans up3) fl3 na os ag (no rfl)
  · cases f with
    | next => obtain ⟨_, _, k, q⟩ := hy; exact wpAny_execs_nil ⟨_, _, k.ofTry ok, q⟩
    | brk => obtain ⟨_, _, k, q⟩ := hy; exact ⟨_, _, k.ofTry ok, q⟩
    | cont => obtain ⟨_, _, k, q⟩ := hy; exact ⟨_, _, k.ofTry ok, q⟩
    | ret u => obtain ⟨_, _, _, k, r, q⟩ := hy; exact ⟨_, _, _, k.ofTry ok, r, q⟩
theorem ps_try_ko (hs : X.stack = X.env :: X.outer) (hf : X.env.frame = some X.env.locals) (hc : Names X x c) (tk : Takes X Wo)
    (hb : ∀ (W : WX) (pn : List (Addr × Obj)) (xe : Value → Shared → Prop), Takes (X.tr pn xe) W → PassesOwn (model X.prog X.w) X.A X.env xe → PSs (X.tr pn xe) bd (tb W))
    (hsu : ∀ (a : Addr) (pn : List (Addr × Obj)), PSs (X.suite a pn) (s1 :: su) ts) :
    PS X (.Try bd [.ExceptHandler (some (.Name x np)) none (s1 :: su) q1] [] [] q2) (fun D σ H => tb (wKo X.K c X.N.length ts Wo D) D σ H) := by
  refine .mk fun pins s σ H D I h => ?_
  have ok := I.ok
  have fr : X.A.frames = some (X.env :: X.outer) := ok.frames.trans (by rw [hs])
  refine wpAny_Try_except (wpAny_mono ((hb (wKo X.K c X.N.length ts Wo D) (X.pn ++ pins) (fun e y1 => wpAny (model X.prog X.w) X.A (noteFrame e X.env) (fun _ y2 => wpAny (model X.prog X.w) X.A (setFlight e none)
    (fun _ y3 => wpAny (model X.prog X.w) X.A (handleBy e X.env [.ExceptHandler (some (.Name x np)) none (s1 :: su) q1]) (SP X pins D) X.xe y3) X.xe y2) X.xe y1) (fun u s' xx => ?_) PassesOwn.looking).run [] s σ H D (I.toTry _) h) (fun f y1 hy => ?_) fun e y1 he => he)
  · obtain ⟨a, B, sI, qq, σ', H', cl, dc, rfl, J0, nb, up, sky, na, os, ag, b, hb1, yes, no⟩ := xx
    have J : Inv X pins σ' H' sI := J0.ofTry ok
    have sky2 : Sky B (X.env :: X.outer) a (Zc cl dc) X.env.locals s'.heap := by rw [← hs]; exact sky
    show (wpAny (model X.prog X.w) X.A (noteFrame (.ref a) X.env) _ _ _)
    refine Sky.land Zc.steady fr hf sky2 fun h3 fl3 up3 => ?_
    have g3 : Inv X pins σ' H' { s' with heap := h3 } := J.landed nb fl3.1 (up.trans up3) os ag
    obtain ⟨o3, f3, e3, z3, d3⟩ := fl3.there
    have off : a ∉ frs (X.env :: X.outer) := fun hm => by
      obtain ⟨_, o', e', nf⟩ := fl3.2.2.1.mem hm
      rw [e3] at e'
      cases e'
      exact nf _ d3
    have n0 : sI.heap.get? a = none := by
      cases y : sI.heap.get? a with
      | none => rfl
      | some o =>
        have y2 := nb a o y (by rw [hs]; exact off)
        rw [fl3.2.1] at y2
        cases y2
    refine (wpAny_handleBy_cons (codeAny_handlers_test ?_) (by intro q; cases q))
    have LT : PySem.W.Looks (model X.prog X.w) h3 (typeOf (.ref a)) cl := fun A Q E y k q => wpAny_typeOf_ref (k _ _ e3) (by rw [z3.1]; exact q)
    have LM := PySem.W.exm_one (M := model X.prog X.w) (g3.kIn) LT hb1
    have ask : ∀ {Q E : Value → Shared → Prop}, Q c { s' with heap := h3 } → wpAny (model X.prog X.w) (X.A.mark (some (.ref a))) (eval (.Name x np) X.env) Q E { s' with heap := h3 } := fun {Q E} q => by
      obtain ⟨hg, hd, hm | ⟨hm, hv, hnn⟩⟩ := hc
      · exact ld_glob (X := X.suite a (X.pn ++ pins)) (into_suite g3 a) hg hm q hd
      · exact ld_blt (X := X.suite a (X.pn ++ pins)) (into_suite g3 a) hg hm hv q hnn hd
    refine ask (LM.here ?_)
    cases b with
    | true =>
      refine codeAny_handlers_suite (HandSPX.lands_againZ fl3 fun h4 fl4 up4 => ?_)
      obtain ⟨o4, f4, e4, z4, d4⟩ := fl4.there
      have g4 : Inv X pins σ' (upd H' a (exG cl dc a)) { s' with heap := h4 } := land_known J nb fl4.1 ((up.trans up3).trans up4) os ag na n0 e4 z4 d4
      refine wpAny_mono ((hsu a (X.pn ++ pins)).run [] _ _ _ _ (into_suite g4 a) (yes rfl a na J.len)) (fun f y6 hy => ?_) (fun _ _ z => False.elim z)
      cases f with
      | next => obtain ⟨_, _, k6, q6⟩ := hy; exact ⟨_, _, out_suite k6 ok, q6⟩
      | brk => obtain ⟨_, _, k6, q6⟩ := hy; exact ⟨_, _, out_suite k6 ok, q6⟩
      | cont => obtain ⟨_, _, k6, q6⟩ := hy; exact ⟨_, _, out_suite k6 ok, q6⟩
      | ret u => obtain ⟨_, _, _, k6, r6, q6⟩ := hy; exact ⟨_, _, _, out_suite k6 ok, r6, q6⟩
    | false =>
      show (wpAny _ X.A (handleBy (.ref a) X.env []) _ _ _)
      exact flies_on hs hf tk J nb (up.trans up3) fl3 na os ag (no rfl)
  · cases f with
    | next => obtain ⟨_, _, k, q⟩ := hy; exact wpAny_execs_nil ⟨_, _, k.ofTry ok, q⟩
    | brk => obtain ⟨_, _, k, q⟩ := hy; exact ⟨_, _, k.ofTry ok, q⟩
    | cont => obtain ⟨_, _, k, q⟩ := hy; exact ⟨_, _, k.ofTry ok, q⟩
    | ret u => obtain ⟨_, _, _, k, r, q⟩ := hy; exact ⟨_, _, _, k.ofTry ok, r, q⟩
end
end UW

/-! V2 -/
namespace UW
open PySem PySem.Spec PyProof.Rows L2
/-! ### isinstance of a caught exception -/
section
variable {prog : Program} {w : World} {A : Around} {E : Value → Shared → Prop} {s : Shared} {K : PySem.W.Frag} {x Cz : Addr} {ox : Obj} {od : Option Obj}
open PySem.W PySem.Calls
theorem found_class {C : Addr} {a g : Value} (hc : (clsIn K C).isSome = true) (ha : findIn K (.ref C) "__class__" = some (some a)) (hg : specialIn K a "__get__" = some (some g)) (ht : takesIn K a = some true) : findObj K C od "__class__" = some (.bind g a) := by
  cases q : clsIn K C with
  | none => rw [q] at hc; cases hc
  | some cd => unfold findObj; rw [q, Option.bind_some, ha, Option.bind_some]; simp [hg, ht]
theorem class_of_exn {Q : Option Value → Shared → Prop} (T : ExcC K Cz) (X : K.In s.heap) (I : InstAt s.heap x ox Cz od) (h : Q (some (.ref Cz)) { s with toks := s.toks + 1 }) : wpAny (model prog w) A (getAttr? (.ref x) "__class__") Q E s := by
  have hf : findObj K Cz od "__class__" = some (.bind (.builtin "getset_descriptor.__get__") (.builtin "object.__class__")) := found_class (by obtain ⟨cd, hc, _⟩ := any_some T.hd; rw [hc]; rfl) T.ha T.hn T.ht
  obtain ⟨hp, g, d, t, os⟩ := s
  have ty := I.type (M := model prog w)
  have la := looks_findIn (M := model prog w) X T.hg
  have lb := looks_findIn (M := model prog w) X T.hk
  have lc := looks_find (M := model prog w) X I hf
  have base : Looks (model prog w) hp (isInstance (.ref x) (.type "BaseException")) true := ty.andThen (looks_subIn X T.hs)
  have no2 : (Value.builtin "BaseException.__getattribute__" == Value.builtin "object.__getattribute__") = false := by decide +kernel
  have no1 : (onTheHeap (Value.ref Cz) && Value.builtin "BaseException.__getattribute__" == Value.builtin "object.__getattribute__") = false := by rw [no2]; rfl
  unfold getAttr?; unfold getAttrBy? getAttrBy
  refine wpAny_bind (wpAny_mkText (wpAny_bind (wpAny_attempt (wpAny_holding (wpAny_bind (ty.at (wpAny_bind (la.at ?_))))))))
  show wpAny _ _ (if (onTheHeap (Value.ref Cz) && Value.builtin "BaseException.__getattribute__" == Value.builtin "object.__getattribute__") = true then _ else _) _ _ _
  rw [no1, if_neg Bool.false_ne_true]
  unfold getAttrByItsOwn; unfold hookBefore
  refine wpAny_bind ?_
  have on1 : onTheHeap (Value.ref Cz) = true := rfl
  rw [if_pos on1]
  refine lb.at (wpAny_bind (wpAny_attempt (wpAny_holding ?_)))
  unfold callGetattribute
  have on2 : (false && onTheHeap (Value.builtin "BaseException.__getattribute__")) = false := rfl
  rw [on2, if_neg Bool.false_ne_true]
  unfold boundAndCalled
  rw [PySem.F.excAttr_ValueError.ga.bind (Value.ref x)]
  refine (wpAny_bind (wpAny_pure ?_))
  show (wpAny _ _ (call (.builtin "BaseException.__getattribute__") [.ref x, .str "__class__" t]) _ _ _)
  refine wpAny_call (codeAny_call_builtin PySem.F.excAttr_ValueError.ga.plain PySem.F.entry_bexc_ga (@check_slot (model prog w) _ _ ⟨hp, g, d, t + 1, os⟩ "BaseException.__getattribute__" "BaseException" "__getattribute__" (.ref x) [.str "__class__" t] [] _ (by decide +kernel) (by decide +kernel) base (PySem.F.args_bexc_ga (.ref x) (.str "__class__" t)) ?_))
  unfold PySem.Builtin.«object.__getattribute__»
  refine wpAny_bind (wpAny_of_eq (a := ((Value.ref x : Value), [Value.str "__class__" t])) (by first | rfl | (simp only [slotArgs]; rfl)) (wpAny_bind (wpAny_pure (wpAny_bind (ty.at (wpAny_bind (lc.at ?_)))))))
  show wpAny _ _ (holding [Value.builtin "object.__class__"] (call (.builtin "getset_descriptor.__get__") [.builtin "object.__class__", .ref x, .ref Cz]) >>= ret) _ _ _
  refine wpAny_bind (wpAny_holding (wpAny_call (class_get (s := ⟨hp, g, d, t + 1, os⟩) (ox := ox) (od := od) X I T.hm (wpAny_pure ?_))))
  show wpAny _ _ (handedOut (.ref Cz)) _ _ _
  rw [handedOut_of (v := .ref Cz) rfl]
  first
    | exact (wpAny_pure (wpAny_pure h))
    | exact wpAny_pure h
    | exact (wpAny_pure (wpAny_bind (wpAny_pure (wpAny_pure h))))
theorem kit_exn (T : ExcC K Cz) : KitX K (.ref x) (.ref Cz) (fun h => InstAt h x ox Cz od) := by
  obtain ⟨cd, hcd, _⟩ := any_some T.hd
  have there : ∃ c' d' cd' sl', K.lookup Cz = some ⟨c', d', .cls cd', sl'⟩ := by
    unfold clsIn at hcd
    split at hcd
    · rename_i c' d' cd' sl' ho
      exact ⟨_, _, _, _, ho⟩
    · cases hcd
  obtain ⟨c', d', cd', sl', ho⟩ := there
  refine ⟨fun _ _ _ I => I.type, fun _ _ X _ => fun A' Q' E' s' k q => ?_, fun h tp dd its n sl X htp => Bool.eq_false_iff.mpr fun q => ?_, fun X I k => class_of_exn T X I k⟩
  · unfold isType loadHead
    exact (wpAny_bind (wpAny_loadPart (k _ _ (X _ _ ho)) (wpAny_pure q)))
  · have e := Value.ref.inj (beq_iff_eq.mp q)
    subst e
    have z := ((X _ _ ho).symm.trans htp)
    cases z
end
/-- isinstance(e, c), e an exception that is kept -/
def rIsXn (K : PySem.W.Frag) : List V → Hp → VK → Prop := fun xs H Q => ∃ (a C dd : Addr) (gs : List (Str × V)) (c : V) (cv : Value) (b : Bool), xs = [.ref a, c] ∧ H a = some (exoO C dd a) ∧ H dd = some (.xd gs) ∧ ExcC K C ∧ (∀ u, RelV c u → u = cv) ∧ PySem.W.kitOne K (.ref C) cv = some b ∧ Q (.bl b) H
theorem exo_here {P : Program} {w : World} {H : Hp} {h : Heap} {a C dd : Addr} (hok : HOk P w H h) (e : H a = some (exoO C dd a)) : ∃ (oe : Obj) (vs : Array Value), h.get? a = some oe ∧ Zc (.ref C) (some dd) oe ∧ oe.data = .fields vs := by
  have x : ObjOk P w H h a (.ext fun h => ∃ (oe : Obj) (vs : Array Value), h.get? a = some oe ∧ Zc (.ref C) (some dd) oe ∧ oe.data = .fields vs) := hok a _ e
  exact x.1
theorem inst_exn {P : Program} {w : World} {H : Hp} {h : Heap} {a C dd : Addr} {gs : List (Str × V)} (hok : HOk P w H h) (e : H a = some (exoO C dd a)) (e2 : H dd = some (.xd gs)) :
    ∃ (oe od : Obj) (mA : Str → Option Value), PySem.W.InstAt h a oe C (some od) ∧ h.get? dd = some od ∧ h.Ns1 dd mA ∧ ∀ f, RelO (gs.lookup f) (mA f) := by
  obtain ⟨oe, vs, h1, h2, h3⟩ := exo_here hok e
  have x : ObjOk P w H h dd (.xd gs) := hok dd _ e2
  obtain ⟨mA, hns, hr⟩ := x
  rcases lookIn_ns hns with ⟨od, ho, hl⟩
  exact ⟨oe, od, mA, ⟨h1, h2.1, by unfold PySem.W.notCls; rw [h3] <;> rfl, by rw [h2.2]; exact ho⟩, ho, hns, hr⟩
theorem call_isXn {X : Cx} : CallR X (.builtin "isinstance") (rIsXn X.K) := by
  intros pins s σ H xs us Q I r h
  obtain ⟨a, C, dd, gs, c, cv, b, rfl, ea, ed, T, hcv, e, q⟩ := h
  cases r with
  | cons rx rr =>
    cases rr with
    | cons rt rr =>
      cases rr
      cases rx
      have ec := hcv _ rt
      subst ec
      obtain ⟨oe, od, mA, J, _⟩ := inst_exn I.hok ea ed
      exact PySem.W.kia_one (kit_exn T) I.kIn J e (fun z => nomatch z) fun tk => ⟨.bl b, H, I.kept (t' := tk) fun _ _ z => z, rfl, q⟩
/-! ### its fields -/
def tXnF (K : PySem.W.Frag) (f : Str) (te : TE) : TE := fun σ H Q => te σ H fun x H1 => ∃ (a C dd : Addr) (gs : List (Str × V)) (v : V), x = .ref a ∧ XfC K C ∧ PySem.W.findIn K (.ref C) f = some none ∧ H1 a = some (exoO C dd a) ∧ H1 dd = some (.xd gs) ∧ gs.lookup f = some v ∧ Q v H1
theorem pe_xnf {X : Cx} {e : Expr} {te : TE} {pos : Pos} {n : Str} (he : PE X e te) (hb : attributeBase e n X.env (eval e X.env) = eval e X.env := by rfl) : PE X (.Attribute e n pos) (tXnF X.K n te) := by
  refine ⟨fun pins s σ H Q I h => attr_of hb (thn (he.run pins s σ H _ I h) fun u s1 hh => ?_)⟩
  obtain ⟨x, H1, I1, rx, a, C, dd, gs, v, ex, T, hno, ea, ed, l, q⟩ := hh
  subst ex
  rcases (show u = Value.ref a from rx) with rfl
  obtain ⟨oe, od, mA, J, ho, hns, hr⟩ := inst_exn I1.hok ea ed
  obtain ⟨od2, ho2, hl⟩ := lookIn_ns hns
  rw [ho] at ho2
  cases ho2
  rcases RelO.some_of (v := v) (o := mA n) (by rw [← l]; exact hr n) with ⟨u, hu, ru⟩
  exact (HandSPX.exc_get I1.kIn J T.ga T.gg T.exC (PySem.W.findObj_own T.hdC hno rfl (by rw [hl, hu])) (handed_of ru) ⟨v, H1, I1.tok _, ru, q⟩)
section
variable {g : Gb} {W : WX} {te : TE} {a : DE}
/-- isinstance(e, C): by a table of the exceptions' classes -/
def tabB (c : Str) : List (Str × Bool) → Option Bool
  | [] => none
  | (x, b) :: r => if x = c then some b else tabB c r
def fIsX (tab : List (Str × Bool)) : D → M D
  | .exn c _ _ => mBind (mOpt (tabB c tab)) fun b => mPure (.bl b)
  | _ => mBad
structure IsTab (g : Gb) (CC : Addr) (tab : List (Str × Bool)) : Prop where
  ex : ∀ c b, tabB c tab = some b → ∃ C, g.mg c = some (.ref C) ∧ ExcC g.K C ∧ PySem.W.kitOne g.K (.ref C) (.ref CC) = some b
theorem ev_isX {tab : List (Str × Bool)} {CC : Addr} (T : IsTab g CC tab) (ha : EvE g W te a) : EvE g W (tCB (rIsXn g.K) (tCons te (tCons (tC (.ref CC)) tNil))) (d1 (fIsX tab) a) := fun w σ H z ρ E o Q h =>
  ha w σ H z ρ E o _ (sat_mono (sat_bind h) (fun d z1 s1 w1 v H1 g1 r1 => by
    cases d with
    | exn c ns ds =>
      obtain ⟨b, e, q⟩ := sat_opt (sat_bind (show Sat (mBind (mOpt (tabB c tab)) (fun b => mPure (D.bl b)) z1) (QV g w H Q) (QX g w H σ W) from s1))
      obtain ⟨C, hm, hx, hk⟩ := T.ex c b e
      cases r1 with
      | @exn a' C' dd _ gs _ _ h1 h2 h3 h4 h5 =>
        rw [hm] at h2
        cases h2
        exact ⟨a', C, dd, gs, .ref CC, .ref CC, b, rfl, g1.ok.sub _ _ h1, g1.ok.sub _ _ h3, hx, fun u r => r, hk, (show QV g w H Q (.bl b) z1 from q) w1 _ H1 g1 (.bl b)⟩
    | _ => exact (show False from s1).elim) fun _ _ _ q => q)
def xLook (f : Str) : List Str → List D → Option D
  | n :: ns, d :: ds => if n = f then some d else xLook f ns ds
  | _, _ => none
def fXf (cs : List Str) (f : Str) : D → M D
  | .exn c ns ds => if c ∈ cs then mOpt (xLook f ns ds) else mBad
  | _ => mBad
structure XfTab (g : Gb) (cs : List Str) (f : Str) : Prop where
  ex : ∀ c ∈ cs, ∃ C, g.mg c = some (.ref C) ∧ XfC g.K C ∧ PySem.W.findIn g.K (.ref C) f = some none
theorem xlook_of {w : Wd} {f : Str} : ∀ {gs : List (Str × V)} {ds : List D} {d : D}, RvA g w (gs.map (·.2)) ds → xLook f (gs.map (·.1)) ds = some d → ∃ v, gs.lookup f = some v ∧ Rv g w v d
  | [], _, _, h, e => by cases h; simp [xLook] at e
  | (n, v) :: gs, _, _, h, e => by
    cases h with
    | @cons _ _ d' ds' h1 h2 =>
      simp only [List.map_cons, xLook] at e
      by_cases q : n = f
      · rw [if_pos q] at e
        cases e
        subst q
        exact ⟨v, by simp [List.lookup], h1⟩
      · rw [if_neg q] at e
        obtain ⟨u, y1, y2⟩ := xlook_of h2 e
        refine ⟨u, ?_, y2⟩
        have : (f == n) = false := beq_eq_false_iff_ne.mpr (Ne.symm q)
        simp [List.lookup, this, y1]
theorem ev_xnf {cs : List Str} {f : Str} (T : XfTab g cs f) (ha : EvE g W te a) : EvE g W (tXnF g.K f te) (d1 (fXf cs f) a) := fun w σ H z ρ E o Q h =>
  ha w σ H z ρ E o _ (sat_mono (sat_bind h) (fun d z1 s1 w1 v H1 g1 r1 => by
    cases d with
    | exn c ns ds =>
      obtain ⟨hc, s2⟩ := sat_if (show Sat ((if c ∈ cs then mOpt (xLook f ns ds) else mBad) z1) _ _ from s1)
      obtain ⟨y, e, q⟩ := sat_opt s2
      obtain ⟨C, hm, hx, hk⟩ := T.ex c hc
      cases r1 with
      | @exn a' C' dd _ gs _ _ h1 h2 h3 h4 h5 =>
        rw [hm] at h2
        cases h2
        subst h4
        obtain ⟨v, l, rv⟩ := xlook_of h5 e
        exact ⟨a', C, dd, gs, v, rfl, hx, hk, g1.ok.sub _ _ h1, g1.ok.sub _ _ h3, l, (show QV g w H Q y z1 from q) w1 v H1 g1 rv⟩
    | _ => exact (show False from s1).elim) fun _ _ _ q => q)
theorem nox_isX {tab : List (Str × Bool)} : ∀ x, NoX (fIsX tab x) := fun x => by cases x <;> first | exact fun _ => trivial | exact nox_bind nox_opt fun _ => nox_pure
end
/-! ### raise of an own exception -/
/-- __init__(self, v): self.f = v -/
def spX1 (K : PySem.W.Frag) (f : Str) : Sp := fun xs H Q _ => ∃ (a C : Addr) (v : V), xs = [.ref a, v] ∧ OexC K C ∧ PySem.W.findIn K (.ref C) f = some none ∧ H a = some (exo a C none) ∧
  ∀ dx, H dx = none → dx ≠ a → Q .non (upd (upd H dx (exd dx [(f, v)])) a (exo a C (some dx)))
/-- __init__(self, v, u): self.f = v; self.e = u -/
def spX2 (K : PySem.W.Frag) (f e : Str) : Sp := fun xs H Q _ => ∃ (a C : Addr) (v u : V), xs = [.ref a, v, u] ∧ OexC K C ∧ PySem.W.findIn K (.ref C) f = some none ∧ PySem.W.findIn K (.ref C) e = some none ∧ H a = some (exo a C none) ∧
  ∀ dx, H dx = none → dx ≠ a → Q .non (upd (upd (upd H dx (exd dx [(f, v)])) a (exo a C (some dx))) dx (exd dx [(e, u), (f, v)]))
theorem init1_of {K : PySem.W.Frag} {f p1 p2 : Str} {xs : List V} {H : Hp} {Q : VK} {E : XK} (h : spX1 K f xs H Q E) : tOst K f (tVar 0) (tVar 1) { nx := fun _ H' => Q .non H', rt := Q } (L2.start [p1, p2] xs) H := by
  obtain ⟨a, C, v, rfl, T, hf, ha, q⟩ := h
  exact ⟨v, rfl, .ref a, rfl, a, C, rfl, T, hf, .inl ⟨ha, fun dx h1 h2 => q dx h1 h2⟩⟩
theorem init2_of {K : PySem.W.Frag} {f e p1 p2 p3 : Str} {xs : List V} {H : Hp} {Q : VK} {E : XK} (h : spX2 K f e xs H Q E) : tSeq (tOst K f (tVar 0) (tVar 1)) (tOst K e (tVar 0) (tVar 2)) { nx := fun _ H' => Q .non H', rt := Q } (L2.start [p1, p2, p3] xs) H := by
  obtain ⟨a, C, v, u, rfl, T, hf, he, ha, q⟩ := h
  refine ⟨v, rfl, .ref a, rfl, a, C, rfl, T, hf, .inl ⟨ha, fun dx h1 h2 => ?_⟩⟩
  exact ⟨u, rfl, .ref a, rfl, a, C, rfl, T, he, .inr ⟨dx, [(f, v)], upd_same, by rw [upd_ne h2, upd_same], (by simp), q dx h1 h2⟩⟩
section
variable {g : Gb} {W : WX} {ta : TA} {da : DA} {c : Str} {C : Addr}
theorem back1 {H : Hp} {a dx C : Addr} {u : HO} (hn : H a = none) (hd : dx ≠ a) {fs : List (Str × V)} {o1 o2 o3 : HO} : upd (del (upd (upd (upd H a o1) dx o2) a o3) a) dx (.xd fs) = upd H dx (.xd fs) := by
  funext b
  by_cases q : b = dx
  · rw [q, upd_same, upd_same]
  · rw [upd_ne q, upd_ne q]
    by_cases q2 : b = a
    · rw [q2, del_same, hn]
    · rw [del_ne q2, upd_ne q2, upd_ne q, upd_ne q2]
theorem es_raise1 {f : Str} (hc : g.mg c = some (.ref C)) (T : OexC g.K C) (hf : PySem.W.findIn g.K (.ref C) f = some none) (ha : EvA g W ta 1 da) :
    EvS g W (fun _ σ H => tMkO C (spX1 g.K f) [] ta σ H fun cls d H' => W cls d σ H') (sRaise c [f] da) := fun w σ H z ρ E o Dn h =>
  ha w σ H z ρ E o _ (sat_mono (sat_bind h) (fun ds z1 s1 hl w1 vs H1 g1 r1 => by
    match ds, hl, r1, s1 with
    | [d], _, @RvA.cons _ _ v _ _ _ rd .nil, s1 =>
      obtain ⟨_, s2⟩ := sat_if s1
      have s2 : QXS g w H W c [(f, d)] z1 := s2
      refine ⟨by simp, fun a hn => ⟨a, C, v, rfl, T, hf, upd_same, fun dx h1 h2 => ⟨rfl, dx, [(f, v)], upd_same, by rw [upd_ne h2, upd_same], by rw [upd_ne h2] at h1; exact h1, ?_⟩⟩⟩
      rw [back1 (C := C) (u := .tup []) hn h2]
      rw [upd_ne h2] at h1
      have g2 := Go.new (o := .xd [(f, v)]) g1.ok h1 (fun ps z => by cases z)
      exact s2 σ C dx _ _ (g1.trans g2) ⟨hc, [(f, v)], upd_same, .cons (rd.mono g2.le) .nil⟩) fun _ _ _ q => q.qx)
theorem es_raise2 {f e : Str} (hc : g.mg c = some (.ref C)) (T : OexC g.K C) (hf : PySem.W.findIn g.K (.ref C) f = some none) (he : PySem.W.findIn g.K (.ref C) e = some none) (ha : EvA g W ta 2 da) :
    EvS g W (fun _ σ H => tMkO C (spX2 g.K f e) [] ta σ H fun cls d H' => W cls d σ H') (sRaise c [f, e] da) := fun w σ H z ρ E o Dn h =>
  ha w σ H z ρ E o _ (sat_mono (sat_bind h) (fun ds z1 s1 hl w1 vs H1 g1 r1 => by
    match ds, hl, r1, s1 with
    | [d, d2], _, @RvA.cons _ _ v _ _ _ rd (@RvA.cons _ _ u _ _ _ ru .nil), s1 =>
      obtain ⟨_, s2⟩ := sat_if s1
      have s2 : QXS g w H W c [(e, d2), (f, d)] z1 := s2
      refine ⟨by simp, fun a hn => ⟨a, C, v, u, rfl, T, hf, he, upd_same, fun dx h1 h2 => ⟨rfl, dx, [(e, u), (f, v)], by rw [upd_ne (Ne.symm h2), upd_same], upd_same, by rw [upd_ne h2] at h1; exact h1, ?_⟩⟩⟩
      have eq : upd (del (upd (upd (upd (upd H1 a (exo a C none)) dx (exd dx [(f, v)])) a (exo a C (some dx))) dx (exd dx [(e, u), (f, v)])) a) dx (.xd [(e, u), (f, v)]) = upd H1 dx (.xd [(e, u), (f, v)]) := by
        funext b
        by_cases q : b = dx
        · rw [q, upd_same, upd_same]
        · rw [upd_ne q, upd_ne q]
          by_cases q2 : b = a
          · rw [q2, del_same, hn]
          · rw [del_ne q2, upd_ne q, upd_ne q2, upd_ne q, upd_ne q2]
      rw [eq]
      rw [upd_ne h2] at h1
      have g2 := Go.new (o := .xd [(e, u), (f, v)]) g1.ok h1 (fun ps z => by cases z)
      exact s2 σ C dx _ _ (g1.trans g2) ⟨hc, [(e, u), (f, v)], upd_same, .cons (ru.mono g2.le) (.cons (rd.mono g2.le) .nil)⟩) fun _ _ _ q => q.qx)
end
/-- __init__ keeps it -/
theorem fnok_of {P : Program} {w : World} {K : PySem.W.Frag} {mg : Str → Option Value} {base : Heap} {k : Nat} {f : Addr} {fd : FuncData} {N ps : List Str} {sp : Sp} {x qual : Str} {st : Stmt} (F : FunA K x qual st f fd) (S : FnScope N ps (defScope st))
    (len : ∀ us H Q E, sp us H Q E → us.length = ps.length)
    (body : ∀ (cdv : Value) (A : Around) (outer : List PySem.Env) (s : Shared) (H : Hp) (vs : List V) (Q : VK) (E : XK), Room k (A.deeper (envOfC qual (defScope st) s.heap.objs.size f cdv)) → sp vs H Q E →
      ∃ t, PSs (cxOf C8.CX0 P w K mg base N qual (defScope st) f cdv A outer s H E) (defBody st) t ∧ t { nx := fun _ H' => Q .non H', rt := Q } (L2.start N vs) H) : FnOk P w K mg base C8.CX0 (k + 1) f fd ps sp := by
  obtain ⟨oc, od, dV, kV, doc, pm, an, cdv, ct, osl, rfl, h2, h3⟩ := F.ex
  exact fn_of h2 h3 S len fun A outer s H vs Q E hr h => body cdv A outer s H vs Q E hr h
theorem spX1_len {K : PySem.W.Frag} {f a b : Str} : ∀ vs H Q E, spX1 K f vs H Q E → vs.length = [a, b].length := fun _ _ _ _ ⟨_, _, _, e, _⟩ => by rw [e]; rfl
theorem spX2_len {K : PySem.W.Frag} {f e a b c : Str} : ∀ vs H Q E, spX2 K f e vs H Q E → vs.length = [a, b, c].length := fun _ _ _ _ ⟨_, _, _, _, e, _⟩ => by rw [e]; rfl
end UW

/-! V3 -/
namespace UW
open PySem PySem.Spec PyProof.Rows L2
/-! ### try -/
def exnOf (c : Str) (fs : List (Str × D)) : D := .exn c (fs.map (·.1)) (fs.map (·.2))
def noEnv (n : Nat) : Env := List.replicate n none
/-- try: b; except (by the table) as i: s; n names -/
def sTryN (n : Nat) (tab : List (Str × Bool)) (i : Nat) (b s : DS) : DS := fun ρ z => match b ρ z with
  | .ok p z' => .ok p z'
  | .exc c fs z' => match tabB c tab with
    | some true => mBind (mCalm (s ((noEnv n).set i (some (exnOf c fs))))) (fun p => mPure (p.1, p.2.set i none)) z'
    | some false => .exc c fs z'
    | none => .bad
  | .bad => .bad
/-- .. without a name -/
def sTryO (n : Nat) (tab : List (Str × Bool)) (b s : DS) : DS := fun ρ z => match b ρ z with
  | .ok p z' => .ok p z'
  | .exc c fs z' => match tabB c tab with
    | some true => mCalm (s (noEnv n)) z'
    | some false => .exc c fs z'
    | none => .bad
  | .bad => .bad
structure ExTab (g : Gb) (cx : Value) (tab : List (Str × Bool)) : Prop where
  ex : ∀ c b, tabB c tab = some b → ∃ C, g.mg c = some (.ref C) ∧ PySem.W.exmOne g.K (.ref C) cx = some b
theorem fsr_split {g : Gb} {w : Wd} : ∀ {gs : List (Str × V)} {fs : List (Str × D)}, FsR g w gs fs → gs.map (·.1) = fs.map (·.1) ∧ RvA g w (gs.map (·.2)) (fs.map (·.2))
  | _, _, .nil => ⟨rfl, .nil⟩
  | _, _, .cons h t => by
    obtain ⟨a, b⟩ := fsr_split t
    exact ⟨by simp [a], .cons h b⟩
theorem env_none {g : Gb} {w : Wd} {σ : L2.St} {n : Nat} (h : σ.length = n) : EnvOk g w σ (noEnv n) := by
  refine ⟨by simp [noEnv, h], fun i d e => ?_⟩
  unfold noEnv at e
  rw [List.getElem?_replicate] at e
  split at e <;> cases e
section
variable {g : Gb} {Wo : WX} {tb : WX → TS} {ts : TS} {b s : DS} {n i : Nat} {tab : List (Str × Bool)} {cx : Value}
theorem keep_exn {w : Wd} {z : PH} {H : Hp} {C dd a : Addr} {c : Str} {fs : List (Str × D)} (o : Ok g w z H) (x : ExR g w c fs C dd) (ha : H a = none) : ∃ w2, Go g w H z w2 (upd H a (exG (.ref C) (some dd) a)) ∧ Rv g w2 (.ref a) (exnOf c fs) := by
  obtain ⟨hc, gs, h1, h2⟩ := x
  have g2 := Go.new (o := exoO C dd a) o ha cold_exo
  obtain ⟨e1, e2⟩ := fsr_split (h2.mono g2.le)
  exact ⟨_, g2, .exn upd_same hc (g2.le.B _ _ h1) e1 e2⟩
theorem es_tryN (T : ExTab g cx tab) (hb : ∀ W, EvS g W (tb W) b) (hs : EvS g WNo ts s) : EvS g Wo (fun D σ H => tb (wKp g.K cx i n ts Wo D) D σ H) (sTryN n tab i b s) := fun w σ H z ρ E o Dn h => by
  refine hb _ w σ H z ρ E o Dn ?_
  unfold sTryN at h
  cases e : b ρ z with
  | ok p z' => rw [e] at h; exact h
  | bad => rw [e] at h; exact h.elim
  | exc c fs z' =>
    simp only [e] at h
    cases q : tabB c tab with
    | none => simp only [q] at h; exact h.elim
    | some bb =>
      obtain ⟨C0, hm0, hx0⟩ := T.ex c bb q
      show QXS g w H _ c fs z'
      intro σ' C dd w' H' g1 x
      obtain rfl : C0 = C := by
        have := x.1
        rw [hm0] at this
        cases this
        rfl
      refine ⟨bb, hx0, fun hbb a ha hl => ?_, fun hbb => ?_⟩
      · subst hbb
        simp only [q] at h
        have h2 := sat_calm (sat_bind h)
        obtain ⟨w2, g2, r2⟩ := keep_exn g1.ok x ha
        have E2 : EnvOk g w2 (σ'.set i (some (.ref a))) ((noEnv n).set i (some (exnOf c fs))) := (env_none hl).set r2
        refine hs w2 _ _ z' _ E2 g2.ok _ (sat_mono h2 (fun p z2 s2 => ?_) fun _ _ _ q => q.elim)
        have g12 := g1.trans g2
        obtain ⟨f, ρ2⟩ := p
        have s2 : QS g w H Dn (f, ρ2.set i none) z2 := s2
        cases f with
        | nx => exact fun w3 σ3 H3 g3 E3 => s2 w3 (σ3.set i none) H3 (g12.trans g3) E3.forget
        | rt d => exact fun w3 v H3 g3 r3 => s2 w3 v H3 (g12.trans g3) r3
        | bk => exact fun w3 σ3 H3 g3 E3 => s2 w3 (σ3.set i none) H3 (g12.trans g3) E3.forget
        | ct => exact fun w3 σ3 H3 g3 E3 => s2 w3 (σ3.set i none) H3 (g12.trans g3) E3.forget
      · subst hbb
        simp only [q] at h
        exact (show QXS g w H Wo c fs z' from h) σ' _ dd w' H' g1 x
theorem es_tryO (T : ExTab g cx tab) (hb : ∀ W, EvS g W (tb W) b) (hs : EvS g WNo ts s) : EvS g Wo (fun D σ H => tb (wKo g.K cx n ts Wo D) D σ H) (sTryO n tab b s) := fun w σ H z ρ E o Dn h => by
  refine hb _ w σ H z ρ E o Dn ?_
  unfold sTryO at h
  cases e : b ρ z with
  | ok p z' => rw [e] at h; exact h
  | bad => rw [e] at h; exact h.elim
  | exc c fs z' =>
    simp only [e] at h
    cases q : tabB c tab with
    | none => simp only [q] at h; exact h.elim
    | some bb =>
      obtain ⟨C0, hm0, hx0⟩ := T.ex c bb q
      show QXS g w H _ c fs z'
      intro σ' C dd w' H' g1 x
      obtain rfl : C0 = C := by
        have := x.1
        rw [hm0] at this
        cases this
        rfl
      refine ⟨bb, hx0, fun hbb a ha hl => ?_, fun hbb => ?_⟩
      · subst hbb
        simp only [q] at h
        have h2 := sat_calm h
        obtain ⟨w2, g2, r2⟩ := keep_exn g1.ok x ha
        refine hs w2 _ _ z' _ (env_none hl) g2.ok _ (sat_mono h2 (fun p z2 s2 => s2.at (g1.trans g2)) fun _ _ _ q => q.elim)
      · subst hbb
        simp only [q] at h
        exact (show QXS g w H Wo c fs z' from h) σ' _ dd w' H' g1 x
end
/-! ### _law_raised(lambda: e) -/
theorem go_ext {g : Gb} {w : Wd} {z : PH} {H H1 : Hp} (o : Ok g w z H) (e : LamX.ExtN H H1) (t : LamX.Tabs g.T H1) : Go g w H z w H1 := by
  have pl : ∀ a, Pl H a → Pl H1 a := fun a ⟨u, h1, h2⟩ => ⟨u, e a u h1 h2, h2⟩
  refine ⟨.refl w, ⟨fun a u h => e a u (o.sub a u h) (o.nt a u h), o.off, o.inj, o.len, fun n a h => pl a (o.dom n a h), fun n a q h1 h2 => ?_, o.up, t, o.nt⟩, fun a u _ c h => e a u h c, fun n a h => .inl h, pl, fun _ h _ => h, fun a o' u h => e a _ h fun ps z => by cases z⟩
  have r := o.obj n a q h1 h2
  obtain ⟨u, h3, h4, _⟩ := r.there
  exact r.mono (.refl w) (by rw [h3]; exact e a u h3 h4)
/-- what the rest of _law_raised tells of the exception that was caught (or None): slots asked, caught, e -/
def restOf (dr : DS) (d : D) : M D := fun z => match dr [none, some d, none] z with
  | .ok (.rt v, _) z' => .ok v z'
  | .ok (.nx, _) z' => .ok .non z'
  | _ => .bad
def mAsk (tab : List (Str × Bool)) (dr : DS) (m : M D) : M D := fun z => match m z with
  | .ok _ z' => restOf dr .non z'
  | .exc c fs z' => match tabB c tab with
    | some true => restOf dr (exnOf c fs) z'
    | _ => .bad
  | .bad => .bad
def dRaised (tab : List (Str × Bool)) (dr : DS) (body : DE) : DE := fun ρ => mCut (mAsk tab dr (body ρ))
/-- the reading of such a call -/
def TTr (g : Gb) (tab : List (Str × Bool)) (dr : DS) : (XK → Hp → VK → Prop) → Hp → VK → Prop := fun tl H Q => ∃ (w : Wd) (z : PH) (m : M D), Ok g w z H ∧
  (∀ (E : XK) (w1 : Wd) (z1 : PH) (H1 : Hp) (Q1 : VK), Go g w H z1 w1 H1 → z1 = z → Sat (m z1) (QV g w1 H1 Q1) (QE g w1 H1 E) → tl E H1 Q1) ∧ Sat (mAsk tab dr m z) (QV g w H Q) (fun _ _ _ => False)
section
variable {g : Gb} {tab : List (Str × Bool)} {dr : DS} {tr : TS}
theorem rest_run {w : Wd} {z : PH} {H H0 : Hp} {w0 : Wd} {σ : L2.St} {d : D} {v : V} {Q : VK} {x y : Option V} (hr : EvS g WNo tr dr) (o : Go g w0 H0 z w H) (rv : Rv g w v d) (h : Sat (restOf dr d z) (QV g w0 H0 Q) (fun _ _ _ => False)) (hσ : σ = [x, some v, y]) :
    tr { nx := fun _ H' => Q .non H', rt := Q } σ H := by
  subst hσ
  have E : EnvOk g w [x, some v, y] [none, some d, none] := by
    refine ⟨rfl, fun i e hi => ?_⟩
    match i, hi with
    | 1, hi => cases hi; exact ⟨v, rfl, rv⟩
    | n + 2, hi => match n, hi with
      | 0, hi => cases hi
      | n + 1, hi => simp at hi
  refine hr w _ H z _ E o.ok _ ?_
  unfold restOf at h
  cases e : dr [none, some d, none] z with
  | bad => rw [e] at h; exact h
  | exc c fs z' => rw [e] at h; exact (show False from h).elim
  | ok p z' =>
    rw [e] at h
    obtain ⟨f, ρ'⟩ := p
    cases f with
    | nx => exact fun w' σ' H' g' E' => (show QV g w0 H0 Q .non z' from h) w' .non H' (o.trans g') .non
    | rt d => exact fun w' v H' g' r' => (show QV g w0 H0 Q d z' from h) w' v H' (o.trans g') r'
    | bk => exact (show False from h).elim
    | ct => exact (show False from h).elim
/-- a context without exceptions -/
abbrev lamZ (X : Cx) (Ng : List Str) (x : Str) (sg : Scope) (gf : Addr) (cdg : Value) (s : Shared) (H : Hp) : Cx := (cxOf C8.CX0 X.prog X.w X.K X.mg X.base Ng x sg gf cdg X.A X.stack s H C8.E0).nox
theorem raised_gives {X : Cx} {x q ue : Str} {sg : Scope} {gf : Addr} {cdg : Value} {rest : List Stmt} {cx : Value} {p1 p2 p3 p4 p5 p6 p7 p8 p9 q1 q2 q3 : Pos} {k1 : Nat}
    (hK : X.K = g.K) (T : ExTab g cx tab) (hr : EvS g WNo tr dr)
    (hloc : sg.names.lookup ("caught" : Str) = some .local) (hloe : sg.names.lookup ("e" : Str) = some .local) (hloa : sg.names.lookup ("asked" : Str) = some .local) (hge : sg.names.lookup ue = some .globalImplicit) (hme : X.mg ue = some cx) (hde : (ue == ("__debug__" : Str)) = false)
    (hrest : ∀ s H, PSs (lamZ X ["asked", "caught", "e"] x sg gf cdg s H) rest tr) :
    LamX.GivesTo X ["asked", "caught", "e"] x sg gf cdg (.Assign [.Name "caught" p1] (.Constant .none k1 p2) p3 :: .Try [.Expr (.Call (.Name "asked" p4) [] [] p5) p6] [.ExceptHandler (some (.Name ue p7)) (some "e") [.Assign [.Name "caught" p8] (.Name "e" p9) q1] q2] [] [] q3 :: rest) "asked" q (TTr g tab dr) := by
  intro f c' s H Q tl act hc h
  obtain ⟨w, z, m, o, ht, hsat⟩ := h
  have nd : (["asked", "caught", "e"] : List Str).Nodup := by decide
  refine ⟨_, pss_cons (ps_set (X := lamZ X ["asked", "caught", "e"] x sg gf cdg s H) (i := 1) nd rfl (.inl hloc) pe_non rfl (.inr hloc)) (pss_cons (ps_try_kp (X := lamZ X ["asked", "caught", "e"] x sg gf cdg s H) (i := 2) (c := cx) (Wo := fun _ _ _ _ => False) (ts := tAsg (tVar 2) (gName 1))
      (tb := fun W D σ H => ∃ Ech : XK, (∀ cls d σ' H', Ech cls d H' → W cls d σ' H') ∧ σ[0]? = some (some (.ref f)) ∧ H c' = some (LamX.CodeO c' q) ∧ tl Ech H fun _ H' => D.nx σ H') rfl rfl nd rfl hloe ⟨hge, hde, .inl hme⟩ LamX.takes0 (fun W pn xe tk _ => ?_)
      (fun a pn => pss_one (ps_asg (pe_var (i := 2) rfl (.inl hloe)) (pg_name (i := 1) nd rfl (.inl hloc) (.inr hloc))))) (hrest s H)), ?_⟩
  · refine .mk fun pins s' σ H' D I h' => ?_
    rcases h' with ⟨Ech, hW, h1, h2, h3⟩
    exact (pss_one (ps_expr (pos := p6) (act W pn xe Ech p4 p5 tk hW))).run pins s' σ H' D I ⟨h1, h2, h3⟩
  · refine ⟨fun cl d H' => ∀ σ', wKp X.K cx 2 3 (tAsg (tVar 2) (gName 1)) (fun _ _ _ _ => False) { nx := tr { nx := fun _ H' => Q .non H', rt := Q }, rt := Q } cl d σ' H', fun _ _ σ' _ h => h σ', rfl, hc, ht _ w z H _ (Go.refl o) rfl ?_⟩
    unfold mAsk at hsat
    cases e : m z with
    | bad => rw [e] at hsat; exact hsat
    | ok v z' => rw [e] at hsat; exact fun w' v H' g' r' => rest_run hr g' .non hsat rfl
    | exc c fs z' =>
      simp only [e] at hsat
      intro C dd w' H' g1 xx σ'
      cases y : tabB c tab with
      | none => simp only [y] at hsat; exact (show False from hsat).elim
      | some bb =>
        obtain ⟨C0, hm0, hx0⟩ := T.ex c bb y
        obtain rfl : C0 = C := by
          have := xx.1
          rw [hm0] at this
          cases this
          rfl
        cases bb with
        | false => simp only [y] at hsat; exact (show False from hsat).elim
        | true =>
          simp only [y] at hsat
          refine ⟨true, by rw [hK]; exact hx0, fun _ a ha hl => ?_, fun z => nomatch z⟩
          obtain ⟨w2, g2, r2⟩ := keep_exn g1.ok xx ha
          match σ', hl with
          | [x0, x1, x2], _ => exact ⟨.ref a, rfl, rest_run hr (g1.trans g2) r2 hsat rfl⟩
end
end UW
namespace UW
open PySem PySem.Spec PyProof.Rows L2
theorem nox_ask {tab : List (Str × Bool)} {dr : DS} {m : M D} : NoX (mAsk tab dr m) := fun z => by
  have hr : ∀ d, NoX (restOf dr d) := fun d z' => by
    unfold restOf
    cases e : dr [none, some d, none] z' with
    | bad => trivial
    | exc c fs z2 => trivial
    | ok p z2 => obtain ⟨f, ρ⟩ := p; cases f <;> trivial
  unfold mAsk
  cases e : m z with
  | bad => trivial
  | ok v z' => exact hr .non z'
  | exc c fs z' =>
    simp only
    cases y : tabB c tab with
    | none => trivial
    | some b => cases b with
      | true => exact hr (exnOf c fs) z'
      | false => trivial
theorem ev_raised {g : Gb} {W : WX} {tab : List (Str × Bool)} {dr : DS} {t : XK → TE} {body : DE} (hb : ∀ E : XK, EvE g (fun cl d _ H => E cl d H) (t E) body) : EvE g W (LamX.tLam g.T (TTr g tab dr) t) (dRaised tab dr body) := fun w σ H z ρ E0 o Q hq => by
  refine ⟨o.tab, fun H1 eN tb => ?_⟩
  have g0 := go_ext o eN tb
  refine ⟨w, z, body ρ, g0.ok, fun E w1 z1 H2 Q1 g1 _ hs => hb E w1 σ H2 z1 ρ (E0.mono g1.le) g1.ok Q1 hs, ?_⟩
  have h2 : Sat (mAsk tab dr (body ρ) z) (QV g w H Q) (fun _ _ _ => False) := Sat.nox nox_ask (sat_cut o.len hq)
  exact sat_mono h2 (fun d z2 q => q.at g0) fun _ _ _ q => q
end UW

/-! V4 -/
namespace UW
open PySem PySem.Spec PyProof.Rows L2
section
variable {X : Cx}
theorem op_addA : OpR X (binaryOp .Add) (rAddA X.K) := op_add.or (op_add_str.or (op_catF.or op_cat))
theorem op_mulA : OpR X (binaryOp .Mult) (rMulA X.K) := op_mul.or (op_rep.or (op_repT1.or op_repF))
theorem op_eqA (hu : X.A.units + 64 < cLine) : OpR X (compareOp .Eq) (rEqA X.K) := op_eq.or ((op_eqD hu).or (op_eqE (by omega)))
theorem op_neA (hu : X.A.units + 64 < cLine) : OpR X (compareOp .NotEq) (rNeA X.K) := op_ne.or ((op_neD hu).or (op_neE (by omega)))
theorem sl_any : SlR X (rSlAny X.K) := sl_tupF.or (sl_list.or sl_str)
theorem pi_any {tg e : Expr} {te : TE} (he : PE X e te) : PI X tg e (tiAny X.K te) := by
  refine ⟨fun pins s σ H R I h => thn (he.run pins s σ H _ I h) fun v s1 hv => ?_⟩
  obtain ⟨y, H1, I1, r1, c | c | c⟩ := hv
  · obtain ⟨a, rfl, ⟨xs, hq⟩, q⟩ := c
    cases r1
    obtain ⟨items, rvs, p, hsz⟩ := I1.list hq
    exact wpAny_pyIter_list p.isList (pi_one (tk := s1.toks) I1 _ (turn_list a _) ⟨_, Heap.get?_push_size _ rfl, rfl, rfl⟩ q)
  · obtain ⟨a, rfl, ⟨xs, hq⟩, q⟩ := c
    cases r1
    obtain ⟨items, rvs, p, hsz⟩ := I1.tuple hq
    exact wpAny_pyIter_tuple (show s1.heap.IsTuple a items.toArray from p) (pi_one (tk := s1.toks) I1 _ (turn_tuple a _) ⟨_, Heap.get?_push_size _ rfl, rfl, rfl⟩ q)
  · obtain ⟨x, rfl, q⟩ := c
    obtain ⟨t, rfl⟩ := r1
    cases hasc : x.cps.all (· < 128)
    · refine wpAny_pyIter_wide hasc (pi_one (tk := s1.toks) I1 _ (turn_str _ x t "str_iterator" (.inr rfl)) ⟨_, Heap.get?_push_size _ rfl, rfl, rfl⟩ q)
    · refine wpAny_pyIter_ascii hasc (pi_one (tk := s1.toks) I1 _ (turn_str _ x t "str_ascii_iterator" (.inl rfl)) ⟨_, Heap.get?_push_size _ rfl, rfl, rfl⟩ q)
end
/-! ### what the top has made -/
/-- a def of the top -/
structure Fd (K : PySem.W.Frag) (mg : Str → Option Value) (x : Str) (st : Stmt) (ps : List Str) (f : Addr) (fd : FuncData) : Prop where
  fn : FunA K x x st f fd
  mg : mg x = some (.ref f)
  b : Binds K fd ps []
/-- .. that makes lambdas: c its code object, P that one's table -/
structure FdL (K : PySem.W.Frag) (mg : Str → Option Value) (x : Str) (st : Stmt) (ps : List Str) (f : Addr) (fd : FuncData) (c : Addr) : Prop where
  fn : FunL K x x st f fd c
  mg : mg x = some (.ref f)
  b : Binds K fd ps []
/-- a constant of the top -/
structure KC (g : Gb) (x : Str) (d : D) (v : V) (u : Value) : Prop where
  m : g.mg x = some u
  r : RelV v u
  d : ∀ w, Rv g w v d
/-- a written dict -/
structure KD (g : Gb) (w : World) (x : Str) (tab : List (Str × D)) (a : Addr) : Prop where
  m : g.mg x = some (.ref a)
  d : DCt g w a tab
/-- an exception class with an __init__ of its own -/
structure XC (g : Gb) (x : Str) (st : Stmt) (ps fs : List Str) (C fI : Addr) (fd : FuncData) : Prop where
  m : g.mg x = some (.ref C)
  oe : OexC g.K C
  xf : XfC g.K C
  ec : ExcC g.K C
  iC : PySem.W.findIn g.K (.ref C) "__init__" = some (some (.ref fI))
  tI : PySem.W.typeIn g.K (.ref fI) = some (.type "function")
  no : ∀ f ∈ fs, PySem.W.findIn g.K (.ref C) f = some none
  fn : FunA g.K "__init__" (x ++ ".__init__") st fI fd
  b : Binds g.K fd ps []
/-! ### _law_raised(lambda: e), by facts of it -/
theorem pe_raised {X : Cx} {x a : Str} {st : Stmt} {gf : Addr} {fd : FuncData} {Ng : List Str} {TT : (XK → Hp → VK → Prop) → Hp → VK → Prop} {T : List (Addr × Str)} {c P : Addr} {k : Nat} {params : Arguments} {body : Expr} {scope : Scope} {t : XK → TE} {p lpos pos : Pos}
    (hg : Gl X x) (F : Fd X.K X.mg x st [a] gf fd) (Sg : FnScope Ng [a] (defScope st)) (hNg : Ng[0]? = some a) (hva : Vis (defScope st) a)
    (hG : ∀ cdv, LamX.GivesTo X Ng x (defScope st) gf cdv (defBody st) a (X.env.qual ++ "<lambda>") TT)
    (TB : LamX.TabB X.base X.mg c P) (hcode : X.env.code = .ref c) (hmT : (P, X.env.qual ++ "<lambda>") ∈ T) (hu : ∀ p ∈ T, p.1 = P → p.2 = X.env.qual ++ "<lambda>") (hr : Room (k + 2) X.A) (L : LamX.LamS X.env.scope scope) (hdef : defaultsOf params X.env = ([], []))
    (hbind : ∀ (qn : Str) (cl : List (Str × Addr)) (pm cv ctv : Value), bindArgs (PySem.W.kla_fn "<lambda>" qn params body scope cl pm cv ctv) ⟨[], []⟩ = pure [])
    (hbody : ∀ (A : Around) (outer : List PySem.Env) (s : Shared) (H : Hp) (E : XK) (f c' : Addr), Room k (A.deeper (LamX.lamEnv X scope s.heap.objs.size f c')) → PE (LamX.lamCx X A outer s H E scope f c') body (t E))
    (h1 : (x == ("__debug__" : Str)) = false := by decide) (h2 : (a == ("__debug__" : Str)) = false := by decide) (h3 : (a == ("__classdict__" : Str)) = false := by decide) :
    PE X (.Call (.Name x p) [.Lambda params body scope lpos] [] pos) (LamX.tLam T TT t) := by
  obtain ⟨oc, od, dV, kV, doc, pm, an, cdv, ct, osl, e, lk, hcg⟩ := F.fn.ex
  have hb := F.b
  rw [e] at lk hb
  exact LamX.pe_lamcall hg F.mg F.fn.kp lk hcg hb Sg hNg hva (hG cdv) TB hcode hmT hu hr L hdef hbind hbody h1 h2 h3
end UW

/-! V5 -/
namespace UW
open PySem PySem.Spec PyProof.Rows L2
theorem le1000 {n : Nat} (h : n ≤ 1000 := by decide) : n ≤ sizeLine := by rw [sizeLine_eq]; omega
section
variable {g : Gb}
/-! ### targets of a tuple -/
structure EvGL (g : Gb) (gs : TGs) (is : List Nat) (dgs : List DG) : Prop where
  all : EvGs g gs is dgs
  each : ∀ x ∈ dgs, ∀ d ρ, NoX (x d ρ)
theorem egl_nil : EvGL g gNil [] [] := ⟨egs_nil, fun _ h => nomatch h⟩
theorem egl_cons {gt : TG} {gs : TGs} {is js : List Nat} {dg : DG} {dgs : List DG} (h1 : EvG g gt is dg) (h2 : EvGL g gs js dgs) : EvGL g (gCons gt gs) (is ++ js) (dg :: dgs) :=
  ⟨egs_cons h1 h2.all, fun x h => by
    obtain e | e := List.mem_cons.mp h
    · rw [e]; exact h1.nox
    · exact h2.each x e⟩
theorem eg_tupL {gs : TGs} {is : List Nat} {dgs : List DG} {n : Nat} (h : EvGL g gs is dgs) (hn : dgs.length = n) : EvG g (gTup g.K n gs) is (gTp dgs) := eg_tup h.all hn h.each
end
/-! ### is True -/
section
variable {X : Cx}
theorem op_isB : OpR X (compareOp .Is) (fun x y H Q => ∃ a b, x = .bl a ∧ y = .bl b ∧ Q (.bl (decide (a = b))) H) := by
  intros pins s σ H x y v u Q I rx ry h
  rcases h with ⟨a, b, rfl, rfl, q⟩
  cases rx
  cases ry
  show wpAny _ _ ((isSame (Value.bool a) (Value.bool b)) >>= fun z => pure (Value.bool z)) _ _ s
  have e : isSame (Value.bool a) (Value.bool b) = pure (decide (a = b)) := by cases a <;> cases b <;> rfl
  rw [e]
  exact wpAny_bind (wpAny_pure (wpAny_pure (fin_bl I q rfl)))
theorem op_notB : OpR X (compareOp .IsNot) (fun x y H Q => ∃ a b, x = .bl a ∧ y = .bl b ∧ Q (.bl (!decide (a = b))) H) := by
  intros pins s σ H x y v u Q I rx ry h
  rcases h with ⟨a, b, rfl, rfl, q⟩
  cases rx
  cases ry
  show wpAny _ _ ((isSame (Value.bool a) (Value.bool b)) >>= fun z => pure (Value.bool (!z))) _ _ s
  have e : isSame (Value.bool a) (Value.bool b) = pure (decide (a = b)) := by cases a <;> cases b <;> rfl
  rw [e]
  exact wpAny_bind (wpAny_pure (wpAny_pure (fin_bl I q rfl)))
end
def fIsB : D → D → M D
  | .bl a, .bl b => mPure (.bl (decide (a = b)))
  | _, _ => mBad
def fNotB : D → D → M D
  | .bl a, .bl b => mPure (.bl (!decide (a = b)))
  | _, _ => mBad
section
variable {g : Gb} {W : WX}
theorem nox_isB : ∀ x y, NoX (fIsB x y) := fun x y => by cases x <;> cases y <;> exact fun _ => trivial
theorem nox_notB : ∀ x y, NoX (fNotB x y) := fun x y => by cases x <;> cases y <;> exact fun _ => trivial
theorem rw_isB : RW g (fun x y H Q => ∃ a b, x = .bl a ∧ y = .bl b ∧ Q (.bl (decide (a = b))) H) fIsB := fun w H z x y dx dy o rx ry Q h => by
  cases dx <;> cases dy <;> first
    | exact (show False from h).elim
    | (cases rx; cases ry; exact ⟨_, _, rfl, rfl, h w _ H (.refl o) (.bl _)⟩)
theorem rw_notB : RW g (fun x y H Q => ∃ a b, x = .bl a ∧ y = .bl b ∧ Q (.bl (!decide (a = b))) H) fNotB := fun w H z x y dx dy o rx ry Q h => by
  cases dx <;> cases dy <;> first
    | exact (show False from h).elim
    | (cases rx; cases ry; exact ⟨_, _, rfl, rfl, h w _ H (.refl o) (.bl _)⟩)
/-! ### s.upper() -/
def fUpper : D → M D
  | .str s => if s.length ≤ 5592405 then mPure (.str (Txt.upper s)) else mBad
  | _ => mBad
theorem ev_upper {te : TE} {a : DE} (ha : EvE g W te a) : EvE g W (tBM0 g.K "str" (fun x xs H Q => ∃ a, x = .str a ∧ xs = [] ∧ a.length ≤ 5592405 ∧ Q (.str (Txt.upper a)) H) te) (d1 fUpper a) := fun w σ H z ρ E o Q h =>
  ha w σ H z ρ E o _ (sat_mono (sat_bind h) (fun d z1 s1 w1 v H1 g1 r1 => by
    cases d with
    | str s =>
      obtain ⟨c, q⟩ := sat_if (show Sat ((if s.length ≤ 5592405 then mPure (.str (Txt.upper s)) else mBad : M D) z1) (QV g w H Q) (QX g w H σ W) from s1)
      cases r1
      exact ⟨rfl, s, rfl, rfl, c, (show QV g w H Q (.str (Txt.upper s)) z1 from q) w1 _ H1 g1 (.str _)⟩
    | _ => exact (show False from s1).elim) fun _ _ _ q => q)
end
/-! ### x, *y = a tuple -/
theorem eg_star {g : Gb} {i j : Nat} : EvG g (gStar g.K (gCons (gName i) (gCons (gName j) gNil))) [i, j] (gSt i j) := by
  refine ⟨fun w σ H z ρ v d E o r Q h => ?_, fun d ρ => ?_⟩
  · have key : ∀ (a : Addr) (us : List V) (xs : List D), v = .ref a → (SqT g.K H a us ∨ SqL g.K H a us) → RvA g w us xs → Sat (stPut i j xs ρ z) (QG g w σ H [i, j] Q) (fun _ _ _ => False) → gStar g.K (gCons (gName i) (gCons (gName j) gNil)) v σ H Q := fun a us xs ev hs hr h => by
      cases hr with
      | nil => exact False.elim (show False from h)
      | @cons u us x rs hu hus =>
        obtain ⟨c, q⟩ := sat_if (show Sat ((if rs.length ≤ 16000 then mBind (mNew (.lst rs)) fun l => mPure ((ρ.set i (some x)).set j (some l)) else mBad : M Env) z) (QG g w σ H [i, j] Q) (fun _ _ _ => False) from h)
        refine ⟨a, u, us, ev, hs, by rw [hus.length]; exact c, fun p hp => ?_⟩
        obtain ⟨g1, r1⟩ := mk_lst o hp hus
        refine ⟨u, [.ref p], rfl, .ref p, [], rfl, rfl, ?_⟩
        have q2 : QG g w σ H [i, j] Q ((ρ.set i (some x)).set j (some (.ref z.n))) (z.new (.lst rs)) := q
        exact q2 _ _ _ g1 (((E.mono g1.le).set (hu.mono g1.le)).set r1) (Off.trans (a := [i]) Off.set Off.set)
    cases d with
    | tup xs =>
      cases r with
      | tup h1 h2 => exact key _ _ xs rfl (.inl (same_t o.sub h1.t)) h2 h
    | ref r0 =>
      obtain ⟨r', q, e1, gt, h⟩ := sat_get (show Sat (mGet (.ref r0) (fun _ o => match o with | .lst xs => stPut i j xs ρ | _ => mBad) z) _ _ from h)
      cases e1
      cases r with
      | ref i1 =>
        cases q with
        | lst xs =>
          obtain ⟨vs, h1, h2⟩ := o.seq i1 gt rfl
          exact key _ _ xs rfl (.inr h1) h2 h
        | _ => exact (show False from h).elim
    | _ => exact (show False from h).elim
  · have nx : ∀ xs, NoX (stPut i j xs ρ) := fun xs => by
      cases xs with
      | nil => exact fun _ => trivial
      | cons x rs => exact nox_ite (nox_bind nox_new fun _ => nox_pure) nox_bad
    cases d with
    | tup xs => exact nx xs
    | ref r =>
      show NoX (mGet (.ref r) fun _ o => match o with | .lst xs => stPut i j xs ρ | _ => mBad)
      refine nox_get fun _ o => ?_
      cases o with
      | lst xs => exact nx xs
      | _ => exact nox_bad
    | _ => exact fun _ => trivial
/-! ### tables of few rows -/
section
variable {Pr : Str → Bool → Prop} {Pc : Str → Prop} {c x1 x2 x3 x4 : Str} {b b1 b2 b3 b4 : Bool}
theorem istab_0 (e : tabB c [] = some b) : Pr c b := nomatch e
theorem istab_c {x : Str} {bx : Bool} {r : List (Str × Bool)} (e : tabB c ((x, bx) :: r) = some b) (h : Pr x bx) (k : tabB c r = some b → Pr c b) : Pr c b := by
  unfold tabB at e
  by_cases q : x = c
  · rw [if_pos q] at e
    cases e
    rw [← q]
    exact h
  · rw [if_neg q] at e
    exact k e
theorem istab_1 (e : tabB c [(x1, b1)] = some b) (h1 : Pr x1 b1) : Pr c b := istab_c e h1 istab_0
theorem istab_2 (e : tabB c [(x1, b1), (x2, b2)] = some b) (h1 : Pr x1 b1) (h2 : Pr x2 b2) : Pr c b := istab_c e h1 fun e => istab_1 e h2
theorem istab_3 (e : tabB c [(x1, b1), (x2, b2), (x3, b3)] = some b) (h1 : Pr x1 b1) (h2 : Pr x2 b2) (h3 : Pr x3 b3) : Pr c b := istab_c e h1 fun e => istab_2 e h2 h3
theorem istab_4 (e : tabB c [(x1, b1), (x2, b2), (x3, b3), (x4, b4)] = some b) (h1 : Pr x1 b1) (h2 : Pr x2 b2) (h3 : Pr x3 b3) (h4 : Pr x4 b4) : Pr c b := istab_c e h1 fun e => istab_3 e h2 h3 h4
theorem xftab_0 (h : c ∈ ([] : List Str)) : Pc c := nomatch h
theorem xftab_1 (h : c ∈ [x1]) (h1 : Pc x1) : Pc c := by rw [List.mem_singleton.mp h]; exact h1
theorem xftab_2 (h : c ∈ [x1, x2]) (h1 : Pc x1) (h2 : Pc x2) : Pc c := by
  obtain e | e := List.mem_cons.mp h
  · rw [e]; exact h1
  · exact xftab_1 e h2
theorem tab_one {T : List (Addr × Str)} {P : Addr} {q : Str} (h : T = [(P, q)]) : ∀ p ∈ T, p.1 = P → p.2 = q := fun p hp _ => by
  rw [h] at hp
  rw [List.mem_singleton.mp hp]
end
def restS (st : Stmt) : List Stmt := (defBody st).drop 2
end UW

/-! V6 -/
namespace UW
open PySem PySem.Spec PyProof.Rows L2
/-! ### the end of a law: with the tables of the code objects that make lambdas -/
section
variable {P : Program} {w : World} {K : PySem.W.Frag} {mg mb : Str → Option Value} {gd : Bool} {k : Nat} {fa a : Addr} {fd : FuncData} {x : Str} {sp : Sp} {s : Shared} {us : List Value} {ns : List Int} {cs : List (Addr × Addr)}
/-- no dict is hidden -/
def NoHid (h : Heap) (H : Hp) : Prop := ∀ (b : Addr) (o : Obj) (es : Array DictEntry) (ep : Nat), h.get? b = some o → o.data = .dict es ep → H b = none
theorem NoHid.lift {h : Heap} {H : Hp} (n : NoHid h H) {b : Addr} {m : Str → Option Value} (z : h.Ns b m) : (hidT h H).Ns b m := by
  obtain ⟨o, es, ep, e, d, r⟩ := z
  exact ⟨o, es, ep, hidT_get e (n b o es ep e d), d, r⟩
abbrev TrueOf (s : Shared) : Result → Shared → Prop := fun r s' => r = .ok (.ret (.bool true)) ∧ OldK s.heap s'.heap ∧ s'.os = s.os ∧ AllBare s'.gens
/-- what the module's builtins are -/
abbrev BMain (mg : Str → Option Value) (h : Heap) : Prop := ∃ (bm : Addr) (ob : Obj), mg "__builtins__" = some (.ref bm) ∧ bm ≠ builtinsNs ∧ h.get? bm = some ob ∧ ob.cls = .type "module" ∧ ob.dict = some builtinsNs ∧ ob.data = .plain
/-- only the script and the tables may be tracked -/
structure Few (H : Hp) (h : Heap) (cs : List (Addr × Addr)) : Prop where
  kinds : ∀ b, H b = none ∨ (∃ p ∈ cs, b = p.2) ∨ ∃ ob l, H b = some (.frz ob (.lst l)) ∧ ∃ us n, ob.data = .seq us n
  tabs : ∀ p ∈ cs, H p.2 = some (.tbl #[])
theorem Few.plain {H : Hp} {h : Heap} (F : Few H h cs) (hok : HOk P w H h) {b : Addr} {o : Obj} (e : h.get? b = some o) (d : o.data = .plain) : H b = none := by
  rcases F.kinds b with z | ⟨p, hp, z⟩ | ⟨ob, l, z, us, n, hd⟩
  · exact z
  · subst z
    have y : h.get? p.2 = some { cls := .none, data := .fields #[] } := hok p.2 _ (F.tabs p hp)
    rw [e] at y
    cases y
    cases d
  · have y := (hok b _ z).1
    rw [e] at y
    cases y
    rw [hd] at d
    cases d
theorem true_ofT {H : Hp} (hK : K.In s.heap) (hm : s.heap.Ns mainGlobals mg) (hb : s.heap.Ns builtinsNs mb) (hbb : ∀ y : Str, y ≠ "__name__" → mb y = bootBuiltins y) (hlim : s.heap.NoLimit) (hg : s.gens = #[]) (hbm : BMain mg s.heap)
    (hr : Room k callerA) (F : ∀ base : Heap, K.In base → base.Ns mainGlobals mg → (∀ p ∈ cs, LamX.TabB base mg p.1 p.2) → FnG P w K mg base gd k fa fd [x] sp) (hbi : BindsTo s fd ⟨[.ref a], []⟩ [(x, .ref a)])
    (hF : Few H s.heap cs) (hc : ∀ p ∈ cs, PySem.W.codeHdIn K p.1 p.2 = true) (hok : HOk P w H s.heap) (hN : NoHid s.heap H) (hKH : ∀ b, K.lookup b ≠ none → H b = none) (hs : sp [.ref a] H (fun v _ => v = .bl true) fun _ _ _ => False) :
    codeAny (model P w) callerA (.call (.ref fa) ⟨[.ref a], []⟩) (TrueOf s) s := by
  have kb : K.In (hidT s.heap H) := fun b o e => hidT_get (hK b o e) (hKH b (by rw [e]; intro z; cases z))
  obtain ⟨mc, l1, l2⟩ := hlim
  have hT : ∀ p ∈ cs, s.heap.get? p.2 = some { cls := .none, data := .fields #[] } := fun p hp => hok p.2 _ (hF.tabs p hp)
  have TB : ∀ p ∈ cs, LamX.TabB (hidT s.heap H) mg p.1 p.2 := fun p hp => by
    obtain ⟨bm, ob, b1, b2, b3, b4, b5, b6⟩ := hbm
    have nG : ¬ bm = mainGlobals := fun q => by
      obtain ⟨o, es, ep, e, hd, _⟩ := hm
      rw [q, e] at b3
      cases b3
      rw [hd] at b6
      cases b6
    have nP : ¬ bm = p.2 := fun q => by
      rw [q, hT p hp] at b3
      cases b3
      cases b6
    refine ⟨PySem.W.codeHd_of_K kb (hc p hp), ⟨bm, ob, b1, b2, nG, nP, hidT_get b3 (hF.plain hok b3 b6), b4, b5, b6⟩, fun z => ?_⟩
    obtain ⟨o, es, ep, e, hd, _⟩ := hm
    rw [z, hT p hp] at e
    cases e
    cases hd
  have e0 : Env0 P w K mg (hidT s.heap H) callerA [] s H :=
    ⟨rfl, ⟨kb, hN.lift hm, ⟨mb, hN.lift hb, hbb⟩, ⟨mc, hN.lift l1, l2⟩⟩, fun b o e => of_hidT e, Nat.le_of_eq (hidT_size _ _), trivial, fun b m => (nomatch m), hok, .of_eq hg⟩
  have run := (F _ kb (hN.lift hm) TB).go callerA [] s H ⟨[.ref a], []⟩ [.ref a] [.ref a] _ _ (fun _ => rfl) hr e0 hbi (.cons rfl .nil) hs
  refine codeAny_mono run fun r s' z => ?_
  match r, z with
  | .error e, z => obtain ⟨_, _, _, _, _, _, _, _, _, _, _, _, q⟩ := z; exact q.elim
  | .ok .next, z => exact (z : False).elim
  | .ok .brk, z => exact (z : False).elim
  | .ok .cont, z => exact (z : False).elim
  | .ok (.ret u), ⟨v, H', os, bare, un, ok', rv, q⟩ =>
    have q : v = .bl true := q
    rw [q] at rv
    have rv : u = Value.bool true := rv
    rw [rv]
    have same : ∀ b o, (∀ p ∈ cs, b ≠ p.2) → s.heap.get? b = some o → s'.heap.get? b = some o := fun b o nb e => by
      rcases hF.kinds b with z | ⟨p, hp, z⟩ | ⟨ob, l, z, _⟩
      · exact un.keep b o e z (fun z => by cases z) (by simp)
      · exact absurd z (nb p hp)
      · have c1 := (hok b _ z).1
        have c2 := (ok' b _ (un.frzs b ob _ z)).1
        rw [c1] at e
        exact e ▸ c2
    have grown : ∀ p ∈ cs, ∃ more : Array Value,
      s'.heap.get? p.2 = some { cls := .none, data := .fields more } := fun p hp => by
      obtain ⟨more, z⟩ := un.tbls p.2 #[] (hF.tabs p hp)
      exact ⟨_, ok' p.2 _ z⟩
    refine And.intro rfl ⟨⟨fun b o e => ?_, fun b o e => ?_⟩, os, bare⟩
    · by_cases c : ∃ p ∈ cs, b = p.2
      · obtain ⟨p, hp, rfl⟩ := c
        obtain ⟨more, g⟩ := grown p hp
        rw [hT p hp] at e
        cases e
        exact .inr (.inl ⟨((PySem.W.codeHd_of_K hK (hc p hp)).tab (hT p hp)).isCodeTable, rfl, #[], more, rfl, by rw [Array.empty_append]; exact g⟩)
      · exact .inl (same b o (fun p hp e => c ⟨p, hp, e⟩) e)
    · by_cases c : ∃ p ∈ cs, b = p.2
      · obtain ⟨p, hp, rfl⟩ := c
        obtain ⟨more, g⟩ := grown p hp
        exact ⟨_, g⟩
      · exact ⟨o, same b o (fun p hp e => c ⟨p, hp, e⟩) e⟩
/-- the call of the law -/
theorem call_trueT (hK : K.In s.heap) (hm : s.heap.Ns mainGlobals mg) (hb : s.heap.Ns builtinsNs mb) (hbb : ∀ y : Str, y ≠ "__name__" → mb y = bootBuiltins y) (hlim : s.heap.NoLimit) (hg : s.gens = #[]) (hbm : BMain mg s.heap)
    (ho : s.heap.get? a = some { cls := .type "list", data := .seq us.toArray }) (hi : IntsAre us ns) (hl : ns.length ≤ sizeLine)
    (hr : Room k callerA) (F : ∀ base : Heap, K.In base → base.Ns mainGlobals mg → (∀ p ∈ cs, LamX.TabB base mg p.1 p.2) → FnG P w K mg base gd k fa fd [x] sp) (hbi : ∀ (s : Shared) (u : Value), BindsTo s fd ⟨[u], []⟩ [(x, u)])
    (hc : ∀ p ∈ cs, PySem.W.codeHdIn K p.1 p.2 = true) (hT : ∀ p ∈ cs, s.heap.get? p.2 = some { cls := .none, data := .fields #[] }) (nT : ∀ p ∈ cs, K.lookup p.2 = none)
    (hs : ∀ H : Hp, (∀ p ∈ cs, H p.2 = some (.tbl #[])) → SqL K H a (ns.map V.int) → sp [.ref a] H (fun v _ => v = .bl true) fun _ _ _ => False) :
    codeAny (model P w) callerA (.call (.ref fa) ⟨[.ref a], []⟩) (TrueOf s) s := by
  have rv := vals_ints hi
  have na : ∀ p ∈ cs, p.2 ≠ a := fun p hp e => by
    have z := hT p hp
    rw [e, ho] at z
    have z := congrArg Obj.data (Option.some.inj z)
    cases z
  -- what is tracked: the script, where it is not written, and the tables
  have go : ∀ sc : Option HO, (∀ u, sc = some u → u = .frz { cls := .type "list", data := .seq us.toArray } (.lst (ns.map V.int)) ∧ K.lookup a = none) → (∀ H : Hp, H a = sc → (∀ p ∈ cs, H p.2 = some (.tbl #[])) → SqL K H a (ns.map V.int)) →
      codeAny (model P w) callerA (.call (.ref fa) ⟨[.ref a], []⟩) (TrueOf s) s := fun sc hsc hq => by
    obtain ⟨H, hH⟩ : ∃ H : Hp, H = fun b => if b = a then sc else if b ∈ cs.map (·.2) then some (.tbl #[]) else none := ⟨_, rfl⟩
    have at_a : H a = sc := by rw [hH]; exact if_pos rfl
    have at_t : ∀ p ∈ cs, H p.2 = some (.tbl #[]) := fun p hp => by rw [hH]; exact (if_neg (na p hp)).trans (if_pos (List.mem_map.mpr ⟨p, hp, rfl⟩))
    have cases_ : ∀ b, (b = a ∧ H b = sc) ∨ (∃ p ∈ cs, b = p.2) ∨ H b = none := fun b => by
      by_cases q : b = a
      · rw [q]; exact .inl ⟨rfl, at_a⟩
      · by_cases q2 : b ∈ cs.map (·.2)
        · obtain ⟨p, hp, e⟩ := List.mem_map.mp q2
          exact .inr (.inl ⟨p, hp, e.symm⟩)
        · refine .inr (.inr ?_)
          rw [hH]
          exact (if_neg q).trans (if_neg q2)
    refine true_ofT (H := H) hK hm hb hbb hlim hg hbm hr F (hbi s _) ⟨fun b => ?_, at_t⟩ hc (fun b u z => ?_) (fun b o es ep e d => ?_) (fun b n => ?_) (hs H at_t (hq H at_a at_t))
    · rcases cases_ b with ⟨_, h⟩ | h | h
      · cases q : sc with
        | none => exact .inl (h.trans q)
        | some u =>
          obtain ⟨e, _⟩ := hsc u q
          exact .inr (.inr ⟨_, _, by rw [h, q, e], us.toArray, _, rfl⟩)
      · exact .inr (.inl h)
      · exact .inl h
    · rcases cases_ b with ⟨e, h⟩ | ⟨p, hp, e⟩ | h
      · obtain ⟨e2, _⟩ := hsc u (h.symm.trans z)
        rw [e, e2]
        exact ⟨ho, by rw [List.length_map]; exact hl, us, _, rv, ho⟩
      · subst e
        rw [at_t p hp] at z
        cases z
        exact hT p hp
      · rw [h] at z; cases z
    · rcases cases_ b with ⟨e2, h⟩ | ⟨p, hp, e2⟩ | h
      · rw [e2, ho] at e
        cases e
        cases d
      · subst e2
        rw [hT p hp] at e
        cases e
        cases d
      · exact h
    · rcases cases_ b with ⟨e, h⟩ | ⟨p, hp, e⟩ | h
      · cases q : sc with
        | none => exact h.trans q
        | some u =>
          obtain ⟨_, e2⟩ := hsc u q
          rw [e] at n
          exact absurd e2 n
      · subst e
        exact absurd (nT p hp) n
      · exact h
  cases hk : K.lookup a with
  | some o =>
    have e := hK a o hk
    rw [ho] at e
    obtain rfl := Option.some.inj e
    exact go none (fun u z => by cases z) fun H _ _ => .inr ⟨_, us.toArray, _, hk, rfl, rfl, rfl, by rw [List.size_toArray, hi.length]; exact hl, by simpa using rv⟩
  | none => exact go (some _) (fun u z => ⟨(Option.some.inj z).symm, hk⟩) fun H h _ => .inl (.inr ⟨_, h⟩)
end
/-- the walk that the head asks for -/
theorem walk_trueT {l : PySem.W.OpenLaw} {n k : Nat} {gd : Bool} {q : Program} {loose : List Str} {XP : (Str → Option Value) → Heap → Prop} {YP : World → Heap → Prop} {d : DefRec} {K : Params → PySem.W.Frag} {sp : World → (Str → Option Value) → Sp} {x : Str} {cs : List (Addr × Addr)}
    (hn : l.most = some n) (hn2 : n ≤ sizeLine) (hd : d.params.defaults = []) (hr : Room k callerA) (hY : ∀ (w : World) (h : Heap), YP w h → (K w.params).In h ∧ ∀ p ∈ cs, h.get? p.2 = some { cls := .none, data := .fields #[] })
    (hc : ∀ (w : World), ∀ p ∈ cs, PySem.W.codeHdIn (K w.params) p.1 p.2 = true) (nT : ∀ (w : World), ∀ p ∈ cs, (K w.params).lookup p.2 = none)
    (F : ∀ (w : World) (mg : Str → Option Value) (fa : Addr) (h : Heap),
      (K w.params).In h → h.Ns mainGlobals mg → mg d.name = some (.ref fa) →
      ∃ fd : FuncData, (∀ (s : Shared) (u : Value), BindsTo s fd ⟨[u], []⟩ [(x, u)]) ∧ ∀ base : Heap, (K w.params).In base → base.Ns mainGlobals mg → (∀ p ∈ cs, LamX.TabB base mg p.1 p.2) → FnG l.prog w (K w.params) mg base gd k fa fd [x] (sp w mg))
    (hs : ∀ (w : World) (mg : Str → Option Value) (H : Hp) (a : Addr) (ns : List Int), ns.length ≤ n → (∀ z ∈ ns, Builtin.Int.intBits z ≤ 1048576) → (∀ p ∈ cs, H p.2 = some (.tbl #[])) → SqL (K w.params) H a (ns.map V.int) → sp w mg [.ref a] H (fun v _ => v = .bl true) fun _ _ _ => False) :
    PySem.W.WalkO q loose XP YP l.row.toRowW d [] (fun f vs => PySem.call f vs) := Att.attach_callB hn hd fun w s₀ s₁ mg mb fa o pm cd doc a vs ns G Y ho hdd hcd hmg hobj hints hlen hbits hg => by
    obtain ⟨KX, hT⟩ := hY w _ Y
    obtain ⟨fd, hb, F1⟩ := F w mg fa _ KX G.T.g hmg
    exact call_trueT KX G.T.g G.T.b G.T.builtins G.T.nolimit hg G.T.bmain hobj hints (Nat.le_trans hlen hn2) hr F1 hb (hc w) hT (nT w) (fun H h1 h2 => hs w mg H a ns hlen hbits h1 h2)
/-- the law's promise, by its function -/
theorem spF_law {g : Gb} {f : DF} {H : Hp} {a : Addr} {ns : List Int} (hT : LamX.Tabs g.T H) (hL : SqL g.K H a (ns.map V.int)) (hf : ∃ z', f [.klst (ns.map D.int)] .nil = .ok (.bl true) z') : spF g 1 f [.ref a] H (fun v _ => v = .bl true) fun _ _ _ => False := by
  have hs : ∃ B : Hp, Same B H ∧ SqL g.K B a (ns.map V.int) ∧ ∀ b o, B b = some o → Cold o := by
    rcases hL with hq | hq
    · rcases hq with h | ⟨o, h⟩
      · refine ⟨fun b => if b = a then some (.lst (ns.map V.int)) else none, fun b o e => ?_, .inl (.inl (if_pos rfl)), fun b o e => ?_⟩
        · by_cases q : b = a
          · rw [q] at e ⊢; rw [← e]; exact h.trans (if_pos rfl).symm
          · have e : (if b = a then some (HO.lst (ns.map V.int)) else none) = some o := e
            rw [if_neg q] at e; cases e
        · have e : (if b = a then some (HO.lst (ns.map V.int)) else none) = some o := e
          by_cases q : b = a
          · rw [if_pos q] at e; cases e; exact fun ps z => by cases z
          · rw [if_neg q] at e; cases e
      · refine ⟨fun b => if b = a then some (.frz o (.lst (ns.map V.int))) else none, fun b u e => ?_, .inl (.inr ⟨o, if_pos rfl⟩), fun b u e => ?_⟩
        · have e : (if b = a then some (HO.frz o (.lst (ns.map V.int))) else none) = some u := e
          by_cases q : b = a
          · rw [if_pos q] at e; cases e; rw [q]; exact h
          · rw [if_neg q] at e; cases e
        · have e : (if b = a then some (HO.frz o (.lst (ns.map V.int))) else none) = some u := e
          by_cases q : b = a
          · rw [if_pos q] at e; cases e; exact fun ps z => by cases z
          · rw [if_neg q] at e; cases e
    · exact ⟨fun _ => none, fun _ _ e => (nomatch e), .inr hq, fun _ _ e => (nomatch e)⟩
  obtain ⟨B, h1, h2, h3⟩ := hs
  obtain ⟨z', hf⟩ := hf
  have allI : ∀ (w : Wd) (ns : List Int), RvA g w (ns.map V.int) (ns.map D.int) := fun w ns => by
    induction ns with
    | nil => exact .nil
    | cons n r ih => exact .cons (.int n) ih
  refine ⟨rfl, ⟨[], B, fun _ => none⟩, .nil, [.klst (ns.map D.int)], ⟨h1, fun n b e => by simp at e, fun n m b e => by simp at e, rfl, fun n b e => by simp at e, fun n b p e => by simp at e, fun n p e => by simp [PH.get, PH.nil] at e, hT, h3⟩, .cons (.klst h2 (allI _ ns)) .nil, ?_⟩
  rw [hf]
  intro w' v H' _ r
  cases r
  rfl
end UW

/-! V7 -/
namespace UW
open PySem PySem.Spec PyProof.Rows L2
variable {ww : World}
/-! ### what the top has made: one fact after another -/
section
variable {R : Prop} {K : PySem.W.Frag} {h : Heap} {mg : Str → Option Value} {w : World} {T : List (Addr × Str)}
/-- how the arguments of a def of the text are bound -/
def ArgsOk (x qual : Str) (st : Stmt) (ps : List Str) : Prop := ∀ (kV doc pm : Value) (an : Option Addr) (cdv ct : Value) (us : List Value), us.length = ps.length → bindArgs (PySem.W.fnOf x qual (defArgs st) (defBody st) (defScope st) .none kV doc pm an cdv ct) ⟨us, []⟩ = pure (ps.zip us)
theorem fun_of {x qual : Str} {st : Stmt} {f : Addr} {oc : Value} {od an : Option Addr} {sl : Array (Option Value)} {kV dc pm cd ct : Value}
    (l : K.lookup f = some ⟨oc, od, .func (PySem.W.fnOf x qual (defArgs st) (defBody st) (defScope st) .none kV dc pm an cd ct), sl⟩) (c : PySem.W.codeIn K cd qual = true) (k : PySem.W.keepIn K (.ref f) = true) :
    FunA K x qual st f (PySem.W.fnOf x qual (defArgs st) (defBody st) (defScope st) .none kV dc pm an cd ct) := ⟨⟨oc, od, .none, kV, dc, pm, an, cd, ct, sl, rfl, l, c⟩, k⟩
theorem binds_of {x qual : Str} {st : Stmt} {ps : List Str} {f : Addr} {oc : Value} {od an : Option Addr} {sl : Array (Option Value)} {kV dc pm cd ct : Value} (hb : ArgsOk x qual st ps)
    (l : K.lookup f = some ⟨oc, od, .func (PySem.W.fnOf x qual (defArgs st) (defBody st) (defScope st) .none kV dc pm an cd ct), sl⟩) (c : PySem.W.codeIn K cd qual = true) (k : PySem.W.keepIn K (.ref f) = true) :
    Binds K (PySem.W.fnOf x qual (defArgs st) (defBody st) (defScope st) .none kV dc pm an cd ct) ps [] := (fun_mk (st := st) l c k).binds hb
theorem with_def {x : Str} {st : Stmt} {ps : List Str} (hb : ArgsOk x x st ps) (X : K.In h) (G : h.Ns mainGlobals mg) {f : Addr} {oc : Value} {od an : Option Addr} {sl : Array (Option Value)} {kV dc pm cd ct : Value}
    (a : PySem.W.nsIn K mainGlobals x = some (some (.ref f))) (l : K.lookup f = some ⟨oc, od, .func (PySem.W.fnOf x x (defArgs st) (defBody st) (defScope st) .none kV dc pm an cd ct), sl⟩)
    (c : PySem.W.codeIn K cd x = true) (k : PySem.W.keepIn K (.ref f) = true) (r : ∀ fd, Fd K mg x st ps f fd → R) : R :=
  r _ ⟨fun_of l c k, PySem.W.mg_of X G a, binds_of hb l c k⟩
theorem with_defL {x : Str} {st : Stmt} {ps : List Str} (hb : ArgsOk x x st ps) (X : K.In h) (G : h.Ns mainGlobals mg) {f cc : Addr} {oc : Value} {od an : Option Addr} {sl : Array (Option Value)} {kV dc pm ct : Value}
    (a : PySem.W.nsIn K mainGlobals x = some (some (.ref f))) (l : K.lookup f = some ⟨oc, od, .func (PySem.W.fnOf x x (defArgs st) (defBody st) (defScope st) .none kV dc pm an (.ref cc) ct), sl⟩)
    (c : PySem.W.codeIn K (.ref cc) x = true) (k : PySem.W.keepIn K (.ref f) = true) (r : ∀ fd, FdL K mg x st ps f fd cc → R) : R :=
  r _ ⟨⟨⟨oc, od, .none, kV, dc, pm, an, ct, sl, rfl, l, c⟩, k⟩, PySem.W.mg_of X G a, binds_of hb l c k⟩
theorem with_defE {x : Str} {st : Stmt} {ps : List Str} (hb : ArgsOk x x st ps) (X : K.In h) (G : h.Ns mainGlobals mg) {f : Addr} {oc : Value} {od an : Option Addr} {sl : Array (Option Value)} {kV dc pm cd ct : Value}
    (a : PySem.W.nsIn K mainGlobals x = some (some (.ref f))) (l : K.lookup f = some ⟨oc, od, .func (PySem.W.fnOf x x (defArgs st) (defBody st) (defScope st) .none kV dc pm an cd ct), sl⟩)
    (c : PySem.W.codeIn K cd x = true) (k : PySem.W.keepIn K (.ref f) = true) (r : ∀ fd, Fd K mg x st ps f fd → (∃ kV doc pm an cd ct, fd = PySem.W.fnOf x x (defArgs st) (defBody st) (defScope st) .none kV doc pm an cd ct) → R) : R :=
  r _ ⟨fun_of l c k, PySem.W.mg_of X G a, binds_of hb l c k⟩ ⟨kV, dc, pm, an, cd, ct, rfl⟩
theorem with_none {x : Str} (X : K.In h) (G : h.Ns mainGlobals mg) (a : PySem.W.nsIn K mainGlobals x = some none) (r : mg x = none → R) : R := r (PySem.W.mg_none_of X G a)
theorem with_name {x : Str} {a : Addr} (X : K.In h) (G : h.Ns mainGlobals mg) (e : PySem.W.nsIn K mainGlobals x = some (some (.ref a))) (r : mg x = some (.ref a) → R) : R := r (PySem.W.mg_of X G e)
theorem with_int {x : Str} {i : Int} {t : Tok} (X : K.In h) (G : h.Ns mainGlobals mg) (a : PySem.W.nsIn K mainGlobals x = some (some (.int i t))) (r : ∀ u, KC ⟨K, mg, T, ww⟩ x (.int i) (.int i) u → R) : R :=
  r _ ⟨PySem.W.mg_of X G a, ⟨t, rfl⟩, fun _ => .int i⟩
theorem with_str {x : Str} {i : Str} {t : Tok} (X : K.In h) (G : h.Ns mainGlobals mg) (a : PySem.W.nsIn K mainGlobals x = some (some (.str i t))) (r : ∀ u, KC ⟨K, mg, T, ww⟩ x (.str i) (.str i) u → R) : R :=
  r _ ⟨PySem.W.mg_of X G a, ⟨t, rfl⟩, fun _ => .str i⟩
/-- plain items of a written tuple -/
inductive Plain : List Value → List D → Prop
  | nil : Plain [] []
  | int {i : Int} {t : Tok} {us : List Value} {ds : List D} : Plain us ds → Plain (.int i t :: us) (.int i :: ds)
  | str {x : Str} {t : Tok} {us : List Value} {ds : List D} : Plain us ds → Plain (.str x t :: us) (.str x :: ds)
theorem Plain.vals {us : List Value} {ds : List D} (h : Plain us ds) : ∃ vs : List V, Vals vs us ∧ ∀ w, RvA ⟨K, mg, T, ww⟩ w vs ds := by
  induction h with
  | nil => exact ⟨[], .nil, fun _ => .nil⟩
  | @int i t us ds _ ih => obtain ⟨vs, a, b⟩ := ih; exact ⟨.int i :: vs, .cons ⟨t, rfl⟩ a, fun w => .cons (.int i) (b w)⟩
  | @str x t us ds _ ih => obtain ⟨vs, a, b⟩ := ih; exact ⟨.str x :: vs, .cons ⟨t, rfl⟩ a, fun w => .cons (.str x) (b w)⟩
theorem tup_of {a : Addr} {o : Obj} {its : Array Value} {n : Nat} {ds : List D} (l : K.lookup a = some o) (hc : o.cls = .type "tuple") (hn : o.dict = none) (hs : o.data = .seq its n) (hz : Nat.ble its.size 1000 = true) (p : Plain its.toList ds) : ∀ w, Rv ⟨K, mg, T, ww⟩ w (.ref a) (.tup ds) := by
  obtain ⟨vs, rv, dv⟩ := p.vals (K := K) (mg := mg) (T := T)
  have hz' : its.size ≤ sizeLine := by
    have := Nat.le_of_ble_eq_true hz
    rw [sizeLine_eq]; omega
  exact fun w => .tup (.inr ⟨o, its, n, l, hc, hn, hs, hz', rv⟩) (dv w)
theorem with_tup {x : Str} {a : Addr} {c : Value} {its : Array Value} {n : Nat} {sl : Array (Option Value)} {ds : List D} (X : K.In h) (G : h.Ns mainGlobals mg) (e : PySem.W.nsIn K mainGlobals x = some (some (.ref a)))
    (l : K.lookup a = some ⟨c, none, .seq its n, sl⟩) (hc : c = .type "tuple") (hz : Nat.ble its.size 1000 = true) (p : Plain its.toList ds) (r : KC ⟨K, mg, T, ww⟩ x (.tup ds) (.ref a) (.ref a) → R) : R :=
  r ⟨PySem.W.mg_of X G e, rfl, tup_of l hc rfl rfl hz p⟩
/-- what a written dict holds under a text -/
def Word (K : PySem.W.Frag) (mg : Str → Option Value) (T : List (Addr × Str)) (ww : World) (a : Addr) (x : Str) (d : D) : Prop := ∃ u v, PySem.W.nsIn K a x = some (some u) ∧ RelV v u ∧ ∀ w, Rv ⟨K, mg, T, ww⟩ w v d
theorem with_word {x : Str} {a b : Addr} {c : Value} {its : Array Value} {n : Nat} {sl : Array (Option Value)} {ds : List D} {y : Str} (X : K.In h) (m : mg y = some (.ref a)) (e : PySem.W.nsIn K a x = some (some (.ref b)))
    (l : K.lookup b = some ⟨c, none, .seq its n, sl⟩) (hc : c = .type "tuple") (hz : Nat.ble its.size 1000 = true) (p : Plain its.toList ds) (r : Word K mg T ww a x (.tup ds) → R) : R :=
  r ⟨.ref b, .ref b, e, rfl, tup_of l hc rfl rfl hz p⟩
/-- the keys of a written dict are some texts -/
def KeysOf (tab : List (Str × D)) : List DictEntry → Prop
  | [] => True
  | e :: r => (∃ x t, e.key = .str x t ∧ (kTab x tab).isSome = true) ∧ KeysOf tab r
theorem KeysOf.no {tab : List (Str × D)} {x : Str} (hx : kTab x tab = none) : ∀ {l : List DictEntry}, KeysOf tab l → l.find? (·.key.isStr x) = none ∧ l.any (·.refKey) = false
  | [], _ => ⟨rfl, rfl⟩
  | e :: r, ⟨⟨y, t, e1, e2⟩, hr⟩ => by
    obtain ⟨h1, h2⟩ := KeysOf.no hx hr
    have ny : (e.key.isStr x) = false := by
      rw [e1]
      cases q : (Value.str y t).isStr x with
      | false => rfl
      | true =>
        have : y = x := by
          have q' : (x == y) = true ∨ (y == x) = true := by
            first | exact .inl q | exact .inr q
          rcases q' with z | z
          · exact (eq_of_beq z).symm
          · exact eq_of_beq z
        rw [this, hx] at e2; cases e2
    have nr : e.refKey = false := by unfold DictEntry.refKey; rw [e1]
    exact ⟨by rw [List.find?_cons, ny]; exact h1, by rw [List.any_cons, nr, h2]; rfl⟩
theorem kTab_mem {y : Str} {d : D} : ∀ {tab : List (Str × D)}, kTab y tab = some d → (y, d) ∈ tab
  | [], q => by cases q
  | (k, v) :: r, q => by
    unfold kTab at q
    by_cases c : k = y
    · rw [if_pos c] at q
      cases q
      rw [c]
      exact List.mem_cons_self ..
    · rw [if_neg c] at q
      exact List.mem_cons_of_mem _ (kTab_mem q)
theorem with_tab {x : Str} {a : Addr} {es : Array DictEntry} {n : Nat} {tab : List (Str × D)} (X : K.In h) (m : mg x = some (.ref a)) (hit : ∀ p ∈ tab, Word K mg T ww a p.1 p.2)
    (l : K.lookup a = some ⟨.type "dict", none, .dict es n, #[]⟩) (lit : PySem.W.KeysLit w.params es.toList) (low : (a == sysModules) = false) (ks : KeysOf tab es.toList) (r : KD ⟨K, mg, T, ww⟩ w x tab a → R) : R :=
  r ⟨m, ⟨⟨es, n, l, lit, low⟩, fun y d q => hit (y, d) (kTab_mem q), fun y q => by
    obtain ⟨h1, h2⟩ := KeysOf.no q ks
    show PySem.W.nsIn K a y = some none
    unfold PySem.W.nsIn
    rw [l]
    show (match es.toList.find? (·.key.isStr y) with | some e => some (some e.val) | none => if es.toList.any (·.refKey) then none else some none) = some none
    rw [h1]
    show (if es.toList.any (·.refKey) then none else some none) = some none
    rw [h2]
    rfl⟩⟩
theorem hit_nil {Q : Str × D → Prop} : ∀ p ∈ ([] : List (Str × D)), Q p := fun _ h => nomatch h
theorem hit_cons {Q : Str × D → Prop} {p : Str × D} {r : List (Str × D)} (h : Q p) (t : ∀ p ∈ r, Q p) : ∀ q ∈ p :: r, Q q := fun q hq => by
  obtain e | e := List.mem_cons.mp hq
  · rw [e]; exact h
  · exact t q e
/-! exception classes -/
theorem no_one {C : Addr} {f : Str} (e : PySem.W.findIn K (.ref C) f = some none) : ∀ x ∈ [f], PySem.W.findIn K (.ref C) x = some none := fun x hx => by rw [List.mem_singleton.mp hx]; exact e
theorem no_two {C : Addr} {f f' : Str} (e : PySem.W.findIn K (.ref C) f = some none) (e' : PySem.W.findIn K (.ref C) f' = some none) : ∀ x ∈ [f, f'], PySem.W.findIn K (.ref C) x = some none := fun x hx => by
  rcases List.mem_cons.mp hx with q | q
  · rw [q]; exact e
  · exact no_one e' x q
theorem with_xc {x : Str} {st : Stmt} {ps fs : List Str} (hb : ArgsOk "__init__" (x ++ ".__init__") st ps) (X : K.In h) {C fI : Addr} (m : mg x = some (.ref C))
    {nm q : Str} {N : Addr} {bs bm : List Value} {sn : List Str} {sub : List Value} {ab : Bool} {col : Option Bool} {dd : Option Addr} {k0 k1 k2 k3 k5 : Option Value} {oc : Value} {od an : Option Addr} {sl : Array (Option Value)} {kV dc pm cd ct : Value}
    (l : K.lookup C = some (excClassObj nm q C N bs bm true sn sub ab col dd k0 k1 k2 k3 k5 "ValueError.__new__")) (hbm : PySem.HandSPX.refsVE bm = true)
    (sa : PySem.W.findIn K (.ref C) "__setattr__" = some (some (.builtin "object.__setattr__"))) (exC : PySem.W.subIn K (.ref C) (.type "BaseException") = some true) (tyC : PySem.W.typeIn K (.ref C) = some (.type "type")) (kC : PySem.W.keepIn K (.ref C) = true)
    (ga : PySem.W.findIn K (.ref C) "__getattribute__" = some (some (.builtin "BaseException.__getattribute__"))) (gg : PySem.W.findIn K (.ref C) "__getattr__" = some none) (hd : PySem.W.hasDictIn K C = true)
    (ha : PySem.W.findIn K (.ref C) "__class__" = some (some (.builtin "object.__class__"))) (hn : PySem.W.specialIn K (.builtin "object.__class__") "__get__" = some (some (.builtin "getset_descriptor.__get__"))) (ht : PySem.W.takesIn K (.builtin "object.__class__") = some true)
    (hm : PySem.W.mroIn K C (.type "object") = some true) (iC : PySem.W.findIn K (.ref C) "__init__" = some (some (.ref fI))) (tI : PySem.W.typeIn K (.ref fI) = some (.type "function")) (no : ∀ f ∈ fs, PySem.W.findIn K (.ref C) f = some none)
    (lI : K.lookup fI = some ⟨oc, od, .func (PySem.W.fnOf "__init__" (x ++ ".__init__") (defArgs st) (defBody st) (defScope st) .none kV dc pm an cd ct), sl⟩) (cI : PySem.W.codeIn K cd (x ++ ".__init__") = true) (kI : PySem.W.keepIn K (.ref fI) = true)
    (r : ∀ fd, XC ⟨K, mg, T, ww⟩ x st ps fs C fI fd → R) : R :=
  r _ ⟨m, ⟨⟨nm, q, N, bs, bm, sn, sub, ab, col, dd, k0, k1, k2, k3, k5, l, hbm⟩, sa, exC, tyC, kC⟩, ⟨ga, gg, exC, hd⟩, ⟨ga, gg, exC, hd, ha, hn, ht, hm⟩, iC, tI, no, fun_of lI cI kI, binds_of hb lI cI kI⟩
theorem kit_yes {C CT : Addr} (h1 : PySem.W.typeIn K (.ref CT) = some (.type "type")) (h2 : PySem.W.hasDictIn K CT = true) (h3 : PySem.W.subIn K (.ref C) (.ref CT) = some true) : PySem.W.kitOne K (.ref C) (.ref CT) = some true := by
  obtain ⟨cd, hc, _⟩ := PySem.W.any_some h2
  unfold PySem.W.kitOne
  by_cases q : ((Value.ref C : Value) == .ref CT) = true
  · rw [if_pos q]
  · rw [if_neg q]
    show (if ((PySem.W.clsIn K CT).isSome && PySem.W.typeIn K (.ref CT) == some (.type "type")) = true then PySem.W.subIn K (.ref C) (.ref CT) else none) = some true
    rw [hc, h1, h3]
    rfl
theorem kit_no {C CT : Addr} (hne : Nat.beq C CT = false) (h1 : PySem.W.typeIn K (.ref CT) = some (.type "type")) (h2 : PySem.W.hasDictIn K CT = true) (h3 : PySem.W.subIn K (.ref C) (.ref CT) = some false) : PySem.W.kitOne K (.ref C) (.ref CT) = some false := by
  obtain ⟨cd, hc, _⟩ := PySem.W.any_some h2
  unfold PySem.W.kitOne
  have q : ¬ ((Value.ref C : Value) == .ref CT) = true := fun z => Nat.ne_of_beq_eq_false hne (Value.ref.inj (eq_of_beq z))
  rw [if_neg q]
  show (if ((PySem.W.clsIn K CT).isSome && PySem.W.typeIn K (.ref CT) == some (.type "type")) = true then PySem.W.subIn K (.ref C) (.ref CT) else none) = some false
  rw [hc, h1, h3]
  rfl
end
section
variable {R : Prop} {K : PySem.W.Frag} {h : Heap} {mg : Str → Option Value} {c t : Str} {C CT : Addr}
theorem with_kit1 (X : K.In h) (m : mg c = some (.ref C)) (m' : mg t = some (.ref CT)) (h1 : PySem.W.typeIn K (.ref CT) = some (.type "type")) (h2 : PySem.W.hasDictIn K CT = true) (h3 : PySem.W.subIn K (.ref C) (.ref CT) = some true)
    (r : PySem.W.kitOne K (.ref C) (.ref CT) = some true → R) : R := r (kit_yes h1 h2 h3)
theorem with_kit0 (X : K.In h) (m : mg c = some (.ref C)) (m' : mg t = some (.ref CT)) (hne : Nat.beq C CT = false) (h1 : PySem.W.typeIn K (.ref CT) = some (.type "type")) (h2 : PySem.W.hasDictIn K CT = true) (h3 : PySem.W.subIn K (.ref C) (.ref CT) = some false)
    (r : PySem.W.kitOne K (.ref C) (.ref CT) = some false → R) : R := r (kit_no hne h1 h2 h3)
theorem with_exm {b : Bool} (X : K.In h) (m : mg c = some (.ref C)) (m' : mg t = some (.ref CT)) (h1 : PySem.W.subIn K (.ref CT) (.type "BaseException") = some true) (h2 : PySem.W.hasDictIn K CT = true) (h3 : PySem.W.typeIn K (.ref CT) = some (.type "type")) (h4 : PySem.W.subIn K (.ref C) (.ref CT) = some b)
    (r : PySem.W.exmOne K (.ref C) (.ref CT) = some b → R) : R := r (PySem.W.exm_ref h1 h2 h3 h4)
end
/-- the law's own def, at last -/
theorem fin_law {P : Program} {w : World} {K : PySem.W.Frag} {mg : Str → Option Value} {gd : Bool} {k : Nat} {x p : Str} {st : Stmt} {f fa : Addr} {fd : FuncData} {sp : Sp} {cs : List (Addr × Addr)} (hb : ArgsOk x x st [p]) (F : Fd K mg x st [p] f fd) (hm : mg x = some (.ref fa))
    (g : ∀ base : Heap, (∀ p ∈ cs, LamX.TabB base mg p.1 p.2) → FnG P w K mg base gd k f fd [p] sp) (hd : ∃ kV doc pm an cd ct, fd = PySem.W.fnOf x x (defArgs st) (defBody st) (defScope st) .none kV doc pm an cd ct) :
    ∃ fd : FuncData, (∀ (s : Shared) (u : Value), BindsTo s fd ⟨[u], []⟩ [(p, u)]) ∧ ∀ base : Heap, K.In base → base.Ns mainGlobals mg → (∀ p ∈ cs, LamX.TabB base mg p.1 p.2) → FnG P w K mg base gd k fa fd [p] sp := by
  have e := hm.symm.trans F.mg
  cases e
  obtain ⟨kV, doc, pm, an, cd, ct, rfl⟩ := hd
  exact ⟨_, fun s u => .of_eq (hb _ _ _ _ _ _ [u] rfl), fun base _ _ h => g base h⟩
/-- the walk that the head asks for, by the law's function -/
theorem walk_dF {l : PySem.W.OpenLaw} {n k : Nat} {gd : Bool} {q : Program} {loose : List Str} {XP : (Str → Option Value) → Heap → Prop} {YP : World → Heap → Prop} {d : DefRec} {K : Params → PySem.W.Frag} {x : Str} {cs : List (Addr × Addr)} (f : DF) (T : List (Addr × Str))
    (hY : ∀ (w : World) (h : Heap), YP w h → (K w.params).In h ∧ ∀ p ∈ cs, h.get? p.2 = some { cls := .none, data := .fields #[] })
    (hn : l.most = some n) (hn2 : n ≤ sizeLine) (hd : d.params.defaults = []) (hr : Room k callerA)
    (hf : ∀ ns : List Int, ns.length ≤ n → (∀ z ∈ ns, Builtin.Int.intBits z ≤ 1048576) → ∃ z', f [.klst (ns.map D.int)] .nil = .ok (.bl true) z')
    (F : ∀ (w : World) (mg : Str → Option Value) (fa : Addr) (h : Heap),
      (K w.params).In h → h.Ns mainGlobals mg → mg d.name = some (.ref fa) →
      ∃ fd : FuncData, (∀ (s : Shared) (u : Value), BindsTo s fd ⟨[u], []⟩ [(x, u)]) ∧ ∀ base : Heap, (K w.params).In base → base.Ns mainGlobals mg → (∀ p ∈ cs, LamX.TabB base mg p.1 p.2) → FnG l.prog w (K w.params) mg base gd k fa fd [x] (spF ⟨K w.params, mg, T, w⟩ 1 f))
    (hc : ∀ (w : World), ∀ p ∈ cs, PySem.W.codeHdIn (K w.params) p.1 p.2 = true) (nT : ∀ (w : World), ∀ p ∈ cs, (K w.params).lookup p.2 = none) (hT : ∀ p ∈ T, ∃ c, (c, p.1) ∈ cs) :
    PySem.W.WalkO q loose XP YP l.row.toRowW d [] (fun fn us => PySem.call fn us) :=
  walk_trueT (sp := fun w mg => spF ⟨K w.params, mg, T, w⟩ 1 f) hn hn2 hd hr hY hc nT F fun w mg H a ns hl hb h0 hL => spF_law (fun p hp => by
    obtain ⟨c, hc⟩ := hT p hp
    exact LamX.TabS.nil (h0 _ hc)) hL (hf ns hl hb)
end UW

/-! V8 -/
/-! _law_raised(lambda y=0: e): a lambda whose only parameter has a default -/
namespace UW
open PySem PySem.Spec PyProof.Rows L2
/-- the names of such a lambda: its parameter y is its only local one, and no name of the def that makes it -/
structure LamY (N : List Str) (sc scope : Scope) (y : Str) : Prop where
  kind : scope.kind = .function
  nco : scope.isCoroutine = false
  ngen : scope.isGenerator = false
  nc : ∀ p ∈ scope.names, p.2 ≠ .cell
  nl : ∀ p ∈ scope.names, p.2 = .local → p.1 ∉ N
  par : scope.names.lookup y = some .local
  free : ∀ p ∈ scope.names, p.2 = .free → sc.names.lookup p.1 = some .cell ∨ sc.names.lookup p.1 = some .free
def lamYB (N : List Str) (sc scope : Scope) (y : Str) : Bool :=
  (decide (scope.kind = .function) && !scope.isCoroutine && !scope.isGenerator) && (scope.names.all (fun p => !decide (p.2 = .cell)) && scope.names.all (fun p => !decide (p.2 = .local) || !decide (p.1 ∈ N))) &&
    (decide (scope.names.lookup y = some .local) && scope.names.all (fun p => !decide (p.2 = .free) || (decide (sc.names.lookup p.1 = some .cell) || decide (sc.names.lookup p.1 = some .free))))
theorem lamY_by {N : List Str} {sc scope : Scope} {y : Str} (h : lamYB N sc scope y = true) : LamY N sc scope y := by
  simp only [lamYB, Bool.and_eq_true, Bool.or_eq_true, Bool.not_eq_true', decide_eq_true_eq, List.all_eq_true, decide_eq_false_iff_not] at h
  obtain ⟨⟨⟨⟨a, b⟩, c⟩, d, e⟩, f, k⟩ := h
  exact ⟨a, b, c, d, fun p hp l => (e p hp).resolve_left (fun z => z l), f, fun p hp l => (k p hp).resolve_left (fun z => z l)⟩
section
variable {X : Cx} {σ : L2.St} {pins : List (Addr × Obj)} {H HZ : Hp} {s s1 : Shared}
theorem LamY.has {N : List Str} {scope : Scope} {y : Str} (L : LamY N X.env.scope scope y) (ok : X.Ok) (p : Str × NameKind) (hp : p ∈ scope.names) (e : p.2 = .free) : ∃ c, X.env.cells.lookup p.1 = some c :=
  ok.has _ (L.free p hp e)
/-- the body's context as it begins -/
theorem startY {A : Around} {outer : List PySem.Env} {E : XK} {scope : Scope} {y : Str} {f c' : Addr} {h1 : Heap} {tk : Nat} {m : Str → Option Value} (I : Inv X pins σ H s) (L : LamY X.N X.env.scope scope y) (e0 : Env0 X.prog X.w X.K X.mg X.base A outer s1 HZ) (hd : A.handled = none)
    (un : Un (frs X.stack) [] H HZ s.heap s1.heap) (hns : h1.Ns s1.heap.objs.size m) (kp : ∀ b o, s1.heap.get? b = some o → h1.get? b = some o) :
    Inv (LamX.lamCx X A outer s1 HZ E scope f c') [] σ HZ { s1 with heap := h1, toks := tk } := by
  have fr : ∀ p ∈ scope.names, p.2 = .free → ∃ c, X.env.cells.lookup p.1 = some c := L.has I.ok
  have up : ∀ {x : Str} {c : Addr}, (cloFrom X.env.cells scope.names []).lookup x = some c → X.env.cells.lookup x = some c := fun e => NdefX.clo_cm fr e
  have stays : ∀ {c : Addr} {v : Option Value}, H c = none → s.heap.IsCell c v → h1.IsCell c v := fun n ⟨o, a, b⟩ => by
    obtain ⟨sl, q⟩ := un.any a n (fun z => nomatch z)
    exact ⟨{ o with slots := sl }, kp _ _ q, b⟩
  exact {
    ok := { mod := e0.mod, kind := L.kind, glob := rfl, blt := rfl, above := Nat.le_refl _
            inj := fun x z c a b => I.ok.inj x z c (up a) (up b)
            has := fun x hx => by
              rcases (show scope.names.lookup x = some .cell ∨ scope.names.lookup x = some .free from hx) with q | q
              · exact absurd rfl (L.nc _ (PySem.mem_of_lookup q))
              · obtain ⟨c, hc⟩ := fr _ (PySem.mem_of_lookup q) rfl
                exact ⟨c, NdefX.clo_has fr (PySem.mem_of_lookup q) hc⟩
            cab := fun x c z _ => Bool.noConfusion (show false = true from z)
            hd := fun _ => hd, frames := Around.frames_deeper e0.frames, stk := .inr ⟨rfl, rfl⟩
            exf := fun b z => nomatch (show b ∈ ([] : List Addr) from z)
            bs := e0.bs, bsz := e0.bsz, noex := fun b _ _ z => nomatch (show b ∈ ([] : List Addr) from z)
            exfs := fun b z => nomatch (show b ∈ ([] : List Addr) from z)
            funs := e0.funs, frf := e0.frf }
    os := rfl, bare := e0.bare, base := Un.kept kp
    loc := ⟨m, hns, fun i x v a b vis => by
      rcases (show Vis scope x from vis) with q | q | q
      · exact absurd (List.mem_of_getElem? a) (L.nl _ (PySem.mem_of_lookup q) rfl)
      · exact absurd rfl (L.nc _ (PySem.mem_of_lookup q))
      · have hin := L.free _ (PySem.mem_of_lookup q) rfl
        obtain ⟨m0, _, hl⟩ := I.loc
        obtain ⟨u, r, w⟩ := hl i x v a b (hin.elim (fun z => .inr (.inl z)) fun z => .inr (.inr z))
        obtain ⟨c, hc⟩ := fr _ (PySem.mem_of_lookup q) rfl
        refine ⟨u, r, .inr ⟨.inr q, c, NdefX.clo_has fr (PySem.mem_of_lookup q) hc, ?_⟩⟩
        rcases w with ⟨k, _⟩ | ⟨_, c2, hc2, ic⟩
        · have k : X.env.scope.names.lookup x = some .local := k
          rcases hin with z | z <;> (rw [k] at z; cases z)
        · have hc : X.env.cells.lookup x = some c := hc
          rw [hc] at hc2
          cases hc2
          exact stays (I.freeC x c hc) ic⟩
    cell := fun x c e => by
      obtain ⟨v, ic⟩ := I.cell x c (up e)
      exact ⟨v, stays (I.freeC x c (up e)) ic⟩
    free := e0.hok.fresh (Nat.le_refl _)
    freeC := fun x c e => by
      obtain ⟨v, o, ho, _⟩ := I.cell x c (up e)
      exact un.free c o ho (I.freeC x c (up e)) (fun z => nomatch z)
    pin := fun p hp => nomatch (show p ∈ ([] : List (Addr × Obj)) from hp)
    hok := e0.hok.kept kp, len := I.len }
end
section
variable {X : Cx} {σ : L2.St} {pins : List (Addr × Obj)} {H : Hp} {s : Shared}
abbrev lamQ (X : Cx) : Str := X.env.qual ++ "<lambda>"
abbrev lamCl (X : Cx) (scope : Scope) : List (Str × Addr) := cloFrom X.env.cells scope.names []
abbrev objY (X : Cx) (params : Arguments) (body : Expr) (scope : Scope) (T0 : Addr) (doc pm : Value) (c' : Addr) (ctv : Value) : Obj := PySem.W.kdv_obj "<lambda>" (lamQ X) params (.expr body) scope (lamCl X scope) (.ref T0) doc pm c' ctv
/-- such a lambda is made: the tuple of its default is new, its code object is new or found -/
theorem makeY {T : List (Addr × Str)} {c P : Addr} {params : Arguments} {body : Expr} {scope : Scope} {pos dp : Pos} {n : Int} {dk : Nat} {Q : Value → Shared → Prop} (I : Inv X pins σ H s) (TB : LamX.TabB X.base X.mg c P) (hcode : X.env.code = .ref c)
    (hm : (P, lamQ X) ∈ T) (hu : ∀ p ∈ T, p.1 = P → p.2 = lamQ X) (hT : LamX.Tabs T H) (hds : params.defaults = [.Constant (.int n) dk dp]) (hk0 : params.kw_defaults = []) (hfree : ∀ p ∈ scope.names, p.2 = .free → ∃ c, X.env.cells.lookup p.1 = some c)
    (h : ∀ (f c' T0 : Addr) (u pm ctv doc : Value) (H1 : Hp) (s' : Shared), Inv X pins σ H1 s' → LamX.ExtN H H1 → LamX.Tabs T H1 → s'.heap.get? f = some (objY X params body scope T0 doc pm c' ctv) → s'.heap.get? T0 = some (PySem.W.kdv_tup [u]) →
      (H1 f = none ∧ f ∉ frs X.stack) → (H1 T0 = none ∧ T0 ∉ frs X.stack) → H1 c' = some (LamX.CodeO c' (lamQ X)) → Q (.ref f) s') :
    wpAny (model X.prog X.w) X.A (eval (.Lambda params body scope pos) X.env) Q X.xe s := by
  refine PySem.W.kdv_lam (by rw [hds]; rfl) hk0 ?_
  rw [hds]
  refine PySem.W.kdv_all1 ?_
  refine thn ((pe_int (X := X) (i := n)).run pins s σ H (fun v K => v = .int n ∧ K = H) I ⟨rfl, rfl⟩) fun u s1 ⟨v, K, I1, r1, e1, e2⟩ => ?_
  subst e1
  subst e2
  refine PySem.W.kdv_all0 ?_
  rw [makeFunction_eq]
  simp only [List.zip_nil_right, List.filterMap_nil, List.isEmpty_nil, List.isEmpty_cons, if_true, pure_bind, Bool.false_eq_true, if_false]
  refine wpAny_bind ?_
  refine wpAny_newTextTuple ?_
  have I2 : Inv X pins σ K { s1 with heap := s1.heap.push (PySem.W.kdv_tup [u]) } := I1.kept (t' := s1.toks) fun b o e => Heap.get?_push_of_some _ e
  have hT0 : (s1.heap.push (PySem.W.kdv_tup [u])).get? s1.heap.objs.size = some (PySem.W.kdv_tup [u]) := Heap.get?_push_size _ rfl
  have nT0 : K s1.heap.objs.size = none := I1.hok.fresh (Nat.le_refl _)
  have young : ∀ {s0 : Shared} (J : Inv X pins σ K s0) (a : Addr), s0.heap.objs.size ≤ a → a ∉ frs X.stack := fun {s0} J a ha z => by
    rcases List.mem_cons.mp (J.stkSub _ z) with q | q
    · have := J.lt
      rw [← q] at this
      exact absurd this (Nat.not_lt.mpr ha)
    · exact J.nofs ha q
  have fT0 := young I1 _ (Nat.le_refl s1.heap.objs.size)
  generalize s1.heap.push (PySem.W.kdv_tup [u]) = hp at *
  generalize s1.heap.objs.size = T0 at *
  have bP : hp.BuiltinsAt X.mg P := TB.bm.keeps I2.bk
  obtain ⟨ps, hP, ht, ha⟩ := (hT _ hm)
  have oP : hp.get? P = some { cls := .none, data := .fields ps } := I2.hok P _ hP
  cases hc : (codeAmong pos ps.toList) with
  | some cv =>
    obtain ⟨c', rfl, hco⟩ := ha pos cv hc
    refine PySem.W.kdv_makeTailHit (closure_ok hfree) I2.ok.glob (I2.mod.glob.keeps I2.bk) hcode (TB.code.keeps I2.bk) oP ht hc bP fun ctv doc h' tk hx hsz => ?_
    have I3 : Inv X pins σ K { s1 with heap := h', toks := tk } := I2.kept (t' := tk) hx
    have nf : K h'.objs.size = none := I3.hok.fresh (Nat.le_refl _)
    exact h _ c' T0 u _ ctv doc K _ (I3.kept (t' := tk) fun b o e => Heap.get?_push_of_some _ e) (LamX.ExtN.refl K) hT (Heap.get?_push_size _ rfl) (Heap.get?_push_of_some _ (hx _ _ hT0)) ⟨nf, young I3 _ (Nat.le_refl _)⟩ ⟨nT0, fT0⟩ hco
  | none =>
    refine PySem.W.kdv_makeTail (closure_ok hfree) I2.ok.glob (I2.mod.glob.keeps I2.bk) hcode (TB.code.keeps I2.bk) oP ht hc TB.gP bP fun c' ctv doc h' tk hx hge hlt hrec htb => ?_
    obtain ⟨c2, oc, vs, t, ec, hoc, hd, hv⟩ := hrec
    cases ec
    have nC : K c' = none := I2.hok.fresh hge
    have nP : P ≠ c' := ne_of_none hP nC
    have J := LamX.inv_table (t' := tk) (more := #[rawInt pos.line, rawInt pos.col, .ref c']) I2 hP (fun b o q e => hx b o q e) htb hge ⟨oc, vs, t, hoc, hd, hv⟩
    have ext : LamX.ExtN K (upd (upd K P (.tbl (ps ++ #[rawInt pos.line, rawInt pos.col, .ref c']))) c' (LamX.CodeO c' (lamQ X))) := fun b o e nt => by
      have b1 : b ≠ c' := ne_of_none e nC
      have b2 : b ≠ P := fun z => by
        subst z
        rw [hP] at e
        exact nt ps (Option.some.inj e).symm
      rw [upd_ne b1, upd_ne b2]
      exact e
    have nf : K h'.objs.size = none := I2.hok.fresh (Nat.le_trans hge (Nat.le_of_lt hlt))
    have pT : P ≠ T0 := ne_of_none hP nT0
    have big : hp.objs.size ≤ h'.objs.size := Nat.le_trans hge (Nat.le_of_lt hlt)
    have cT : c' ≠ T0 := fun z => by
      subst z
      exact Nat.lt_irrefl _ (Nat.lt_of_lt_of_le (Heap.lt_size hT0) hge)
    refine h h'.objs.size c' T0 u _ ctv doc _ _ (J.kept (t' := tk) fun b o e => Heap.get?_push_of_some _ e) ext (fun p hp' => ?_) (Heap.get?_push_size _ rfl) (Heap.get?_push_of_some _ (hx _ _ pT.symm hT0)) ⟨?_, young I2 _ big⟩ ⟨?_, fT0⟩ upd_same
    · by_cases e : p.1 = P
      · have el : (ps ++ #[rawInt pos.line, rawInt pos.col, Value.ref c']).toList = ps.toList ++ [rawInt pos.line, rawInt pos.col, .ref c'] := by simp
        refine ⟨ps ++ #[rawInt pos.line, rawInt pos.col, .ref c'], ?_, by rw [el]; exact PySem.TriplesOk_snoc _ _ _ _ ht, fun p' cv hcv => ?_⟩
        · rw [e, upd_ne nP, upd_same]
        · rw [el] at hcv
          rw [hu p hp' e]
          rcases LamX.among_app _ ht hcv with z | z
          · obtain ⟨c0, q1, q2⟩ := ha p' cv z
            exact ⟨c0, q1, ext _ _ q2 LamX.codeO_ne⟩
          · exact ⟨c', z, upd_same⟩
      · obtain ⟨qs, a1, a2, a3⟩ := hT p hp'
        refine ⟨qs, ?_, a2, fun p' cv hcv => ?_⟩
        · rw [upd_ne (ne_of_none a1 nC), upd_ne e]; exact a1
        · obtain ⟨c0, q1, q2⟩ := a3 p' cv hcv
          exact ⟨c0, q1, ext _ _ q2 LamX.codeO_ne⟩
    · rw [upd_ne (Nat.ne_of_gt hlt), upd_ne (fun z => by rw [z, hP] at nf; cases nf)]
      exact nf
    · rw [upd_ne cT.symm, upd_ne pT.symm]
      exact nT0
end
section
variable {X : Cx} {σ : L2.St} {pins : List (Addr × Obj)} {H : Hp} {s : Shared}
/-- what such a lambda is bound to by a call without arguments -/
def BindsY (params : Arguments) (body : Expr) (scope : Scope) (y : Str) : Prop :=
  ∀ (q : Str) (cl : List (Str × Addr)) (T0 : Addr) (u doc pm cv ctv : Value) (s : Shared), s.heap.get? T0 = some (PySem.W.kdv_tup [u]) → BindsTo s (PySem.W.kdv_fn "<lambda>" q params (.expr body) scope cl (.ref T0) doc pm cv ctv) ⟨[], []⟩ [(y, u)]
/-- its call, in the def that got it -/
theorem actY {CXg : CXT} {Eg E : XK} {Ng : List Str} {qg a y : Str} {sg scope : Scope} {gf f c' T0 : Addr} {cdg pm ctv doc u : Value} {params : Arguments} {body : Expr} {k i : Nat} {pn : List (Addr × Obj)} {xe : Value → Shared → Prop} {W : WX} {tb : TE} {p1 p2 : Pos}
    (I : Inv X pins σ H s) (L : LamY X.N X.env.scope scope y) (hf : s.heap.get? f = some (objY X params body scope T0 doc pm c' ctv)) (hT : s.heap.get? T0 = some (PySem.W.kdv_tup [u])) (nf : H f = none ∧ f ∉ frs X.stack) (nT : H T0 = none ∧ T0 ∉ frs X.stack) (hb : BindsY params body scope y)
    (tk : Takes ((cxOf CXg X.prog X.w X.K X.mg X.base Ng qg sg gf cdg X.A X.stack s H Eg).tr pn xe) W) (hW : ∀ cls d σ' H', E cls d H' → W cls d σ' H') (hr : Room (k + 1) (X.A.deeper (envOfC qg sg s.heap.objs.size gf cdg)))
    (hbody : ∀ (A : Around) (outer : List PySem.Env) (s : Shared) (H : Hp), Room k (A.deeper (LamX.lamEnv X scope s.heap.objs.size f c')) → PE (LamX.lamCx X A outer s H E scope f c') body tb)
    (hN : Ng[i]? = some a)
    (hv : Vis sg a) (hd : (a == ("__debug__" : Str)) = false := by decide) (hcd : (a == ("__classdict__" : Str)) = false := by decide) :
    PE ((cxOf CXg X.prog X.w X.K X.mg X.base Ng qg sg gf cdg X.A X.stack s H Eg).tr pn xe) (.Call (.Name a p1) [] [] p2) (fun σZ HZ Q => σZ[i]? = some (some (.ref f)) ∧ HZ c' = some (LamX.CodeO c' (lamQ X)) ∧ tb σ HZ Q) := by
  constructor
  rintro pinsZ sZ σZ HZ Q IZ ⟨hs, hc, ht⟩
  refine wpAny_Call_Name_kw (thn ((pe_var (pos := p1) (i := i) hN hv hd hcd).run pinsZ sZ σZ HZ (fun v K => v = .ref f ∧ K = HZ) IZ ⟨.ref f, hs, rfl, rfl⟩) fun v s1 ⟨w, K, I1, r1, ew, eK⟩ => ?_)
  subst ew
  subst eK
  obtain rfl : v = Value.ref f := r1
  have un := I1.base
  have gone : ∀ {a : Addr}, a ∉ (([] : List Addr)) := fun z => nomatch z
  have f1 := un.keep f _ hf nf.1 nf.2 gone
  have t1 := un.keep T0 _ hT nT.1 nT.2 gone
  refine PySem.W.callWith_F0 ⟨_, _, _, _, f1⟩ ?_
  obtain ⟨⟨oc, vs, t, h1, h2, h3⟩, _, _⟩ := I1.hok c' _ hc
  have rc : codeAny (model X.prog X.w) (X.A.deeper (envOfC qg sg s.heap.objs.size gf cdg)) (.call (.ref f) ⟨[], []⟩) (CR (L2.CX X.prog X.w) (envOfC qg sg s.heap.objs.size gf cdg :: X.stack) X.prog X.w K s1 Q E) s1 := by
    refine PySem.W.kla_callFunE hr.depth f1 rfl L.nco L.ngen rfl ⟨c', oc, vs, t, rfl, h1, h2, h3⟩ (hb _ _ T0 u doc pm (.ref c') ctv s1 t1 _ _ _ _ ?_)
    refine wpAny_newFunctionEnv L.nc (fun p hp => by rw [List.mem_singleton.mp hp]; exact L.par) (fun h4 hns hsb => ⟨I1.nolimit.fresh _ hsb, ?_⟩) L.kind
    show codeAny _ _ (.expr body (LamX.lamEnv X scope s1.heap.objs.size f c')) _ _
    have kp : ∀ b o, s1.heap.get? b = some o → h4.get? b = some o := fun b o e => hsb.extBut b o (Nat.ne_of_lt (Heap.lt_size e)) (Heap.get?_push_of_some _ e)
    have J := startY (E := E) (f := f) (c' := c') (tk := s1.toks + [(y, u)].length) I L I1.env0 hr.hd un hns kp
    refine PySem.W.kla_codeExpr (wpAny_mono ((hbody _ _ s1 K (hr.deeper _)).run [] _ _ K Q J ht) (fun v s2 hq => ?_) fun e s2 hq => hq)
    obtain ⟨w, K2, J2, rv, q⟩ := hq
    exact ⟨w, K2, J2.os, J2.bare, J2.base, J2.hok, rv, q⟩
  have out : Passes (L2.CX X.prog X.w) ((cxOf CXg X.prog X.w X.K X.mg X.base Ng qg sg gf cdg X.A X.stack s H Eg).tr pn xe) E := passes_call tk hW
  refine wpAny_call (codeAny_mono rc fun res s2 hq => ?_)
  match res, hq with
  | .ok (.ret v), hq => exact I1.after hq
  | .error e, hq => exact out pinsZ σZ K s1 e s2 I1 hq
/-- x(lambda y=0: body), by facts of x -/
theorem pe_raisedY {x a y : Str} {st : Stmt} {gf : Addr} {fd : FuncData} {Ng : List Str} {TT : (XK → Hp → VK → Prop) → Hp → VK → Prop} {T : List (Addr × Str)} {c P : Addr} {k dk : Nat} {n : Int} {params : Arguments} {body : Expr} {scope : Scope} {t : XK → TE} {p lpos dp pos : Pos}
    (hg : Gl X x) (F : Fd X.K X.mg x st [a] gf fd) (Sg : FnScope Ng [a] (defScope st)) (hNg : Ng[0]? = some a) (hva : Vis (defScope st) a)
    (hG : ∀ cdv, LamX.GivesTo X Ng x (defScope st) gf cdv (defBody st) a (lamQ X) TT)
    (TB : LamX.TabB X.base X.mg c P) (hcode : X.env.code = .ref c) (hmT : (P, lamQ X) ∈ T) (hu : ∀ p ∈ T, p.1 = P → p.2 = lamQ X) (hr : Room (k + 2) X.A) (L : LamY X.N X.env.scope scope y) (hds : params.defaults = [.Constant (.int n) dk dp]) (hk0 : params.kw_defaults = []) (hb : BindsY params body scope y)
    (hbody : ∀ (A : Around) (outer : List PySem.Env) (s : Shared) (H : Hp) (E : XK) (f c' : Addr), Room k (A.deeper (LamX.lamEnv X scope s.heap.objs.size f c')) → PE (LamX.lamCx X A outer s H E scope f c') body (t E))
    (d1 : (x == ("__debug__" : Str)) = false := by decide) (d2 : (a == ("__debug__" : Str)) = false := by decide) (d3 : (a == ("__classdict__" : Str)) = false := by decide) :
    PE X (.Call (.Name x p) [.Lambda params body scope lpos] [] pos) (LamX.tLam T TT t) := by
  obtain ⟨oc, od, dV, kV, dc, pm, an, cdv, ct, osl, e, lk, hcg⟩ := F.fn.ex
  have fb := F.b
  rw [e] at lk fb
  constructor
  rintro pins s σ H Q I ⟨hT, h⟩
  refine wpAny_Call_Name_kw (ld_glob I hg F.mg ?_ d1)
  refine PySem.W.callWith_K (h₀ := X.base) I.ok.mod.kin F.fn.kp ?_ (by rfl) (by rfl)
  change wpAny _ _ (spliced ((false, eval (.Lambda params body scope lpos) X.env) :: backTo pos (starEach [] X.env))) _ _ s
  refine Calls.spliced_cons (makeY I TB hcode hmT hu hT hds hk0 (L.has I.ok) fun f c' T0 u pm2 ctv doc H1 s1 I1 eN T1 hf hT0 nf nT hco => ?_)
  refine Calls.spliced_nil (And.intro I1.kIn ?_)
  have rc : codeAny (model X.prog X.w) X.A (.call (.ref gf) ⟨[.ref f], []⟩) (CR C8.CX0 X.stack X.prog X.w H1 s1 Q C8.E0) s1 := by
    refine LamX.run_ofS (N := Ng) (ps := [a]) (us := [.ref f]) (vs := [.ref f]) lk hcg Sg hr I1.env0 (fb s1 [.ref f] I1.kIn rfl) (.cons rfl .nil) rfl fun hr2 => ?_
    obtain ⟨t2, ht2, hq2⟩ := hG cdv f c' s1 H1 Q (fun E H' Q' => t E σ H' Q') (fun W pn xe E p1 p2 tk hW => actY (i := 0) I1 L hf hT0 nf nT hb tk hW hr2 (fun A outer s2 H2 hr3 => hbody A outer s2 H2 E f c' hr3) hNg hva d2 d3) hco (h H1 eN T1)
    exact ⟨t2, ht2.nox, hq2⟩
  refine wpAny_call (codeAny_mono rc fun res s2 hq => ?_)
  match res, hq with
  | .ok (.ret v), hq => exact I1.after hq
  | .error e, hq => exact (show False from hq).elim
end
/-! ### a law that makes lambdas itself -/
section
variable {K : PySem.W.Frag} {h : Heap} {mg : Str → Option Value} {R : Prop}
theorem with_defLE {x : Str} {st : Stmt} {ps : List Str} (hb : ArgsOk x x st ps) (X : K.In h) (G : h.Ns mainGlobals mg) {f cc : Addr} {oc : Value} {od an : Option Addr} {sl : Array (Option Value)} {kV dc pm ct : Value}
    (a : PySem.W.nsIn K mainGlobals x = some (some (.ref f))) (l : K.lookup f = some ⟨oc, od, .func (PySem.W.fnOf x x (defArgs st) (defBody st) (defScope st) .none kV dc pm an (.ref cc) ct), sl⟩)
    (c : PySem.W.codeIn K (.ref cc) x = true) (k : PySem.W.keepIn K (.ref f) = true) (r : ∀ fd, FdL K mg x st ps f fd cc → (∃ kV doc pm an cd ct, fd = PySem.W.fnOf x x (defArgs st) (defBody st) (defScope st) .none kV doc pm an cd ct) → R) : R :=
  with_defL hb X G a l c k fun _ q => r _ ⟨⟨⟨oc, od, .none, kV, dc, pm, an, ct, sl, rfl, l, c⟩, k⟩, q.mg, binds_of hb l c k⟩ ⟨kV, dc, pm, an, .ref cc, ct, rfl⟩
end
theorem fin_lawM {P : Program} {w : World} {K : PySem.W.Frag} {mg : Str → Option Value} {gd : Bool} {k : Nat} {x p : Str} {st : Stmt} {f fa : Addr} {fd : FuncData} {sp : Sp} {cs : List (Addr × Addr)} (hb : ArgsOk x x st [p]) (F : mg x = some (.ref f)) (hm : mg x = some (.ref fa))
    (g : ∀ base : Heap, (∀ p ∈ cs, LamX.TabB base mg p.1 p.2) → FnG P w K mg base gd k f fd [p] sp) (hd : ∃ kV doc pm an cd ct, fd = PySem.W.fnOf x x (defArgs st) (defBody st) (defScope st) .none kV doc pm an cd ct) :
    ∃ fd : FuncData, (∀ (s : Shared) (u : Value), BindsTo s fd ⟨[u], []⟩ [(p, u)]) ∧ ∀ base : Heap, K.In base → base.Ns mainGlobals mg → (∀ p ∈ cs, LamX.TabB base mg p.1 p.2) → FnG P w K mg base gd k fa fd [p] sp := by
  rw [F] at hm
  cases hm
  obtain ⟨kV, doc, pm, an, cd, ct, e⟩ := hd
  subst e
  exact ⟨_, fun s u => .of_eq (hb _ _ _ _ _ _ [u] rfl), fun base _ _ h => g base h⟩
end UW

/-! V9 -/
/-! what is never reached needs not be read: the wish before it is False -/
namespace UW
open PySem PySem.Spec PyProof.Rows L2
def sBad : DS := fun _ => mBad
section
variable {X : Cx} {s : Stmt} {ss : List Stmt} {e : Expr} {g : Gb} {W : WX}
theorem ps_bad : PS X s (fun _ _ _ => False) := .mk fun _ _ _ _ _ _ h => h.elim
theorem pss_bad : PSs X ss (fun _ _ _ => False) := .mk fun _ _ _ _ _ _ h => h.elim
theorem pe_bad : PE X e (fun _ _ _ => False) := .mk fun _ _ _ _ _ _ h => h.elim
theorem es_bad : EvS g W (fun _ _ _ => False) sBad := fun _ _ _ _ _ _ _ _ h => (show False from h)
end
end UW

/-! V10 -/
/-! try: f(..) except C as e: raise C2((k, e.place)) from None; a def whose own exceptions have no context -/
namespace UW
open PySem PySem.Spec PyProof.Rows L2
/-! ### a suite that raises, the name of the exception goes -/
section
variable {X : Cx} {pp : List (Addr × Obj)} {ρ : L2.St} {J : Hp} {t0 : Shared} {i : Nat} {n : Str}
theorem inv_gone (I : Inv X pp ρ J t0) (nd : X.N.Nodup) (hi : X.N[i]? = some n) : ∃ m, t0.heap.Ns X.env.locals m ∧ ∀ (g : Heap) (v : Option Value) (k : Nat), g.Ns X.env.locals (fun y => if y = n then v else m y) → Heap.SameBut X.env.locals t0.heap g →
    Inv X pp (ρ.set i none) J { t0 with heap := g, toks := k } := by
  obtain ⟨m, hm, look⟩ := id I.loc
  refine ⟨m, hm, fun g v k hg sb => ?_⟩
  have off : ∀ b o, X.s_0.heap.get? b = some o → b ≠ X.env.locals := fun b o q => Nat.ne_of_lt (Nat.lt_of_lt_of_le (Heap.lt_size q) I.ok.above)
  have B0 := I.base
  refine ⟨I.ok, I.os, I.bare, ⟨fun b o q1 q2 q3 q4 => ?_, fun b o q1 q2 q3 q4 => ?_, B0.free, fun b o q1 q2 => ?_, B0.tups, B0.frzs, B0.tbls⟩, ⟨_, hg, fun j y u q1 q2 q3 => ?_⟩, fun y c q => ?_, I.free, I.freeC, fun p hp => ?_, fun b ob q => ?_, (List.length_set ..).trans I.len⟩
  · rw [sb.2 b (off b o q1)]; exact B0.keep b o q1 q2 q3 q4
  · obtain ⟨y, z⟩ := B0.slot b o q1 q2 q3 q4
    exact ⟨y, by rw [sb.2 b (off b o q1)]; exact z⟩
  · obtain ⟨y, z⟩ := B0.there b o q1 q2
    exact ⟨y, by rw [sb.2 b (off b o q1)]; exact z⟩
  · have nj : j ≠ i := fun z => by
      rw [z, List.getElem?_set] at q2
      simp only [if_true] at q2
      split at q2 <;> cases q2
    rw [List.getElem?_set, if_neg (Ne.symm nj)] at q2
    obtain ⟨u', r', z⟩ := look j y u q1 q2 q3
    refine ⟨u', r', z.imp (fun ⟨a1, a2⟩ => ⟨a1, ?_⟩) fun ⟨a1, c, a2, a3⟩ => ⟨a1, c, a2, a3.sameBut sb (I.cne y c a2)⟩⟩
    show (if y = n then v else m y) = some u'
    rw [if_neg (fun e => nj (nodup_ix nd q1 (by rw [e]; exact hi)))]
    exact a2
  · obtain ⟨y2, z⟩ := I.cell y c q
    exact ⟨y2, z.sameBut sb (I.cne y c q)⟩
  · obtain ⟨a1, a2, a3, a4⟩ := I.pin p hp
    exact ⟨by rw [sb.2 p.1 a3]; exact a1, a2, a3, a4⟩
  · have stays := I.hok b ob q
    refine stays.stay (fun c u hc y => ?_) (fun _ y => y) fun _ _ y => y
    rw [sb.2 c fun z => ?_]
    · exact y
    · rw [z] at hc
      rcases hc with hc | hc
      · rw [← hc, I.free] at q; cases q
      · rw [I.free] at hc; cases hc
/-- noted by this frame -/
theorem sky_held {M : Model} {A : Around} {E : Value → Shared → Prop} {env : PySem.Env} {outer : List PySem.Env} {L a : Addr} {Z : Obj → Prop} {Q : Unit → Shared → Prop} {B : Heap} (hZ : HandSPX.Steady Z) (fr : A.frames = some (env :: outer)) (hf : env.frame = some L)
    (x : Sky B (env :: outer) a Z L t0.heap) (hQ : ∀ g, HandSPX.HeldZ B (env :: outer) a Z L g → t0.heap.UpToSlots g → Q () { t0 with heap := g }) : wpAny M A (noteFrame (.ref a) env) Q E t0 := by
  rcases x with ⟨b1, b2, b3, oe, vs, b4, b5, b6, b7⟩ | y | y
  · exact HandSPX.look_newZ hZ fr b3 hf b4 b1 b2 b6 b7 b5 hQ
  · exact HandSPX.looks_onZ hZ fr hf y hQ
  · exact HandSPX.againZ hf y.2.2.2 (hQ _ y (Heap.UpToSlots.refl _))
/-- the context of a suite 'except .. as n' that may raise -/
abbrev sufX (X : Cx) (a : Addr) (pn : List (Addr × Obj)) (n : Str) (pos : Pos) : Cx :=
  { X with A := X.A.mark (some (.ref a)), calm := false, pn := pn, xe := AsSuiteRaised (model X.prog X.w) (X.A.mark (some (.ref a))) X.env n pos (notedBy (model X.prog X.w) (X.A.mark (some (.ref a))) X.env (cameBackBy (model X.prog X.w) X.A X.env X.xe)) }
theorem suf_of {a : Addr} {pn qq : List (Addr × Obj)} {pos : Pos} (I : Inv (X.suite a pn) qq ρ J t0) : Inv (sufX X a pn n pos) qq ρ J t0 :=
  Inv.unwish (X := sufX X a pn n pos) (E := fun _ _ => False) I
theorem un_suf {a : Addr} {q : Addr × Obj} {qq : List (Addr × Obj)} {pos : Pos} (I : Inv (sufX X a (q :: (X.pn ++ pp)) n pos) qq ρ J t0) (ok : X.Ok) : Inv X pp ρ J t0 :=
  Inv.unsuite (X := X) (a := a) (q := q) (pn' := qq) (show Inv (X.suite a (q :: (X.pn ++ pp))) qq ρ J t0 from I.wish fun _ _ => False) ok
theorem frs_top (hs : X.stack = X.env :: X.outer) (hf : X.env.frame = some X.env.locals) : X.env.locals ∈ frs X.stack := by
  rw [hs]
  exact List.mem_filterMap.mpr ⟨X.env, List.mem_cons_self, hf⟩
theorem takes_suf {a : Addr} {oe : Obj} {pos : Pos} {Wo : WX} (hs : X.stack = X.env :: X.outer) (hf : X.env.frame = some X.env.locals) (nd : X.N.Nodup) (hi : X.N[i]? = some n) (hn : X.env.kindOf n = some .local) (ok : X.Ok) (tk : Takes X Wo) :
    Takes (sufX X a ((a, oe) :: (X.pn ++ pp)) n pos) (fun cl d σ H => Wo cl d (σ.set i none) H) := by
  intro u s1 x
  obtain ⟨e, B, sI, qq, σ, H, cl, d, rfl, J0, nb, up, sky, na, os, ag, w⟩ := x
  have I : Inv X pp σ H sI := un_suf J0 ok
  have fr : (X.A.mark (some (.ref a))).frames = some (X.env :: X.outer) := by
    show X.A.frames = _
    rw [ok.frames, hs]
  have sky2 : Sky B (X.env :: X.outer) e (Zc cl d) X.env.locals s1.heap := by rw [← hs]; exact sky
  obtain ⟨m, hm, after⟩ := inv_gone I nd hi
  have cls0 : (X.env.scope.kind == .class || (X.env.scope.kind == .module && X.env.locals != X.env.globals)) = false := by rw [ok.kind]; rfl
  show wpAny _ _ (noteFrame (.ref e) X.env) _ _ s1
  refine sky_held Zc.steady fr hf sky2 fun h1 hh1 up1 => ?_
  refine wpAny_nameGoes_keeps hn ((up.trans up1).ns hm) cls0 fun h2 v hn2 sb => ?_
  obtain ⟨b1, b2, b3, b4⟩ := hh1
  have bL : B.get? X.env.locals = none := by
    obtain ⟨_, ⟨L, _, q1, q2, _⟩, _⟩ := id b3
    rw [hf] at q1
    cases q1
    exact q2
  obtain ⟨oL, es, ep, gL, dL, kL⟩ := id hn2
  have nrec : ∀ vs, oL.data ≠ .fields vs := fun vs z => by rw [dL] at z; cases z
  have offL : ∀ {b : Addr} {o : Obj} {vs : Array Value}, h1.get? b = some o → o.data = .fields vs → b ≠ X.env.locals := fun {b o vs} q1 q2 z => by
    obtain ⟨o', _, _, q3, q4, _⟩ := (up.trans up1).ns hm
    rw [z, q3] at q1
    cases q1
    rw [q4] at q2
    cases q2
  obtain ⟨c1, c2, T, oT, tv, c3, c4, c5, c6, c7, c8, c9, c10, c11⟩ := b4
  have k2 : HandSPX.HeldZ B (X.env :: X.outer) e (Zc cl d) X.env.locals h2 := by
    refine ⟨fun b o q => ?_, b2, Heap.FunFrames.sameBut sb hn2 b3, c1, c2, T, oT, tv, ?_, c4, c5, c6, c7, c8, ?_, c10, c11⟩
    · rw [sb.2 b fun z => by rw [z, bL] at q; cases q]
      exact b1 b o q
    · rw [sb.2 e (offL c3 c5)]; exact c3
    · rw [sb.2 T (offL c9 c10)]; exact c9
  unfold PySem.passOn
  obtain ⟨_, _, k2f, oe2, vs2, T2, oT2, ts2, d1, d2, d3, d4, d5⟩ := id k2
  refine wpAny_bind (wpAny_field d1 d3 d4 ?_)
  rw [if_neg (by simp : ¬ ((Value.ref T2 == Value.none) = true))]
  have last : ∀ h3, HandSPX.HeldZ B (X.env :: X.outer) e (Zc cl d) X.env.locals h3 → h2.UpToSlots h3 → cameBackBy (model X.prog X.w) X.A X.env X.xe (.ref e) { s1 with heap := h3, toks := s1.toks + 1 } := fun h3 k3 u3 => by
    unfold cameBackBy
    obtain ⟨_, _, _, oe3, vs3, T3, oT3, ts3, f1, f2, f3, f4, f5⟩ := id k3
    refine wpAny_bind (wpAny_field f1 f3 f4 ?_)
    rw [if_neg (by simp : ¬ ((Value.ref T3 == Value.none) = true)), hf]
    refine HandSPX.setFlight_onZ k3 fun h4 k4 u4 => ?_
    obtain ⟨oLa, esa, epa, gLa, _⟩ := id hm
    have gG : (sI.heap.update X.env.locals fun _ => oL).get? X.env.locals = some oL := Heap.get?_update_self (fun _ => oL) gLa (Heap.get?_some_iff.mp gL).2
    have sbG := Heap.SameBut.update sI.heap X.env.locals fun _ => oL
    have I2 := after (sI.heap.update X.env.locals fun _ => oL) v sI.toks ⟨oL, es, ep, gG, dL, kL⟩ sbG
    refine tk _ _ ⟨e, B, { sI with heap := sI.heap.update X.env.locals fun _ => oL }, pp, σ.set i none, H, cl, d, rfl, I2, fun b o q hb => ?_, fun b o q nf => ?_, .inr (.inr (by rw [hs]; exact k4)), na, os, ag, w⟩
    · have nbL : b ≠ X.env.locals := fun z => hb (z ▸ frs_top hs hf)
      rw [show ({ sI with heap := sI.heap.update X.env.locals fun _ => oL } : Shared).heap.get? b = sI.heap.get? b from sbG.2 b nbL] at q
      exact nb b o q hb
    · by_cases z : b = X.env.locals
      · rw [z] at q ⊢
        have q : (sI.heap.update X.env.locals fun _ => oL).get? X.env.locals = some o := q
        rw [gG] at q
        cases q
        exact (u3.trans u4) _ _ gL nf
      · rw [show ({ sI with heap := sI.heap.update X.env.locals fun _ => oL } : Shared).heap.get? b = sI.heap.get? b from sbG.2 b z] at q
        obtain ⟨y1, q1⟩ := (up.trans up1) b o q nf
        rw [← sb.2 b z] at q1
        obtain ⟨y2, q2⟩ := (u3.trans u4) b _ q1 nf
        exact ⟨y2, q2⟩
  have go : wpAny (model X.prog X.w) (X.A.mark (some (.ref a))) (setFlight (.ref e) X.env.frame) (fun _ s4 => wpAny (model X.prog X.w) (X.A.mark (some (.ref a))) (throw (.ref e) : Sem Flow) (fun _ _ => False)
      (notedBy (model X.prog X.w) (X.A.mark (some (.ref a))) X.env (cameBackBy (model X.prog X.w) X.A X.env X.xe)) s4) (notedBy (model X.prog X.w) (X.A.mark (some (.ref a))) X.env (cameBackBy (model X.prog X.w) X.A X.env X.xe)) { s1 with heap := h2, toks := s1.toks + 1 } := by
    rw [hf]
    refine HandSPX.setFlight_onZ k2 fun h3 k3 u3 => wpAny_throw ?_
    show wpAny _ _ (noteFrame (.ref e) X.env) _ _ _
    exact HandSPX.againZ hf k3.2.2.2 (last h3 k3 u3)
  first
    | exact wpAny_bind (wpAny_pure (wpAny_bind go))
    | exact wpAny_bind go
end
/-- the wish of the clause: dr tells what the suite wishes -/
def wSuf (K : PySem.W.Frag) (c : Value) (i : Nat) (ts : Addr → Value → Option Addr → TS) (Wo : WX) (D : Ends) : WX := fun cl dc σ H =>
  ∃ b, PySem.W.exmOne K cl c = some b ∧ (b = true → ∀ a, H a = none → ts a cl dc { nx := fun σ' H' => D.nx (σ'.set i none) H', rt := D.rt, bk := fun σ' H' => D.bk (σ'.set i none) H', ct := fun σ' H' => D.ct (σ'.set i none) H' } (σ.set i (some (.ref a))) H) ∧ (b = false → Wo cl dc σ H)
section
variable {X : Cx} {x n : Str} {c : Value} {i : Nat} {bd su : List Stmt} {s1 : Stmt} {np q1 q2 : Pos} {tb : WX → TS} {ts : Addr → Value → Option Addr → TS} {Wo : WX}
theorem ps_try_suf (hs : X.stack = X.env :: X.outer) (hf : X.env.frame = some X.env.locals) (nd : X.N.Nodup) (hi : X.N[i]? = some n) (hn : X.env.kindOf n = some .local) (hc : Names X x c) (tk : Takes X Wo)
    (hb : ∀ (W : WX) (pn : List (Addr × Obj)) (xe : Value → Shared → Prop), L2N.Takes (X.tr pn xe) W → PassesOwn (model X.prog X.w) X.A X.env xe → PSs (X.tr pn xe) bd (tb W))
    (hsu : ∀ (a : Addr) (oe : Obj) (cl : Value) (dc : Option Addr) (pn : List (Addr × Obj)), L2N.Zn cl dc oe → (∃ vs, oe.data = .fields vs) → Takes (sufX X a ((a, oe) :: pn) n q1) (fun cl d σ H => Wo cl d (σ.set i none) H) → L2H.HotC (sufX X a ((a, oe) :: pn) n q1) →
      PSs (sufX X a ((a, oe) :: pn) n q1) (s1 :: su) (ts a cl dc)) :
    PS X (.Try bd [.ExceptHandler (some (.Name x np)) (some n) (s1 :: su) q1] [] [] q2) (fun D σ H => tb (wSuf X.K c i ts Wo D) D σ H) := by
  refine .mk fun pins s σ H D I h => ?_
  have ok := I.ok
  have fr : X.A.frames = some (X.env :: X.outer) := ok.frames.trans (by rw [hs])
  refine wpAny_Try_except (wpAny_mono ((hb (wSuf X.K c i ts Wo D) (X.pn ++ pins) (fun e y1 => wpAny (model X.prog X.w) X.A (noteFrame e X.env) (fun _ y2 => wpAny (model X.prog X.w) X.A (setFlight e none)
    (fun _ y3 => wpAny (model X.prog X.w) X.A (handleBy e X.env [.ExceptHandler (some (.Name x np)) (some n) (s1 :: su) q1]) (SP X pins D) X.xe y3) X.xe y2) X.xe y1) (fun u s' xx => ?_) PassesOwn.looking).run [] s σ H D (I.toTry _) h) (fun f y1 hy => ?_) fun e y1 he => he)
  · obtain ⟨a, B, sI, qq, σ', H', cl, dc, rfl, J0, nb, up, sky, na, os, ag, b, hb1, yes, no⟩ := xx
    have J : Inv X pins σ' H' sI := J0.ofTry ok
    have sky2 : Sky B (X.env :: X.outer) a (L2N.Zn cl dc) X.env.locals s'.heap := by rw [← hs]; exact sky
    show (wpAny (model X.prog X.w) X.A (noteFrame (.ref a) X.env) _ _ _)
    refine L2N.Sky.land L2N.Zn.steady fr hf sky2 fun h3 fl3 up3 => ?_
    have g3 : Inv X pins σ' H' { s' with heap := h3 } := J.landed nb fl3.1 (up.trans up3) os ag
    obtain ⟨o3, f3, e3, z3, d3⟩ := fl3.there
    have off : a ∉ frs (X.env :: X.outer) := fun hm => by
      obtain ⟨_, o', e', nf⟩ := fl3.2.2.1.mem hm
      rw [e3] at e'
      cases e'
      exact nf _ d3
    have offL : a ≠ X.env.locals := fun z => off (by rw [z, ← hs]; exact frs_top hs hf)
    have offF : a ∉ X.fs := fun hm => off (by
      obtain ⟨y, y1, y2⟩ := List.mem_filterMap.mp hm
      exact List.mem_filterMap.mpr ⟨y, List.mem_cons_of_mem _ y1, y2⟩)
    have k3 := g3.suite e3 d3 na offL offF
    refine (wpAny_handleBy_cons (codeAny_handlers_test ?_) (by intro q; cases q))
    have LT : PySem.W.Looks (model X.prog X.w) h3 (typeOf (.ref a)) cl := fun A Q E y k q => wpAny_typeOf_ref (k _ _ e3) (by rw [z3.1]; exact q)
    have LM := PySem.W.exm_one (M := model X.prog X.w) (g3.kIn) LT hb1
    have ask : ∀ {Q E : Value → Shared → Prop}, Q c { s' with heap := h3 } → wpAny (model X.prog X.w) (X.A.mark (some (.ref a))) (eval (.Name x np) X.env) Q E { s' with heap := h3 } := fun {Q E} q => by
      obtain ⟨hg, hd, hm | ⟨hm, hv, hnn⟩⟩ := hc
      · exact ld_glob (X := X.suite a ((a, o3) :: (X.pn ++ pins))) k3 hg hm q hd
      · exact ld_blt (X := X.suite a ((a, o3) :: (X.pn ++ pins))) k3 hg hm hv q hnn hd
    refine ask (LM.here ?_)
    cases b with
    | true =>
      refine codeAny_handlers_suite_as (HandSPX.lands_againZ fl3 fun h4 fl4 up4 => ?_)
      obtain ⟨o4, f4, e4, z4, d4⟩ := fl4.there
      have g4 : Inv X pins σ' H' { s' with heap := h4 } := J.landed nb fl4.1 ((up.trans up3).trans up4) os ag
      have k4 := g4.suite e4 d4 na offL offF
      refine store_ok (X := X.suite a ((a, o4) :: (X.pn ++ pins))) (v := .ref a) k4 nd hi (.inl hn) rfl (fun y5 k5 => ?_) (.inr hn)
      have tk4 : Takes (sufX X a ((a, o4) :: (X.pn ++ pins)) n q1) (fun cl d σ H => Wo cl d (σ.set i none) H) := takes_suf hs hf nd hi hn ok tk
      refine wpAny_mono ((hsu a o4 cl dc (X.pn ++ pins) z4 ⟨_, d4⟩ tk4 ⟨(a, o4), ⟨rfl, f4, d4, z4.2.2 f4 d4⟩, List.mem_cons_self⟩).run [] y5 _ _ _ (suf_of k5) (yes rfl a na)) (fun f y6 hy => ?_) (fun _ _ z => z)
      have fin : ∀ {σ6 : L2.St} {H6 : Hp} {Q : Shared → Prop}, Inv (sufX X a ((a, o4) :: (X.pn ++ pins)) n q1) [] σ6 H6 y6 → (∀ y7, Inv X pins (σ6.set i none) H6 y7 → Q y7) →
          wpAny (model X.prog X.w) X.A (do bindName X.env n .none; unbindBehindTheSuite X.env n q1) (fun _ y7 => Q y7) X.xe y6 := fun {σ6 H6 Q} k6 hq => gone_ok (un_suf k6 ok) nd hi hn hq
      cases f with
      | next => obtain ⟨_, _, k6, q6⟩ := hy; exact fin k6 fun y7 k7 => ⟨_, _, k7, q6⟩
      | brk => obtain ⟨_, _, k6, q6⟩ := hy; exact fin k6 fun y7 k7 => ⟨_, _, k7, q6⟩
      | cont => obtain ⟨_, _, k6, q6⟩ := hy; exact fin k6 fun y7 k7 => ⟨_, _, k7, q6⟩
      | ret u => obtain ⟨_, _, _, k6, r6, q6⟩ := hy; exact fin k6 fun y7 k7 => ⟨_, _, _, k7, r6, q6⟩
    | false =>
      show (wpAny _ X.A (handleBy (.ref a) X.env []) _ _ _)
      exact flies_on hs hf tk J nb (up.trans up3) (L2H.flyingZ_imp (fun o z => z.zc) fl3) na os ag (no rfl)
  · cases f with
    | next => obtain ⟨_, _, k, q⟩ := hy; exact wpAny_execs_nil ⟨_, _, k.ofTry ok, q⟩
    | brk => obtain ⟨_, _, k, q⟩ := hy; exact ⟨_, _, k.ofTry ok, q⟩
    | cont => obtain ⟨_, _, k, q⟩ := hy; exact ⟨_, _, k.ofTry ok, q⟩
    | ret u => obtain ⟨_, _, _, k, r, q⟩ := hy; exact ⟨_, _, _, k.ofTry ok, r, q⟩
end
/-! ### an own exception made where nothing is handled: it has no context -/
section
variable {X : Cx} {pp : List (Addr × Obj)} {ρ : L2.St} {e : Expr} {es : List Expr} {ta : TA} {p pos : Pos}
theorem pmkN_oex {CX : CXT} {x : Str} {C fI : Addr} {k : Nat} {fd : FuncData} {ps : List Str} {sp : Sp} (T : OexC X.K C) (iC : PySem.W.findIn X.K (.ref C) "__init__" = some (some (.ref fI))) (tI : PySem.W.typeIn X.K (.ref fI) = some (.type "function"))
    (F1 : FnOk X.prog X.w X.K X.mg X.base CX k fI fd ps sp) (hr : Room (k + 1) X.A) (hb : Binds X.K fd ps []) (hx : Passes CX X (fun _ _ _ => False)) (hg : Gl X x) (hm : X.mg x = some (.ref C)) (ha : PA X (e :: es) ta) (hdb : (x == ("__debug__" : Str)) = false := by decide)
    (he : starEach (e :: es) X.env = (false, eval e X.env) :: starEach es X.env := by rfl)
    (hpl : (backTo pos (starEach es X.env)).any (·.1) = false := by rfl) :
    L2N.PMk X (.Call (.Name x p) (e :: es) [] pos) (tMkO C sp [] ta) := by
  intro pins s σ H Q I h
  obtain ⟨_, _, _, _, bm, _, _, _, _, _, _, _, _, _, _, hC, hbm⟩ := T.cls
  refine wpAny_Call_Name_kw (ld_glob I hg hm (PySem.W.callWith_K (h₀ := X.base) I.ok.mod.kin T.kC (thn (ha.run pos pins s σ H _ I h) fun us s1 ⟨vs, H1, I1, r1, hz, w1⟩ => ⟨I1.kIn, ?_⟩) he hpl) hdb)
  show (wpAny _ _ (call (.ref C) us) _ _ _)
  obtain ⟨h0, g, dr, tk, os⟩ := s1
  have le1 : h0.objs.size ≤ h0.objs.size + 1 := Nat.le_succ _
  have w2 := w1 (h0.objs.size + 1) (I1.hok.fresh le1)
  rw [List.append_nil] at w2
  have keeps : ∀ b o, h0.get? b = some o → ((h0.push (PySem.W.kdv_tup us)).push (PySem.HandSPX.excO C h0.objs.size)).get? b = some o := fun b o z => (Heap.get?_push_of_some _ (Heap.get?_push_of_some _ z))
  have here : ((h0.push (PySem.W.kdv_tup us)).push (PySem.HandSPX.excO C h0.objs.size)).get? (h0.objs.size + 1) = some (PySem.HandSPX.excO C h0.objs.size) := by heap_get
  have I2 := I1.laid (t' := tk) (a := h0.objs.size + 1) (o := exo (h0.objs.size + 1) C none) (h' := (h0.push (PySem.W.kdv_tup us)).push (PySem.HandSPX.excO C h0.objs.size)) keeps le1 (exo_ok here)
  have r2 : Vals (V.ref (h0.objs.size + 1) :: vs) (Value.ref (h0.objs.size + 1) :: us) := .cons rfl r1
  have hl : (Value.ref (h0.objs.size + 1) :: us ++ []).length = ps.length := by
    rw [List.append_nil]
    exact r2.length.symm.trans (F1.len _ _ _ _ w2)
  have b2 := hb _ (Value.ref (h0.objs.size + 1) :: us) I2.kIn hl
  rw [List.append_nil] at b2
  refine wpAny_call (PySem.HandSPX.call_own F.excBase_ValueError (fun Y => PySem.HandSPX.refsVE_contains Y bm hbm) (I1.kIn _ _ hC) (PySem.W.looks_findIn I1.kIn iC) (fun self => PySem.W.bind_fn I1.kIn self tI) (by rw [← Paired.length r1, sizeLine_eq]; omega)
    (codeAny_mono (F1.run _ X.stack _ _ ⟨Value.ref (h0.objs.size + 1) :: us, []⟩ (Value.ref (h0.objs.size + 1) :: us) _ _ (fun _ _ _ => False) (hr.make C us []) (I2.env0.make C us []) b2 r2 w2) fun r s' z => ?_))
  match r, z with
  | .error er, z => exact hx pins σ _ _ er s' I2 z
  | .ok (.ret u), z =>
    obtain ⟨v, H2, y1, y2, y3, y4, rv, ev, d, fs, y5, y6, y7, w3⟩ := z
    subst ev
    obtain ⟨h2, g2, d2, t2, os2⟩ := s'
    obtain ⟨t0, G, x1, x2, x3, x4, x5⟩ := mk_end0 (d2 := d2) (t2 := t2) I1 le1 keeps y3 y4 y1 y2 y5 y6 y7
    exact ⟨rv, h0.objs.size + 1, _, _, ⟨G, g2, d2, t2, os2⟩, _, .ref C, some d, rfl, x1, x2, x3, x4, ⟨rfl, rfl, fun vs hv => by cases hv; rfl⟩, rfl, rfl, x5, rfl, y2, raises_own T.exC T.tyC, w3⟩
end
/-! ### a field of the exception that is handled, by its pin -/
theorem pe_xfP {X : Cx} {a C : Addr} {oe : Obj} {cl : Value} {dc : Option Addr} {e : Expr} {te : TE} {pos : Pos} {n : Str} (hp : (a, oe) ∈ X.pn) (T : XfC X.K C) (hno : PySem.W.findIn X.K (.ref C) n = some none)
    (hz : Zc cl dc oe) (hf : ∃ vs, oe.data = .fields vs) (he : PE X e te) (hb : attributeBase e n X.env (eval e X.env) = eval e X.env := by rfl) :
    PE X (.Attribute e n pos) (tXf a cl dc C n te) := by
  refine .mk fun pins s σ H Q I h => attr_of hb (thn (he.run pins s σ H _ I h) fun u s1 hh => ?_)
  obtain ⟨x, H1, I1, rx, ex, ec, dd, fs, v, ed, ea, l, wq⟩ := hh
  subst ex ec ed
  cases (show (u = Value.ref a) from rx)
  have here := (I1.pin (a, oe) (List.mem_append_left _ hp)).1
  obtain ⟨vs, hd⟩ := hf
  obtain ⟨mA, hns, hr⟩ := (show ObjOk X.prog X.w H1 s1.heap dd (.xd fs) from I1.hok dd _ ea)
  rcases lookIn_ns hns with ⟨od, ho, hl⟩
  rcases RelO.some_of (v := v) (o := mA n) (l ▸ hr n) with ⟨u, hu, ru⟩
  refine HandSPX.exc_get I1.kIn (ox := oe) (od := some od) ⟨here, hz.1, by unfold PySem.W.notCls; rw [hd] <;> rfl, by rw [hz.2]; exact ho⟩ T.ga T.gg T.exC (PySem.W.findObj_own T.hdC hno rfl (by rw [hl, hu])) (handed_of ru) ⟨v, H1, I1.tok _, ru, wq⟩
/-! ### a def whose exceptions have no context -/
theorem fnokC_of {CX : CXT} {P : Program} {w : World} {K : PySem.W.Frag} {mg : Str → Option Value} {base : Heap} {k : Nat} {f : Addr} {fd : FuncData} {N ps : List Str} {sp : Sp} {x qual : Str} {st : Stmt} (F : FunA K x qual st f fd) (S : FnScope N ps (defScope st))
    (len : ∀ us H Q E, sp us H Q E → us.length = ps.length)
    (body : ∀ (cdv : Value) (A : Around) (outer : List PySem.Env) (s : Shared) (H : Hp) (vs : List V) (Q : VK) (E : XK), Room k (A.deeper (envOfC qual (defScope st) s.heap.objs.size f cdv)) → sp vs H Q E →
      ∃ t, PSs (cxOf CX P w K mg base N qual (defScope st) f cdv A outer s H E) (defBody st) t ∧ t { nx := fun _ H' => Q .non H', rt := Q } (L2.start N vs) H) : FnOk P w K mg base CX (k + 1) f fd ps sp := by
  rcases F.ex with ⟨y1, y2, y3, y4, y5, y6, y7, y8, y9, y10, rfl, lk, hc⟩
  exact fn_of lk hc S len fun A outer s H vs Q E hr h => body y8 A outer s H vs Q E hr h
theorem fnH_of {P : Program} {w : World} {K : PySem.W.Frag} {mg : Str → Option Value} {base : Heap} {k : Nat} {f : Addr} {fd : FuncData} {N ps : List Str} {sp : Sp} {x qual : Str} {st : Stmt} (F : FunA K x qual st f fd) (S : FnScope N ps (defScope st))
    (len : ∀ us H Q E, sp us H Q E → us.length = ps.length)
    (body : ∀ (cdv : Value) (A : Around) (outer : List PySem.Env) (s : Shared) (H : Hp) (vs : List V) (Q : VK) (E : XK) (p : Addr × Obj), sp vs H Q E →
      ∃ t, PSs (L2H.cxH C8.CX0 P w K mg base N qual (defScope st) f cdv A outer s H E p) (defBody st) t ∧ t { nx := fun _ H' => Q .non H', rt := Q } (L2.start N vs) H) : L2H.FnH P w K mg base C8.CX0 (k + 1) f fd ps sp := by
  rcases F.ex with ⟨y1, y2, y3, y4, y5, y6, y7, y8, y9, y10, rfl, lk, hc⟩
  exact L2H.fn_ofH lk hc S len fun A outer s H vs Q E p _ _ h => body y8 A outer s H vs Q E p h
section
variable {X : Cx} {k : Nat} {f : Addr} {fd : FuncData} {ps : List Str} {sp : Sp} {W : WX} {x : Str} {p pos : Pos} {e : Expr} {es : List Expr} {t : TA}
theorem pe_callN (F : FnOk X.prog X.w X.K X.mg X.base (L2N.CX X.prog X.w) k f fd ps sp) (hr : Room k X.A) (hgl : Gl X x) (hm : X.mg x = some (.ref f)) (hk : PySem.W.keepIn X.K (.ref f) = true) (hb : Binds X.K fd ps [])
    (tk : L2N.Takes X W) (ha : PA X (e :: es) t) (hdb : (x == ("__debug__" : Str)) = false := by decide)
    (he : starEach (e :: es) X.env = (false, eval e X.env) :: starEach es X.env := by rfl)
    (hpl : (backTo pos (starEach es X.env)).any (·.1) = false := by rfl) : PE X (.Call (.Name x p) (e :: es) [] pos) (tCallW sp [] W t) :=
  ⟨fun pins s σ h q I z => wpAny_Call_Name_kw (ld_glob I hgl hm (PySem.W.callWith_K (h₀ := X.base) I.ok.mod.kin hk
    (thn (ha.run pos pins s σ h _ I z) fun argv s1 ⟨xs, h1, J, r, z1⟩ => ⟨J.kIn, by
      have z1 : sp (xs ++ []) h1 q (WE W σ) := z1
      rw [List.append_nil] at z1
      have hl : argv.length = ps.length := r.length.symm.trans (F.len _ _ _ _ z1)
      have b := hb s1 argv J.kIn (by rw [List.append_nil]; exact hl)
      rw [List.append_nil] at b
      refine wpAny_call (codeAny_mono (F.run X.A X.stack s1 h1 ⟨argv, []⟩ argv xs q _ hr J.env0 b r z1) fun res s' hq => ?_)
      match res, hq with
      | .error ee, hq => exact L2N.passAt tk σ pins h1 s1 ee s' J hq
      | .ok (.ret u), hq => exact J.after hq⟩) he hpl) hdb)⟩
end
/-! ### what such a try does -/
/-- an expression that lets no exception out -/
def dCalm (d : DE) : DE := fun ρ => mCalm (d ρ)
/-- try: b; except C as .. : raise c2((k, its field pl)) from None -/
def sTryX (tab : List (Str × Bool)) (i k : Nat) (pl c2 f2 : Str) (b : DE) : DS := fun ρ z => match b ρ z with
  | .ok _ z' => .ok (.nx, ρ) z'
  | .bad => .bad
  | .exc c fs z' => match tabB c tab with
    | some true => match ρ[k]?, fLook pl fs with
      | some (some x), some y => if k ≠ i ∧ i < ρ.length then .exc c2 [(f2, .tup [x, y])] z' else .bad
      | _, _ => .bad
    | some false => .exc c fs z'
    | none => .bad
section
variable {g : Gb} {W Wo : WX} {te : TE} {tb : WX → TE} {b d : DE} {i k : Nat} {tab : List (Str × Bool)} {cx : Value} {pl cB c2 f2 : Str} {CB C2 : Addr}
theorem ev_calm (h : EvE g WNo te d) : EvE g W te (dCalm d) := fun w σ H z ρ E o Q hq => h w σ H z ρ E o Q (sat_calm' hq)
theorem es_tryX (T : ExTab g cx tab) (one : ∀ c, tabB c tab = some true → c = cB) (hB : g.mg cB = some (.ref CB)) (h2 : g.mg c2 = some (.ref C2)) (T2 : OexC g.K C2) (hf2 : PySem.W.findIn g.K (.ref C2) f2 = some none) (hb : ∀ W, EvE g W (tb W) b) :
    EvS g Wo (fun D σ H => tDrop (tb (wSuf g.K cx i (fun a cl dc _ σ' H' => tMkO C2 (spX1 g.K f2) [] (tCons (tTupF (tCons (tVar k) (tCons (tXf a cl dc CB pl (tVar i)) tNil))) tNil) σ' H' fun cl' d' H2 => Wo cl' d' (σ'.set i none) H2) Wo D)) D σ H)
      (sTryX tab i k pl c2 f2 b) := fun w σ H z ρ E o Dn h => by
  refine hb _ w σ H z ρ E o _ ?_
  unfold sTryX at h
  cases e : b ρ z with
  | ok p z' => rw [e] at h; exact fun w1 v H1 g1 _ => (show QS g w H Dn (.nx, ρ) z' from h) w1 σ H1 g1 (E.mono g1.le)
  | bad => rw [e] at h; exact (show False from h).elim
  | exc c fs z' =>
    simp only [e] at h
    cases q : tabB c tab with
    | none => simp only [q] at h; exact (show False from h).elim
    | some bb =>
      obtain ⟨C0, hm0, hx0⟩ := T.ex c bb q
      show QX g w H σ _ c fs z'
      intro C dd w1 H1 g1 x
      obtain rfl : C0 = C := by
        have := x.1
        rw [hm0] at this
        cases this
        rfl
      refine ⟨bb, hx0, fun hbb a ha => ?_, fun hbb => ?_⟩
      · subst hbb
        obtain rfl := one c q
        rw [hB] at hm0
        cases hm0
        simp only [q] at h
        obtain ⟨_, gs, x2, x3⟩ := x
        cases hk : ρ[k]? with
        | none => rw [hk] at h; exact (show False from h).elim
        | some ok =>
          cases ok with
          | none => rw [hk] at h; exact (show False from h).elim
          | some dx =>
            cases hl : fLook pl fs with
            | none => rw [hk, hl] at h; exact (show False from h).elim
            | some dy =>
              simp only [hk, hl] at h
              by_cases cc : k ≠ i ∧ i < ρ.length
              · rw [if_pos cc] at h
                obtain ⟨vx, sx, rx⟩ := E.dat k dx hk
                rcases look_of (m := pl) x3 with ⟨z0, _⟩ | ⟨dy', vy, y1, y2, ry⟩
                · rw [hl] at z0; cases z0
                rw [hl] at y1
                cases y1
                have hi : i < σ.length := by rw [E.len]; exact cc.2
                have hxd : H1 dd = some (.xd gs) := g1.ok.sub _ _ x2
                refine ⟨vx, by rw [List.getElem?_set_ne (Ne.symm cc.1)]; exact sx, .ref a, by rw [List.getElem?_set_self hi], rfl, rfl, dd, gs, vy, rfl, hxd, y2, by simp [sizeLine_eq], fun p ob hp hod => ⟨by simp, fun a2 hn => ?_⟩⟩
                have gt := Go.new (o := .frz ob (.tup [vx, vy])) g1.ok hp (fun ps z => by cases z)
                have rt : Rv g _ (.ref p) (.tup [dx, dy]) := .tup (SqP.of upd_same hod) (.cons ((rx.mono g1.le).mono gt.le) (.cons (ry.mono gt.le) .nil))
                refine ⟨a2, C2, .ref p, rfl, T2, hf2, upd_same, fun dx2 hd1 hd2 => ⟨rfl, dx2, [(f2, .ref p)], upd_same, by rw [upd_ne hd2, upd_same], by rw [upd_ne hd2] at hd1; exact hd1, ?_⟩⟩
                rw [back1 (C := C2) (u := .frz ob (.tup [])) hn hd2]
                rw [upd_ne hd2] at hd1
                have g2 := Go.new (o := .xd [(f2, .ref p)]) gt.ok hd1 (fun ps z => by cases z)
                exact (show QXS g w H Wo c2 [(f2, .tup [dx, dy])] z' from h) _ C2 dx2 _ _ ((g1.trans gt).trans g2) ⟨h2, [(f2, .ref p)], upd_same, .cons (rt.mono g2.le) .nil⟩
              · rw [if_neg cc] at h; exact (show False from h).elim
      · subst hbb
        simp only [q] at h
        exact (show QXS g w H Wo c fs z' from h) σ _ dd w1 H1 g1 x
end
section
variable {X : Cx} {x n nk cN f2 pl : Str} {c : Value} {i k k2 : Nat} {CB C2 fI : Addr} {fd : FuncData} {ps : List Str} {np q1 q2 q3 p1 p2 p3 p4 p5 p6 p7 p8 : Pos} {bd : Expr} {tb : WX → TE} {Wo : WX} {jj x1 : Nat}
theorem ps_tryX (hs : X.stack = X.env :: X.outer) (hf : X.env.frame = some X.env.locals) (nd : X.N.Nodup) (hi : X.N[i]? = some n) (hn : X.env.kindOf n = some .local) (hk : X.N[k]? = some nk) (hnk : Vis X.env.scope nk) (hgn : (nk == ("__debug__" : Str)) = false) (hgn2 : (n == ("__debug__" : Str)) = false) (hgn3 : (nk == ("__classdict__" : Str)) = false) (hgn4 : (n == ("__classdict__" : Str)) = false) (hc : Names X x c) (tk : L2.Takes X Wo)
    (T : XfC X.K CB) (hno : PySem.W.findIn X.K (.ref CB) pl = some none) (T2 : OexC X.K C2) (iC : PySem.W.findIn X.K (.ref C2) "__init__" = some (some (.ref fI))) (tI : PySem.W.typeIn X.K (.ref fI) = some (.type "function"))
    (F1 : L2H.FnH X.prog X.w X.K X.mg X.base C8.CX0 k2 fI fd ps (spX1 X.K f2)) (hr : Room (k2 + 1) X.A) (hb2 : Binds X.K fd ps []) (hg : Gl X cN) (hm : X.mg cN = some (.ref C2)) (hdc : (cN == ("__debug__" : Str)) = false)
    (hb : ∀ (W : WX) (pn : List (Addr × Obj)) (xe : Value → Shared → Prop), L2N.Takes (X.tr pn xe) W → PE (X.tr pn xe) bd (tb W))
    (hsw : swapsWith bd none p8.line X.env = pure false) :
    PS X (.Try [.Expr bd p8] [.ExceptHandler (some (.Name x np)) (some n) [.Raise (some (.Call (.Name cN p5) [.Tuple [.Name nk p1, .Attribute (.Name n p2) pl p3] x1 p4] [] p6)) (some (.Constant .none jj p7)) q3] q1] [] [] q2)
      (fun D σ H => tDrop (tb (wSuf X.K c i (fun a cl dc _ σ' H' => tMkO C2 (spX1 X.K f2) [] (tCons (tTupF (tCons (tVar k) (tCons (tXf a cl dc CB pl (tVar i)) tNil))) tNil) σ' H' fun cl' d' H2 => Wo cl' d' (σ'.set i none) H2) Wo D)) D σ H) := by
  refine ps_try_suf (tb := fun W D σ H => tDrop (tb W) D σ H) (ts := fun a cl dc _ σ' H' => tMkO C2 (spX1 X.K f2) [] (tCons (tTupF (tCons (tVar k) (tCons (tXf a cl dc CB pl (tVar i)) tNil))) tNil) σ' H' fun cl' d' H2 => Wo cl' d' (σ'.set i none) H2) hs hf nd hi hn hc tk (fun W pn xe tk2 _ => pss_one (ps_expr (hb W pn xe tk2) hsw)) (fun a oe cl dc pn hz hfl tk4 hot => pss_one ?_)
  exact L2H.ps_raiseHN hot tk4 (L2H.pmk5_oexH T2 iC tI F1 (L2H.roomH_mark hr (some (.ref a))) hot hb2 C8.pass0 hg hm (pa_cons (pe_tupF (pa_cons (pe_var hk hnk hgn hgn3) (pa_cons (pe_xfP List.mem_cons_self T hno hz.zc hfl (pe_var hi (.inl hn) hgn2 hgn4)) pa_nil))) pa_nil) hdc)
end
end UW

/-! V11 -/
/-! classes of the text whose instances are made -/
namespace UW
open PySem PySem.Spec PyProof.Rows L2
variable {ww : World}
theorem tabB_one {tab : List (Str × Bool)} {cB : Str} (h : tab.all (fun p => !p.2 || p.1 == cB) = true) : ∀ c, tabB c tab = some true → c = cB := fun c e => by
  induction tab with
  | nil => cases e
  | cons p r ih =>
    obtain ⟨h1, h2⟩ := Bool.and_eq_true_iff.mp (by simpa only [List.all_cons] using h)
    obtain ⟨x, b⟩ := p
    unfold tabB at e
    by_cases q : x = c
    · rw [if_pos q] at e
      cases e
      rw [← q]
      simpa using h1
    · rw [if_neg q] at e
      exact ih h2 e
structure MC (g : Gb) (x : Str) (st : Stmt) (ps : List Str) (C fI : Addr) (fd : FuncData) : Prop where
  m : g.mg x = some (.ref C)
  md : Mk g.K C fI
  fn : FunA g.K "__init__" (x ++ ".__init__") st fI fd
  b : Binds g.K fd ps []
theorem with_mc {R : Prop} {K : PySem.W.Frag} {h : Heap} {mg : Str → Option Value} {T : List (Addr × Str)} {x : Str} {st : Stmt} {ps : List Str} (hb : ArgsOk "__init__" (x ++ ".__init__") st ps) (X : K.In h) {C fI : Addr} (m : mg x = some (.ref C))
    {oc : Value} {od an : Option Addr} {sl : Array (Option Value)} {kV dc pm cd ct : Value} (mk : PySem.W.makesIn K C = true) (ic : PySem.W.findIn K (.ref C) "__init__" = some (some (.ref fI))) (fn : PySem.W.isFn K (.ref fI) = true) (kc : PySem.W.keepIn K (.ref C) = true)
    (li : K.lookup fI = some ⟨oc, od, .func (PySem.W.fnOf "__init__" (x ++ ".__init__") (defArgs st) (defBody st) (defScope st) .none kV dc pm an cd ct), sl⟩) (ci : PySem.W.codeIn K cd (x ++ ".__init__") = true) (ki : PySem.W.keepIn K (.ref fI) = true)
    (r : ∀ fd, MC ⟨K, mg, T, ww⟩ x st ps C fI fd → R) : R :=
  r _ ⟨m, ⟨mk, ic, fn, kc⟩, fun_of li ci ki, binds_of hb li ci ki⟩
end UW

/-! V12 -/
/-! ~i, written dicts with ints as keys, defs that are kept in a written dict and called by a local name -/
namespace UW
open PySem PySem.Spec PyProof.Rows L2
variable {ww : World}
/-! ### ints as keys -/
def kTabI (i : Int) : List (Int × D) → Option D
  | [] => none
  | (j, d) :: r => if j = i then some d else kTabI i r
def fIxI (tab : List (Int × D)) : D → M D
  | .int i => mOpt (kTabI i tab)
  | _ => mBad
def HitI (g : Gb) : List (Int × D) → List DictEntry → Prop
  | [], [] => True
  | (i, d) :: r, e :: l => (∃ t, e.key = .int i t) ∧ e.hash = hashInt i ∧ (∃ v, RelV v e.val ∧ ∀ w, Rv g w v d) ∧ HitI g r l
  | _, _ => False
structure KDI (g : Gb) (x : Str) (tab : List (Int × D)) (a : Addr) : Prop where
  m : g.mg x = some (.ref a)
  d : ∃ es n, g.K.lookup a = some ⟨.type "dict", none, .dict es n, #[]⟩ ∧ HitI g tab es.toList
theorem HitI.keys {g : Gb} : ∀ {tab : List (Int × D)} {l : List DictEntry}, HitI g tab l → ∀ e ∈ l, ∃ i t, e.key = .int i t ∧ e.hash = hashInt i
  | [], [], _, _, h => nomatch h
  | (i, d) :: r, e :: l, ⟨⟨t, h1⟩, h2, _, h3⟩, e', h => by
    rcases (List.mem_cons.mp h) with q | q
    · rw [q]; exact ⟨i, t, h1, h2⟩
    · exact HitI.keys h3 e' q
theorem HitI.find {g : Gb} {i : Int} {d : D} : ∀ {tab : List (Int × D)} {l : List DictEntry}, HitI g tab l → kTabI i tab = some d → ∃ e v, l.find? (fun e => Value.isInt i e.key) = some e ∧ RelV v e.val ∧ ∀ w, Rv g w v d
  | [], [], _, h => by cases h
  | (j, c) :: r, e :: l, ⟨⟨t, h1⟩, _, ⟨v, h2, h4⟩, h3⟩, h => by
    unfold kTabI at h
    by_cases q : j = i
    · rw [if_pos q] at h
      cases h
      refine ⟨e, v, ?_, h2, h4⟩
      rw [List.find?_cons, h1]
      simp [Value.isInt, q]
    · rw [if_neg q] at h
      obtain ⟨e', v', y1, y2⟩ := HitI.find h3 h
      refine ⟨e', v', ?_, y2⟩
      have : Value.isInt i e.key = false := by rw [h1]; simpa [Value.isInt] using q
      rw [List.find?_cons, this]
      exact y1
def rIxI (a : Addr) (g : Gb) (tab : List (Int × D)) : R2 := fun x y H Q => ∃ (i : Int) (d : D), x = .ref a ∧ y = .int i ∧ kTabI i tab = some d ∧ ∀ v, (∀ w, Rv g w v d) → Q v H
theorem ix_kint {X : Cx} {g : Gb} {x : Str} {tab : List (Int × D)} {a : Addr} (T : KDI g x tab a) (hK : X.K = g.K) : IxR X (rIxI a g tab) := by
  intro value slice pins s σ H x y v u Q I rx ry hh0 hs
  obtain ⟨i, d, rfl, rfl, e, q⟩ := hh0
  obtain ⟨es, n, hl, hh⟩ := T.d
  rw [← hK] at hl
  cases (show (v = Value.ref a) from rx)
  rcases (show ∃ t, u = Value.int i t from ry) with ⟨t, rfl⟩
  have hm : s.heap.MapOf (intKind X.prog X.w) a (fun k => findBy Value.isInt es k) := ⟨_, es, n, I.kIn _ _ hl, ⟨rfl, rfl, rfl⟩, rfl, fun e he => by
    obtain ⟨j, t', h1, h2⟩ := hh.keys e (Array.mem_toList_iff.mpr he)
    exact ⟨j, by rw [h1]; exact intKind_is X.prog X.w j t', h2⟩, fun _ => rfl⟩
  obtain ⟨e', v', h1, h2, h3⟩ := hh.find e
  have hf : findBy Value.isInt es i = some e'.val := by
    obtain ⟨l⟩ := es
    unfold findBy
    rw [List.find?_toArray]
    rw [h1]
    rfl
  exact tail_any hm.typeIs slot_dict_getitem.lookup (wpAny_getItem_of (intKind_is X.prog X.w i t) hm hf ⟨v', H, I.tok _, h2, q v' h3⟩) hs
theorem ev_ixI {g : Gb} {W : WX} {ta : TE} {da : DE} {tab : List (Int × D)} {a : Addr} (ha : EvE g W ta da) : EvE g W (tOp (rIxI a g tab) (tC (.ref a)) ta) (d1 (fIxI tab) da) := fun wd σ H z ρ E o Q h =>
  ha wd σ H z ρ E o _ (sat_mono (sat_bind h) (fun y z1 s1 w1 vx H1 g1 r1 => by
    cases y with
    | int i =>
      cases r1
      obtain ⟨d, e, q⟩ := sat_opt (show Sat (mOpt (kTabI i tab) z1) _ _ from s1)
      exact ⟨i, d, rfl, rfl, e, fun v h3 => (show QV g wd H Q d z1 from q) w1 v H1 g1 (h3 w1)⟩
    | _ => exact (show False from s1).elim) fun _ _ _ q => q)
theorem with_tabI {R : Prop} {K : PySem.W.Frag} {h : Heap} {mg : Str → Option Value} {T : List (Addr × Str)} {x : Str} {a : Addr} {es : Array DictEntry} {n : Nat} {tab : List (Int × D)} (X : K.In h) (m : mg x = some (.ref a))
    (l : K.lookup a = some ⟨.type "dict", none, .dict es n, #[]⟩) (hit : HitI ⟨K, mg, T, ww⟩ tab es.toList) (r : KDI ⟨K, mg, T, ww⟩ x tab a → R) : R := r ⟨m, es, n, l, hit⟩
/-! ### a def in a written dict -/
theorem with_wordG {R : Prop} {K : PySem.W.Frag} {h : Heap} {mg : Str → Option Value} {T : List (Addr × Str)} {x y f : Str} {a b : Addr} (X : K.In h) (m : mg y = some (.ref a)) (mf : mg f = some (.ref b)) (e : PySem.W.nsIn K a x = some (some (.ref b)))
    (r : Word K mg T ww a x (.gl f) → R) : R := r ⟨.ref b, .ref b, e, rfl, fun w => .gl mf rfl⟩
theorem with_wordI {R : Prop} {K : PySem.W.Frag} {h : Heap} {mg : Str → Option Value} {T : List (Addr × Str)} {x y : Str} {a : Addr} {i : Int} {t : Tok} (X : K.In h) (m : mg y = some (.ref a)) (e : PySem.W.nsIn K a x = some (some (.int i t)))
    (r : Word K mg T ww a x (.int i) → R) : R := r ⟨.int i t, .int i, e, ⟨t, rfl⟩, fun w => .int i⟩
theorem with_wordS {R : Prop} {K : PySem.W.Frag} {h : Heap} {mg : Str → Option Value} {T : List (Addr × Str)} {x y : Str} {a : Addr} {i : Str} {t : Tok} (X : K.In h) (m : mg y = some (.ref a)) (e : PySem.W.nsIn K a x = some (some (.str i t)))
    (r : Word K mg T ww a x (.str i) → R) : R := r ⟨.str i t, .str i, e, ⟨t, rfl⟩, fun w => .str i⟩
/-! ### calls of what a local name holds, whatever is under way -/
structure HeldV (P : Program) (w : World) (g : Gb) (base : Heap) (k n : Nat) (tab : List (Str × DF)) : Prop where
  ex : ∀ x df, fTab x tab = some df → ∃ (f : Addr) (fd : FuncData) (ps : List Str), g.mg x = some (.ref f) ∧ FnG P w g.K g.mg base false k f fd ps (spF g n df) ∧ PySem.W.keepIn g.K (.ref f) = true ∧ Binds g.K fd ps []
theorem held_nil {P : Program} {w : World} {g : Gb} {base : Heap} {k n : Nat} : HeldV P w g base k n [] := ⟨fun _ _ h => by cases h⟩
theorem held_cons {P : Program} {w : World} {g : Gb} {base : Heap} {j k n : Nat} {tab : List (Str × DF)} {x : Str} {df : DF} {f : Addr} {fd : FuncData} {ps : List Str} (F : FnG P w g.K g.mg base false j f fd ps (spF g n df)) (hj : j ≤ k) (m : g.mg x = some (.ref f))
    (kp : PySem.W.keepIn g.K (.ref f) = true) (b : Binds g.K fd ps []) (r : HeldV P w g base k n tab) : HeldV P w g base k n ((x, df) :: tab) := ⟨fun y d h => by
  unfold fTab at h
  by_cases q : x = y
  · rw [if_pos q] at h
    cases h
    subst q
    exact ⟨f, fd, ps, m, F.up hj, kp, b⟩
  · rw [if_neg q] at h
    exact r.ex y d h⟩
section
variable {P : Program} {w : World} {base : Heap} {k i : Nat} {g : Gb}
def tCallV (P : Program) (w : World) (K : PySem.W.Frag) (mg : Str → Option Value) (base : Heap) (k i : Nat) (W : WX) (t : TA) : TE := fun σ H Q => ∃ (f : Addr) (fd : FuncData) (ps : List Str) (sp : Sp), σ[i]? = some (some (.ref f)) ∧
  FnG P w K mg base false k f fd ps sp ∧ PySem.W.keepIn K (.ref f) = true ∧ Binds K fd ps [] ∧ t σ H fun vs H1 => sp vs H1 Q (WE W σ)
variable {X : Cx} {x : Str} {p pos : Pos} {e : Expr} {es : List Expr} {t : TA} {W : WX}
theorem pe_callV (hr : Room k X.A) (hN : X.N[i]? = some x) (hv : Vis X.env.scope x) (tk : Takes X W) (ha : PA X (e :: es) t)
    (nodb : (x == ("__debug__" : Str)) = false := by decide) (nocd : (x == ("__classdict__" : Str)) = false := by decide)
    (he : starEach (e :: es) X.env = (false, eval e X.env) :: starEach es X.env := by rfl)
    (hpl : (backTo pos (starEach es X.env)).any (·.1) = false := by rfl) :
    PE X (.Call (.Name x p) (e :: es) [] pos) (tCallV X.prog X.w X.K X.mg X.base k i W t) := by
  refine .mk fun pins s σ H Q I h => ?_
  rcases h with ⟨f, fd, ps, sp, h1, F, h2, h3, h4⟩
  refine (wpAny_Call_Name_kw (thn ((pe_var (pos := p) hN hv nodb nocd).run pins s σ H (fun y J => y = .ref f ∧ J = H) I ⟨.ref f, h1, rfl, rfl⟩) fun u s1 ⟨y, J, I1, r1, q1⟩ => ?_))
  obtain ⟨rfl, rfl⟩ := q1
  cases r1
  refine (PySem.W.callWith_K (h₀ := X.base) I.ok.mod.kin h2 (thn (ha.run pos pins s1 σ _ _ I1 h4) fun argv s2 ⟨vs, H2, I2, r, q⟩ => ⟨I2.kIn, ?_⟩) he hpl)
  exact run_g (dvs := []) (dd := []) F (fun z => nomatch z) hr h3 .nil tk I2 r (by rw [List.append_nil]; exact q)
theorem ev_callV {n : Nat} {ta : TA} {da : DA} {tab : List (Str × DF)} (T : HeldV P w g base k n tab) (h : EvA g W ta n da) : EvE g W (tCallV P w g.K g.mg base k i W ta) (dCallL tab i da) := fun wd σ H z ρ E o Q hq => by
  unfold dCallL at hq
  cases e : ρ[i]? with
  | none => rw [e] at hq; exact (show False from hq).elim
  | some d0 =>
    rw [e] at hq
    cases d0 with
    | none => exact (show False from hq).elim
    | some d =>
      cases d with
      | gl y =>
        simp only at hq
        cases e2 : fTab y tab with
        | none => rw [e2] at hq; exact (show False from hq).elim
        | some df =>
          rw [e2] at hq
          obtain ⟨f, fd, ps, hm, F, hk, hb⟩ := T.ex y df e2
          obtain ⟨v, h1, h2⟩ := E.dat i _ e
          cases h2 with
          | gl hx hrel =>
            rw [hm] at hx
            cases hx
            obtain rfl : v = V.ref f := by
              cases v <;> first | (cases hrel; rfl) | (obtain ⟨_, q⟩ := hrel; cases q) | (cases hrel)
            refine ⟨f, fd, ps, _, h1, F, hk, hb, ?_⟩
            have := ev_callP (f := df) h wd σ H z ρ E o Q hq
            unfold tCallW at this
            simpa using this
      | _ => exact (show False from hq).elim
end
end UW

/-! V13 -/
/-! the values of a written dict: ints -/
namespace UW
open PySem PySem.Spec PyProof.Rows L2
variable {ww : World}
def IntsOf : List Value → List Int → Prop
  | [], [] => True
  | v :: r, i :: l => (∃ t, v = .int i t) ∧ IntsOf r l
  | _, _ => False
theorem IntsOf.vals : ∀ {vs : List Value} {xs : List Int}, IntsOf vs xs → Vals (xs.map V.int) vs
  | [], [], _ => .nil
  | v :: r, i :: l, ⟨h1, h2⟩ => .cons h1 (IntsOf.vals h2)
theorem ints_rv {g : Gb} {w : Wd} : ∀ xs : List Int, RvA g w (xs.map V.int) (xs.map D.int)
  | [] => .nil
  | i :: l => .cons (.int i) (ints_rv l)
theorem with_valsI {R : Prop} {K : PySem.W.Frag} {h : Heap} {mg : Str → Option Value} {T : List (Addr × Str)} {x : Str} {a : Addr} {es : Array DictEntry} {n : Nat} {xs : List Int} (X : K.In h) (m : mg x = some (.ref a))
    (l : K.lookup a = some ⟨.type "dict", none, .dict es n, #[]⟩) (low : (a == sysModules) = false) (hit : IntsOf (es.toList.map (·.val)) xs) (r : KVals K a es n (xs.map V.int) → (∀ w, RvA ⟨K, mg, T, ww⟩ w (xs.map V.int) (xs.map D.int)) → R) : R :=
  r ⟨l, low, hit.vals⟩ fun w => ints_rv xs
end UW

/-! V14 -/
/-! written tuples that hold tuples of plain items -/
namespace UW
open PySem PySem.Spec PyProof.Rows L2
variable {ww : World}
section
variable {R : Prop} {K : PySem.W.Frag} {h : Heap} {mg : Str → Option Value} {T : List (Addr × Str)}
inductive PlainN (K : PySem.W.Frag) : List Value → List D → Prop
  | nil : PlainN K [] []
  | int {i : Int} {t : Tok} {us : List Value} {ds : List D} : PlainN K us ds → PlainN K (.int i t :: us) (.int i :: ds)
  | str {x : Str} {t : Tok} {us : List Value} {ds : List D} : PlainN K us ds → PlainN K (.str x t :: us) (.str x :: ds)
  | tup {b : Addr} {c : Value} {its : Array Value} {n : Nat} {sl : Array (Option Value)} {us : List Value} {ds sub : List D} : K.lookup b = some ⟨c, none, .seq its n, sl⟩ → c = .type "tuple" → Nat.ble its.size 1000 = true → PlainN K its.toList sub → PlainN K us ds → PlainN K (.ref b :: us) (.tup sub :: ds)
theorem PlainN.vals {us : List Value} {ds : List D} (h : PlainN K us ds) : ∃ vs : List V, Vals vs us ∧ ∀ w, RvA ⟨K, mg, T, ww⟩ w vs ds := by
  induction h with
  | nil => exact ⟨[], .nil, fun _ => .nil⟩
  | @int i t us ds _ ih => obtain ⟨vs, a, b⟩ := ih; exact ⟨.int i :: vs, .cons ⟨t, rfl⟩ a, fun w => .cons (.int i) (b w)⟩
  | @str x t us ds _ ih => obtain ⟨vs, a, b⟩ := ih; exact ⟨.str x :: vs, .cons ⟨t, rfl⟩ a, fun w => .cons (.str x) (b w)⟩
  | @tup b c its n sl us ds sub l hc hz _ _ ih1 ih =>
    obtain ⟨vs, x, y⟩ := ih
    obtain ⟨ws, x1, y1⟩ := ih1
    have hz' : its.size ≤ sizeLine := by
      have := Nat.le_of_ble_eq_true hz
      rw [sizeLine_eq]; omega
    exact ⟨.ref b :: vs, .cons rfl x, fun w => .cons (.tup (.inr ⟨_, its, n, l, hc, rfl, rfl, hz', x1⟩) (y1 w)) (y w)⟩
theorem with_tupN {x : Str} {a : Addr} {c : Value} {its : Array Value} {n : Nat} {sl : Array (Option Value)} {ds : List D} (X : K.In h) (G : h.Ns mainGlobals mg) (e : PySem.W.nsIn K mainGlobals x = some (some (.ref a)))
    (l : K.lookup a = some ⟨c, none, .seq its n, sl⟩) (hc : c = .type "tuple") (hz : Nat.ble its.size 1000 = true) (p : PlainN K its.toList ds) (r : KC ⟨K, mg, T, ww⟩ x (.tup ds) (.ref a) (.ref a) → R) : R := by
  obtain ⟨vs, rv, dv⟩ := p.vals (mg := mg) (T := T)
  have hz' : its.size ≤ sizeLine := by
    have := Nat.le_of_ble_eq_true hz
    rw [sizeLine_eq]; omega
  exact r ⟨PySem.W.mg_of X G e, rfl, fun w => .tup (.inr ⟨_, its, n, l, hc, rfl, rfl, hz', rv⟩) (dv w)⟩
end
end UW

/-! V15 -/
/-! dict(x): of a dict, of a list of pairs -/
namespace UW
open PySem PySem.Spec PyProof.Rows L2
section
variable {g : Gb} {W : WX}
def pairsD : List D → Option (List (D × D))
  | [] => some []
  | .tup [k, v] :: r => match pairsD r with
    | some kvs => some ((k, v) :: kvs)
    | none => none
  | _ => none
def fDictO (o : PO) : M D := match o with
  | .dct kvs | .fdct kvs => mNew (.dct kvs)
  | .lst xs | .flst xs => match pairsD xs with
    | some kvs => if (kvs.all fun p => p.1.isKey) = true then mNew (.dct (kMerge kvs)) else mBad
    | none => mBad
  | _ => mBad
def fDictOf : List D → M D
  | [x] => mGet x fun _ o => fDictO o
  | _ => mBad
def rDictA (K : PySem.W.Frag) : List V → Hp → VK → Prop := fun xs H Q => ∃ a, xs = [.ref a] ∧
  ((∃ kvs : List (Key × V), Rd H a (.dK kvs) ∧ ∀ p, H p = none → Q (.ref p) (upd H p (.dK kvs))) ∨
    (∃ (ps : List Addr) (kvs : List (Key × V)), SqL K H a (ps.map V.ref) ∧ Paired (fun p kv => SqT K H p [kV kv.1, kv.2]) ps kvs ∧ ∀ p, H p = none → Q (.ref p) (upd H p (.dK (mergeK [] kvs)))))
theorem call_dictA {X : Cx} (hc : X.calm = true) : CallR X (.type "dict") (rDictA X.K) := by
  intros pins s σ H xs us Q I r q
  obtain ⟨a, rfl, q | q⟩ := q
  · obtain ⟨kvs, h1, h2⟩ := q
    exact call_dictD pins s σ H _ us Q I r ⟨a, kvs, rfl, h1, h2⟩
  · obtain ⟨ps, kvs, h1, h2, h3⟩ := q
    exact call_dictP hc pins s σ H _ us Q I r ⟨a, ps, kvs, rfl, h1, h2, h3⟩
theorem paired_of {w : Wd} {z : PH} {H : Hp} (o : Ok g w z H) : ∀ {ds : List D} {vs : List V} {kvs : List (D × D)} {kv0 : List (Key × V)} {s0 : List (D × D)}, RvA g w vs ds → pairsD ds = some kvs → (kvs.all fun p => p.1.isKey) = true → KvR g w kv0 s0 →
    ∃ (ps : List Addr) (kvs' : List (Key × V)), vs = ps.map V.ref ∧ Paired (fun p kv => SqT g.K H p [kV kv.1, kv.2]) ps kvs' ∧ KvR g w (kvs'.foldl (fun acc kv => putK acc kv.1 kv.2) kv0) (kvs.foldl (fun acc p => kPut p.1 p.2 acc) s0)
  | [], _, kvs, _, _, .nil, e, _, h => by
    cases e
    exact ⟨[], [], rfl, .nil, h⟩
  | d :: ds, _, kvs, _, _, .cons ha hb, e, hk, h => by
    unfold pairsD at e
    split at e
    · rename_i e0; cases e0
    · rename_i k v r e0
      cases e0
      cases hr : pairsD ds with
      | none => rw [hr] at e; cases e
      | some kvs1 =>
        rw [hr] at e
        cases e
        rw [List.all_cons, Bool.and_eq_true] at hk
        cases ha with
        | @tup p ys _ h1 a1 =>
          cases a1 with
          | cons ra a2 =>
            cases a2 with
            | cons rb a3 =>
              cases a3
              obtain ⟨k', rfl, hkr⟩ := key_of ra hk.1
              obtain ⟨ps, kvs', e1, e2, e3⟩ := paired_of o hb hr hk.2 (h.put hkr rb)
              exact ⟨p :: ps, (k', _) :: kvs', by rw [e1]; rfl, .cons (same_t o.sub h1.t) e2, e3⟩
    · cases e
theorem rws_dict : RWs g (rDictA g.K) fDictOf := fun w H z vs ds o r Q h => by
  obtain ⟨d, rfl⟩ := one_of h rfl fun a b r => by cases a <;> rfl
  obtain ⟨v, rfl, rv⟩ := r.one
  obtain ⟨r, q, rfl, gt, h⟩ := sat_get (show Sat (mGet d (fun _ o => fDictO o) z) _ _ from h)
  cases rv with
  | @ref a _ i1 =>
    have dd : ∀ kvs, q.kvs = some kvs → Sat ((mNew (.dct kvs) : M D) z) (QV g w H Q) (fun _ _ _ => False) → rDictA g.K [.ref a] H Q := fun kvs e hh => by
      obtain ⟨vs, h1, h2⟩ := o.kvs i1 gt e
      exact ⟨a, rfl, .inl ⟨vs, h1, fun p hp => (show QV g w H Q (.ref z.n) (z.new (.dct kvs)) from hh) _ _ _ (Go.make o hp ⟨vs, upd_same, h2⟩) (.ref (Wd.snoc_last o.len))⟩⟩
    have ll : ∀ xs, q.seq = some xs → Sat ((match pairsD xs with
        | some kvs => if (kvs.all fun p => p.1.isKey) = true then mNew (.dct (kMerge kvs)) else mBad
        | none => mBad : M D) z) (QV g w H Q) (fun _ _ _ => False) → rDictA g.K [.ref a] H Q := fun xs e hh => by
      obtain ⟨vs, h1, h2⟩ := o.seq i1 gt e
      cases hp : pairsD xs with
      | none => rw [hp] at hh; exact (show False from hh).elim
      | some kvs =>
        rw [hp] at hh
        obtain ⟨c, hh⟩ := sat_if hh
        obtain ⟨ps, kvs', rfl, e2, e3⟩ := paired_of o h2 hp c .nil
        exact ⟨a, rfl, .inr ⟨ps, kvs', h1, e2, fun p hp => (show QV g w H Q (.ref z.n) (z.new (.dct (kMerge kvs))) from hh) _ _ _ (Go.make o hp ⟨mergeK [] kvs', upd_same, e3⟩) (.ref (Wd.snoc_last o.len))⟩⟩
    cases q with
    | dct kvs => exact dd kvs rfl h
    | fdct kvs => exact dd kvs rfl h
    | lst xs => exact ll xs rfl h
    | flst xs => exact ll xs rfl h
    | _ => exact (show False from h).elim
theorem nox_dict : ∀ xs, NoX (fDictOf xs) := fun xs => by
  unfold fDictOf
  split
  · refine nox_get fun _ o => ?_
    unfold fDictO
    cases o with
    | dct kvs => exact nox_new
    | fdct kvs => exact nox_new
    | lst xs => show NoX (match pairsD xs with | some kvs => _ | none => _); cases pairsD xs <;> first | exact nox_bad | exact nox_ite nox_new nox_bad
    | flst xs => show NoX (match pairsD xs with | some kvs => _ | none => _); cases pairsD xs <;> first | exact nox_bad | exact nox_ite nox_new nox_bad
    | _ => exact nox_bad
  · exact nox_bad
end
end UW

/-! V16 -/
/-! set(xs) of a list of ints, as the sets of the library that can be sorted -/
namespace UW
open PySem PySem.Spec PyProof.Rows L2
section
variable {w : World} {P : Program} {s : Shared} {A : Around} {E : Value → Shared → Prop}
abbrev emptyS (w : World) : Obj := { cls := .type "set", dict := none, data := .set #[] 0 (.fresh 0 0 (!w.params.followText "set-order")) }
theorem ints_val {items : Array Value} {ns : List Int} (hit : IntsAre items.toList ns) (i : Nat) (v : Value) (hv : items[i]? = some v) : ∃ k t, ns[i]? = some k ∧ v = .int k t := by
  have e1 : items.size = ns.length := by simpa using IntsAre.length hit
  have hi : i < ns.length := by rw [← e1]; exact (Array.getElem?_eq_some_iff.mp hv).1
  obtain ⟨t, e⟩ := IntsAre.int_at hit i v (by rw [Array.getElem?_toList]; exact hv)
  exact ⟨ns[i], t, List.getElem?_eq_getElem hi, by rw [e, List.getD_eq_getElem?_getD, List.getElem?_eq_getElem hi]; rfl⟩
theorem init_setL {S l : Addr} {items : Array Value} {ns : List Int} {R : Result → Shared → Prop} (hh : A.handled = none) (hS : s.heap.get? S = some (emptyS w)) (hl : s.heap.IsList l items) (hne : l ≠ S) (hit : IntsAre items.toList ns) (hb : ns.length + 1 < scanBound)
    (h : ∀ (h' : Heap) (tk c : Nat), SetR w h' S (fun j => decide (j ∈ ns)) c → c ≤ ns.length → (∀ b o, b ≠ S → s.heap.get? b = some o → h'.get? b = some o) → R (.ok (.ret .none)) { s with heap := h', toks := tk }) :
    codeAny (model P w) A (.call (.builtin "set.__init__") ⟨[.ref S, .ref l], []⟩) R s := by
  have en := IntsAre.length hit
  rw [Array.length_toList] at en
  have hT : s.TypeIs (.ref S) "set" := ⟨_, hS, rfl⟩
  refine codeAny_call_builtin F.called_set.init.plain F.entry_set_init (check_set_init_1 hT ?_)
  have hl0 := hl
  obtain ⟨⟨oc, od, oda, os⟩, hol, hcl, nl, hdl⟩ := hl
  simp only at hcl hdl
  subst hcl hdl
  have b1 := F.sub_list_set
  have b2 := F.sub_list_frozenset
  have b3 : (Value.type "list" == Value.type "dict") = false := by decide
  unfold Builtin.«set.__init__»; unfold noKeywords Builtin.Frozenset.updateFrom
  generalize hPI : pyIter = PI
  wp_walk
  subst hPI
  refine wpAny_pyIter_list hl0 (wpAny_bind (wpAny_runValue ?_))
  have lS : S < s.heap.objs.size := Heap.lt_size hS
  have ll : l < s.heap.objs.size := Heap.lt_size hol
  refine set_update_ints ((Walks.list (by simp [hh]) s.heap.objs.size l (Nat.ne_of_lt ll) items).toS) S (by
    simp only [List.mem_cons, List.not_mem_nil, or_false, not_or]
    exact ⟨Nat.ne_of_lt lS, hne.symm⟩) ns en hb (ints_val hit) _ 0 _ rfl (Nat.zero_le _) ⟨⟨_, Heap.get?_push_size _ rfl, rfl, rfl⟩, hl0.push _⟩ ⟨0, Nat.le_refl 0, setR_new_at (Heap.get?_push_of_some _ hS)⟩ fun s' c hm hc hS' => ?_
  rcases s' with ⟨h', g2, d', tk', os'⟩
  have eg : g2 = s.gens := (hm.gens)
  have ed : d' = s.drawn := (hm.drawn)
  have eo : os' = s.os := hm.os
  subst eg ed eo
  show wpAny _ _ (pure ()) _ _ _
  refine wpAny_pure ?_
  show (wpAny _ _ (ret Value.none) _ _ _)
  refine wpAny_pure (h h' tk' c hS' (by rw [← en]; exact hc) fun b o hb e => hm.heap b o ?_ (Heap.get?_push_of_some _ e))
  simp only [List.mem_cons, List.not_mem_nil, or_false, not_or]
  exact ⟨hb, Nat.ne_of_lt (Heap.lt_size e)⟩
/-- a call of a type by what its two builtins do -/
theorem type_codes {T newId initId : String} {args : List Value} {Q Q1 : Value → Shared → Prop} (ft : TypeCalled T newId initId) (hct : checkTypeCall T ⟨args, []⟩ = pure ())
    (hn : codeAny (model P w) A.in1 (.call (.builtin newId) ⟨.type T :: args, []⟩) (wants Q1 E) s)
    (hi : ∀ obj s1, Q1 obj s1 → s1.TypeIs obj T ∧ codeAny (model P w) A.in1 (.call (.builtin initId) ⟨obj :: args, []⟩) (wants (fun r s2 => r = .none ∧ Q obj s2) E) s1) : wpAny (model P w) A (call (.type T) args) Q E s := by
  obtain ⟨c, tl, m1⟩ := ft.mro
  have m2 := ft.made
  have m3 := ft.sub
  have m4 := ft.notType
  have m5 := ft.canCreate
  refine (wpAny_call (codeAny_of_tree ?_))
  show (wpAny _ _ (callAny (.type T) _) _ _ _)
  refine (wpAny_pure ⟨Code.quiet_builtin _ (by decide +kernel), codeAny_builtin F.entry_type_call ?_⟩)
  rw [Around.under_plain (weight_type_call_type T args [])]
  rotate_left
  · exact units_type_call_type T args []
  repeat any_goals first | assumption | wp_step
  refine codeAny_mono hn fun r s1 hr => ?_
  match r, hr with
  | .error e, hr => exact hr
  | .ok (.ret obj), hr =>
    obtain ⟨hT, hin⟩ := hi obj s1 hr
    have m6 := ft.init.lookup
    have m7 := ft.init.bind obj
    repeat any_goals first | assumption | wp_step
    refine codeAny_mono hin fun r2 s2 hr2 => ?_
    match r2, hr2 with
    | .error e, hr2 => exact hr2
    | .ok (.ret r), hr2 =>
      obtain ⟨rfl, hq⟩ := hr2
      repeat any_goals first | assumption | wp_step
theorem call_setL {l : Addr} {items : Array Value} {ns : List Int} {Q : Value → Shared → Prop} (hh : A.handled = none) (hl : s.heap.IsList l items) (hit : IntsAre items.toList ns) (hb : ns.length + 1 < scanBound)
    (h : ∀ (hp : Heap) (t n : Nat), SetR w hp s.heap.objs.size (fun j => decide (j ∈ ns)) n → n ≤ ns.length → (∀ a o, s.heap.get? a = some o → hp.get? a = some o) → Q (.ref s.heap.objs.size) { s with heap := hp, toks := t }) : wpAny (model P w) A (call (.type "set") [.ref l]) Q E s := by
  have lo : l < s.heap.objs.size := by
    obtain ⟨o, e, _⟩ := hl
    exact Heap.lt_size e
  refine type_codes F.called_set (F.typeCall_set_1 (.ref l)) (code_set_led1 (.ref l) (Q₁ := fun obj s1 => obj = .ref s.heap.objs.size ∧ s1 = { s with heap := s.heap.push (emptyS w) }) ⟨rfl, rfl⟩) fun obj s1 q => ?_
  obtain ⟨rfl, rfl⟩ := q
  have hS : (s.heap.push (emptyS w)).get? s.heap.objs.size = some (emptyS w) := Heap.get?_push_size _ rfl
  refine ⟨⟨_, hS, rfl⟩, init_setL (by simp [hh]) hS (hl.push _) (Nat.ne_of_lt lo) hit hb fun h' tk c a1 a2 a3 => ⟨rfl, h h' tk c a1 a2 fun b o e => ?_⟩⟩
  exact a3 b o (Nat.ne_of_lt (Heap.lt_size e)) (Heap.get?_push_of_some _ e)
end
end UW

/-! V17 -/
/-! sorted(set(xs)) of a list of ints -/
namespace UW
open PySem PySem.Spec PyProof.Rows L2
/-! strictly ascending, with the same members -/
def insU (k : Int) : List Int → List Int
  | [] => [k]
  | x :: r => if k < x then k :: x :: r else if k = x then x :: r else x :: insU k r
def sortU : List Int → List Int
  | [] => []
  | k :: r => insU k (sortU r)
theorem mem_insU {k j : Int} : ∀ {xs : List Int}, j ∈ insU k xs ↔ j = k ∨ j ∈ xs
  | [] => by simp [insU]
  | x :: r => by
    unfold insU
    by_cases c : k < x
    · rw [if_pos c]; simp
    · rw [if_neg c]
      by_cases c2 : k = x
      · rw [if_pos c2]; subst c2; simp
      · rw [if_neg c2]
        simp only [List.mem_cons, mem_insU (xs := r)]
        constructor
        · rintro (h | h | h) <;> simp [h]
        · rintro (h | h | h) <;> simp [h]
theorem mem_sortU {j : Int} : ∀ {xs : List Int}, j ∈ sortU xs ↔ j ∈ xs
  | [] => by simp [sortU]
  | k :: r => by rw [sortU, mem_insU, mem_sortU (xs := r)]; simp
theorem asc_insU {k : Int} : ∀ {xs : List Int}, xs.Pairwise (· < ·) → (insU k xs).Pairwise (· < ·)
  | [], _ => by simp [insU]
  | x :: r, h => by
    rw [List.pairwise_cons] at h
    unfold insU
    by_cases c : k < x
    · rw [if_pos c, List.pairwise_cons, List.pairwise_cons]
      exact ⟨fun y hy => by
        obtain rfl | hy := List.mem_cons.mp hy
        · exact c
        · have := h.1 y hy; omega, h⟩
    · rw [if_neg c]
      by_cases c2 : k = x
      · rw [if_pos c2, List.pairwise_cons]; exact h
      · rw [if_neg c2, List.pairwise_cons]
        refine ⟨fun y hy => ?_, asc_insU h.2⟩
        rcases mem_insU.mp hy with rfl | hy
        · omega
        · exact h.1 y hy
theorem asc_sortU : ∀ {xs : List Int}, (sortU xs).Pairwise (· < ·)
  | [] => .nil
  | _ :: _ => asc_insU asc_sortU
theorem asc_unique : ∀ {xs ys : List Int}, xs.Pairwise (· < ·) → ys.Pairwise (· < ·) → (∀ k, k ∈ xs ↔ k ∈ ys) → xs = ys
  | [], [], _, _, _ => rfl
  | [], y :: ys, _, _, h => by have := (h y).mpr List.mem_cons_self; simp at this
  | x :: xs, [], _, _, h => by have := (h x).mp List.mem_cons_self; simp at this
  | x :: xs, y :: ys, hx, hy, h => by
    rw [List.pairwise_cons] at hx hy
    have e : x = y := by
      rcases List.mem_cons.mp ((h x).mp List.mem_cons_self) with e | e
      · exact e
      · rcases List.mem_cons.mp ((h y).mpr List.mem_cons_self) with e2 | e2
        · exact e2.symm
        · have a := hy.1 x e; have b := hx.1 y e2; omega
    subst e
    rw [asc_unique hx.2 hy.2 fun k => ?_]
    constructor
    · intro hk
      rcases List.mem_cons.mp ((h k).mp (List.mem_cons_of_mem _ hk)) with e | e
      · subst e; have := hx.1 k hk; omega
      · exact e
    · intro hk
      rcases List.mem_cons.mp ((h k).mpr (List.mem_cons_of_mem _ hk)) with e | e
      · subst e; have := hy.1 k hk; omega
      · exact e
def rSetI (K : PySem.W.Frag) (w : World) : List V → Hp → VK → Prop := fun xs H Q => ∃ (l : Addr) (ns : List Int), xs = [V.ref l] ∧ SqL K H l (ns.map V.int) ∧ ns.length + 1 < scanBound ∧
  ∀ p c, H p = none → c ≤ ns.length → Q (.ref p) (upd H p (SetO w p (fun j => decide (j ∈ ns)) c))
theorem cr_setI {X : Cx} (hc : X.calm = true) : CallR X (.type "set") (rSetI X.K X.w) := by
  intros pins s σ H xs us Q I r h
  obtain ⟨l, ns, rfl, hl, hb, q⟩ := h
  rw [Vals.ref1 r]
  rcases I.list hl with ⟨its, rv, pl, hz⟩
  have hn : H s.heap.objs.size = none := (I.hok.fresh (Nat.le_refl _))
  refine call_setL (P := X.prog) (w := X.w) (ns := ns) (I.ok.hd hc) pl.isList (by simpa using ints_of_vals rv) hb fun h' tk c R hcl k => ?_
  exact ⟨.ref s.heap.objs.size, upd H s.heap.objs.size (SetO X.w s.heap.objs.size (fun j => decide (j ∈ ns)) c), I.laid (t' := tk) k (Nat.le_refl _) (setO_new R), rfl, q _ c hn hcl⟩
def fSetS (x : D) : M D := mGet x fun _ o => match o with
  | .lst xs | .flst xs => match intsD xs with
    | some ns => if ns.length < 64 then mNew (.lst ((sortU ns).map D.int)) else mBad
    | none => mBad
  | _ => mBad
section
variable {g : Gb} {W : WX} {te : TE} {e : DE} {w0 : World}
theorem ev_setS (h1 : EvE g W te e) : EvE g W (tCB (rSortedSet w0) (tCons (tCB (rSetI g.K w0) (tCons te tNil)) tNil)) (d1 fSetS e) := fun w σ H z ρ E o Q hq =>
  h1 w σ H z ρ E o _ (sat_mono (sat_bind hq) (fun x z1 s1 w1 vx H1 g1 r1 => by
    obtain ⟨r, q, rfl, gt, h2⟩ := sat_get (show Sat (mGet x _ z1) _ _ from s1)
    cases r1 with
    | ref i1 =>
      have fin : ∀ xs, q.seq = some xs → Sat ((match intsD xs with | some ns => if ns.length < 64 then mNew (.lst ((sortU ns).map D.int)) else mBad | none => mBad : M D) z1) (QV g w H Q) (QX g w H σ W) →
          rSetI g.K w0 [V.ref _] H1 (fun y H2 => rSortedSet w0 [y] H2 Q) := fun xs hs hh => by
        obtain ⟨vs, h3, h4⟩ := g1.ok.seq i1 gt hs
        cases hi : intsD xs with
        | none => rw [hi] at hh; exact (show False from hh).elim
        | some ns =>
          rw [hi] at hh
          obtain ⟨c, hh⟩ := sat_if hh
          rw [ints_of hi h4] at h3
          refine ⟨_, ns, rfl, h3, by have : (64 : Nat) + 1 ≤ scanBound := by decide
                                     omega, fun p n hp hn => ?_⟩
          obtain ⟨nI, nB⟩ := g1.ok.fresh hp
          have g2 := g1.trans ((Go.refl g1.ok).mut (o := SetO w0 p (fun j => decide (j ∈ ns)) n) hp nB nI cold_set (not_tbl0 hp) (not_code0 hp))
          refine ⟨p, _, n, rfl, upd_same, by omega, fun ns' l hs' hm hl hfr => ?_⟩
          have e1 : ns' = sortU ns := asc_unique hs' asc_sortU fun k => by rw [hm k, mem_sortU]; simp
          subst e1
          obtain ⟨g3, r3⟩ := mk_lst (xs := (sortU ns).map V.int) (ds := (sortU ns).map D.int) g2.ok hfr (ints_map _)
          exact (show QV g w H Q (.ref z1.n) (z1.new (.lst ((sortU ns).map D.int))) from hh) _ _ _ (g2.trans g3) r3
      cases q with
      | lst xs => exact fin xs rfl h2
      | flst xs => exact fin xs rfl h2
      | _ => exact (show False from h2).elim) fun _ _ _ q => q)
end
end UW

/-! V18 -/
/-! an expression while a dict of the store is only read: for k in d -/
namespace UW
open PySem PySem.Spec PyProof.Rows L2
section
variable {g : Gb} {w w2 : Wd} {z z2 : PH} {H H2 : Hp}
/-- as Go.set, of an object that may stand locked -/
theorem Ok.setF {k : Nat} {p : Addr} {o : HO} {q : PO} {vs : List D} (h : Ok g w z H) (hk : w.io[k]? = some p) (hq : ObjR g w (upd H p o) p q) (hv : ∀ r, z.get k = some r → ∀ x ∈ q.vals, x ∈ r.vals ∨ x ∈ vs) (hr : ∃ r, z.get k = some r) : Ok g w (z.put k q vs) (upd H p o) := by
  have hkn : k < z.n := by
    have := (List.getElem?_eq_some_iff.mp hk).1
    rw [h.len] at this; exact this
  have hB := h.off k p hk
  have ho : Cold o := by
    obtain ⟨u, h1, h2, _⟩ := hq.there
    rw [upd_same] at h1; cases h1; exact h2
  have old : ∃ u, H p = some u ∧ Cold u ∧ ∀ q, u ≠ LamX.CodeO p q := by
    obtain ⟨r, hr'⟩ := hr
    exact (h.obj k p r hk hr').there
  obtain ⟨u0, hu0, hc0, hx0⟩ := old
  refine ⟨fun a u e => ?_, h.off, h.inj, (PH.n_put _ _ _ _).symm ▸ h.len, fun n a e => pl_upd ho a (h.dom n a e), fun n a r e1 e2 => ?_, fun n r e => ?_, tabs_upd h.tab (fun ps z => by rw [hu0] at z; exact hc0 ps (Option.some.inj z)) (fun q z => by rw [hu0] at z; exact hx0 _ (Option.some.inj z)), h.nt⟩
  · rw [upd_ne (ne_of_none e hB)]; exact h.sub a u e
  · rw [PH.get_put _ _ _ _ _ hkn] at e2
    by_cases c : n = k
    · rw [if_pos c] at e2
      cases e2
      rw [c, hk] at e1
      cases e1
      exact hq
    · rw [if_neg c] at e2
      refine (h.obj n a r e1 e2).mono (.refl w) (by rw [upd_ne]; intro e; exact c (h.inj n k p (by rw [← e]; exact e1) hk))
  · rw [PH.get_put _ _ _ _ _ hkn] at e
    by_cases c : n = k
    · rw [if_pos c] at e
      cases e
      subst c
      obtain ⟨r0, hr0⟩ := hr
      by_cases lv : D.ltAll (n + 1) vs = true
      · rcases h.up n r0 hr0 with u | ⟨l, u1, u2⟩
        · refine .inl (D.ltAll_iff.mpr fun x hx => ?_)
          rcases hv r0 hr0 x hx with m | m
          · exact D.ltAll_iff.mp u x m
          · exact D.ltAll_iff.mp lv x m
        · exact .inr ⟨l, by unfold PH.put; simp only [lv, if_true]; exact u1, u2⟩
      · refine .inr ⟨_, by unfold PH.put; simp only [if_neg lv]; rfl, ?_⟩
        cases z.low with
        | none => exact Nat.le_refl _
        | some l => exact Nat.min_le_left _ _
    · rw [if_neg c] at e
      rcases h.up n r e with u | ⟨l, u1, u2⟩
      · exact .inl u
      · unfold PH.put
        by_cases lv : D.ltAll (k + 1) vs = true
        · exact .inr ⟨l, by simp only [lv, if_true]; exact u1, u2⟩
        · refine .inr ⟨min k l, by simp only [if_neg lv, u1], Nat.le_trans (Nat.min_le_right _ _) u2⟩
/-- what ran while the dict was locked, seen from without -/
theorem Go.unlock {r : Nat} {a : Addr} {od : Obj} {vys : List (Key × V)} {kvs : List (D × D)} (o : Ok g w z H) (hi : w.io[r]? = some a) (hH : H a = some (.dK vys)) (b : Go g w (upd H a (.frz od (.dK vys))) z2 w2 H2) (g2 : z2.get r = some (.fdct kvs)) :
    H2 a = some (.frz od (.dK vys)) ∧ Go g w H (z2.put r (.dct kvs) []) w2 (upd H2 a (.dK vys)) := by
  have f2 : H2 a = some (.frz od (.dK vys)) := b.fz a od _ upd_same
  have hi2 := b.le.io _ _ hi
  obtain ⟨o', v', h1, kr⟩ := b.ok.obj _ _ _ hi2 g2
  rw [f2] at h1
  cases h1
  have cK : Cold (.dK vys) := fun ps z => by cases z
  have cF : Cold (.frz od (.dK vys)) := fun ps z => by cases z
  have pl : ∀ x, Pl (upd H a (.frz od (.dK vys))) x ↔ Pl H x := fun x => by
    by_cases c : x = a
    · subst c
      exact ⟨fun _ => ⟨_, hH, cK⟩, fun _ => ⟨_, upd_same, cF⟩⟩
    · unfold Pl
      rw [upd_ne c]
  have pl2 : ∀ x, Pl (upd H2 a (.dK vys)) x ↔ Pl H2 x := fun x => by
    by_cases c : x = a
    · subst c
      exact ⟨fun _ => ⟨_, f2, cF⟩, fun _ => ⟨_, upd_same, cK⟩⟩
    · unfold Pl
      rw [upd_ne c]
  refine ⟨f2, b.le, b.ok.setF hi2 (q := .dct kvs) ⟨vys, upd_same, kr⟩ (fun r' e x hx => ?_) ⟨_, g2⟩, fun x u n c e => ?_, fun n x e => ?_, fun x h => ?_, fun x h1 h2 => b.sep x h1 ((pl x).mpr h2), fun x o' u e => ?_⟩
  · rw [g2] at e
    cases e
    exact .inl hx
  · have ne : x ≠ a := fun q => n r (by rw [q]; exact hi)
    rw [upd_ne ne]
    exact b.fr x u n c (by rw [upd_ne ne]; exact e)
  · rcases b.gr n x e with q | q
    · exact .inl q
    · exact .inr fun h => q ((pl x).mpr h)
  · exact (pl2 x).mpr (b.ex x ((pl x).mpr h))
  · have ne : x ≠ a := fun q => by rw [q, hH] at e; cases e
    rw [upd_ne ne]
    exact b.fz x o' u (by rw [upd_ne ne]; exact e)
end
/-- e, while the dict that variable i names is only read -/
def dLock (i : Nat) (e : DE) : DE := fun ρ z => match ρ[i]? with
  | some (some (.ref r)) => match z.get r with
    | some (.dct kvs) => match e ρ (z.put r (.fdct kvs) []) with
      | .ok d z2 => match z2.get r with
        | some (.fdct kvs2) => .ok d (z2.put r (.dct kvs2) [])
        | _ => .bad
      | _ => .bad
    | _ => .bad
  | _ => .bad
section
variable {g : Gb} {W : WX} {te : TE} {e : DE} {i : Nat}
theorem ev_lock (he : EvE g W te e) : EvE g W (tLockE te) (dLock i e) := fun w σ H z ρ E o Q h => by
  unfold dLock at h
  split at h
  · rename_i r hρ
    split at h
    · rename_i kvs hz
      obtain ⟨v, _, rv⟩ := E.dat i _ hρ
      cases rv with
      | @ref a _ hi =>
        obtain ⟨vys, h1, kr⟩ := o.obj _ _ _ hi hz
        refine ⟨a, .dK vys, h1, trivial, fun od => ?_⟩
        have ol : Ok g w (z.put r (.fdct kvs) []) (upd H a (.frz od (.dK vys))) := o.setF hi (q := .fdct kvs) ⟨od, vys, upd_same, kr⟩ (fun r' e x hx => by
          rw [hz] at e
          cases e
          exact .inl hx) ⟨_, hz⟩
        refine he w σ _ _ ρ E ol _ ?_
        cases hh : e ρ (z.put r (.fdct kvs) []) with
        | ok d z2 =>
          rw [hh] at h
          show QV g w _ _ d z2
          intro w2 v2 H2 g2 r2
          have h : Sat (match z2.get r with
            | some (.fdct kvs2) => .ok d (z2.put r (.dct kvs2) [])
            | _ => .bad : Out D) (QV g w H Q) (QX g w H σ W) := h
          split at h
          · rename_i kvs2 hz2
            obtain ⟨f2, gu⟩ := Go.unlock o hi h1 g2 hz2
            exact ⟨f2, (show QV g w H Q d (z2.put r (.dct kvs2) []) from h) _ _ _ gu r2⟩
          · exact (show False from h).elim
        | exc c fs z2 => rw [hh] at h; exact (show False from h).elim
        | bad => rw [hh] at h; exact (show False from h).elim
    · exact (show False from h).elim
  · exact (show False from h).elim
end
end UW

/-! V19 -/
/-! for k in d, d only read -/
namespace UW
open PySem PySem.Spec PyProof.Rows L2
def wkKeys (r : Nat) : Wk := fun i z => match z.get r with
  | some (.fdct kvs) => match kvs[i]? with
    | some p => .item p.1
    | none => .stop
  | _ => .bad
def iKeysD (e : DE) : DI := fun ρ => mBind (e ρ) fun x => mGet x fun r o => match o with
  | .fdct _ => mPure (wkKeys r)
  | _ => mBad
section
variable {g : Gb} {W : WX} {te : TE} {e : DE}
theorem kvr_get {w : Wd} : ∀ {r : List (Key × V)} {s : List (D × D)} {i : Nat} {p : D × D}, KvR g w r s → s[i]? = some p → ∃ k v, r[i]? = some (k, v) ∧ keyR k p.1
  | _, _, 0, p, .cons hk hv _, e => by
    cases e
    exact ⟨_, _, rfl, hk⟩
  | _, _, i + 1, p, .cons _ _ h, e => by
    obtain ⟨k, v, h1, h2⟩ := kvr_get h (by simpa using e)
    exact ⟨k, v, by simpa using h1, h2⟩
theorem rv_key {w : Wd} {k : Key} {d : D} (h : keyR k d) : Rv g w (kV k) d := by
  cases k <;> cases d <;> simp only [keyR] at h <;> try exact h.elim
  · subst h; exact .int _
  · subst h; exact .str _
theorem wk_keys {w : Wd} {H : Hp} {a : Addr} {n : Nat} {od : Obj} {kvs : List (Key × V)} (hi : w.io[n]? = some a) (hf : H a = some (.frz od (.dK kvs))) : WkOk g w H (wkKeys n) (Itk a od kvs) := fun i w' H' z' go => by
  have hf' := go.fz a od _ hf
  unfold wkKeys
  cases gt : z'.get n with
  | none => trivial
  | some po =>
    cases po with
    | fdct ks =>
      obtain ⟨o', v', h1, kr⟩ := go.ok.obj _ _ _ (go.le.io _ _ hi) gt
      rw [hf'] at h1
      cases h1
      simp only
      cases e : ks[i]? with
      | none =>
        simp only
        exact ⟨hf', by rw [kr.length]; exact List.getElem?_eq_none_iff.mp e⟩
      | some p =>
        simp only
        obtain ⟨k, v, h2, h3⟩ := kvr_get kr e
        refine ⟨⟨hf', (List.getElem?_eq_some_iff.mp h2).1⟩, fun x H2 y => ?_⟩
        obtain ⟨rfl, k', v', h4, rfl⟩ := y
        rw [h2] at h4
        cases h4
        exact ⟨w', .refl go.ok, rv_key h3⟩
    | _ => trivial
theorem ei_keys (he : EvE g W te e) : EvI g W (iKeys te) (iKeysD e) := fun w σ H z ρ E o R h =>
  he w σ H z ρ E o _ (sat_mono (sat_bind h) (fun x z1 s1 w1 v H1 g1 r1 => by
    obtain ⟨r, q, rfl, gt, h⟩ := sat_get s1
    cases r1 with
    | @ref a _ hi =>
      cases q with
      | fdct ks =>
        obtain ⟨od, vs, h1, kr⟩ := g1.ok.obj _ _ _ hi gt
        exact ⟨a, od, rfl, .inl ⟨vs, h1, (show ∀ w' J H', Go g w H z1 w' H' → WkOk g w' H' (wkKeys r) J → R J H' from h) w1 _ H1 g1 (wk_keys hi h1)⟩⟩
      | _ => exact (show False from h).elim) fun _ _ _ q => q)
end
end UW

/-! V20 -/
/-! sorted(d) of a dict whose keys are ints, however many -/
namespace UW
open PySem PySem.Spec PyProof.Rows L2
def rSortDN : List V → Hp → VK → Prop := fun xs H Q => ∃ (a : Addr) (kvs : List (Key × V)) (ks : List Int), xs = [V.ref a] ∧ Rd H a (.dK kvs) ∧ kvs.map (·.1) = ks.map Sum.inl ∧ ks.length ≤ 10000 ∧
  ∀ (ys : List Int) (p : Addr), ys.Perm ks → ys.Pairwise (· ≤ ·) → H p = none → Q (.ref p) (upd H p (.lst (ys.map V.int)))
theorem key_int {k : Int} {v : Value} (h : keyIs (Sum.inl k) v = true) : ∃ t, v = .int k t := by
  rcases keyIs_shape h with ⟨i, t, e1, e2⟩ | ⟨x, t, e1, _⟩
  · cases e1
    exact ⟨t, e2⟩
  · cases e1
theorem cr_sortDN {X : Cx} (hc : X.calm = true) : CallR X (.builtin "sorted") rSortDN := by
  intros pins s σ H xs us Q I r h
  rcases h with ⟨a, kvs, ks, rfl, hd, hk, few, q⟩
  rw [Vals.ref1 r]
  rcases dk_rd I.hok hd with ⟨z, lo, vs, rel, dd⟩
  rcases dd.dictAt with ⟨ep, there⟩
  have kk : vs.map (·.1) = ks.map Sum.inl := by rw [← hk]; exact rel.keys.symm
  have ll : vs.length = ks.length := by simpa using congrArg List.length kk
  have room : vs.length ≤ sizeLine := by rw [ll]; exact Nat.le_trans few (by decide)
  refine (Calls.call_function_entry kind_sorted plain_sorted entry_sorted (args_sorted1 _) ?_)
  unfold Builtin.«sorted»
  refine (wpAny_bind (m := checkCount "sorted" 1 1 _) (wpAny_pure ?_))
  refine wpAny_bind (PySem.W.kdu_collect (A := X.A.in1) (PySem.W.kdl_dict (knd := mixKind X.prog X.w) (kvs := vs) (ep := ep) lo) (I.ok.hd hc) there room fun hp tk acc keep items => ?_)
  have al : acc.toList.length = ks.length := by rw [← ll, ← items.1]; exact Array.length_toList ..
  have hints : IntsAre acc.toList ks := ints_each al fun j v e => by
    rw [Array.getElem?_toList] at e
    obtain ⟨k, x, e1, e2⟩ := items.2 j v e
    have e3 : (vs.map (·.1))[j]? = some k := by simp [List.getElem?_map, e1]
    rw [kk, List.getElem?_map, Option.map_eq_some_iff] at e3
    obtain ⟨y, e4, rfl⟩ := e3
    obtain ⟨t, e5⟩ := key_int e2
    exact ⟨y, t, e4, e5⟩
  have I1 : Inv X pins σ H { s with heap := hp, toks := tk } := I.kept keep
  refine wpAny_bind (wpAny_newList ?_ (by rw [al]; exact Nat.le_trans few (by decide)))
  have ol : (hp.push (seqObj "list" acc.toList.toArray 0)).get? hp.objs.size = some (seqObj "list" acc.toList.toArray 0) := Heap.get?_push_size _ rfl
  show wpAny _ _ _ _ _ { s with toks := tk, heap := hp.push (seqObj "list" acc.toList.toArray 0) }
  refine wpAny_bind (wpAny_holding (wpAny_call_entry slot_list_sort ⟨_, ol, rfl⟩ entry_list_sort
    (SrtO.list_sort_ord (s := { s with heap := hp.push (seqObj "list" acc.toList.toArray 0), toks := tk }) SrtO.swo_int ol (by rw [al]; exact Nat.le_trans few (by decide)) (fun h2 => SrtO.ints_sortable hints h2) fun out s1 s2 => ⟨_, rfl, ?_⟩) (args_list_sort _)))
  obtain ⟨k1, k2, k3⟩ := SrtO.ints_out hints s1 s2
  obtain ⟨e', he'⟩ := sortedHeap_at (vs := acc.toList) (out := out.toArray) ol
  have hl : ((out.map SrtO.iv).map V.int).length ≤ sizeLine := by
    have := k2.length_eq
    rw [List.length_map, this]
    exact Nat.le_trans few (by decide)
  refine wpAny_pure ⟨_, rfl, .ref hp.objs.size, upd H hp.objs.size (.lst ((out.map SrtO.iv).map V.int)), I1.laid (t' := tk) (fun b u e => ?_) (Nat.le_refl _)
    (show ObjOk X.prog X.w _ _ _ (.lst ((out.map SrtO.iv).map V.int)) from ⟨hl, out, e', vals_of_ints k1, he'⟩), rfl, q _ _ k2 k3 (I1.hok.fresh (Nat.le_refl _))⟩
  have lb : b < hp.objs.size := Heap.lt_size e
  rw [sortedHeap_old (Nat.ne_of_lt lb) (by rw [size_push']; exact Nat.lt_succ_of_lt lb)]
  exact (Heap.get?_push_of_some _ e)
def rSortIA (K : PySem.W.Frag) : List V → Hp → VK → Prop := fun xs H Q => rSortedI K xs H Q ∨ rSortDN xs H Q
theorem cr_sortIA {X : Cx} (hc : X.calm = true) : CallR X (.builtin "sorted") (rSortIA X.K) := fun pins s σ H xs us Q I r h => h.elim (fun h => cr_sortedI pins s σ H xs us Q I r h) fun h => cr_sortDN hc pins s σ H xs us Q I r h
/-- the keys of a dict, if all are ints -/
def keysI (kvs : List (D × D)) : Option (List Int) := intsD (kvs.map (·.1))
def fSortK (o : PO) : M D := match o with
  | .dct kvs | .fdct kvs => match keysI kvs with
    | some ns => if ns.length ≤ 10000 then mNew (.lst ((sortZ ns).map D.int)) else mBad
    | none => mBad
  | .lst xs | .flst xs => match intsD xs with
    | some ns => mNew (.lst ((sortZ ns).map D.int))
    | none => mBad
  | _ => mBad
def fSortIA : List D → M D
  | [x] => mGet x fun _ o => fSortK o
  | _ => mBad
section
variable {g : Gb}
theorem keys_of {w : Wd} : ∀ {r : List (Key × V)} {s : List (D × D)} {ns : List Int}, KvR g w r s → keysI s = some ns → r.map (·.1) = ns.map Sum.inl
  | _, _, ns, .nil, e => by
    have : some [] = some ns := e
    cases this
    rfl
  | _, _, ns, @KvR.cons _ _ k v d e' r s hk hv t, e => by
    unfold keysI at e
    rw [List.map_cons] at e
    cases d with
    | int j =>
      cases q : intsD (s.map (·.1)) with
      | none => simp [intsD, q] at e
      | some ms =>
        have e1 : ns = j :: ms := by simp [intsD, q] at e; exact e.symm
        subst e1
        cases k with
        | inl i =>
          have : i = j := hk
          subst this
          rw [List.map_cons, List.map_cons, keys_of t q]
        | inr x => exact (show False from hk).elim
    | _ => simp [intsD] at e
theorem rws_sortIA : RWs g (rSortIA g.K) fSortIA := fun w H z vs ds o r Q h => by
  cases r with
  | nil => exact False.elim (show False from h)
  | cons r1 r2 =>
    cases r2 with
    | cons _ _ => exact (show False from h).elim
    | nil =>
      obtain ⟨i, q, rfl, gt, h2⟩ := sat_get (show Sat (mGet _ (fun _ o => fSortK o) z) _ _ from h)
      cases r1 with
      | @ref ad _ i1 =>
        have lists : ∀ xs, q.seq = some xs → Sat ((match intsD xs with | some ns => mNew (.lst ((sortZ ns).map D.int)) | none => mBad : M D) z) (fun d z' => ∀ w' v' H', Go g w H z' w' H' → Rv g w' v' d → Q v' H') (fun _ _ _ => False) → rSortIA g.K [V.ref ad] H Q := fun xs hs hh => by
          obtain ⟨us, h1, h3⟩ := o.seq i1 gt hs
          cases hi : intsD xs with
          | none => rw [hi] at hh; exact (show False from hh).elim
          | some ns =>
            rw [hi] at hh
            rw [ints_of hi h3] at h1
            refine .inl ⟨_, ns, rfl, h1, fun ns' p hp hs hf => ?_⟩
            have e1 : ns' = sortZ ns := PySem.W.os_sorted_mergeSort hp hs
            subst e1
            obtain ⟨g2, r2⟩ := mk_lst (xs := (sortZ ns).map V.int) (ds := (sortZ ns).map D.int) o hf (ints_map _)
            exact hh _ _ _ g2 r2
        have dicts : ∀ kvs, (∃ vs, Rd H ad (.dK vs) ∧ KvR g w vs kvs) → Sat ((match keysI kvs with | some ns => if ns.length ≤ 10000 then mNew (.lst ((sortZ ns).map D.int)) else mBad | none => mBad : M D) z) (fun d z' => ∀ w' v' H', Go g w H z' w' H' → Rv g w' v' d → Q v' H') (fun _ _ _ => False) → rSortIA g.K [V.ref ad] H Q := fun kvs hv hh => by
          obtain ⟨us, h1, h3⟩ := hv
          cases hi : keysI kvs with
          | none => rw [hi] at hh; exact (show False from hh).elim
          | some ns =>
            rw [hi] at hh
            obtain ⟨c, hh⟩ := sat_if hh
            refine .inr ⟨_, us, ns, rfl, h1, keys_of h3 hi, c, fun ns' p hp hs hf => ?_⟩
            have e1 : ns' = sortZ ns := PySem.W.os_sorted_mergeSort hp hs
            subst e1
            obtain ⟨g2, r2⟩ := mk_lst (xs := (sortZ ns).map V.int) (ds := (sortZ ns).map D.int) o hf (ints_map _)
            exact hh _ _ _ g2 r2
        cases q with
        | lst xs => exact lists xs rfl h2
        | flst xs => exact lists xs rfl h2
        | dct kvs => obtain ⟨vs, e1, e2⟩ := o.obj _ _ _ i1 gt; exact dicts kvs ⟨vs, .inl e1, e2⟩ h2
        | fdct kvs => obtain ⟨ob, vs, e1, e2⟩ := o.obj _ _ _ i1 gt; exact dicts kvs ⟨vs, .inr ⟨ob, e1⟩, e2⟩ h2
        | _ => exact (show False from h2).elim
theorem nox_sortIA : ∀ xs, NoX (fSortIA xs) := fun xs => by
  cases xs with
  | nil => exact nox_bad
  | cons x r =>
    cases r with
    | cons _ _ => exact nox_bad
    | nil =>
      refine nox_get fun _ o => ?_
      have n1 : ∀ xs : List D, NoX (match intsD xs with | some ns => mNew (.lst ((sortZ ns).map D.int)) | none => mBad : M D) := fun xs => by
        cases intsD xs
        · exact nox_bad
        · exact nox_new
      have n2 : ∀ kvs : List (D × D), NoX (match keysI kvs with | some ns => if ns.length ≤ 10000 then mNew (.lst ((sortZ ns).map D.int)) else mBad | none => mBad : M D) := fun kvs => by
        cases keysI kvs
        · exact nox_bad
        · exact nox_ite nox_new nox_bad
      cases o with
      | lst xs => exact n1 xs
      | flst xs => exact n1 xs
      | dct kvs => exact n2 kvs
      | fdct kvs => exact n2 kvs
      | _ => exact nox_bad
end
end UW

/-! V21 -/
/-! dict(x) of a tuple of pairs -/
namespace UW
open PySem PySem.Spec PyProof.Rows L2
section
variable {pins : List (Addr × Obj)} {X : Cx} {σ : L2.St} {H : Hp} {s : Shared}
theorem plain_of (I : Inv X pins σ H s) {a : Addr} {xs : List V} (h : SqP X.K H a xs) : ∃ its : List Value, Vals xs its ∧ PlainSeq "tuple" s.heap a its.toArray ∧ xs.length ≤ sizeLine := by
  rcases h with ⟨o, e, hd⟩ | ⟨o, its, n, hk, hc, hd, hs, hz, r⟩
  · obtain ⟨h1, z, its, r, o2, h2, hc, n, hdat⟩ := (show ObjOk X.prog X.w H s.heap a (.frz o (.tup xs)) from I.hok a _ e)
    rw [h1] at h2
    cases h2
    exact ⟨its, r, ⟨o, n, h1, hc, hd, hdat⟩, z⟩
  · refine (⟨its.toList, r, ⟨o, n, I.kIn a o hk, hc, hd, by simpa using hs⟩, ?_⟩)
    have e := r.length
    try simp only [Array.length_toList] at e
    omega
theorem pairs_two (I : Inv X pins σ H s) : ∀ {ps : List Addr} {kvs : List (Key × V)}, Paired (fun p kv => SqT X.K H p [kV kv.1, kv.2]) ps kvs →
    ∃ (prs : List (Key × Value)) (vps : List (Value × Value)), KV kvs prs ∧ prs.length = ps.length ∧ vps.length = ps.length ∧ ∀ (j : Nat) (k v : Value), vps[j]? = some (k, v) → (∃ q, prs[j]? = some (q, v) ∧ keyIs q k = true) ∧ ∃ b, ps[j]? = some b ∧ IsTup s.heap b #[k, v]
  | _, _, .nil => ⟨[], [], .nil, rfl, rfl, fun j k v e => by simp at e⟩
  | _, _, .cons (b := kv) (a := p) h t => by
    obtain ⟨prs, vps, r, l1, l2, hp⟩ := pairs_two I t
    rcases I.tuple h with ⟨its, rv, ht, _⟩
    obtain ⟨u, y, rfl, ru, ry⟩ := vals2 rv
    refine ⟨(kv.1, y) :: prs, (u, y) :: vps, .cons ⟨rfl, ry⟩ r, by rw [List.length_cons, List.length_cons, l1], by rw [List.length_cons, List.length_cons, l2], fun j k v e => ?_⟩
    cases j with
    | zero =>
      have e' : (u, y) = (k, v) := Option.some.inj e
      cases e'
      exact ⟨⟨kv.1, rfl, kV_is (P := X.prog) (w := X.w) ru⟩, p, rfl, ht⟩
    | succ j =>
      obtain ⟨⟨q, e1, e2⟩, b, e3, e4⟩ := hp j k v (by simpa using e)
      exact ⟨⟨q, by simpa using e1, e2⟩, b, by simpa using e3, e4⟩
def rDictT (K : PySem.W.Frag) : List V → Hp → VK → Prop := fun xs H Q => ∃ (a : Addr) (ps : List Addr) (kvs : List (Key × V)), xs = [V.ref a] ∧ SqP K H a (ps.map V.ref) ∧ Paired (fun p kv => SqT K H p [kV kv.1, kv.2]) ps kvs ∧
  ∀ p, H p = none → Q (.ref p) (upd H p (.dK (mergeK [] kvs)))
theorem call_dictT (hc : X.calm = true) : CallR X (.type "dict") (rDictT X.K) := by
  intros pins s σ H xs us Q I r h
  obtain ⟨a, ps, kvs, rfl, hq, hp, q⟩ := h
  rw [Vals.ref1 r]
  obtain ⟨its, rv, pl, hz⟩ := plain_of I hq
  have ei := refs_at rv
  subst ei
  rw [List.length_map] at hz
  obtain ⟨prs, vps, rel, l1, l2, hpr⟩ := pairs_two I hp
  refine PySem.call_dict_pairs (knd := mixKind X.prog X.w) (kvs := prs) (PairArg.tuple a (ps.map Value.ref).toArray (fun j => ps.getD j 0) vps) (I.ok.hd hc) ⟨pl, by simp [l2], fun j k v e => ?_⟩ ⟨by rw [l1, l2], fun i k v e => ?_⟩ (by rw [l2]; exact hz) fun hp' tk dd k => ?_
  · obtain ⟨_, b, e1, e2⟩ := hpr j k v e
    refine ⟨by simp [e1], .inl ?_⟩
    have : ps.getD j 0 = b := by simp [e1]
    show s.heap.IsTuple (ps.getD j 0) #[k, v]
    rw [this]
    exact e2
  · obtain ⟨⟨q, e1, e2⟩, _⟩ := hpr i k v e
    exact ⟨q, e1, e2⟩
  · have hm : (s.heap.objs.size == sysModules) = false := (beq_eq_false_iff_ne.mpr (Nat.ne_of_gt I.big))
    have hl : (mergeK [] kvs).length ≤ sizeLine := by
      have := length_mergeK kvs []
      have e : kvs.length = ps.length := (rel.length).trans l1
      rw [List.length_nil] at this
      omega
    exact ⟨.ref s.heap.objs.size, upd H s.heap.objs.size (.dK (mergeK [] kvs)), I.laid (t' := tk) (fun b o e => k b o (fun z => nomatch z) e) (Nat.le_refl _) (show ObjOk X.prog X.w _ _ _ (.dK (mergeK [] kvs)) from ⟨hl, hm, merged [] prs, KV.merge rel .nil, dd⟩), rfl, q _ (I.hok.fresh (Nat.le_refl _))⟩
def rDictB (K : PySem.W.Frag) : List V → Hp → VK → Prop := fun xs H Q => rDictA K xs H Q ∨ rDictT K xs H Q
theorem call_dictB (hc : X.calm = true) : CallR X (.type "dict") (rDictB X.K) := fun pins s σ H xs us Q I r h => h.elim (fun h => call_dictA hc pins s σ H xs us Q I r h) fun h => call_dictT hc pins s σ H xs us Q I r h
end
def fDictB : List D → M D
  | [.tup xs] => match pairsD xs with
    | some kvs => if (kvs.all fun p => p.1.isKey) = true then mNew (.dct (kMerge kvs)) else mBad
    | none => mBad
  | ds => fDictOf ds
section
variable {g : Gb}
theorem rws_dictB : RWs g (rDictB g.K) fDictB := fun w H z vs ds o r Q h => by
  by_cases c : ∃ xs, ds = [.tup xs]
  · obtain ⟨xs, rfl⟩ := c
    obtain ⟨v, rfl, rv⟩ := r.one
    have h : Sat ((match pairsD xs with
      | some kvs => if (kvs.all fun p => p.1.isKey) = true then mNew (.dct (kMerge kvs)) else mBad
      | none => mBad : M D) z) (QV g w H Q) (fun _ _ _ => False) := h
    cases rv with
    | @tup a vs _ h1 a1 =>
      cases hp : pairsD xs with
      | none => rw [hp] at h; exact (show False from h).elim
      | some kvs =>
        rw [hp] at h
        obtain ⟨c, h⟩ := sat_if h
        obtain ⟨ps, kvs', rfl, e2, e3⟩ := paired_of o a1 hp c .nil
        exact .inr ⟨a, ps, kvs', rfl, same_p o.sub h1, e2, fun p hp => (show QV g w H Q (.ref z.n) (z.new (.dct (kMerge kvs))) from h) _ _ _ (Go.make o hp ⟨mergeK [] kvs', upd_same, e3⟩) (.ref (Wd.snoc_last o.len))⟩
  · refine .inl (rws_dict w H z vs ds o r Q ?_)
    have e : fDictB ds = fDictOf ds := by
      unfold fDictB
      split
      · exact absurd ⟨_, rfl⟩ c
      · rfl
    rw [← e]
    exact h
theorem nox_dictB : ∀ xs, NoX (fDictB xs) := fun ds => by
  by_cases c : ∃ xs, ds = [.tup xs]
  · obtain ⟨xs, rfl⟩ := c
    show NoX (match pairsD xs with
      | some kvs => if (kvs.all fun p => p.1.isKey) = true then mNew (.dct (kMerge kvs)) else mBad
      | none => mBad : M D)
    cases pairsD xs with
    | none => exact nox_bad
    | some kvs => exact nox_ite nox_new nox_bad
  · have e : fDictB ds = fDictOf ds := by
      unfold fDictB
      split
      · exact absurd ⟨_, rfl⟩ c
      · rfl
    rw [e]
    exact nox_dict ds
end
end UW

/-! V22 -/
/-! xs += ys; xs.index(y) -/
namespace UW
open PySem PySem.Spec PyProof.Rows L2
/-- x += y: ints; a list is changed in its place -/
def fIAddL (r : Nat) (xs : List D) (o : PO) : M D := match o with
  | .lst ys => if xs.length + ys.length ≤ line then mBind (mPut r (.lst (xs ++ ys)) ys) fun _ => mPure (.ref r) else mBad
  | _ => mBad
def fIAddO (y : D) (r : Nat) (o : PO) : M D := match o with
  | .lst xs => mGet y fun _ o' => fIAddL r xs o'
  | _ => mBad
def fIAdd (x y : D) : M D := match x with
  | .int i => match y with
    | .int j => mPure (.int (i + j))
    | _ => mBad
  | .ref r => mGet (.ref r) fun r o => fIAddO y r o
  | _ => mBad
def rIAdd : R2 := fun x y H Q => (∃ i j, x = .int i ∧ y = .int j ∧ Q (.int (i + j)) H) ∨ rExt2 x y H Q
theorem iop_addX {X : Cx} : OpR X (inplaceOp .Add) rIAdd := (iop_add (X := X)).or iop_ext
section
variable {g : Gb}
theorem rw_iadd : RW g rIAdd fIAdd := fun w H z x y dx dy o rx ry Q h => by
  cases dx with
  | int i =>
    cases dy with
    | int j =>
      cases rx
      cases ry
      exact .inl ⟨i, j, rfl, rfl, (show QV g w H Q (.int (i + j)) z from h) w _ H (.refl o) (.int _)⟩
    | _ => exact (show False from h).elim
  | ref r =>
    obtain ⟨r1, q, e, gt, h⟩ := sat_get (show Sat (mGet (.ref r) (fun r o => fIAddO dy r o) z) _ _ from h)
    cases e
    cases rx with
    | @ref a _ i1 =>
      cases q with
      | lst xs =>
        obtain ⟨r2, q2, rfl, gt2, h⟩ := sat_get (show Sat (mGet dy (fun _ o' => fIAddL r xs o') z) _ _ from h)
        cases ry with
        | @ref b _ i2 =>
          cases q2 with
          | lst ys =>
            obtain ⟨c, h⟩ := sat_if (show Sat ((if xs.length + ys.length ≤ line then mBind (mPut r (.lst (xs ++ ys)) ys) (fun _ => mPure (D.ref r)) else mBad) z) (QV g w H Q) (fun _ _ _ => False) from h)
            obtain ⟨vs, h1, h2⟩ := o.lst i1 gt
            obtain ⟨us, h3, h4⟩ := o.lst i2 gt2
            refine .inr ⟨a, b, vs, us, rfl, rfl, h1, h3, by rw [h2.length, h4.length, ← line_eq]; exact c, ?_⟩
            exact (show QV g w H Q (.ref r) (z.put r (.lst (xs ++ ys)) ys) from h) _ _ _ (go_lst o i1 gt (h2.append h4) fun u hu => List.mem_append.mp hu) (.ref i1)
          | _ => exact (show False from h).elim
      | _ => exact (show False from h).elim
  | _ => exact (show False from h).elim
theorem nox_iaddL {r : Nat} {xs : List D} {o : PO} : NoX (fIAddL r xs o) := by
  cases o with
  | lst ys => exact nox_ite (nox_bind nox_put fun _ => nox_pure) nox_bad
  | _ => exact nox_bad
theorem nox_iaddO {y : D} {r : Nat} {o : PO} : NoX (fIAddO y r o) := by
  cases o with
  | lst xs => exact nox_get fun _ o' => nox_iaddL
  | _ => exact nox_bad
theorem nox_iadd : ∀ x y, NoX (fIAdd x y) := fun x y => by
  cases x with
  | int i => cases y <;> first | exact nox_pure | exact nox_bad
  | ref r => exact (show NoX (mGet (D.ref r) (fun r o => fIAddO y r o)) from nox_get fun r o => nox_iaddO)
  | _ => exact nox_bad
end
/-! xs.index(y), flat things -/
def posL (y : D) : List D → Option Nat
  | [] => none
  | x :: r => if eqF x y = true then some 0 else match posL y r with
    | some j => some (j + 1)
    | none => none
def fIndex (x y : D) : M D := mGet x fun _ o => match o with
  | .lst xs => if y.isSc = true ∧ xs.all D.isSc = true then (match posL y xs with
    | some j => mPure (.int (j : Int))
    | none => mBad) else mBad
  | _ => mBad
def dIndex (o e : DE) : DE := fun ρ => mBind (o ρ) fun x => mBind (fLstQ x) fun _ => mBind (e ρ) fun y => fIndex x y
section
variable {g : Gb} {W : WX} {to te : TE} {o e : DE}
theorem pos_of {w : Wd} {y : V} {dy : D} (ry : Rv g w y dy) (hy : dy.isSc = true) : ∀ {vs : List V} {xs : List D} {j : Nat}, RvA g w vs xs → xs.all D.isSc = true → posL dy xs = some j → ∃ z, vs[j]? = some z ∧ eqV z y = true ∧ ∀ (m : Nat) (z' : V), m < j → vs[m]? = some z' → eqV z' y = false
  | _, _, j, .nil, _, e => by cases e
  | _, _, j, .cons (v := v) (d := d) (ds := ds) h t, ha, e => by
    simp only [List.all_cons, Bool.and_eq_true] at ha
    have q := eqF_of h ry ha.1 hy
    unfold posL at e
    by_cases c : eqF d dy = true
    · rw [if_pos c] at e
      cases e
      exact ⟨v, rfl, by rw [q]; exact c, fun m z' hm => absurd hm (Nat.not_lt_zero m)⟩
    · rw [if_neg c] at e
      cases f : posL dy ds with
      | none => rw [f] at e; cases e
      | some k =>
        rw [f] at e
        cases e
        obtain ⟨z, h1, h2, h3⟩ := pos_of ry hy t ha.2 f
        refine ⟨z, by simpa using h1, h2, fun m z' hm hz => ?_⟩
        cases m with
        | zero =>
          have : v = z' := Option.some.inj hz
          subst this
          rw [q]
          exact Bool.eq_false_iff.mpr c
        | succ m => exact h3 m z' (by omega) (by simpa using hz)
theorem index_of {w : Wd} {z : PH} {H : Hp} {vx vy : V} {x y : D} (oo : Ok g w z H) (rx : Rv g w vx x) (ry : Rv g w vy y) {Q : VK} {E : XD} (h : Sat (fIndex x y z) (QV g w H Q) E) : rIndex g.K vx [vy] H Q := by
  obtain ⟨r, q, rfl, gt, h⟩ := sat_get h
  cases rx with
  | @ref a _ hi =>
    cases q with
    | lst xs =>
      obtain ⟨⟨c1, c2⟩, h⟩ := sat_if h
      cases f : posL y xs with
      | none => rw [f] at h; exact (show False from h).elim
      | some j =>
        rw [f] at h
        obtain ⟨vs, h1, h2⟩ := oo.lst hi gt
        obtain ⟨u, e1, e2, e3⟩ := pos_of ry c1 h2 c2 f
        exact ⟨a, vs, vy, j, u, rfl, rfl, SqL.of h1, isSc_of ry c1, isSc_all h2 c2, e1, e2, e3, (show QV g w H Q (.int (j : Int)) z from h) w _ H (.refl oo) (.int _)⟩
    | _ => exact (show False from h).elim
theorem ev_index (ho : EvE g W to o) (he : EvE g W te e) : EvE g W (tBM g.K "list" (rIndex g.K) to (tCons te tNil)) (dIndex o e) := fun w σ H z ρ E k Q h => by
  refine ho w σ H z ρ E k _ (sat_mono (sat_bind h) (fun x z1 s1 w1 vx H1 g1 r1 => ?_) fun _ _ _ q => q)
  obtain ⟨ty, s1⟩ := lstQ_of r1 g1.ok (sat_bind s1)
  refine ⟨ty, he w1 σ H1 z1 ρ (E.mono g1.le) g1.ok _ (sat_mono (sat_bind s1) (fun y z2 s2 w2 vy H2 g2 r2 => ?_) fun _ _ _ q => q.at g1)⟩
  exact index_of g2.ok (r1.mono g2.le) r2 (E := QX g w H σ W) (sat_mono s2 (fun d z3 q => q.at (g1.trans g2)) fun _ _ _ q => q)
end
end UW

/-! Q1 -/
/-! what is told of a plain function over a store: a calculus for Sat -/
namespace UW
open PySem
/-! ### stores that keep what is older -/
def Fr (b : Nat) (z z' : PH) : Prop := z.n ≤ z'.n ∧ ∀ k, b ≤ k → k < z.n → z'.get k = z.get k
section
variable {b b' : Nat} {z z1 z2 z' : PH}
theorem Fr.rfl : Fr b z z := ⟨Nat.le_refl _, fun _ _ _ => Eq.refl _⟩
theorem Fr.trans (h : Fr b z z1) (h' : Fr b z1 z2) : Fr b z z2 := ⟨Nat.le_trans h.1 h'.1, fun k hb hk => (h'.2 k hb (Nat.lt_of_lt_of_le hk h.1)).trans (h.2 k hb hk)⟩
theorem Fr.mono (h : Fr b z z') (e : b ≤ b') : Fr b' z z' := ⟨h.1, fun k hb hk => h.2 k (Nat.le_trans e hb) hk⟩
theorem Fr.zero (h : Fr 0 z z') : Fr b z z' := h.mono (Nat.zero_le b)
theorem Fr.new {o : PO} : Fr b z (z.new o) := ⟨by rw [PH.n_new]; exact Nat.le_succ _, fun k _ hk => by rw [PH.get_new, if_neg (Nat.ne_of_lt hk)]⟩
theorem Fr.put {o : PO} {vs : List D} {r : Nat} (hr : r < b) (hz : r < z.n) : Fr b z (z.put r o vs) := ⟨Nat.le_of_eq (PH.n_put _ _ _ _).symm, fun k hb hk => by rw [PH.get_put _ _ _ _ _ hz, if_neg (by omega)]⟩
/-- the object at r is o, and it is one of those that stay -/
def At (b : Nat) (z : PH) (r : Nat) (o : PO) : Prop := b ≤ r ∧ z.get r = some o
theorem At.lt {r : Nat} {o : PO} (h : At b z r o) : r < z.n := PH.get_lt h.2
theorem At.fr {r : Nat} {o : PO} (h : At b z r o) (f : Fr b z z') : At b z' r o := ⟨h.1, (f.2 r h.1 h.lt).trans h.2⟩
theorem At.new {o : PO} (h : b ≤ z.n) : At b (z.new o) z.n o := ⟨h, by rw [PH.get_new, if_pos (Eq.refl _)]⟩
end
/-! ### Sat, step by step: Wp is Sat; its tag keeps simp out of what comes behind -/
inductive Tag {α : Type} (P : α → PH → Prop) (E : XD) : Type where
  | mk
@[irreducible] def Wp {α : Type} (o : Out α) (P : α → PH → Prop) (E : XD) (_ : Tag P E := .mk) : Prop := Sat o P E
inductive TagB (A B : Prop) : Type where
  | mk
def Br (c : Bool) (A B : Prop) (_ : TagB A B := .mk) : Prop := if c = true then A else B
theorem Br_t {A B : Prop} : Br true A B = A := id rfl
theorem Br_f {A B : Prop} : Br false A B = B := id rfl
theorem br_ite {c : Prop} [Decidable c] {A B : Prop} : (if c then A else B) = Br (decide c) A B := by
  unfold Br
  by_cases h : c
  · simp [h]
  · simp [h]
theorem mono_wp {α : Type} {o : Out α} {P P' : α → PH → Prop} {E E' : XD} (h : Wp o P E) (hp : ∀ a z, P a z → P' a z) (he : ∀ c fs z, E c fs z → E' c fs z) : Wp o P' E' := by unfold Wp at *; exact sat_mono h hp he
theorem wp_ext {α : Type} {o : Out α} {P P' : α → PH → Prop} {E : XD} (h : ∀ a z, P a z = P' a z) : Wp o P E = Wp o P' E := by
  have : P = P' := by funext a z; exact h a z
  subst this
  rfl
section
variable {α β : Type} {z : PH} {P : α → PH → Prop} {E : XD}
theorem W_ok {a : α} : Wp (.ok a z) P E = P a z := by unfold Wp; rfl
theorem W_no : Wp (.bad : Out α) P E = False := by unfold Wp; rfl
theorem W_exc {c : Str} {fs : List (Str × D)} : Wp (.exc c fs z) P E = E c fs z := by unfold Wp; rfl
theorem W_pure {a : α} : Wp (mPure a z) P E = P a z := by unfold Wp; rfl
theorem W_bind {m : M β} {f : β → M α} : Wp (mBind m f z) P E = Wp (m z) (fun a z' => Wp (f a z') P E) E := by
  unfold mBind
  cases m z <;> (unfold Wp; rfl)
theorem W_bindp {m : M β} {g : β → α} : Wp (mBind m (fun a => mPure (g a)) z) P E = Wp (m z) (fun a z' => P (g a) z') E := by
  rw [W_bind]
  exact wp_ext fun a z' => W_pure
theorem W_new {Q : D → PH → Prop} {o : PO} : Wp (mNew o z) Q E = Q (.ref z.n) (z.new o) := by unfold Wp; rfl
theorem W_put {Q : Unit → PH → Prop} {o : PO} {r : Nat} {vs : List D} : Wp (mPut r o vs z) Q E = Q () (z.put r o vs) := by unfold Wp; rfl
theorem W_get {r : Nat} {f : Nat → PO → M α} : Wp (mGet (.ref r) f z) P E = Wp ((match z.get r with | some o => f r o z | none => .bad : Out α)) P E := by unfold Wp; rfl
theorem W_opt {a : α} : Wp (mOpt (some a) z) P E = P a z := by unfold Wp; rfl
theorem W_calm {m : M α} : Wp (mCalm m z) P E = Wp (m z) P (fun _ _ _ => False) := by
  unfold mCalm
  cases m z <;> (unfold Wp; rfl)
theorem W_raise {c : Str} {fs : List (Str × D)} : Wp (mRaise c fs z) P E = E c fs z := by unfold Wp; rfl
theorem W_ite {c : Prop} [Decidable c] {a b : M α} : Wp ((if c then a else b) z) P E = Br (decide c) (Wp (a z) P E) (Wp (b z) P E) := by rw [← br_ite]; split <;> rfl
theorem W_iteo {c : Prop} [Decidable c] {a b : Out α} : Wp (if c then a else b) P E = Br (decide c) (Wp a P E) (Wp b P E) := by rw [← br_ite]; split <;> rfl
theorem W_ite1 {c : Prop} [Decidable c] {a b : M α} (h : c) : Wp ((if c then a else b) z) P E = Wp (a z) P E := by rw [if_pos h]
theorem W_ite0 {c : Prop} [Decidable c] {a b : M α} (h : ¬ c) : Wp ((if c then a else b) z) P E = Wp (b z) P E := by rw [if_neg h]
theorem W_bool {Q : Bool → PH → Prop} {k : Bool} : Wp (mBool (.bl k) z) Q E = Q k z := by unfold Wp; rfl
theorem W_int {Q : Int → PH → Prop} {k : Int} : Wp (mInt (.int k) z) Q E = Q k z := by unfold Wp; rfl
end
section
variable {z : PH} {Q : D → PH → Prop} {QA : List D → PH → Prop} {QT : Bool → PH → Prop} {QS : Fl × Env → PH → Prop} {QE : Env → PH → Prop} {E : XD} {ρ : Env}
theorem W_dC {d : D} : Wp (dC d ρ z) Q E = Q d z := by unfold Wp; rfl
theorem W_dVar {i : Nat} : Wp (dVar i ρ z) Q E = Wp ((match ρ[i]? with | some (some d) => mPure d | _ => mBad : M D) z) Q E := by unfold Wp; rfl
theorem W_d1 {f : D → M D} {a : DE} : Wp (d1 f a ρ z) Q E = Wp (a ρ z) (fun x z1 => Wp (f x z1) Q E) E := by first | exact W_bind | exact W_bindp
theorem W_d2 {f : D → D → M D} {a b : DE} : Wp (d2 f a b ρ z) Q E = Wp (a ρ z) (fun x z1 => Wp (b ρ z1) (fun y z2 => Wp (f x y z2) Q E) E) E := by
  show Wp (mBind _ _ _) _ _ = _
  rw [W_bind]
  exact wp_ext fun x z1 => by first | exact W_bind | exact W_bindp
theorem W_dN {f : List D → M D} {a : DA} : Wp (dN f a ρ z) Q E = Wp (a ρ z) (fun x z1 => Wp (f x z1) Q E) E := by first | exact W_bind | exact W_bindp
theorem W_aNil : Wp (aNil ρ z) QA E = QA [] z := by unfold Wp; rfl
theorem W_aCons {a : DE} {r : DA} : Wp (aCons a r ρ z) QA E = Wp (a ρ z) (fun x z1 => Wp (r ρ z1) (fun xs z2 => QA (x :: xs) z2) E) E := by
  show Wp (mBind _ _ _) _ _ = _
  rw [W_bind]
  exact wp_ext fun x z1 => by first | exact W_bind | exact W_bindp
theorem W_tBool {a : DE} : Wp (tBool a ρ z) QT E = Wp (a ρ z) (fun x z1 => Wp (mBool x z1) QT E) E := by first | exact W_bind | exact W_bindp
theorem W_tTru {a : DE} : Wp (tTru a ρ z) QT E = Wp (a ρ z) (fun x z1 => Wp (fTru x z1) QT E) E := by first | exact W_bind | exact W_bindp
theorem W_tAnd {a b : DT} : Wp (tAndD a b ρ z) QT E = Wp (a ρ z) (fun k z1 => Wp ((if k = true then b ρ else mPure false) z1) QT E) E := by first | exact W_bind | exact W_bindp
theorem W_tOr {a b : DT} : Wp (tOrD a b ρ z) QT E = Wp (a ρ z) (fun k z1 => Wp ((if k = true then mPure true else b ρ) z1) QT E) E := by first | exact W_bind | exact W_bindp
theorem W_tNot {a : DT} : Wp (tNotD a ρ z) QT E = Wp (a ρ z) (fun k z1 => QT (!k) z1) E := by first | exact W_bind | exact W_bindp
theorem W_dAnd {a b : DE} : Wp (dAnd a b ρ z) Q E = Wp (a ρ z) (fun x z1 => Wp (mBind (mBool x) (fun k => if k = true then b ρ else mPure (.bl false)) z1) Q E) E := by first | exact W_bind | exact W_bindp
theorem W_dOr {a b : DE} : Wp (dOr a b ρ z) Q E = Wp (a ρ z) (fun x z1 => Wp (mBind (mBool x) (fun k => if k = true then mPure (.bl true) else b ρ) z1) Q E) E := by first | exact W_bind | exact W_bindp
theorem W_dNot {a : DE} : Wp (dNot a ρ z) Q E = Wp (a ρ z) (fun x z1 => Wp (mBind (mBool x) (fun k => mPure (.bl (!k))) z1) Q E) E := by first | exact W_bind | exact W_bindp
theorem W_dIf {t : DT} {a b : DE} : Wp (dIf t a b ρ z) Q E = Wp (t ρ z) (fun k z1 => Wp ((if k = true then a ρ else b ρ) z1) Q E) E := by first | exact W_bind | exact W_bindp
theorem W_dChain {f f' : D → D → M D} {a b c : DE} : Wp (dChain f f' a b c ρ z) Q E = Wp (mBind (a ρ) (fun x => mBind (b ρ) fun y => mBind (f x y) fun u => mBind (mBool u) fun k => if k = true then mBind (c ρ) fun z => f' y z else mPure (.bl false)) z) Q E := by unfold Wp; rfl
theorem W_tup {xs : List D} : Wp (fTup xs z) Q E = Q (.tup xs) z := by unfold Wp; rfl
theorem W_lst {xs : List D} : Wp (fLst xs z) Q E = Q (.ref z.n) (z.new (.lst xs)) := by unfold Wp; rfl
theorem W_I {C : Int → Int → Bool} {f : Int → Int → D} {i j : Int} : Wp (fI C f (.int i) (.int j) z) Q E = Wp ((if C i j = true then mPure (f i j) else mBad : M D) z) Q E := by unfold Wp; rfl
theorem W_I0 {f : Int → Int → D} {i j : Int} : Wp (fI0 f (.int i) (.int j) z) Q E = Q (f i j) z := by unfold Wp; rfl
/-! statements -/
theorem W_seq {a b : DS} : Wp (sSeq a b ρ z) QS E = Wp (a ρ z) (fun p z1 => Wp ((match p.1 with | .nx => b p.2 | _ => mPure p : M (Fl × Env)) z1) QS E) E := by first | exact W_bind | exact W_bindp
theorem W_asg {e : DE} {g : DG} : Wp (sAsg e g ρ z) QS E = Wp (e ρ z) (fun d z1 => Wp (g d ρ z1) (fun ρ1 z2 => QS (.nx, ρ1) z2) E) E := by
  show Wp (mBind _ _ _) _ _ = _
  rw [W_bind]
  exact wp_ext fun x z1 => by first | exact W_bind | exact W_bindp
theorem W_drop {e : DE} : Wp (sDrop e ρ z) QS E = Wp (e ρ z) (fun d z1 => QS (.nx, ρ) z1) E := by first | exact W_bind | exact W_bindp
theorem W_ret {e : DE} : Wp (sRet e ρ z) QS E = Wp (e ρ z) (fun d z1 => QS (.rt d, ρ) z1) E := by first | exact W_bind | exact W_bindp
theorem W_next : Wp (sNext ρ z) QS E = QS (.nx, ρ) z := by unfold Wp; rfl
theorem W_if {t : DT} {a b : DS} : Wp (sIf t a b ρ z) QS E = Wp (t ρ z) (fun k z1 => Wp ((if k = true then a ρ else b ρ) z1) QS E) E := by first | exact W_bind | exact W_bindp
theorem W_par {a : DA} {gs : List DG} : Wp (sPar a gs ρ z) QS E = Wp (a ρ z) (fun ds z1 => Wp (gAll gs ds ρ z1) (fun ρ1 z2 => QS (.nx, ρ1) z2) E) E := by
  show Wp (mBind _ _ _) _ _ = _
  rw [W_bind]
  exact wp_ext fun x z1 => by first | exact W_bind | exact W_bindp
theorem W_sraise {c : Str} {ns : List Str} {a : DA} : Wp (sRaise c ns a ρ z) QS E = Wp (a ρ z) (fun ds z1 => Wp ((if ds.length = ns.length then mRaise c (ns.zip ds).reverse else mBad : M (Fl × Env)) z1) QS E) E := by first | exact W_bind | exact W_bindp
theorem W_gNm {i : Nat} {d : D} : Wp (gNm i d ρ z) QE E = QE (ρ.set i (some d)) z := by unfold Wp; rfl
theorem W_gTp {gs : List DG} {xs : List D} : Wp (gTp gs (.tup xs) ρ z) QE E = Wp (gAll gs xs ρ z) QE E := by unfold Wp; rfl
theorem W_gAll0 : Wp (gAll [] [] ρ z) QE E = QE ρ z := by unfold Wp; rfl
theorem W_gAll1 {g : DG} {gs : List DG} {d : D} {ds : List D} : Wp (gAll (g :: gs) (d :: ds) ρ z) QE E = Wp (g d ρ z) (fun ρ1 z1 => Wp (gAll gs ds ρ1 z1) QE E) E := by first | exact W_bind | exact W_bindp
/-! calls -/
theorem W_fun {n : Nat} {b : DS} {ds : List D} : Wp (dFun n b ds z) Q E = Wp (b (ds.map some ++ List.replicate (n - ds.length) none) z) (fun p z1 => Wp ((match p.1 with | .nx => mPure .non | .rt d => mPure d | _ => mBad : M D) z1) Q E) E := by first | exact W_bind | exact W_bindp
theorem W_call {f : DF} {a : DA} : Wp (dCall f a ρ z) Q E = Wp (a ρ z) (fun ds z1 => Wp (mCut (f ds) z1) Q E) E := by first | exact W_bind | exact W_bindp
end
end UW

/-! Q2 -/
/-! more of the calculus: calls, loops, what is known of data -/
namespace UW
open PySem
def NoE : XD := fun _ _ _ => False
section
variable {α β : Type} {z : PH} {P : α → PH → Prop} {E : XD}
theorem PH.n_cut {h : PH} {m : Nat} (e : m ≤ h.n) : m ≤ (h.cut m).n := by
  unfold PH.cut
  split
  · exact Nat.le_refl _
  · exact e
theorem PH.get_cut {h : PH} {m k : Nat} (e : m ≤ h.n) (hk : k < m) : (h.cut m).get k = h.get k := by
  unfold PH.cut
  split
  · unfold PH.get
    simp only
    rw [if_pos hk, if_pos (Nat.lt_of_lt_of_le hk e)]
  · rfl
/-- a call's cut: what was there stays as it was behind the call, and what is handed back -/
theorem sat_mcut {m : M D} {Q : D → PH → Prop} (h : Wp (m z) (fun d z1 => z.n ≤ z1.n ∧ ∀ z2, z.n ≤ z2.n → (∀ k, k < z.n → z2.get k = z1.get k) → (d.lt z.n = false → z2 = z1) → Q d z2) E) : Wp (mCut m z) Q E := by
  unfold mCut
  cases e : m z with
  | ok d z1 =>
    rw [e, W_ok] at h
    obtain ⟨hn, hq⟩ := h
    simp only
    by_cases c : d.lt z.n = true
    · rw [if_pos c, W_ok]
      exact hq _ (PH.n_cut hn) (fun k hk => PH.get_cut hn hk) (fun q => absurd c (by rw [q]; exact Bool.false_ne_true))
    · rw [if_neg c, W_ok]
      exact hq _ hn (fun _ _ => rfl) (fun _ => rfl)
  | exc c fs z1 => rw [e, W_exc] at h; simp only; rw [W_exc]; exact h
  | bad => rw [e, W_no] at h; exact h.elim
theorem Fr.of {b : Nat} {z z1 z2 : PH} (f : Fr b z z1) (hn : z.n ≤ z2.n) (hk : ∀ k, k < z.n → z2.get k = z1.get k) : Fr b z z2 := ⟨hn, fun k hb h => (hk k h).trans (f.2 k hb h)⟩
/-- .. of what tells of nothing that was made -/
theorem sat_mcut_fr {m : M D} {b : Nat} {R : D → Prop} (h : Wp (m z) (fun d z1 => R d ∧ Fr b z z1) E) : Wp (mCut m z) (fun d z1 => R d ∧ Fr b z z1) E :=
  sat_mcut (mono_wp h (fun d z1 q => ⟨q.2.1, fun z2 hn hk _ => ⟨q.1, q.2.of hn hk⟩⟩) fun _ _ _ q => q)
/-- .. whose outcome looks at what was there alone -/
theorem sat_mcut_st {m : M D} {Q : D → PH → Prop} (hQ : ∀ d z1 z2, Q d z1 → z.n ≤ z1.n → z.n ≤ z2.n → (∀ k, k < z.n → z2.get k = z1.get k) → Q d z2) (h : Wp (m z) (fun d z1 => z.n ≤ z1.n ∧ Q d z1) E) : Wp (mCut m z) Q E :=
  sat_mcut (mono_wp h (fun d z1 q => ⟨q.1, fun z2 hn hk _ => hQ d z1 z2 q.2 q.1 hn hk⟩) fun _ _ _ q => q)
end
/-! ### loops -/
theorem sat_loopC {w : Wk} {g : DG} {t : DT} {e : DE} {ρ : Env} {E : XD} (N : Nat) (xs : List D) (I : Nat → List D → PH → Prop) (hxs : xs.length = N)
    (hw : ∀ i ys z, I i ys z → w i z = match xs[i]? with | some d => .item d | none => .stop)
    (step : ∀ i ys z d, xs[i]? = some d → I i ys z → Wp (g d ρ z) (fun ρ1 z1 => Wp (t ρ1 z1) (fun k z2 => Br k (Wp (e ρ1 z2) (fun y z3 => I (i + 1) (ys ++ [y]) z3) E) (I (i + 1) ys z2)) E) E) :
    ∀ n i ys z, I i ys z → i ≤ N → N < i + n → Wp (loopC w g t e ρ n i z) (fun rs z' => I N (ys ++ rs) z') E := by
  subst hxs
  intro n
  induction n with
  | zero => intro i ys z _ h1 h2; omega
  | succ n ih =>
    intro i ys z hI h1 h2
    unfold loopC
    rw [hw i ys z hI]
    cases q : xs[i]? with
    | none =>
      have : i = xs.length := by have := List.getElem?_eq_none_iff.mp q; omega
      subst this
      simp only
      rw [W_ok, List.append_nil]; exact hI
    | some d =>
      have hlt : i < xs.length := (List.getElem?_eq_some_iff.mp q).1
      simp only
      rw [W_bind]
      refine mono_wp (step i ys z d q hI) (fun ρ1 z1 s1 => ?_) fun _ _ _ q => q
      rw [W_bind]
      refine mono_wp s1 (fun k z2 s2 => ?_) fun _ _ _ q => q
      cases k with
      | true =>
        show Wp (mBind _ _ z2) _ _
        rw [W_bind]
        refine mono_wp s2 (fun y z3 s3 => ?_) fun _ _ _ q => q
        rw [W_bind]
        refine mono_wp (ih (i + 1) (ys ++ [y]) z3 s3 hlt (by omega)) (fun rs z4 s4 => ?_) fun _ _ _ q => q
        rw [W_pure]
        rw [List.append_assoc] at s4; exact s4
      | false => exact ih (i + 1) ys z2 s2 hlt (by omega)
theorem sat_loopF {w : Wk} {g : DG} {b : DS} {QS : Fl × Env → PH → Prop} {E : XD} (N : Nat) (xs : List D) (I : Nat → Env → PH → Prop) (hxs : xs.length = N)
    (hw : ∀ i ρ z, I i ρ z → w i z = match xs[i]? with | some d => .item d | none => .stop)
    (step : ∀ i ρ z d, xs[i]? = some d → I i ρ z → Wp (g d ρ z) (fun ρ1 z1 => Wp (b ρ1 z1) (fun p z2 => match p.1 with | .nx | .ct => I (i + 1) p.2 z2 | .bk => QS (.nx, p.2) z2 | .rt v => QS (.rt v, p.2) z2) E) E)
    (done : ∀ ρ z, I N ρ z → QS (.nx, ρ) z) :
    ∀ n i ρ z, I i ρ z → i ≤ N → N < i + n → Wp (loopF w g b n i ρ z) QS E := by
  subst hxs
  intro n
  induction n with
  | zero => intro i ρ z _ h1 h2; omega
  | succ n ih =>
    intro i ρ z hI h1 h2
    unfold loopF
    rw [hw i ρ z hI]
    cases q : xs[i]? with
    | none =>
      have : i = xs.length := by have := List.getElem?_eq_none_iff.mp q; omega
      subst this
      simp only
      rw [W_ok]
      exact done ρ z hI
    | some d =>
      have hlt : i < xs.length := (List.getElem?_eq_some_iff.mp q).1
      simp only
      rw [W_bind]
      refine mono_wp (step i ρ z d q hI) (fun ρ1 z1 s1 => ?_) fun _ _ _ q => q
      rw [W_bind]
      refine mono_wp s1 (fun p z2 s2 => ?_) fun _ _ _ q => q
      obtain ⟨fl, ρ2⟩ := p
      cases fl with
      | nx => exact ih (i + 1) ρ2 z2 s2 hlt (by omega)
      | ct => exact ih (i + 1) ρ2 z2 s2 hlt (by omega)
      | bk => simp only; rw [W_pure]; exact s2
      | rt v => simp only; rw [W_pure]; exact s2
section
variable {z : PH} {Q : D → PH → Prop} {QS : Fl × Env → PH → Prop} {QT : Bool → PH → Prop} {QI : Wk → PH → Prop} {E : XD} {ρ : Env}
theorem W_lc {it : DI} {g : DG} {t : DT} {e : DE} {vs : List Nat} : Wp (dLc it g t e vs ρ z) Q E = Wp (it ρ z) (fun w z1 => Wp (loopC w g t e (wipeE ρ vs) maxTurns 0 z1) (fun ys z2 => Q (.ref z2.n) (z2.new (.lst ys))) (fun _ _ _ => False)) E := by
  show Wp (mBind _ _ _) _ _ = _
  rw [W_bind]
  exact wp_ext fun x z1 => by rw [W_bind, W_calm]; exact wp_ext fun ys z2 => W_new
theorem W_for {it : DI} {g : DG} {b : DS} : Wp (sFor it g b ρ z) QS E = Wp (it ρ z) (fun w z1 => Wp (loopF w g b maxTurns 0 ρ z1) QS E) E := by first | exact W_bind | exact W_bindp
theorem W_iAny {e : DE} : Wp (iAny e ρ z) QI E = Wp (e ρ z) (fun d z1 => Wp (itOf d z1) QI E) E := by first | exact W_bind | exact W_bindp
theorem W_itT {xs : List D} : Wp (itOf (.tup xs) z) QI E = QI (wkList xs) z := by unfold Wp; rfl
theorem W_itS {s : Str} : Wp (itOf (.str s) z) QI E = QI (wkList (s.cps.toList.map letter)) z := by unfold Wp; rfl
theorem W_itR {r : Nat} {xs : List D} (h : z.get r = some (.lst xs)) : Wp (itOf (.ref r) z) QI E = QI (wkRef r) z := by
  unfold itOf
  rw [W_get, h]
  first | rfl | (unfold Wp; rfl)
theorem wkr_get {r : Nat} {xs : List D} (h : z.get r = some (.lst xs)) (i : Nat) : wkRef r i z = match xs[i]? with | some d => .item d | none => .stop := by
  unfold wkRef
  first | (rw [h]; done) | (rw [h]; cases q : xs[i]? <;> simp only [q])
theorem W_eqs {x y : D} {b : Bool} (h : scEq x y = some b) (hx : ∀ p, x ≠ .rep p) : Wp (fEq x y z) Q E = Q (.bl b) z := by
  have : fEq0 x y z = some b := by
    unfold fEq0
    split
    · exact absurd rfl (hx _)
    · rw [h]
  unfold fEq
  rw [this]
  first | rfl | (unfold Wp; rfl)
theorem W_nes {x y : D} {b : Bool} (h : scEq x y = some b) (hx : ∀ p, x ≠ .rep p) : Wp (fNe x y z) Q E = Q (.bl (!b)) z := by
  have : fEq0 x y z = some b := by
    unfold fEq0
    split
    · exact absurd rfl (hx _)
    · rw [h]
  unfold fNe
  rw [this]
  first | rfl | (unfold Wp; rfl)
theorem W_eqI {i j : Int} : Wp (fEq (.int i) (.int j) z) Q E = Q (.bl (decide (i = j))) z := by unfold Wp; rfl
theorem W_neI {i j : Int} : Wp (fNe (.int i) (.int j) z) Q E = Q (.bl (!decide (i = j))) z := by unfold Wp; rfl
theorem W_eqS {i j : Str} : Wp (fEq (.str i) (.str j) z) Q E = Q (.bl (decide (i = j))) z := by unfold Wp; rfl
theorem W_neS {i j : Str} : Wp (fNe (.str i) (.str j) z) Q E = Q (.bl (!decide (i = j))) z := by unfold Wp; rfl
/-! what kind of thing -/
/-- its kind is known -/
def Kn (z : PH) : D → Prop
  | .non | .bl _ | .int _ => True
  | .str s => s.length ≤ line
  | .tup xs => xs.length ≤ 16000
  | .ref r => ∃ o, z.get r = some o ∧ ((∃ xs, o = .lst xs) ∨ ∃ kvs, o = .dct kvs)
  | _ => False
def D.isIntD : D → Bool | .int _ => true | _ => false
def D.isBlD : D → Bool | .bl _ => true | _ => false
def D.isStrD : D → Bool | .str _ => true | _ => false
def D.isTupD : D → Bool | .tup _ => true | _ => false
theorem Kn.cases {z : PH} {d : D} (h : Kn z d) {C : D → Prop} (h0 : C .non) (h1 : ∀ b, C (.bl b)) (h2 : ∀ i, C (.int i)) (h3 : ∀ s : Str, s.length ≤ line → C (.str s)) (h4 : ∀ xs : List D, xs.length ≤ 16000 → C (.tup xs))
    (h5 : ∀ r xs, z.get r = some (.lst xs) → C (.ref r)) (h6 : ∀ r kvs, z.get r = some (.dct kvs) → C (.ref r)) : C d := by
  cases d with
  | non => exact h0
  | bl b => exact h1 b
  | int i => exact h2 i
  | str s => exact h3 s h
  | tup xs => exact h4 xs h
  | ref r =>
    obtain ⟨o, e, q⟩ := h
    rcases q with ⟨xs, rfl⟩ | ⟨kvs, rfl⟩
    · exact h5 r xs e
    · exact h6 r kvs e
  | _ => exact h.elim
theorem Kn.fr {z z' : PH} {b : Nat} {d : D} (h : Kn z d) (f : Fr 0 z z') : Kn z' d := by
  cases d with
  | ref r =>
    obtain ⟨o, e, q⟩ := h
    exact ⟨o, (f.2 r (Nat.zero_le _) (PH.get_lt e)).trans e, q⟩
  | _ => exact h
theorem W_isInt {d : D} (h : Kn z d) : Wp (fIsi "int" d z) Q E = Q (.bl (d.isIntD || d.isBlD)) z := by
  refine h.cases (C := fun d => Wp (fIsi "int" d z) Q E = Q (.bl (d.isIntD || d.isBlD)) z) (by unfold Wp; rfl) (fun b => by unfold Wp; rfl) (fun i => by unfold Wp; rfl) (fun s _ => by unfold Wp; rfl) (fun xs _ => by unfold Wp; rfl) (fun r xs e => ?_) fun r kvs e => ?_
  · simp only [fIsi, tyIs, e]; first | rfl | (unfold Wp; rfl)
  · simp only [fIsi, tyIs, e]; first | rfl | (unfold Wp; rfl)
theorem W_isBool {d : D} (h : Kn z d) : Wp (fIsi "bool" d z) Q E = Q (.bl d.isBlD) z := by
  refine h.cases (C := fun d => Wp (fIsi "bool" d z) Q E = Q (.bl d.isBlD) z) (by unfold Wp; rfl) (fun b => by unfold Wp; rfl) (fun i => by unfold Wp; rfl) (fun s _ => by unfold Wp; rfl) (fun xs _ => by unfold Wp; rfl) (fun r xs e => ?_) fun r kvs e => ?_
  · simp only [fIsi, tyIs, e]; first | rfl | (unfold Wp; rfl)
  · simp only [fIsi, tyIs, e]; first | rfl | (unfold Wp; rfl)
theorem W_isStr {d : D} (h : Kn z d) : Wp (fIsi "str" d z) Q E = Q (.bl d.isStrD) z := by
  refine h.cases (C := fun d => Wp (fIsi "str" d z) Q E = Q (.bl d.isStrD) z) (by unfold Wp; rfl) (fun b => by unfold Wp; rfl) (fun i => by unfold Wp; rfl) (fun s _ => by unfold Wp; rfl) (fun xs _ => by unfold Wp; rfl) (fun r xs e => ?_) fun r kvs e => ?_
  · simp only [fIsi, tyIs, e]; first | rfl | (unfold Wp; rfl)
  · simp only [fIsi, tyIs, e]; first | rfl | (unfold Wp; rfl)
theorem W_isTup {d : D} (h : Kn z d) : Wp (fIsi "tuple" d z) Q E = Q (.bl d.isTupD) z := by
  refine h.cases (C := fun d => Wp (fIsi "tuple" d z) Q E = Q (.bl d.isTupD) z) (by unfold Wp; rfl) (fun b => by unfold Wp; rfl) (fun i => by unfold Wp; rfl) (fun s _ => by unfold Wp; rfl) (fun xs _ => by unfold Wp; rfl) (fun r xs e => ?_) fun r kvs e => ?_
  · simp only [fIsi, tyIs, e]; first | rfl | (unfold Wp; rfl)
  · simp only [fIsi, tyIs, e]; first | rfl | (unfold Wp; rfl)
end
/-! ### literals -/
theorem str_lit {a b : String} : (Str.ofString a = Str.ofString b) = (a = b) := by
  apply propext
  constructor
  · intro h
    rw [Str.ofString_eq_toList, Str.ofString_eq_toList] at h
    have h1 : a.toList.map Char.toNat = b.toList.map Char.toNat := by
      have := congrArg Str.cps h
      simpa using this
    have inj : ∀ (x y : List Char), x.map Char.toNat = y.map Char.toNat → x = y := by
      intro x
      induction x with
      | nil => intro y h; cases y with
        | nil => rfl
        | cons c y => cases h
      | cons c x ih => intro y h; cases y with
        | nil => cases h
        | cons d y =>
          simp only [List.cons.injEq, List.map_cons] at h
          have hc : c = d := Char.ext (UInt32.toNat_inj.mp h.1)
          rw [hc, ih y h.2]
    exact String.toList_inj.mp (inj _ _ h1)
  · intro h; rw [h]
end UW

/-! Q3 -/
/-! going through a plain function by simp -/
namespace UW
open PySem
section
variable {z : PH} {Q : D → PH → Prop} {QA : List D → PH → Prop} {QS : Fl × Env → PH → Prop} {QT : Bool → PH → Prop} {QE : Env → PH → Prop} {QU : Unit → PH → Prop} {QO : Option Int → PH → Prop} {E : XD} {ρ : Env}
theorem W_badF {α : Type} {P : α → PH → Prop} : Wp (mBad z) P E = False := by unfold Wp; rfl
theorem W_bad {α : Type} {P : α → PH → Prop} : Wp (.bad : Out α) P E = False := by unfold Wp; rfl
theorem W_ixT {xs : List D} {k : D} : Wp (fIx (.tup xs) k z) Q E = Wp (fAt xs k z) Q E := by unfold Wp; rfl
theorem W_ixR {r : Nat} {o : PO} {k : D} (h : z.get r = some o) : Wp (fIx (.ref r) k z) Q E = Wp (fIxO k o z) Q E := by
  unfold fIx
  rw [W_get, h]
theorem W_atN {xs : List D} {k : Nat} {d : D} (h : xs[k]? = some d) : Wp (fAt xs (.int (k : Int)) z) Q E = Q d z := by
  have hk : k < xs.length := (List.getElem?_eq_some_iff.mp h).1
  have : atD xs (k : Int) = some d := by
    unfold atD ixD
    rw [if_pos (Int.natCast_nonneg k), if_pos (by exact_mod_cast hk)]
    simpa using h
  show Wp (mOpt _ z) _ _ = _
  rw [this]
  first | rfl | (unfold Wp; rfl)
theorem W_ixL {xs : List D} {k : D} : Wp (fIxO k (.lst xs) z) Q E = Wp (fAt xs k z) Q E := by unfold Wp; rfl
theorem W_ixD {kvs : List (D × D)} {k : D} : Wp (fIxO k (.dct kvs) z) Q E = Wp ((if k.isKey = true then mOpt (kGet k kvs) else mBad : M D) z) Q E := by unfold Wp; rfl
theorem W_lenR {r : Nat} {xs : List D} (h : z.get r = some (.lst xs)) : Wp (fLen [.ref r] z) Q E = Q (.int xs.length) z := by
  unfold fLen
  rw [W_get, h]
  first | rfl | (unfold Wp; rfl)
theorem W_lenT {xs : List D} : Wp (fLen [.tup xs] z) Q E = Q (.int xs.length) z := by unfold Wp; rfl
theorem W_lenS {s : Str} (h : s.length ≤ line) : Wp (fLen [.str s] z) Q E = Q (.int s.length) z := by
  show Wp ((if s.length ≤ line then mPure (.int s.length) else mBad : M D) z) Q E = _
  rw [W_ite1 h]; first | rfl | (unfold Wp; rfl)
theorem W_gSub {o i : DE} {v : D} : Wp (gSubD o i v ρ z) QE E = Wp (mCalm (o ρ) z) (fun x z1 => Wp (mCalm (i ρ) z1) (fun y z2 => Wp (fSet x y v z2) (fun _ z3 => QE ρ z3) E) E) E := by
  show Wp (mBind _ _ _) _ _ = _
  rw [W_bind]
  refine wp_ext fun x z1 => ?_
  rw [W_bind]
  exact wp_ext fun y z2 => by first | exact W_bind | exact W_bindp
theorem W_setD {r : Nat} {kvs : List (D × D)} {y v : D} (h : z.get r = some (.dct kvs)) (hk : y.isKey = true) (hl : kvs.length < line) : Wp (fSet (.ref r) y v z) QU E = QU () (z.put r (.dct (kPut y v kvs)) [v]) := by
  show Wp (mGet _ _ _) _ _ = _
  rw [W_get, h]
  show Wp ((if y.isKey = true ∧ kvs.length < line then mPut r (.dct (kPut y v kvs)) [v] else mBad : M Unit) z) QU E = _
  rw [W_ite1 ⟨hk, hl⟩]
  first | rfl | (unfold Wp; rfl)
theorem W_setL {r : Nat} {xs : List D} {k : Nat} {v : D} (h : z.get r = some (.lst xs)) (hk : k < xs.length) : Wp (fSet (.ref r) (.int (k : Int)) v z) QU E = QU () (z.put r (.lst (xs.set k v)) [v]) := by
  show Wp (mGet _ _ _) _ _ = _
  rw [W_get, h]
  have : ixD xs.length (k : Int) = some k := by
    unfold ixD
    rw [if_pos (Int.natCast_nonneg k), if_pos (by exact_mod_cast hk)]
    simp
  show Wp ((match ixD xs.length (k : Int) with | some j => mPut r (.lst (xs.set j v)) [v] | none => mBad : M Unit) z) QU E = _
  rw [this]
  first | rfl | (unfold Wp; rfl)
theorem W_addI {i j : Int} : Wp (fAdd (.int i) (.int j) z) Q E = Q (.int (i + j)) z := by unfold Wp; rfl
theorem W_addT {xs ys : List D} (h : xs.length + ys.length ≤ line) : Wp (fAdd (.tup xs) (.tup ys) z) Q E = Q (.tup (xs ++ ys)) z := by
  show Wp ((if xs.length + ys.length ≤ line then mPure (.tup (xs ++ ys)) else mBad : M D) z) Q E = _
  rw [W_ite1 h]
  first | rfl | (unfold Wp; rfl)
theorem W_addL {r r' : Nat} {xs ys : List D} (e : z.get r = some (.lst xs)) (e' : z.get r' = some (.lst ys)) (h : xs.length + ys.length ≤ line) : Wp (fAdd (.ref r) (.ref r') z) Q E = Q (.ref z.n) (z.new (.lst (xs ++ ys))) := by
  unfold fAdd
  rw [W_get, e]
  show Wp (mGet _ _ _) _ _ = _
  rw [W_get, e']
  show Wp ((if xs.length + ys.length ≤ line then mNew (.lst (xs ++ ys)) else mBad : M D) z) Q E = _
  rw [W_ite1 h]
  first | rfl | (unfold Wp; rfl)
theorem W_mulI {i j : Int} (h : cMul i j = true) : Wp (fMul (.int i) (.int j) z) Q E = Q (.int (i * j)) z := by
  show Wp ((if cMul i j = true then mPure (.int (i * j)) else mBad : M D) z) Q E = _
  rw [W_ite1 h]
  first | rfl | (unfold Wp; rfl)
theorem W_mulL {i j : Int} (h1 : -18446744073709551616 < i) (h2 : i < 18446744073709551616) : Wp (fMul (.int i) (.int j) z) Q E = Q (.int (i * j)) z := by
  refine W_mulI ?_
  unfold cMul
  rw [Bool.or_eq_true, Bool.and_eq_true, decide_eq_true_eq, decide_eq_true_eq]
  exact .inl ⟨by omega, by omega⟩
theorem W_mulR {i j : Int} (h1 : -18446744073709551616 < j) (h2 : j < 18446744073709551616) : Wp (fMul (.int i) (.int j) z) Q E = Q (.int (i * j)) z := by
  refine W_mulI ?_
  unfold cMul
  rw [Bool.or_eq_true, Bool.and_eq_true, Bool.and_eq_true, decide_eq_true_eq, decide_eq_true_eq, decide_eq_true_eq, decide_eq_true_eq]
  exact .inr ⟨by omega, by omega⟩
theorem W_Ipos {f : Int → Int → D} {i j : Int} (h : 0 < j) : Wp (fI cPos f (.int i) (.int j) z) Q E = Q (f i j) z := by
  rw [W_I, W_ite1 (by simp [cPos, h])]; first | rfl | (unfold Wp; rfl)
theorem W_Idiv {f : Int → Int → D} {i j : Int} (h : 0 < j) (h2 : j < 1073741824) : Wp (fI cDiv f (.int i) (.int j) z) Q E = Q (f i j) z := by
  rw [W_I, W_ite1 (by simp [cDiv, h, h2])]; first | rfl | (unfold Wp; rfl)
theorem W_Inn {f : Int → Int → D} {i j : Int} (h : 0 ≤ j) : Wp (fI cNN f (.int i) (.int j) z) Q E = Q (f i j) z := by
  rw [W_I, W_ite1 (by simp [cNN, h])]; first | rfl | (unfold Wp; rfl)
theorem W_Ipow {f : Int → Int → D} {i j : Int} (h : 0 ≤ j) (h1 : j ≤ 1000000) (h2 : i.natAbs < 18446744073709551616) : Wp (fI cPow f (.int i) (.int j) z) Q E = Q (f i j) z := by
  rw [W_I, W_ite1 (by simp [cPow, h, h1]; exact h2)]; first | rfl | (unfold Wp; rfl)
theorem W_intI {i : Int} : Wp (fIntOf [.int i] z) Q E = Q (.int i) z := by unfold Wp; rfl
theorem W_neg {i : Int} : Wp (fNeg (.int i) z) Q E = Q (.int (-i)) z := by unfold Wp; rfl
theorem W_oNone : Wp (oNone ρ z) QO E = QO none z := by unfold Wp; rfl
theorem W_oSome {a : DE} : Wp (oSome a ρ z) QO E = Wp (a ρ z) (fun x z1 => Wp (mInt x z1) (fun i z2 => QO (some i) z2) E) E := by
  show Wp (mBind _ _ _) _ _ = _
  rw [W_bind]
  exact wp_ext fun x z1 => by first | exact W_bind | exact W_bindp
theorem W_slice {a : DE} {lo hi : DO} : Wp (dSlice a lo hi ρ z) Q E = Wp (a ρ z) (fun x z1 => Wp (lo ρ z1) (fun l z2 => Wp (hi ρ z2) (fun u z3 => Wp (fSl x l u z3) Q E) E) E) E := by
  show Wp (mBind _ _ _) _ _ = _
  rw [W_bind]
  refine wp_ext fun x z1 => ?_
  rw [W_bind]
  exact wp_ext fun y z2 => by first | exact W_bind | exact W_bindp
theorem W_slT {xs : List D} {lo hi : Option Int} : Wp (fSl (.tup xs) lo hi z) Q E = Q (.tup (cutL xs lo hi)) z := by unfold Wp; rfl
theorem W_slL {r : Nat} {xs : List D} {lo hi : Option Int} (h : z.get r = some (.lst xs)) : Wp (fSl (.ref r) lo hi z) Q E = Q (.ref z.n) (z.new (.lst (cutL xs lo hi))) := by
  unfold fSl
  rw [W_get, h]
  first | rfl | (unfold Wp; rfl)
theorem W_truB {b : Bool} : Wp (fTru (.bl b) z) QT E = QT b z := by unfold Wp; rfl
theorem W_truT {xs : List D} : Wp (fTru (.tup xs) z) QT E = QT (!xs.isEmpty) z := by unfold Wp; rfl
theorem W_inS {x y : D} : Wp (fIn x y z) Q E = Wp (fInB x y z) (fun b z1 => Q (.bl b) z1) E := by first | exact W_bind | exact W_bindp
theorem W_inT {x : D} {ys : List D} : Wp (fInB x (.tup ys) z) QT E = Wp ((if x.isSc = true ∧ ys.all D.isSc = true then mPure (inL x ys) else mBad : M Bool) z) QT E := by unfold Wp; rfl
theorem W_inStr {s t : Str} : Wp (fInB (.str t) (.str s) z) QT E = QT (!(Builtin.Str.occurrences s t 0 s.length 1).isEmpty) z := by unfold Wp; rfl
theorem kEq_s {s t : Str} : kEq (.str s) (.str t) = decide (s = t) := id rfl
theorem kEq_i {s t : Int} : kEq (.int s) (.int t) = decide (s = t) := id rfl
theorem W_inD {r : Nat} {kvs : List (D × D)} {x : D} (h : z.get r = some (.dct kvs)) (hk : x.isKey = true) : Wp (fInB x (.ref r) z) QT E = QT (kGet x kvs).isSome z := by
  unfold fInB
  rw [W_get, h]
  show Wp ((if x.isKey = true then mPure (kGet x kvs).isSome else mBad : M Bool) z) _ _ = _
  rw [W_ite1 hk, W_pure]
theorem W_yes : Wp (tYesD ρ z) QT E = QT true z := by unfold Wp; rfl
theorem rep_none {n : Nat} : List.replicate (n + 1) (none : Option D) = none :: List.replicate n none := List.replicate_succ
theorem W_dict {ps : DP} : Wp (dDict ps ρ z) Q E = Wp (ps ρ z) (fun kvs z1 => Wp ((if (kvs.all fun p => p.1.isKey) = true ∧ kvs.length ≤ 15 then mNew (.dct (kMerge kvs)) else mBad : M D) z1) Q E) E := by first | exact W_bind | exact W_bindp
theorem W_pNil {QP : List (D × D) → PH → Prop} : Wp (pNil ρ z) QP E = QP [] z := by unfold Wp; rfl
theorem W_pCons {QP : List (D × D) → PH → Prop} {k v : DE} {r : DP} : Wp (pCons k v r ρ z) QP E = Wp (k ρ z) (fun x z1 => Wp (v ρ z1) (fun y z2 => Wp (r ρ z2) (fun ps z3 => QP ((x, y) :: ps) z3) E) E) E := by
  show Wp (mBind _ _ _) _ _ = _
  rw [W_bind]
  refine wp_ext fun x z1 => ?_
  rw [W_bind]
  exact wp_ext fun y z2 => by first | exact W_bind | exact W_bindp
theorem W_dict0 : Wp (dDict0 ρ z) Q E = Q (.ref z.n) (z.new (.dct [])) := by unfold Wp; rfl
theorem W_lofR {r : Nat} {xs : List D} (h : z.get r = some (.lst xs)) : Wp (fListOf [.ref r] z) Q E = Q (.ref z.n) (z.new (.lst xs)) := by
  unfold fListOf
  rw [W_get, h]
  first | rfl | (unfold Wp; rfl)
theorem W_lofT {xs : List D} : Wp (fListOf [.tup xs] z) Q E = Q (.ref z.n) (z.new (.lst xs)) := by unfold Wp; rfl
theorem W_lofK {xs : List D} : Wp (fListOf [.klst xs] z) Q E = Q (.ref z.n) (z.new (.lst xs)) := by unfold Wp; rfl
theorem W_tofR {r : Nat} {xs : List D} (h : z.get r = some (.lst xs)) : Wp (fTupOf [.ref r] z) Q E = Q (.tup xs) z := by
  unfold fTupOf
  rw [W_get, h]
  first | rfl | (unfold Wp; rfl)
theorem W_tofT {xs : List D} : Wp (fTupOf [.tup xs] z) Q E = Q (.tup xs) z := by unfold Wp; rfl
theorem W_gStL {i j : Nat} {x : D} {k : Nat} {r : List D} (hk : z.get k = some (.lst (x :: r))) (h : r.length ≤ 16000) : Wp (gSt i j (.ref k) ρ z) QE E = QE ((ρ.set i (some x)).set j (some (.ref z.n))) (z.new (.lst r)) := by
  show Wp (mGet (.ref k) (fun _ o => match o with | .lst xs => stPut i j xs ρ | _ => mBad) z) _ _ = _
  rw [W_get, hk]
  show Wp ((if r.length ≤ 16000 then mBind (mNew (.lst r)) fun l => mPure ((ρ.set i (some x)).set j (some l)) else mBad : M UW.Env) z) _ _ = _
  rw [W_ite1 h]
  first | rfl | (unfold Wp; rfl)
theorem W_gSt {i j : Nat} {x : D} {r : List D} (h : r.length ≤ 16000) : Wp (gSt i j (.tup (x :: r)) ρ z) QE E = QE ((ρ.set i (some x)).set j (some (.ref z.n))) (z.new (.lst r)) := by
  show Wp ((if r.length ≤ 16000 then mBind (mNew (.lst r)) fun l => mPure ((ρ.set i (some x)).set j (some l)) else mBad : M UW.Env) z) _ _ = _
  rw [W_ite1 h]
  first | rfl | (unfold Wp; rfl)
theorem W_inK {tab : List (Str × D)} {b : Bool} {s : Str} : Wp (fInK tab b (.str s) z) Q E = Q (.bl (if b then !(kTab s tab).isSome else (kTab s tab).isSome)) z := by unfold Wp; rfl
theorem W_ixK {tab : List (Str × D)} {s : Str} {d : D} (h : kTab s tab = some d) : Wp (fIxK tab (.str s) z) Q E = Q d z := by
  show Wp (mOpt _ z) _ _ = _
  rw [h]; first | rfl | (unfold Wp; rfl)
theorem W_iZip {QI : Wk → PH → Prop} {e f : DE} : Wp (iZip e f ρ z) QI E = Wp (e ρ z) (fun x z1 => Wp (f ρ z1) (fun y z2 => Wp (srcOf x z2) (fun s z3 => Wp (srcOf y z3) (fun s' z4 => QI (wkZip s s') z4) E) E) E) E := by
  show Wp (mBind _ _ _) _ _ = _
  rw [W_bind]
  refine wp_ext fun x z1 => ?_
  rw [W_bind]
  refine wp_ext fun y z2 => ?_
  rw [W_bind]
  exact wp_ext fun s z3 => by first | exact W_bind | exact W_bindp
theorem W_iEnumX {QI : Wk → PH → Prop} {e : DE} : Wp (iEnumX e ρ z) QI E = Wp (e ρ z) (fun x z1 => Wp (enOf x z1) QI E) E := by first | exact W_bind | exact W_bindp
theorem W_enS {QI : Wk → PH → Prop} {s : Str} : Wp (enOf (.str s) z) QI E = QI (wkNum (s.cps.toList.map letter)) z := by unfold Wp; rfl
theorem W_enT {QI : Wk → PH → Prop} {xs : List D} : Wp (enOf (.tup xs) z) QI E = QI (wkEnum 0 (.t xs)) z := by unfold Wp; rfl
theorem W_srcT {QI : Src → PH → Prop} {xs : List D} : Wp (srcOf (.tup xs) z) QI E = QI (.t xs) z := by unfold Wp; rfl
theorem W_srcR {QI : Src → PH → Prop} {r : Nat} {xs : List D} (h : z.get r = some (.lst xs)) : Wp (srcOf (.ref r) z) QI E = QI (.r r) z := by
  unfold srcOf
  rw [W_get, h]
  first | rfl | (unfold Wp; rfl)
theorem wkz_get {s s' : Src} {xs ys : List D} (h : srcL s z = some xs) (h' : srcL s' z = some ys) (hl : xs.length = ys.length) {i : Nat} (hi : i ≤ xs.length) :
    wkZip s s' i z = match (List.zipWith (fun x y => D.tup [x, y]) xs ys)[i]? with | some d => .item d | none => .stop := by
  unfold wkZip
  rw [h, h']
  by_cases c : i < xs.length
  · have c' : i < ys.length := by omega
    simp [List.getElem?_eq_getElem c, List.getElem?_eq_getElem c', List.getElem?_zipWith]
  · have e : i = xs.length := (by omega)
    have e' : ys.length ≤ i := by omega
    have n1 : xs[i]? = none := List.getElem?_eq_none (by omega)
    have n2 : ys[i]? = none := List.getElem?_eq_none e'
    simp [n1, n2, List.getElem?_zipWith, e, hl]
theorem wke_get {xs : List D} {i : Nat} (hi : i ≤ xs.length) : wkEnum 0 (.t xs) i z = match (xs.mapIdx fun k x => D.tup [.int (k : Int), x])[i]? with | some d => .item d | none => .stop := by
  unfold wkEnum
  by_cases c : i < xs.length
  · simp [srcL, List.getElem?_eq_getElem c, List.getElem?_mapIdx]
  · have e : i = xs.length := (by omega)
    have n1 : xs[i]? = none := List.getElem?_eq_none (by omega)
    simp [srcL, n1, List.getElem?_mapIdx, e]
theorem wkn_get {xs : List D} {i : Nat} (hi : i ≤ xs.length) : wkNum xs i z = match (xs.mapIdx fun k x => D.tup [.int (k : Int), x])[i]? with | some d => .item d | none => .stop := by
  unfold wkNum
  by_cases c : i < xs.length
  · simp [List.getElem?_eq_getElem c, List.getElem?_mapIdx]
  · have e : i = xs.length := (by omega)
    have n1 : xs[i]? = none := List.getElem?_eq_none (by omega)
    simp [n1, List.getElem?_mapIdx, e]
theorem bools_map : ∀ (xs : List Bool), boolsD (xs.map D.bl) = some xs
  | [] => rfl
  | b :: r => by simp [boolsD, bools_map r]
theorem W_all {r : Nat} {bs : List Bool} (h : z.get r = some (.lst (bs.map D.bl))) : Wp (fAll [.ref r] z) Q E = Q (.bl (bs.all id)) z := by
  unfold fAll ofLst
  rw [W_get, h]
  show Wp (mBind (mOpt (boolsD (bs.map D.bl))) _ z) _ _ = _
  rw [W_bind, bools_map]
  first | rfl | (unfold Wp; rfl)
/-- a comprehension over a list that is known, each item telling one thing, the store as it was but for what is new -/
theorem lc_map {b : Nat} {w : Wk} {g : DG} {e : DE} (xs : List D) (f : D → D) (hl : xs.length < maxTurns)
    (hw : ∀ i z', i ≤ xs.length → Fr b z z' → w i z' = match xs[i]? with | some d => .item d | none => .stop)
    (step : ∀ z' d, d ∈ xs → Fr b z z' → Wp (g d ρ z') (fun ρ1 z1 => Wp (e ρ1 z1) (fun y z2 => y = f d ∧ Fr b z' z2) E) E) :
    Wp (loopC w g tYesD e ρ maxTurns 0 z) (fun rs z' => rs = xs.map f ∧ Fr b z z') E := by
  refine mono_wp (sat_loopC xs.length xs (fun i ys z' => i ≤ xs.length ∧ ys = (xs.take i).map f ∧ Fr b z z') rfl (fun i ys z' h => hw i z' h.1 h.2.2) (fun i ys z' d hd h => ?_) maxTurns 0 [] z ⟨Nat.zero_le _, rfl, Fr.rfl⟩ (Nat.zero_le _) (by omega)) (fun rs z' h => ?_) fun _ _ _ q => q
  · refine mono_wp (step z' d (List.mem_of_getElem? hd) h.2.2) (fun ρ1 z1 s1 => ?_) fun _ _ _ q => q
    show Wp (mPure true z1) _ _
    rw [W_pure]
    show Wp (e ρ1 z1) _ _
    refine mono_wp s1 (fun y z2 s2 => ⟨(List.getElem?_eq_some_iff.mp hd).1, ?_, h.2.2.trans s2.2⟩) fun _ _ _ q => q
    rw [h.2.1, s2.1, List.take_add_one, hd]
    simp
  · simpa using h.2
theorem cut_is {f : PH → Out D} {b : D} (h : ∀ Q : D → PH → Prop, Wp (f z) Q E = Q b z) : Wp (mCut f z) (fun x z' => x = b ∧ Fr 0 z z') E :=
  sat_mcut_fr (R := fun x => x = b) (by rw [h]; exact ⟨rfl, Fr.rfl⟩)
theorem get_new_ne {z : PH} {o : PO} {k : Nat} (h : k < z.n) : (z.new o).get k = z.get k := by rw [PH.get_new, if_neg (Nat.ne_of_lt h)]
theorem Fr.putN {z Z : PH} {r : Nat} {o : PO} {vs : List D} (f : Fr 0 z Z) (hr : z.n ≤ r) (hz : r < Z.n) : Fr 0 z (Z.put r o vs) := ⟨by rw [PH.n_put]; exact f.1, fun k hk h => by rw [PH.get_put _ _ _ _ _ hz, if_neg (by omega)]; exact f.2 k hk h⟩
theorem get_put_ne {z : PH} {o : PO} {vs : List D} {k j : Nat} (hk : k < z.n) (h : j ≠ k) : (z.put k o vs).get j = z.get j := by rw [PH.get_put _ _ _ _ _ hk, if_neg h]
theorem get_put_eq {z : PH} {o : PO} {vs : List D} {k : Nat} (hk : k < z.n) : (z.put k o vs).get k = some o := by rw [PH.get_put _ _ _ _ _ hk, if_pos rfl]
theorem get_new_eq {z : PH} {o : PO} : (z.new o).get z.n = some o := by rw [PH.get_new, if_pos rfl]
theorem get_new_at {z : PH} {o : PO} {k : Nat} (h : k = z.n) : (z.new o).get k = some o := by rw [h]; exact get_new_eq
end
end UW
local macro_rules
  | `(tactic| and_intros) => `(tactic| (with_reducible ((repeat (first | refine Eq.trans (UW.get_new_ne (by (try simp only [UW.PH.n_new, UW.PH.n_put]); omega)) ?_ | refine Eq.trans (UW.get_put_ne (by (try simp only [UW.PH.n_new, UW.PH.n_put]); omega) (by (try simp only [UW.PH.n_new, UW.PH.n_put]); omega)) ?_)) <;> first | assumption | exact UW.get_new_eq | exact UW.get_put_eq (by (try simp only [UW.PH.n_new, UW.PH.n_put]); omega) | exact UW.get_new_at (by (try simp only [UW.PH.n_new, UW.PH.n_put]) <;> omega))))
local macro_rules
  | `(tactic| subst_eqs) => `(tactic| (with_reducible ((repeat (first | refine UW.Fr.trans ?_ UW.Fr.new | refine UW.Fr.putN ?_ (by (try simp only [UW.PH.n_new, UW.PH.n_put]); omega) (by (try simp only [UW.PH.n_new, UW.PH.n_put]); omega))) <;> first | assumption | exact UW.Fr.rfl)))
local macro_rules
  | `(tactic| simp! [$ts,*]) => `(tactic| simp (disch := first | assumption | omega | decide | (simp only [List.length_cons, List.length_nil, List.length_append, List.length_map, List.length_replicate, List.length_take, List.length_drop, UW.line]; omega) | (with_unfolding_all exact Nat.le_of_ble_eq_true rfl) | ((repeat (first | refine Eq.trans (UW.get_new_ne (by (try simp only [UW.PH.n_new, UW.PH.n_put]); omega)) ?_ | refine Eq.trans (UW.get_put_ne (by (try simp only [UW.PH.n_new, UW.PH.n_put]); omega) (by (try simp only [UW.PH.n_new, UW.PH.n_put]); omega)) ?_)) <;> first | assumption | exact UW.get_new_eq | exact UW.get_put_eq (by (try simp only [UW.PH.n_new, UW.PH.n_put]); omega)) | fail) only [ ↓UW.W_ok, ↓UW.W_exc, ↓UW.W_pure, ↓UW.W_bind, ↓UW.W_new, ↓UW.W_put, ↓UW.W_opt, ↓UW.W_calm, ↓UW.W_raise, ↓UW.W_ite, ↓UW.W_iteo, ↓UW.W_bool, ↓UW.W_int, ↓UW.W_dC, ↓UW.W_dVar, ↓UW.W_d1, ↓UW.W_d2, ↓UW.W_dN, ↓UW.W_aNil, ↓UW.W_aCons, ↓UW.W_tBool, ↓UW.W_tTru, ↓UW.W_tAnd, ↓UW.W_tOr, ↓UW.W_tNot, ↓UW.W_dAnd, ↓UW.W_dOr, ↓UW.W_dNot, ↓UW.W_dIf, ↓UW.W_dChain, ↓UW.W_tup, ↓UW.W_lst, ↓UW.W_Ipos, ↓UW.W_Idiv, ↓UW.W_Inn, ↓UW.W_Ipow, ↓UW.W_I0, ↓UW.W_seq, ↓UW.W_asg, ↓UW.W_drop, ↓UW.W_ret, ↓UW.W_next, ↓UW.W_if, ↓UW.W_par, ↓UW.W_sraise, ↓UW.W_gNm, ↓UW.W_gTp, ↓UW.W_gAll0, ↓UW.W_gAll1, ↓UW.W_fun, ↓UW.W_call, ↓UW.W_lc, ↓UW.W_for, ↓UW.W_iAny, ↓UW.W_itT, ↓UW.W_itS, ↓UW.W_itR, ↓UW.W_eqI, ↓UW.W_neI, ↓UW.W_eqS, ↓UW.W_neS, ↓UW.W_ixT, ↓UW.W_ixR, ↓UW.W_ixL, ↓UW.W_ixD, ↓UW.W_atN, ↓UW.W_lenR, ↓UW.W_lenT, ↓UW.W_lenS, ↓UW.W_gSub, ↓UW.W_setD, ↓UW.W_setL, ↓UW.W_addI, ↓UW.W_addT, ↓UW.W_yes, ↓UW.W_addL, ↓UW.W_mulL, ↓UW.W_mulR, ↓UW.W_intI, ↓UW.W_neg, ↓UW.W_oNone, ↓UW.W_oSome, ↓UW.W_slice, ↓UW.W_slT, ↓UW.W_slL, ↓UW.W_truB, ↓UW.W_truT, ↓UW.W_inS, ↓UW.W_inT, ↓UW.W_inD, ↓UW.W_inStr, ↓UW.W_dict, ↓UW.W_pNil, ↓UW.W_pCons, ↓UW.W_dict0, ↓UW.W_lofR, ↓UW.W_lofT, ↓UW.W_lofK, ↓UW.W_tofR, ↓UW.W_tofT, ↓UW.W_gSt, ↓UW.W_gStL, ↓UW.W_inK, ↓UW.W_ixK, ↓UW.W_iZip, ↓UW.W_iEnumX, ↓UW.W_enS, ↓UW.W_enT, ↓UW.W_srcT, ↓UW.W_srcR, ↓UW.W_isInt, ↓UW.W_isBool, ↓UW.W_isStr, ↓UW.W_isTup, ↓UW.W_badF, ↓UW.W_bad, List.map_cons, List.map_nil, List.length_cons, List.length_nil, List.length_map, UW.rep_none, List.replicate_zero, List.cons_append, List.nil_append, List.getElem?_cons_zero, List.getElem?_cons_succ, List.set_cons_zero, List.set_cons_succ, Nat.reduceSub, Nat.reduceAdd, Nat.reduceLeDiff, Nat.reduceEqDiff, Int.reduceLE, Int.reduceLT, Int.reduceEq, Int.reduceAdd, Int.reduceSub, Int.reduceNeg, String.reduceEq, decide_eq_true_eq, UW.str_lit, decide_true, decide_false, Bool.not_true, Bool.not_false, Bool.or_true, Bool.or_false, Bool.true_or, Bool.false_or, Bool.true_and, Bool.false_and, Bool.and_true, Bool.and_false, Bool.false_eq_true, Bool.true_eq_false, eq_self, and_true, true_and, and_self, and_false, false_and, not_true_eq_false, not_false_eq_true, ↓reduceIte, UW.kEq_s, UW.kEq_i, ↓UW.Br_t, ↓UW.Br_f, UW.Br_t, UW.Br_f, $ts,*])

/-! Q4 -/
/-! data without a store, repr, ==, errors that are caught -/
namespace UW
open PySem
theorem strOk_lit (s : String) : PyData.strOk (Str.ofString s) = true := by
  rw [Str.ofString_eq_toList]
  unfold PyData.strOk
  rw [Array.all_eq_true]
  intro i hi
  simp only [List.getElem_toArray, List.getElem_map, decide_eq_true_eq]
  have := (s.toList[i]'(by simpa using hi)).valid
  unfold Char.toNat
  rcases this with h | h
  · have : (s.toList[i]'(by simpa using hi)).val.toNat < 0xd800 := h
    omega
  · exact h.2
mutual
/-- data that stands in no store -/
def D.plain : D → Bool
  | .non | .bl _ | .int _ => true
  | .str s => PyData.strOk s
  | .tup xs => D.plainAll xs
  | _ => false
def D.plainAll : List D → Bool
  | [] => true
  | x :: xs => D.plain x && D.plainAll xs
end
mutual
def D.py : D → PyData
  | .bl b => .bool b
  | .int i => .int i
  | .str s => .str s
  | .tup xs => .tuple (D.pyAll xs)
  | _ => .none
def D.pyAll : List D → List PyData
  | [] => []
  | x :: xs => D.py x :: D.pyAll xs
end
mutual
theorem D.py_lay : ∀ {d : D}, D.plain d = true → (D.py d).canLay0 = true
  | .non, _ => rfl
  | .bl _, _ => rfl
  | .int _, _ => rfl
  | .str s, h => by simpa [D.py, PyData.canLay0, D.plain] using h
  | .tup xs, h => by
    simp only [D.py, PyData.canLay0]
    exact D.pyAll_lay (by simpa [D.plain] using h)
  | .ref _, h => by simp [D.plain] at h
  | .gl _, h => by simp [D.plain] at h
  | .ty _, h => by simp [D.plain] at h
  | .rep _, h => by simp [D.plain] at h
  | .op _, h => by simp [D.plain] at h
  | .exn _ _ _, h => by simp [D.plain] at h
  | .klst _, h => by simp [D.plain] at h
theorem D.pyAll_lay : ∀ {xs : List D}, D.plainAll xs = true → PyData.canLayAll0 (D.pyAll xs) = true
  | [], _ => rfl
  | x :: xs, h => by
    simp only [D.plainAll, Bool.and_eq_true] at h
    simp only [D.pyAll, PyData.canLayAll0, Bool.and_eq_true]
    exact ⟨D.py_lay h.1, D.pyAll_lay h.2⟩
end
mutual
theorem D.frz_py {z : PH} : ∀ {n : Nat} {d : D}, D.plain d = true → (D.py d).depth < n → frz z n d = some (D.py d)
  | 0, _, _, h => by omega
  | n + 1, .non, _, _ => rfl
  | n + 1, .bl _, _, _ => rfl
  | n + 1, .int _, _, _ => rfl
  | n + 1, .str s, _, _ => rfl
  | n + 1, .tup xs, h, hd => by
    simp only [D.py, PyData.depth] at hd
    have := D.frzAll_py (z := z) (n := n) (xs := xs) (by simpa [D.plain] using h) (by omega)
    simp only [frz, this, D.py, Option.map_some]
  | _, .ref _, h, _ => by simp [D.plain] at h
  | _, .gl _, h, _ => by simp [D.plain] at h
  | _, .ty _, h, _ => by simp [D.plain] at h
  | _, .rep _, h, _ => by simp [D.plain] at h
  | _, .op _, h, _ => by simp [D.plain] at h
  | _, .exn _ _ _, h, _ => by simp [D.plain] at h
  | _, .klst _, h, _ => by simp [D.plain] at h
theorem D.frzAll_py {z : PH} : ∀ {n : Nat} {xs : List D}, D.plainAll xs = true → PyData.depthAll (D.pyAll xs) < n → optAll (xs.map (frz z n)) = some (D.pyAll xs)
  | n, [], _, _ => rfl
  | n, x :: xs, h, hd => by
    simp only [D.plainAll, Bool.and_eq_true] at h
    simp only [D.pyAll, PyData.depthAll] at hd
    have a := D.frz_py (z := z) (n := n) h.1 (by omega)
    have b := D.frzAll_py (z := z) (n := n) h.2 (by omega)
    simp only [List.map_cons, a, optAll, b, D.pyAll]
end
section
variable {z : PH} {Q : D → PH → Prop} {QS : Fl × Env → PH → Prop} {E : XD} {ρ : Env}
theorem W_eqP {x y : D} (hx : x.plain = true) (hy : y.plain = true) (dx : (D.py x).depth < 64) (dy : (D.py y).depth < 64) (hs : scEq x y = none) : Wp (fEq x y z) Q E = Q (.bl (PyData.eqv (D.py x) (D.py y))) z := by
  have : fEq0 x y z = some (PyData.eqv (D.py x) (D.py y)) := by
    unfold fEq0
    split
    · simp [D.plain] at hx
    · rw [hs]
      simp only [D.frz_py (z := z) (n := deep) hx dx, D.frz_py (z := z) (n := deep) hy dy]
      have a : SeqAt.shaped (D.py x) = true := by
        unfold SeqAt.shaped
        rw [D.py_lay hx, Bool.true_and, decide_eq_true_eq]; omega
      have b : SeqAt.shaped (D.py y) = true := by
        unfold SeqAt.shaped
        rw [D.py_lay hy, Bool.true_and, decide_eq_true_eq]; omega
      rw [if_pos ⟨a, b⟩]
  unfold fEq
  rw [this]
  first | rfl | (unfold Wp; rfl)
/-- a tuple equals itself -/
theorem W_eqR {xs : List D} (hx : D.plainAll xs = true) (dx : PyData.depthAll (D.pyAll xs) < 60) : Wp (fEq (.tup xs) (.tup xs) z) Q E = Q (.bl true) z := by
  have hp : (D.tup xs).plain = true := by simpa [D.plain] using hx
  have hd : (D.py (.tup xs)).depth < 64 := by simp only [D.py, PyData.depth]; omega
  rw [W_eqP hp hp hd hd rfl, SeqAt.eqv_refl _ (D.py_lay hp)]
theorem W_reprB {b : Bool} : Wp (fRepr [.bl b] z) Q E = Q (.rep (.bool b)) z := by
  cases b <;> (unfold Wp; rfl)
theorem W_neRep {p q : PyData} : Wp (fNe (.rep p) (.rep q) z) Q E = Q (.bl (!repEq p q)) z := by unfold Wp; rfl
theorem W_eqRep {p q : PyData} : Wp (fEq (.rep p) (.rep q) z) Q E = Q (.bl (repEq p q)) z := by unfold Wp; rfl
theorem repEq_bool {b : Bool} : repEq (.bool b) (.bool b) = true := by cases b <;> rfl
theorem W_tryO {n : Nat} {tab : List (Str × Bool)} {b s : DS} : Wp (sTryO n tab b s ρ z) QS E = Wp (b ρ z) QS (fun c fs z' => match tabB c tab with
    | some true => Wp (s (noEnv n) z') QS (fun _ _ _ => False)
    | some false => E c fs z'
    | none => False) := by
  unfold sTryO
  cases b ρ z with
  | ok p z' => simp only [W_ok]
  | bad => simp only [W_no]
  | exc c fs z' =>
    simp only [W_exc]
    cases tabB c tab with
    | none => simp only [W_no]
    | some k => cases k with
      | true => exact W_calm
      | false => simp only [W_exc]
theorem W_raised {tab : List (Str × Bool)} {dr : DS} {body : DE} : Wp (dRaised tab dr body ρ z) Q E = Wp (mCut (mAsk tab dr (body ρ)) z) Q E := by unfold Wp; rfl
theorem W_rest {dr : DS} {d : D} : Wp (restOf dr d z) Q E = Wp (dr [none, some d, none] z) (fun p z' => match p.1 with | .rt v => Q v z' | .nx => Q .non z' | _ => False) (fun _ _ _ => False) := by
  unfold restOf
  cases dr [none, some d, none] z with
  | ok p z' => obtain ⟨f, r⟩ := p; cases f <;> (unfold Wp; rfl)
  | _ => unfold Wp; rfl
theorem W_ask {tab : List (Str × Bool)} {dr : DS} {m : M D} : Wp (mAsk tab dr m z) Q E = Wp (m z) (fun _ z' => Wp (restOf dr .non z') Q E) (fun c fs z' => match tabB c tab with
    | some true => Wp (restOf dr (exnOf c fs) z') Q E
    | _ => False) := by
  unfold mAsk
  cases m z with
  | ok p z' => simp only [W_ok]
  | bad => simp only [W_no]
  | exc c fs z' =>
    simp only [W_exc]
    cases tabB c tab with
    | none => simp only [W_no]
    | some k => cases k <;> (first | rfl | exact W_no)
theorem W_is {x : D} : Wp (fIs x .non z) Q E = Br x.known (Q (.bl x.isNon) z) False := by
  show Wp ((if x.known = true then mPure (.bl x.isNon) else mBad : M D) z) _ _ = _
  rw [W_ite, Bool.decide_eq_true]; first | rfl | (unfold Wp; rfl)
theorem W_isNot {x : D} : Wp (fIsNot x .non z) Q E = Br x.known (Q (.bl (!x.isNon)) z) False := by
  show Wp ((if x.known = true then mPure (.bl (!x.isNon)) else mBad : M D) z) _ _ = _
  rw [W_ite, Bool.decide_eq_true]; first | rfl | (unfold Wp; rfl)
theorem known_exn {c : Str} {ns : List Str} {ds : List D} : (D.exn c ns ds).known = true := rfl
theorem isNon_exn {c : Str} {ns : List Str} {ds : List D} : (D.exn c ns ds).isNon = false := rfl
theorem known_non : D.non.known = true := rfl
theorem isNon_non : D.non.isNon = true := rfl
theorem W_isX {tab : List (Str × Bool)} {c : Str} {ns : List Str} {ds : List D} : Wp (fIsX tab (.exn c ns ds) z) Q E = Wp (mOpt (tabB c tab) z) (fun b z' => Q (.bl b) z') E := by first | exact W_bind | exact W_bindp
theorem W_xf {cs : List Str} {f c : Str} {ns : List Str} {ds : List D} : Wp (fXf cs f (.exn c ns ds) z) Q E = Wp ((if c ∈ cs then mOpt (xLook f ns ds) else mBad : M D) z) Q E := by unfold Wp; rfl
theorem W_isB {a b : Bool} : Wp (fIsB (.bl a) (.bl b) z) Q E = Q (.bl (decide (a = b))) z := by unfold Wp; rfl
/-! the script against [] -/
theorem frz_ints {k : Nat} : ∀ (ns : List Int), optAll ((ns.map D.int).map (frz z (k + 1))) = some (ns.map PyData.int)
  | [] => rfl
  | i :: ns => by
    rw [List.map_cons]; rw [List.map_cons]
    show optAll (some (PyData.int i) :: _) = _
    simp only [optAll, frz_ints ns, List.map_cons]
theorem lay_ints : ∀ (ns : List Int), PyData.canLayAll0 (ns.map PyData.int) = true ∧ PyData.depthAll (ns.map PyData.int) = 0
  | [] => ⟨rfl, rfl⟩
  | i :: ns => by simp only [List.map_cons, PyData.canLayAll0, PyData.canLay0, PyData.depthAll, PyData.depth, lay_ints ns, Bool.and_self, Nat.max_self, and_self]
theorem W_neKl {ns : List Int} {r : Nat} (hr : z.get r = some (.lst [])) : Wp (fNe (.klst (ns.map D.int)) (.ref r) z) Q E = Q (.bl (!decide (ns = []))) z := by
  have e1 : frz z deep (.klst (ns.map D.int)) = some (.list (ns.map PyData.int)) := by
    show (optAll ((ns.map D.int).map (frz z (62 + 1)))).map PyData.list = _
    rw [frz_ints]
    rfl
  have e2 : frz z deep (.ref r) = some (.list []) := by
    show (match z.get r with | some (.lst xs) => (optAll (xs.map (frz z 63))).map PyData.list | some (.flst xs) => (optAll (xs.map (frz z 63))).map PyData.list | _ => none) = _
    rw [hr]
    rfl
  have a1 : SeqAt.shaped (.list (ns.map PyData.int)) = true := by
    unfold SeqAt.shaped
    simp only [PyData.canLay0, PyData.depth, lay_ints]
    rfl
  have a2 : SeqAt.shaped (.list []) = true := rfl
  have e3 : PyData.eqv (.list (ns.map PyData.int)) (.list []) = decide (ns = []) := by
    cases ns <;> simp [PyData.eqv, PyData.eqvAll]
  have : fEq0 (.klst (ns.map D.int)) (.ref r) z = some (decide (ns = [])) := by
    unfold fEq0
    simp only [scEq, e1, e2, a1, a2, and_self, if_true, e3]
  unfold fNe
  rw [this]
  simp only
  rw [W_ok]
end
end UW

/-! Q5 -/
/-! lists: many times, append, slices -/
namespace UW
open PySem
section
variable {z : PH} {Q : D → PH → Prop} {E : XD} {ρ : Env}
theorem W_mulRep {r : Nat} {xs : List D} {k : Int} (h : z.get r = some (.lst xs)) (h1 : -1000000 < k) (h2 : k < 1000000) (h3 : xs.length ≤ 10) : Wp (fMul (.ref r) (.int k) z) Q E = Q (.ref z.n) (z.new (.lst (List.replicate k.toNat xs).flatten)) := by
  show Wp (mGet (.ref r) (fun _ o => fRep k o) z) Q E = _
  rw [W_get, h]
  have hb : xs.length * k.toNat ≤ line := by
    have : xs.length * k.toNat ≤ 10 * 1000000 := Nat.mul_le_mul h3 (by omega)
    exact Nat.le_trans this (by decide)
  show Wp ((if (-(2 ^ 63) ≤ k ∧ k < 2 ^ 63) ∧ xs.length * k.toNat ≤ line then mNew (.lst (List.replicate k.toNat xs).flatten) else mBad : M D) z) Q E = _
  rw [W_ite1 ⟨⟨by omega, by omega⟩, hb⟩, W_new]
theorem flat_rep {x : D} : ∀ {k : Nat}, (List.replicate k [x]).flatten = List.replicate k x
  | 0 => rfl
  | k + 1 => by rw [List.replicate_succ, List.flatten_cons, flat_rep, List.replicate_succ]; rfl
/-- (x,) * k -/
def reps (k : Int) (x : D) : List D := List.replicate k.toNat x
theorem W_mulRepT {x : D} {k : Int} (h1 : 1 ≤ k) (h2 : k ≤ 1000) : Wp (fMul (.tup [x]) (.int k) z) Q E = Q (.tup (reps k x)) z := by
  show Wp ((if [x].isEmpty = false ∧ 1 ≤ k ∧ k ≤ 1000 ∧ [x].length ≤ 1000 then mPure (.tup (List.replicate k.toNat [x]).flatten) else mBad : M D) z) Q E = _
  rw [W_ite1 ⟨rfl, h1, h2, by simp⟩, W_pure, flat_rep]
  rfl
theorem W_upper {s : Str} (h : s.length ≤ 5592405) : Wp (fUpper (.str s) z) Q E = Q (.str (Txt.upper s)) z := by
  show Wp ((if s.length ≤ 5592405 then mPure (.str (Txt.upper s)) else mBad : M D) z) Q E = _
  rw [W_ite1 h, W_pure]
theorem W_append {o e : DE} : Wp (dAppend o e ρ z) Q E = Wp (o ρ z) (fun x z1 => Wp (fLstQ x z1) (fun _ z2 => Wp (e ρ z2) (fun y z3 => Wp (fAppend x y z3) Q E) E) E) E := by
  show Wp (mBind _ _ _) _ _ = _
  rw [W_bind]
  refine wp_ext fun x z1 => ?_
  rw [W_bind]
  refine wp_ext fun y z2 => ?_
  rw [W_bind]
theorem W_lstQ {r : Nat} {xs : List D} (h : z.get r = some (.lst xs)) : Wp (fLstQ (.ref r) z) Q E = Q (.ref r) z := by
  unfold fLstQ
  rw [W_get, h]
  show Wp (mPure _ z) _ _ = _
  rw [W_pure]
theorem W_app {r : Nat} {xs : List D} {y : D} (h : z.get r = some (.lst xs)) (hl : xs.length < 1000000) : Wp (fAppend (.ref r) y z) Q E = Q .non (z.put r (.lst (xs ++ [y])) [y]) := by
  unfold fAppend
  rw [W_get, h]
  show Wp ((if xs.length < line then mBind (mPut r (.lst (xs ++ [y])) [y]) (fun _ => mPure .non) else mBad : M D) z) _ _ = _
  rw [W_ite1 (Nat.lt_trans hl (by decide)), W_bind, W_put, W_pure]
/-! slices -/
theorem cut_take {α : Type} {xs : List α} {i : Nat} : cutL xs none (some (i : Int)) = xs.take i := by
  simp only [cutL, sIxD, Int.natCast_nonneg, if_true, Int.toNat_natCast, List.drop_zero, Nat.sub_zero]
  by_cases h : i ≤ xs.length
  · rw [Nat.min_eq_left h]
  · rw [Nat.min_eq_right (by omega), List.take_of_length_le (Nat.le_refl _)]; rw [List.take_of_length_le (by omega)]
theorem cut_drop {α : Type} {xs : List α} {i : Nat} : cutL xs (some (i : Int)) none = xs.drop i := by
  simp only [cutL, sIxD, Int.natCast_nonneg, if_true, Int.toNat_natCast]
  by_cases h : i ≤ xs.length
  · rw [Nat.min_eq_left h, List.take_of_length_le (by rw [List.length_drop]; omega)]
  · rw [Nat.min_eq_right (by omega), List.drop_eq_nil_of_le (Nat.le_refl _), List.drop_eq_nil_of_le (by omega), List.take_nil]
theorem cut_one {α : Type} {x : α} {xs : List α} : cutL (x :: xs) (some 1) none = xs := cut_drop (i := 1)
theorem cut_last {α : Type} {xs : List α} : cutL xs none (some (-1)) = xs.dropLast := by
  simp only [cutL, sIxD, List.drop_zero, Nat.sub_zero]
  rw [if_neg (by decide), List.dropLast_eq_take]
  congr 1
  omega
end
end UW

/-! Q6 -/
/-! plain data with a bound on its depth and on what it shows: repr and == of it -/
namespace UW
open PySem
theorem plainAll_iff : ∀ {xs : List D}, D.plainAll xs = true ↔ ∀ x ∈ xs, x.plain = true
  | [] => by simp [D.plainAll]
  | x :: xs => by simp [D.plainAll, plainAll_iff (xs := xs)]
theorem depthAll_le {n : Nat} : ∀ {xs : List D}, (∀ x ∈ xs, x.py.depth ≤ n) → PyData.depthAll (D.pyAll xs) ≤ n
  | [], _ => Nat.zero_le _
  | x :: xs, h => by
    simp only [D.pyAll, PyData.depthAll]
    exact Nat.max_le.mpr ⟨h x List.mem_cons_self, depthAll_le fun y hy => h y (List.mem_cons_of_mem _ hy)⟩
theorem fitAll_of : ∀ {xs : List D}, (∀ x ∈ xs, fitS x.py = true) → fitAll (D.pyAll xs) = true
  | [], _ => rfl
  | x :: xs, h => by
    simp only [D.pyAll, fitAll, Bool.and_eq_true]
    exact ⟨h x List.mem_cons_self, fitAll_of fun y hy => h y (List.mem_cons_of_mem _ hy)⟩
theorem szAll_le {k : Nat} : ∀ {xs : List D}, (∀ x ∈ xs, szB x.py ≤ k) → szAll (D.pyAll xs) ≤ xs.length * (k + 2)
  | [], _ => Nat.zero_le _
  | x :: xs, h => by
    simp only [D.pyAll, szAll, List.length_cons]
    have a := h x List.mem_cons_self
    have b := szAll_le (k := k) (xs := xs) fun y hy => h y (List.mem_cons_of_mem _ hy)
    rw [Nat.add_mul]
    omega
theorem ltAll_of {m : Nat} : ∀ {xs : List D}, (∀ x ∈ xs, x.lt m = true) → D.ltAll m xs = true
  | [], _ => rfl
  | x :: xs, h => by
    simp only [D.ltAll, Bool.and_eq_true]
    exact ⟨h x List.mem_cons_self, ltAll_of fun y hy => h y (List.mem_cons_of_mem _ hy)⟩
/-- a thing, and what is within down to depth n, is of a known kind -/
def KnD (z : PH) : Nat → D → Prop
  | 0, d => Kn z d
  | n + 1, d => Kn z d ∧ ∀ ps, d = .tup ps → ∀ p ∈ ps, KnD z n p
theorem KnD.kn {z : PH} {n : Nat} {d : D} (h : KnD z n d) : Kn z d := by
  cases n with
  | zero => exact h
  | succ n => exact h.1
theorem KnD.item {z : PH} {n : Nat} {ps : List D} (h : KnD z (n + 1) (.tup ps)) {p : D} (hp : p ∈ ps) : KnD z n p := h.2 ps rfl p hp
theorem KnD.map {z z' : PH} (f : ∀ d, Kn z d → Kn z' d) : ∀ {n : Nat} {d : D}, KnD z n d → KnD z' n d
  | 0, d, h => f d h
  | n + 1, d, h => ⟨f d h.1, fun ps e p hp => KnD.map f (h.2 ps e p hp)⟩
theorem KnD.fr {z z' : PH} {n : Nat} {d : D} (h : KnD z n d) (f : Fr 0 z z') : KnD z' n d := h.map fun _ k => k.fr (b := 0) f
theorem KnD.less {z : PH} : ∀ {n : Nat} {d : D}, KnD z (n + 1) d → KnD z n d
  | 0, _, h => h.1
  | n + 1, _, h => ⟨h.1, fun ps e p hp => KnD.less (h.2 ps e p hp)⟩
theorem KnD.tup {z : PH} {n : Nat} {ps : List D} (hl : ps.length ≤ 16000) (h : ∀ p ∈ ps, KnD z n p) : KnD z (n + 1) (.tup ps) := ⟨hl, fun qs e p hp => by cases e; exact h p hp⟩
theorem KnD.no {z : PH} {d : D} (h : Kn z d) (hn : ∀ ps, d ≠ .tup ps) : ∀ n, KnD z n d
  | 0 => h
  | n + 1 => ⟨h, fun ps e => absurd e (hn ps)⟩
/-- data without a store: at most so deep, shown by at most so many signs -/
structure Pn (n k : Nat) (d : D) : Prop where
  plain : d.plain = true
  deep : d.py.depth ≤ n
  fit : fitS d.py = true
  sz : szB d.py ≤ k
  old : ∀ m, d.lt m = true
  knd : ∀ m z, KnD z m d
theorem Pn.kn {n k : Nat} {d : D} (h : Pn n k d) (z : PH) : Kn z d := h.knd 0 z
theorem Pn.mono {n k n' k' : Nat} {d : D} (h : Pn n k d) (a : n ≤ n') (b : k ≤ k') : Pn n' k' d := ⟨h.plain, Nat.le_trans h.deep a, h.fit, Nat.le_trans h.sz b, h.old, h.knd⟩
theorem Pn.non : Pn 0 4 .non := ⟨rfl, Nat.le_refl _, rfl, Nat.le_refl _, fun _ => rfl, fun m z => KnD.no (d := .non) (show Kn z .non from trivial) (fun ps e => by cases e) m⟩
theorem Pn.bl {b : Bool} : Pn 0 5 (.bl b) := ⟨rfl, Nat.le_refl _, rfl, Nat.le_refl _, fun _ => rfl, fun m z => KnD.no (d := .bl b) (show Kn z (.bl b) from trivial) (fun ps e => by cases e) m⟩
theorem log2_lt {i : Nat} (h : i < 2 ^ 64) : i.log2 < 1920 := by
  by_cases e : i = 0
  · subst e; decide
  · have := (Nat.log2_lt e).mpr h
    omega
theorem Pn.int {i : Int} (h : i.natAbs < 18446744073709551616) : Pn 0 1921 (.int i) := ⟨rfl, Nat.le_refl _, by
  simp only [D.py, fitS, decide_eq_true_eq]
  exact log2_lt h, Nat.le_refl _, fun _ => rfl, fun m z => KnD.no (d := .int i) (show Kn z (.int i) from trivial) (fun ps e => by cases e) m⟩
theorem Pn.str {s : String} {k : Nat} (h : (Str.ofString s).length ≤ k) (hk : k ≤ 1000000) : Pn 0 (10 * k + 2) (.str s) := ⟨strOk_lit s, Nat.le_refl _, strOk_lit s, by
  simp only [D.py, szB]; omega, fun _ => rfl, fun m z => KnD.no (d := .str s) (by
  have : line = 16777216 := rfl
  simp only [Kn]; omega) (fun ps e => by cases e) m⟩
/-- a written text of at most 100 letters -/
theorem Pn.lit {s : String} (h : (Str.ofString s).length ≤ 100) : Pn 0 1921 (.str s) := (Pn.str h (by decide)).mono (Nat.le_refl _) (by decide)
theorem Pn.tup {n k : Nat} {xs : List D} (h : ∀ x ∈ xs, Pn n k x) (hl : xs.length ≤ 16000) : Pn (n + 1) (4 + xs.length * (k + 2)) (.tup xs) := ⟨by
  simpa [D.plain] using plainAll_iff.mpr fun x hx => (h x hx).plain, by
  simp only [D.py, PyData.depth]
  have := depthAll_le fun x hx => (h x hx).deep
  omega, by
  simpa only [D.py, fitS] using fitAll_of fun x hx => (h x hx).fit, by
  simp only [D.py, szB]
  have := szAll_le fun x hx => (h x hx).sz
  omega, fun m => by
  simpa only [D.lt] using ltAll_of fun x hx => (h x hx).old m, fun m z => match m with
  | 0 => hl
  | m + 1 => KnD.tup hl fun x hx => (h x hx).knd m z⟩
theorem Pn.tupM {n k m j : Nat} {xs : List D} (h : ∀ x ∈ xs, Pn n k x) (hl : xs.length ≤ m) (hm : m ≤ 16000) (hj : 4 + m * (k + 2) ≤ j) : Pn (n + 1) j (.tup xs) :=
  (Pn.tup h (Nat.le_trans hl hm)).mono (Nat.le_refl _) (by
    have := Nat.mul_le_mul_right (k + 2) hl
    omega)
theorem Pn.tup0 : Pn 1 4 (.tup []) := Pn.tupM (n := 0) (k := 0) (m := 0) (fun _ h => nomatch h) (Nat.le_refl _) (by decide) (by decide)
section
variable {z : PH} {Q : D → PH → Prop} {E : XD} {n k n' k' : Nat} {d e : D}
theorem Pn.okShow (h : Pn n k d) (hn : n ≤ 50) (hk : k ≤ 16777216) : okShow d.py = true := by
  have e : line = 16777216 := rfl
  simp only [UW.okShow, Bool.and_eq_true, decide_eq_true_eq]
  have a := h.sz
  have b := h.deep
  exact ⟨⟨h.fit, by omega⟩, by omega⟩
theorem W_reprP (h : Pn n k d) (hn : n ≤ 50) (hk : k ≤ 16777216) : Wp (fRepr [d] z) Q E = Q (.rep d.py) z := by
  have a := h.deep
  have : fRepr [d] z = .ok (.rep d.py) z := by
    unfold fRepr
    simp only [D.frz_py (z := z) (n := deep) h.plain (by have : deep = 64 := rfl; omega), h.okShow hn hk, if_true]
  rw [this, W_ok]
theorem repEq_refl {p : PyData} : repEq p p = true := by
  unfold repEq
  simp
theorem W_neRepR {p : PyData} : Wp (fNe (.rep p) (.rep p) z) Q E = Q (.bl false) z := by
  rw [W_neRep, repEq_refl]; rfl
theorem W_eqRepR {p : PyData} : Wp (fEq (.rep p) (.rep p) z) Q E = Q (.bl true) z := by
  rw [W_eqRep, repEq_refl]
/-- plain data equals itself -/
theorem W_eqPR (h : Pn n k d) (hn : n < 60) (hs : scEq d d = some true ∨ scEq d d = none) : Wp (fEq d d z) Q E = Q (.bl true) z := by
  have a := h.deep
  rcases hs with hs | hs
  · exact W_eqs hs (fun p e => by rw [e] at h; exact absurd h.plain (by simp [D.plain]))
  · rw [W_eqP h.plain h.plain (by omega) (by omega) hs, SeqAt.eqv_refl _ (D.py_lay h.plain)]
theorem W_eqTR {xs : List D} (h : Pn n k (.tup xs)) (hn : n < 60) : Wp (fEq (.tup xs) (.tup xs) z) Q E = Q (.bl true) z := W_eqPR h hn (.inr rfl)
theorem W_neTR {xs : List D} (h : Pn n k (.tup xs)) (hn : n < 60) : Wp (fNe (.tup xs) (.tup xs) z) Q E = Q (.bl false) z := by
  have a := W_eqTR (z := z) (Q := fun x z' => Q (.bl (match x with | .bl b => !b | _ => false)) z') (E := E) h hn
  unfold fEq fNe at *
  cases q : fEq0 (.tup xs) (.tup xs) z with
  | none => rw [q] at a; simp only [W_no] at a ⊢; simpa using a
  | some b =>
    rw [q] at a
    simp only [W_ok] at a ⊢
    cases b with
    | true => rfl
    | false => simpa using a
end
end UW

/-! Q7 -/
/-! more rules: reversed and sorted lists, ranges, in a list, int of a bool -/
namespace UW
open PySem
section
variable {z : PH} {Q : D → PH → Prop} {QT : Bool → PH → Prop} {QI : Wk → PH → Prop} {E : XD} {ρ : Env}
theorem W_revL {r : Nat} {xs : List D} (h : z.get r = some (.lst xs)) : Wp (fRevL (.ref r) z) Q E = Q (.ref z.n) (z.new (.lst xs.reverse)) := by
  unfold fRevL
  rw [W_get, h]
  simp only [W_new]
theorem W_intB {c : Bool} : Wp (fIntOf [.bl c] z) Q E = Q (.int (if c then 1 else 0)) z := by
  show Wp (mPure _ z) Q E = _
  rw [W_pure]
theorem W_inL {r : Nat} {x : D} {ys : List D} (h : z.get r = some (.lst ys)) (hx : x.isSc = true) (hy : ys.all D.isSc = true) : Wp (fInB x (.ref r) z) QT E = QT (inL x ys) z := by
  rw [fInB_ref, W_get, h]
  show Wp ((if x.isSc = true ∧ ys.all D.isSc = true then mPure (inL x ys) else mBad : M Bool) z) QT E = _
  rw [W_ite1 ⟨hx, hy⟩, W_pure]
theorem W_range1 {e : DE} : Wp (iRange1 e ρ z) QI E = Wp (e ρ z) (fun x z1 => Wp (mInt x z1) (fun j z2 => Br (okRg j) (QI (wkRange 0 j) z2) False) E) E := by
  show Wp (mBind _ _ _) _ _ = _
  rw [W_bind]
  refine wp_ext fun x z1 => ?_
  rw [W_bind]
  refine wp_ext fun j z2 => ?_
  rw [W_ite, Bool.decide_eq_true, W_pure, W_badF]
theorem okRg_nat {n : Nat} (h : n < 1000000) : okRg (n : Int) = true := by
  have : ((2 : Int) ^ 62) = 4611686018427387904 := by decide
  simp only [okRg, this, Bool.and_eq_true, decide_eq_true_eq]
  omega
def upTo (n : Nat) : List D := (List.range n).map fun (i : Nat) => D.int (i : Int)
theorem upTo_len {n : Nat} : (upTo n).length = n := by simp [upTo]
theorem upTo_get {n i : Nat} (h : i < n) : (upTo n)[i]? = some (.int (i : Int)) := by simp [upTo, h]
theorem upTo_inv {n i : Nat} {d : D} (h : (upTo n)[i]? = some d) : i < n ∧ d = .int (i : Int) := by
  have hi : i < n := by
    have := (List.getElem?_eq_some_iff.mp h).1
    rwa [upTo_len] at this
  rw [upTo_get hi] at h
  cases h
  exact ⟨hi, rfl⟩
theorem wkg_get {n i : Nat} : wkRange 0 (n : Int) i z = match (upTo n)[i]? with | some d => .item d | none => .stop := by
  unfold wkRange
  by_cases c : i < n
  · rw [if_pos (by omega), upTo_get c]
    simp
  · rw [if_neg (by omega), List.getElem?_eq_none (by rw [upTo_len]; omega)]
theorem W_sortI {r : Nat} {ns : List Int} (h : z.get r = some (.lst (ns.map D.int))) : Wp (fSortI [.ref r] z) Q E = Q (.ref z.n) (z.new (.lst ((sortZ ns).map D.int))) := by
  have e : ∀ ns : List Int, intsD (ns.map D.int) = some ns := fun ns => by
    induction ns with
    | nil => rfl
    | cons i r ih => simp [intsD, ih]
  unfold fSortI ofLst
  rw [W_get, h]
  show Wp (mBind (mOpt (intsD (ns.map D.int))) _ z) _ _ = _
  rw [W_bind, e, W_opt, W_new]
theorem W_notB {a c : Bool} : Wp (fNotB (.bl a) (.bl c) z) Q E = Q (.bl (!decide (a = c))) z := by
  show Wp (mPure _ z) Q E = _
  rw [W_pure]
theorem sortZ_perm (ns : List Int) : (sortZ ns).Perm ns := List.mergeSort_perm ns _
theorem sortZ_pw (ns : List Int) : (sortZ ns).Pairwise (· ≤ ·) := by
  have hs := List.pairwise_mergeSort (le := fun x y : Int => decide (x ≤ y)) (by intro x y z a b; simp only [decide_eq_true_eq] at *; omega) (by intro x y; simp only [Bool.or_eq_true, decide_eq_true_eq]; omega) ns
  unfold sortZ
  exact hs.imp fun h => of_decide_eq_true h
/-- the first of a sorted list is the least -/
theorem sortZ_head {ns : List Int} (h : ns ≠ []) : ∃ m, m ∈ ns ∧ (sortZ ns)[0]? = some m ∧ ∀ q ∈ ns, m ≤ q := by
  have hp := sortZ_perm ns
  have hw := sortZ_pw ns
  cases e : sortZ ns with
  | nil => rw [e] at hp; exact absurd hp.nil_eq.symm h
  | cons m r =>
    rw [e] at hp hw
    refine ⟨m, hp.subset (List.mem_cons_self ..), rfl, fun q hq => ?_⟩
    rcases List.mem_cons.mp (hp.symm.subset hq) with h | h
    · rw [h]; exact Int.le_refl _
    · exact (List.pairwise_cons.mp hw).1 q h
theorem W_lenK {xs : List D} : Wp (fLen [.klst xs] z) Q E = Q (.int xs.length) z := by
  show Wp (mPure _ z) Q E = _
  rw [W_pure]
theorem W_any {r : Nat} {bs : List Bool} (h : z.get r = some (.lst (bs.map D.bl))) : Wp (fAny [.ref r] z) Q E = Q (.bl (bs.any id)) z := by
  unfold fAny ofLst
  rw [W_get, h]
  show Wp (mBind (mOpt (boolsD (bs.map D.bl))) _ z) _ _ = _
  rw [W_bind, bools_map, W_opt, W_pure]
theorem W_at0 {x : D} {xs : List D} : Wp (fAt (x :: xs) (.int 0) z) Q E = Q x z := W_atN (k := 0) rfl
theorem W_at1 {x y : D} {xs : List D} : Wp (fAt (x :: y :: xs) (.int 1) z) Q E = Q y z := W_atN (k := 1) rfl
theorem W_at2 {x y w : D} {xs : List D} : Wp (fAt (x :: y :: w :: xs) (.int 2) z) Q E = Q w z := W_atN (k := 2) rfl
theorem W_atL {x : D} {xs : List D} (h : xs.getLast? = some x) : Wp (fAt xs (.int (-1)) z) Q E = Q x z := by
  have hn : 0 < xs.length := by
    cases xs with
    | nil => cases h
    | cons a r => simp
  have e : atD xs (-1) = some x := by
    unfold atD ixD
    rw [if_neg (by decide), if_pos (by omega)]
    have : ((-1 : Int) + (xs.length : Int)).toNat = xs.length - 1 := by omega
    simp only [this]
    rw [← List.getLast?_eq_getElem?]; exact h
  show Wp (mOpt _ z) _ _ = _
  rw [e, W_opt]
theorem W_min2 {i j : Int} : Wp (fMin2 [.int i, .int j] z) Q E = Q (.int (if j < i then j else i)) z := by
  show Wp (mPure _ z) Q E = _
  rw [W_pure]
theorem Fr.putB {b : Nat} {z zz : PH} {r : Nat} {o : PO} {vs : List D} (f : Fr b z zz) (hr : z.n ≤ r) (hz : r < zz.n) : Fr b z (zz.put r o vs) := ⟨by rw [PH.n_put]; exact f.1, fun k hk h => by rw [PH.get_put _ _ _ _ _ hz, if_neg (by omega)]; exact f.2 k hk h⟩
theorem ix_sel {r i : Nat} {xs : List D} {y : D} (g : z.get r = some (.lst xs)) (h : xs[i]? = some y) (hQ : Q y z) : Wp (fIx (.ref r) (.int (i : Int)) z) Q E := by
  rw [W_ixR g, W_ixL, W_atN h]; exact hQ
/-- a comprehension with a test over a list that is known -/
theorem lc_filter {b : Nat} {w : Wk} {g : DG} {t : DT} {e : DE} (xs : List D) (p : D → Bool) (f : D → D) (hl : xs.length < maxTurns)
    (hw : ∀ i z', i ≤ xs.length → Fr b z z' → w i z' = match xs[i]? with | some d => .item d | none => .stop)
    (step : ∀ z' d, d ∈ xs → Fr b z z' → Wp (g d ρ z') (fun ρ1 z1 => Wp (t ρ1 z1) (fun k z2 => Br k (p d = true ∧ Wp (e ρ1 z2) (fun y z3 => y = f d ∧ Fr b z' z3) E) (p d = false ∧ Fr b z' z2)) E) E) :
    Wp (loopC w g t e ρ maxTurns 0 z) (fun rs z' => rs = (xs.filter p).map f ∧ Fr b z z') E := by
  refine mono_wp (sat_loopC xs.length xs (fun i ys z' => i ≤ xs.length ∧ ys = ((xs.take i).filter p).map f ∧ Fr b z z') rfl (fun i ys z' h => hw i z' h.1 h.2.2) (fun i ys z' d hd h => ?_) maxTurns 0 [] z ⟨Nat.zero_le _, rfl, Fr.rfl⟩ (Nat.zero_le _) (by omega)) (fun rs z' h => ?_) fun _ _ _ q => q
  · have hi := (List.getElem?_eq_some_iff.mp hd).1
    have ht : xs.take (i + 1) = xs.take i ++ [d] := by rw [List.take_add_one, hd]; rfl
    refine mono_wp (step z' d (List.mem_of_getElem? hd) h.2.2) (fun ρ1 z1 s1 => ?_) fun _ _ _ q => q
    refine mono_wp s1 (fun k z2 s2 => ?_) fun _ _ _ q => q
    cases k with
    | true =>
      rw [Br_t] at s2
      show Br true _ _
      rw [Br_t]
      refine mono_wp s2.2 (fun y z3 s3 => ⟨hi, ?_, h.2.2.trans s3.2⟩) fun _ _ _ q => q
      rw [h.2.1, s3.1, ht, List.filter_append, List.map_append]
      simp [s2.1]
    | false =>
      rw [Br_f] at s2
      show Br false _ _
      rw [Br_f]
      refine ⟨hi, ?_, h.2.2.trans s2.2⟩
      rw [h.2.1, ht, List.filter_append, List.map_append]
      simp [s2.1]
  · simpa using h.2
/-! lists of plain data against others -/
theorem frz_lst {r n k : Nat} {xs : List D} (h : z.get r = some (.lst xs)) (hx : ∀ x ∈ xs, Pn n k x) (hn : n < 60) : frz z deep (.ref r) = some (.list (D.pyAll xs)) := by
  have hd : PyData.depthAll (D.pyAll xs) < 63 := Nat.lt_of_le_of_lt (depthAll_le fun x m => (hx x m).deep) (by omega)
  show (match z.get r with | some (.lst xs) => (optAll (xs.map (frz z 63))).map PyData.list | some (.flst xs) => (optAll (xs.map (frz z 63))).map PyData.list | _ => none) = _
  rw [h]
  simp only [D.frzAll_py (z := z) (n := 63) (plainAll_iff.mpr fun x m => (hx x m).plain) hd, Option.map_some]
theorem shaped_lst {n k : Nat} {xs : List D} (hx : ∀ x ∈ xs, Pn n k x) (hn : n < 60) : SeqAt.shaped (.list (D.pyAll xs)) = true := by
  have hd : PyData.depthAll (D.pyAll xs) ≤ n := depthAll_le fun x m => (hx x m).deep
  have hc : (PyData.list (D.pyAll xs)).canLay0 = true := by simpa only [PyData.canLay0] using D.pyAll_lay (plainAll_iff.mpr fun x m => (hx x m).plain)
  unfold SeqAt.shaped
  rw [hc, Bool.true_and, decide_eq_true_eq, PyData.depth]
  omega
theorem W_eqLL {r r' n k : Nat} {xs ys : List D} (h : z.get r = some (.lst xs)) (h' : z.get r' = some (.lst ys)) (hx : ∀ x ∈ xs, Pn n k x) (hy : ∀ x ∈ ys, Pn n k x) (hn : n < 60) : Wp (fEq (.ref r) (.ref r') z) Q E = Q (.bl (PyData.eqvAll (D.pyAll xs) (D.pyAll ys))) z := by
  have : fEq0 (.ref r) (.ref r') z = some (PyData.eqvAll (D.pyAll xs) (D.pyAll ys)) := by
    unfold fEq0
    simp only [scEq, frz_lst h hx hn, frz_lst h' hy hn, shaped_lst hx hn, shaped_lst hy hn, and_self, if_true, PyData.eqv]
  unfold fEq
  rw [this]
  simp only [W_ok]
theorem W_neLL {r r' n k : Nat} {xs ys : List D} (h : z.get r = some (.lst xs)) (h' : z.get r' = some (.lst ys)) (hx : ∀ x ∈ xs, Pn n k x) (hy : ∀ x ∈ ys, Pn n k x) (hn : n < 60) : Wp (fNe (.ref r) (.ref r') z) Q E = Q (.bl (!PyData.eqvAll (D.pyAll xs) (D.pyAll ys))) z := by
  have : fEq0 (.ref r) (.ref r') z = some (PyData.eqvAll (D.pyAll xs) (D.pyAll ys)) := by
    unfold fEq0
    simp only [scEq, frz_lst h hx hn, frz_lst h' hy hn, shaped_lst hx hn, shaped_lst hy hn, and_self, if_true, PyData.eqv]
  unfold fNe
  rw [this]
  simp only [W_ok]
theorem W_neL0 {r r' n k : Nat} {xs : List D} (h : z.get r = some (.lst xs)) (h' : z.get r' = some (.lst [])) (hx : ∀ x ∈ xs, Pn n k x) (hn : n < 60) : Wp (fNe (.ref r) (.ref r') z) Q E = Q (.bl (!xs.isEmpty)) z := by
  rw [W_neLL h h' hx (fun _ q => nomatch q) hn]
  cases xs <;> rfl
theorem eqvAll_refl {n k : Nat} {xs : List D} (hx : ∀ x ∈ xs, Pn n k x) : PyData.eqvAll (D.pyAll xs) (D.pyAll xs) = true := by
  have := SeqAt.eqv_refl (.list (D.pyAll xs)) (by simpa only [PyData.canLay0] using D.pyAll_lay (plainAll_iff.mpr fun x m => (hx x m).plain))
  simpa only [PyData.eqv] using this
theorem W_neLR {r r' n k : Nat} {xs : List D} (h : z.get r = some (.lst xs)) (h' : z.get r' = some (.lst xs)) (hx : ∀ x ∈ xs, Pn n k x) (hn : n < 60) : Wp (fNe (.ref r) (.ref r') z) Q E = Q (.bl false) z := by
  rw [W_neLL h h' hx hx hn, eqvAll_refl hx]
  rfl
theorem W_eqLR {r r' n k : Nat} {xs : List D} (h : z.get r = some (.lst xs)) (h' : z.get r' = some (.lst xs)) (hx : ∀ x ∈ xs, Pn n k x) (hn : n < 60) : Wp (fEq (.ref r) (.ref r') z) Q E = Q (.bl true) z := by
  rw [W_eqLL h h' hx hx hn, eqvAll_refl hx]
theorem rep_two {α : Type} {x : α} : (List.replicate (Int.toNat 2) [x]).flatten = [x, x] := rfl
theorem rep_three {α : Type} {x : α} : (List.replicate (Int.toNat 3) [x]).flatten = [x, x, x] := rfl
theorem W_mulT {xs : List D} {k : Int} (h0 : xs.isEmpty = false) (h1 : 1 ≤ k) (h2 : k ≤ 1000) (h3 : xs.length ≤ 1000) : Wp (fMul (.tup xs) (.int k) z) Q E = Q (.tup (List.replicate k.toNat xs).flatten) z := by
  show Wp ((if xs.isEmpty = false ∧ 1 ≤ k ∧ k ≤ 1000 ∧ xs.length ≤ 1000 then mPure (.tup (List.replicate k.toNat xs).flatten) else mBad : M D) z) Q E = _
  rw [W_ite1 ⟨h0, h1, h2, h3⟩, W_pure]
end
end UW

/-! Q8 -/
/-! sorted lists, each thing once -/
namespace UW
open PySem
theorem intsD_map : ∀ ns : List Int, intsD (ns.map D.int) = some ns
  | [] => rfl
  | i :: r => by simp [intsD, intsD_map r]
theorem strsD_map : ∀ ns : List Str, strsD (ns.map D.str) = some ns
  | [] => rfl
  | i :: r => by simp [strsD, strsD_map r]
theorem fSorted_i (ns : List Int) : fSorted (ns.map D.int) = mNew (.lst ((sortZ ns).map D.int)) := by
  unfold fSorted
  rw [intsD_map]
theorem fSorted_s (ts : List Str) (h : ts.length < 64) : fSorted (ts.map D.str) = mNew (.lst ((sortT ts).map D.str)) := by
  unfold fSorted
  cases ts with
  | nil => simp [intsD, sortZ, sortT]
  | cons t r =>
    have e : intsD ((t :: r).map D.str) = none := rfl
    rw [e, strsD_map]
    simp only [h, if_true]
theorem fSortSet_i (ns : List Int) (h : ns.length < 64) : fSortSet (ns.map D.int) = mNew (.lst ((sortZ (once ns)).map D.int)) := by
  unfold fSortSet
  rw [List.length_map, if_pos h, intsD_map]
theorem fSortSet_s (ts : List Str) (h : ts.length < 64) : fSortSet (ts.map D.str) = mNew (.lst ((sortT (once ts)).map D.str)) := by
  unfold fSortSet
  rw [List.length_map, if_pos h]
  cases ts with
  | nil => simp [intsD, sortZ, sortT, once]
  | cons t r =>
    have e : intsD ((t :: r).map D.str) = none := rfl
    rw [e, strsD_map]
/-- what is sorted -/
structure Kd (α : Type) [DecidableEq α] where
  le : α → α → Bool
  d : α → D
  trans : ∀ x y z, le x y = true → le y z = true → le x z = true
  total : ∀ a b, (le a b || le b a) = true
  anti : ∀ a b, le a b = true → le b a = true → a = b
  sorted : ∀ xs : List α, xs.length < 64 → fSorted (xs.map d) = mNew (.lst ((xs.mergeSort le).map d))
  sortSet : ∀ xs : List α, xs.length < 64 → fSortSet (xs.map d) = mNew (.lst (((once xs).mergeSort le).map d))
  ne : ∀ a b, fNe (d a) (d b) = mPure (.bl (!decide (a = b)))
def kInt : Kd Int where
  le x y := decide (x ≤ y)
  d := D.int
  trans := by intro x y z hxy hyz; simp only [decide_eq_true_eq] at *; omega
  total := by intro x y; simp only [Bool.or_eq_true, decide_eq_true_eq]; omega
  anti := by intro x y h1 h2; simp only [decide_eq_true_eq] at *; omega
  sorted := fun xs _ => fSorted_i xs
  sortSet := fSortSet_i
  ne := fun _ _ => rfl
def kStr : Kd Str where
  le := leS
  d := D.str
  trans := leS_trans
  total := leS_total
  anti := leS_anti
  sorted := fSorted_s
  sortSet := fSortSet_s
  ne := fun _ _ => rfl
section
variable {α : Type} [DecidableEq α] (K : Kd α)
def Kd.srt (xs : List α) : List α := xs.mergeSort K.le
theorem Kd.srt_pw (xs : List α) : (K.srt xs).Pairwise fun a b => K.le a b = true := List.pairwise_mergeSort K.trans K.total xs
theorem Kd.srt_perm (xs : List α) : (K.srt xs).Perm xs := List.mergeSort_perm xs _
/-- each thing once, as far as has been seen -/
structure Kd.Adj (acc pre : List α) : Prop where
  pw : acc.Pairwise fun a b => K.le a b = true
  nd : acc.Nodup
  mem : ∀ x, x ∈ acc ↔ x ∈ pre
  last : acc.getLast? = pre.getLast?
variable {K}
theorem Kd.Adj.nil : K.Adj [] [] := ⟨.nil, .nil, fun _ => Iff.rfl, rfl⟩
theorem Kd.Adj.skip {acc pre : List α} {x : α} (h : K.Adj acc pre) (e : acc.getLast? = some x) : K.Adj acc (pre ++ [x]) := by
  have hx : x ∈ acc := List.mem_of_getLast? e
  refine ⟨h.pw, h.nd, fun y => ?_, by rw [e, List.getLast?_append]; rfl⟩
  rw [h.mem, List.mem_append, List.mem_singleton]
  exact ⟨.inl, fun q => q.elim id fun e => e ▸ (h.mem x).mp hx⟩
theorem Kd.Adj.put {acc pre : List α} {x : α} (h : K.Adj acc pre) (s : (pre ++ [x]).Pairwise fun a b => K.le a b = true) (e : acc.getLast? ≠ some x) : K.Adj (acc ++ [x]) (pre ++ [x]) := by
  obtain ⟨s1, _, s3⟩ := List.pairwise_append.mp s
  have below : ∀ a ∈ acc, K.le a x = true := fun a ha => s3 a ((h.mem a).mp ha) x (List.mem_singleton.mpr rfl)
  have out : x ∉ acc := fun hx => by
    cases q : acc.getLast? with
    | none => rw [List.getLast?_eq_none_iff.mp q] at hx; cases hx
    | some y =>
      have hy := List.mem_of_getLast? q
      obtain ⟨as, ea⟩ := List.getLast?_eq_some_iff.mp q
      have xy : x = y ∨ K.le x y = true := by
        have p := h.pw
        rw [ea] at p hx
        rcases List.mem_append.mp hx with m | m
        · exact .inr ((List.pairwise_append.mp p).2.2 x m y (List.mem_singleton.mpr rfl))
        · exact .inl (List.mem_singleton.mp m)
      rcases xy with xy | xy
      · exact e (by rw [q, xy])
      · exact e (by rw [q, K.anti x y xy (below y hy)])
  refine ⟨List.pairwise_append.mpr ⟨h.pw, List.pairwise_singleton _ _, fun a ha b hb => by rw [List.mem_singleton.mp hb]; exact below a ha⟩, List.nodup_append.mpr ⟨h.nd, by simp, fun a ha b hb e2 => ?_⟩, fun y => ?_, by rw [List.getLast?_append, List.getLast?_append]; rfl⟩
  · rw [List.mem_singleton.mp hb] at e2
    exact out (e2 ▸ ha)
  · rw [List.mem_append, List.mem_append, h.mem]
theorem Kd.Adj.done {acc xs : List α} (h : K.Adj acc (K.srt xs)) : acc = K.srt (once xs) :=
  sorted_uni K.anti (nd_perm h.nd ((K.srt_perm (once xs)).nodup_iff.mpr (once_nd xs)) fun x => by
    rw [h.mem, (K.srt_perm xs).mem_iff, (K.srt_perm (once xs)).mem_iff, once_mem]) h.pw (K.srt_pw _)
variable {z : PH} {Q : D → PH → Prop} {E : XD} {ρ : Env}
theorem W_sortA (K : Kd α) {r : Nat} {xs : List α} (h : z.get r = some (.lst (xs.map K.d))) (few : xs.length < 64) : Wp (fSortA [.ref r] z) Q E = Q (.ref z.n) (z.new (.lst ((K.srt xs).map K.d))) := by
  unfold fSortA ofLst
  rw [W_get, h]
  show Wp (mBind (mOpt (some (xs.map K.d))) fSorted z) _ _ = _
  rw [W_bind, W_opt, K.sorted xs few]
  exact W_new
theorem W_sortSet (K : Kd α) {xs : List α} (few : xs.length < 64) : Wp (fSortSet (xs.map K.d) z) Q E = Q (.ref z.n) (z.new (.lst ((K.srt (once xs)).map K.d))) := by
  rw [K.sortSet xs few]
  exact W_new
theorem W_neK (K : Kd α) {a b : α} : Wp (fNe (K.d a) (K.d b) z) Q E = Q (.bl (!decide (a = b))) z := by
  rw [K.ne]
  exact W_pure
end
section
variable {z : PH} {Q : D → PH → Prop} {E : XD} {ρ : Env}
theorem W_sortSc {it : DI} {g : DG} {t : DT} {e : DE} {vs : List Nat} : Wp (dSortSc it g t e vs ρ z) Q E = Wp (it ρ z) (fun w z1 => Wp (loopC w g t e (wipeE ρ vs) maxTurns 0 z1) (fun ys z2 => Wp (fSortSet ys z2) Q E) (fun _ _ _ => False)) E := by
  show Wp (mBind _ _ _) _ _ = _
  rw [W_bind]
  exact wp_ext fun x z1 => by rw [W_bind, W_calm]
theorem W_eqL0 {r r' n k : Nat} {xs : List D} (h : z.get r = some (.lst xs)) (h' : z.get r' = some (.lst [])) (hx : ∀ x ∈ xs, Pn n k x) (hn : n < 60) : Wp (fEq (.ref r) (.ref r') z) Q E = Q (.bl xs.isEmpty) z := by
  rw [W_eqLL h h' hx (fun _ q => nomatch q) hn]
  cases xs <;> rfl
end
end UW

/-! Q9 -/
/-! a try whose suite raises; instances made -/
namespace UW
open PySem
section
variable {z : PH} {Q : D → PH → Prop} {QS : Fl × Env → PH → Prop} {E : XD} {ρ : Env}
theorem W_dCalm {d : DE} : Wp (dCalm d ρ z) Q E = Wp (d ρ z) Q (fun _ _ _ => False) := W_calm
theorem W_notInS {x y : D} : Wp (fNotIn x y z) Q E = Wp (fInB x y z) (fun b z1 => Q (.bl (!b)) z1) E := by first | exact W_bind | exact W_bindp
theorem W_sBad : Wp (sBad ρ z) QS E = False := W_badF
theorem W_tryX {tab : List (Str × Bool)} {i k : Nat} {pl c2 f2 : Str} {b : DE} : Wp (sTryX tab i k pl c2 f2 b ρ z) QS E = Wp (b ρ z) (fun _ z' => QS (.nx, ρ) z') (fun c fs z' => match tabB c tab with
    | some true => (match ρ[k]?, fLook pl fs with
      | some (some x), some y => if k ≠ i ∧ i < ρ.length then E c2 [(f2, .tup [x, y])] z' else False
      | _, _ => False)
    | some false => E c fs z'
    | none => False) := by
  unfold sTryX
  cases b ρ z with
  | ok p z' => simp only [W_ok]
  | bad => simp only [W_no]
  | exc c fs z' =>
    simp only [W_exc]
    cases tabB c tab with
    | none => simp only [W_no]
    | some t => cases t with
      | false => simp only [W_exc]
      | true =>
        cases ρ[k]? with
        | none => simp only [W_no]
        | some o => cases o with
          | none => simp only [W_no]
          | some x => cases fLook pl fs with
            | none => simp only [W_no]
            | some y =>
              by_cases h : k ≠ i ∧ i < ρ.length
              · simp only [if_pos h, W_exc]
              · simp only [if_neg h, W_no]
theorem W_make {c : Str} {f : DF} {a : DA} : Wp (dMake c f a ρ z) Q E = Wp (a ρ z) (fun ds z1 => Wp (f (.ref z1.n :: ds) (z1.new (.ins c []))) (fun d z2 => match d with | .non => Q (.ref z1.n) z2 | _ => False) E) E := by
  show Wp (mBind _ _ _) _ _ = _
  rw [W_bind]
  refine wp_ext fun ds z1 => ?_
  rw [W_bind, W_new, W_bind]
  refine wp_ext fun d z2 => ?_
  cases d <;> first | exact W_pure | exact W_badF
end
end UW

/-! B1 -/
/-! whole numbers as rows of bytes -/
namespace UW
open PySem
def byt (N i : Nat) : Nat := N / 2 ^ (8 * i) % 2 ^ 8
theorem byt_lt {N i : Nat} : byt N i < 256 := Nat.mod_lt _ (by decide)
theorem byt_bit {N i k : Nat} : (byt N i).testBit k = (decide (k < 8) && N.testBit (8 * i + k)) := by
  unfold byt
  rw [Nat.testBit_mod_two_pow, Nat.testBit_div_two_pow, Nat.add_comm k (8 * i)]
theorem byt_ext {a b : Nat} (ha : a < 256) (hb : b < 256) (h : ∀ k, k < 8 → a.testBit k = b.testBit k) : a = b := by
  apply Nat.eq_of_testBit_eq
  intro k
  by_cases c : k < 8
  · exact h k c
  · have e : (2 : Nat) ^ 8 ≤ 2 ^ k := Nat.pow_le_pow_right (by decide) (by omega)
    rw [Nat.testBit_lt_two_pow (by omega), Nat.testBit_lt_two_pow (by omega)]
/-- byte j is exchanged -/
def putN (N j m : Nat) : Nat := N ^^^ ((byt N j ^^^ m) * 2 ^ (8 * j))
theorem byt_put {N j m i : Nat} (hm : m < 256) : byt (putN N j m) i = if i = j then m else byt N i := by
  by_cases c : i = j
  · rw [if_pos c]
    subst c
    refine byt_ext byt_lt hm fun k hk => ?_
    rw [byt_bit]
    unfold putN
    rw [Nat.testBit_xor, ← Nat.shiftLeft_eq, Nat.testBit_shiftLeft]
    have e1 : 8 * i + k - 8 * i = k := by omega
    have e2 : 8 * i + k ≥ 8 * i := by omega
    rw [e1, Nat.testBit_xor, byt_bit]
    simp only [hk, decide_true, e2, Bool.true_and]
    cases N.testBit (8 * i + k) <;> cases m.testBit k <;> rfl
  · rw [if_neg c]
    refine byt_ext byt_lt byt_lt fun k hk => ?_
    rw [byt_bit, byt_bit]
    unfold putN
    rw [Nat.testBit_xor, ← Nat.shiftLeft_eq, Nat.testBit_shiftLeft]
    have : (decide (8 * i + k ≥ 8 * j) && (byt N j ^^^ m).testBit (8 * i + k - 8 * j)) = false := by
      by_cases q : 8 * i + k ≥ 8 * j
      · have hx : (byt N j ^^^ m) < 2 ^ 8 := Nat.xor_lt_two_pow byt_lt hm
        have e : (2 : Nat) ^ 8 ≤ 2 ^ (8 * i + k - 8 * j) := Nat.pow_le_pow_right (by decide) (by omega)
        rw [Nat.testBit_lt_two_pow (by omega), Bool.and_false]
      · simp [q]
    rw [this, Bool.xor_false]
theorem pow8 {i : Nat} : 2 ^ (8 * i) = 256 ^ i := by rw [Nat.pow_mul]
theorem byt_add {N k j i : Nat} (h : byt N j + k < 256) : byt (N + k * 2 ^ (8 * j)) i = if i = j then byt N j + k else byt N i := by
  unfold byt at *
  have p : 0 < 2 ^ (8 * j) := Nat.pow_pos (by decide)
  by_cases c : i = j
  · rw [if_pos c, c, Nat.add_mul_div_right _ _ p]
    omega
  · rw [if_neg c]
    by_cases q : i < j
    · -- below: the sum is a multiple
      obtain ⟨d, rfl⟩ : ∃ d, j = i + 1 + d := ⟨j - i - 1, by omega⟩
      have e : k * 2 ^ (8 * (i + 1 + d)) = (k * 2 ^ (8 * d) * 2 ^ 8) * 2 ^ (8 * i) := by
        rw [Nat.mul_assoc, Nat.mul_assoc, ← Nat.pow_add, ← Nat.pow_add]
        congr 2; omega
      rw [e, Nat.add_mul_div_right _ _ (Nat.pow_pos (by decide)), Nat.add_mul_mod_self_right]
    · -- above: no carry
      obtain ⟨d, rfl⟩ : ∃ d, i = j + 1 + d := ⟨i - j - 1, by omega⟩
      have e : 2 ^ (8 * (j + 1 + d)) = 2 ^ (8 * j) * 2 ^ 8 * 2 ^ (8 * d) := by
        rw [← Nat.pow_add, ← Nat.pow_add]; congr 1; omega
      rw [e, ← Nat.div_div_eq_div_mul, ← Nat.div_div_eq_div_mul, Nat.add_mul_div_right _ _ p]
      rw [← Nat.div_div_eq_div_mul, ← Nat.div_div_eq_div_mul]
      have : (N / 2 ^ (8 * j) + k) / 2 ^ 8 = N / 2 ^ (8 * j) / 2 ^ 8 := by omega
      rw [this]
theorem byt_le {N j : Nat} : byt N j * 2 ^ (8 * j) ≤ N := by
  unfold byt
  exact Nat.le_trans (Nat.mul_le_mul_right _ (Nat.mod_le _ _)) (Nat.div_mul_le_self _ _)
theorem byt_sub {N k j i : Nat} (h : k ≤ byt N j) : byt (N - k * 2 ^ (8 * j)) i = if i = j then byt N j - k else byt N i := by
  have le : k * 2 ^ (8 * j) ≤ N := Nat.le_trans (Nat.mul_le_mul_right _ h) byt_le
  obtain ⟨M, hM⟩ : ∃ M, N = M + k * 2 ^ (8 * j) := ⟨N - k * 2 ^ (8 * j), by omega⟩
  have hb : byt M j + k < 256 := by
    have lt := byt_lt (N := N) (i := j)
    have e : byt N j = (byt M j + k) % 256 := by
      unfold byt
      rw [hM, Nat.add_mul_div_right _ _ (Nat.pow_pos (by decide))]
      omega
    have hM2 := byt_lt (N := M) (i := j)
    omega
  have e2 : N - k * 2 ^ (8 * j) = M := by omega
  rw [e2]
  have a := byt_add (i := i) hb
  rw [← hM] at a
  have a2 := byt_add (i := j) hb
  rw [← hM, if_pos rfl] at a2
  by_cases c : i = j
  · rw [if_pos c, c]; omega
  · rw [if_neg c] at a ⊢; exact a.symm
theorem byt_mod {N n i : Nat} : byt (N % 2 ^ (8 * n)) i = if i < n then byt N i else 0 := by
  by_cases c : i < n
  · rw [if_pos c]
    refine byt_ext byt_lt byt_lt fun k hk => ?_
    rw [byt_bit, byt_bit, Nat.testBit_mod_two_pow]
    have : 8 * i + k < 8 * n := by omega
    simp [this]
  · rw [if_neg c]
    refine byt_ext byt_lt (by decide) fun k hk => ?_
    rw [byt_bit, Nat.testBit_mod_two_pow]
    have : ¬ 8 * i + k < 8 * n := by omega
    simp [this]
/-! as the language has it -/
theorem and_slot {N : Nat} : Builtin.bitAnd (N : Int) 255 = ((N % 2 ^ 8 : Nat) : Int) := by
  rw [show (255 : Int) = ((255 : Nat) : Int) from rfl, PySem.W.os_band, show (255 : Nat) = 2 ^ 8 - 1 from rfl, Nat.and_two_pow_sub_one_eq_mod]
theorem slot_at {N j : Nat} {s : Int} (hs : s = ((8 * j : Nat) : Int)) : Builtin.bitAnd ((N : Int) / 2 ^ s.toNat) 255 = ((byt N j : Nat) : Int) := by
  subst hs
  rw [Int.toNat_natCast]
  have : (N : Int) / 2 ^ (8 * j) = ((N / 2 ^ (8 * j) : Nat) : Int) := by
    rw [Int.natCast_ediv]; simp
  rw [this, and_slot]
  rfl
theorem xor_and_sum : ∀ n a b : Nat, a < 2 ^ n → (a ^^^ b) + 2 * (a &&& b) = a + b
  | 0, a, b, h => by
    have : a = 0 := by omega
    subst this
    simp
  | n + 1, a, b, h => by
    have ih := xor_and_sum n (a / 2) (b / 2) (by rw [Nat.pow_succ] at h; omega)
    have h1 : (a ^^^ b) / 2 = a / 2 ^^^ b / 2 := by simpa using Nat.xor_div_two_pow (a := a) (b := b) (n := 1)
    have h2 : (a &&& b) / 2 = a / 2 &&& b / 2 := by simpa using Nat.and_div_two_pow (a := a) (b := b) (n := 1)
    have h3 : (a ^^^ b) % 2 = (a % 2) ^^^ (b % 2) := by simpa using Nat.xor_mod_two_pow (a := a) (b := b) (n := 1)
    have h4 : (a &&& b) % 2 = (a % 2) &&& (b % 2) := by simpa using Nat.and_mod_two_pow (a := a) (b := b) (n := 1)
    have e1 := Nat.div_add_mod (a ^^^ b) 2
    have e2 := Nat.div_add_mod (a &&& b) 2
    rw [h1, h3] at e1
    rw [h2, h4] at e2
    have p : (a % 2 = 0 ∨ a % 2 = 1) ∧ (b % 2 = 0 ∨ b % 2 = 1) := by omega
    rcases p with ⟨p | p, q | q⟩ <;> rw [p, q] at e1 e2 <;> simp at e1 e2 <;> omega
theorem xor_nat {a b : Nat} : Builtin.bitXor (a : Int) (b : Int) = ((a ^^^ b : Nat) : Int) := by
  rw [PyProof.Rows.bitXor_and, PySem.W.os_band]
  have := xor_and_sum a a b Nat.lt_two_pow_self
  omega
/-- state & ~(255 << 8 j) -/
theorem and_not {N M : Nat} : Builtin.bitAnd (N : Int) (Builtin.bitNot (M : Int)) = ((N - (N &&& M) : Nat) : Int) := by
  have e1 : decide (0 ≤ (N : Int)) = true := by simp
  have e2 : decide (0 ≤ Builtin.bitNot (M : Int)) = false := by
    have : ¬ (0 : Int) ≤ -(M : Int) - 1 := by omega
    exact decide_eq_false this
  have e3 : (Builtin.bitNot (Builtin.bitNot (M : Int))).toNat = M := by
    have : Builtin.bitNot (Builtin.bitNot (M : Int)) = (M : Int) := by
      show -(-(M : Int) - 1) - 1 = _
      omega
    rw [this, Int.toNat_natCast]
  have : Builtin.bitAnd (N : Int) (Builtin.bitNot (M : Int)) = (N : Int) - ((N &&& M : Nat) : Int) := by
    show Spec.bitAnd (N : Int) (Spec.bitNot (M : Int)) = _
    unfold Spec.bitAnd
    rw [show decide (0 ≤ (N : Int)) = true from e1, show decide (0 ≤ Spec.bitNot (M : Int)) = false from e2]
    show (N : Int) - (((N : Int).toNat &&& (Spec.bitNot (Spec.bitNot (M : Int))).toNat : Nat) : Int) = _
    rw [show (Spec.bitNot (Spec.bitNot (M : Int))).toNat = M from e3, Int.toNat_natCast]
  rw [this]
  have := Nat.and_le_left (n := N) (m := M)
  omega
theorem and_byte {N j : Nat} : N &&& (255 * 2 ^ (8 * j)) = byt N j * 2 ^ (8 * j) := by
  apply Nat.eq_of_testBit_eq
  intro k
  rw [Nat.testBit_and, ← Nat.shiftLeft_eq, ← Nat.shiftLeft_eq, Nat.testBit_shiftLeft, Nat.testBit_shiftLeft]
  by_cases q : k ≥ 8 * j
  · rw [byt_bit, show (255 : Nat) = 2 ^ 8 - 1 from rfl, Nat.testBit_two_pow_sub_one]
    have : 8 * j + (k - 8 * j) = k := by omega
    rw [this]
    simp only [q, decide_true, Bool.true_and]
    exact Bool.and_comm _ _
  · simp [q]
theorem byt_clear {N j i : Nat} : byt (N - (N &&& (255 * 2 ^ (8 * j)))) i = if i = j then 0 else byt N i := by
  rw [and_byte, byt_sub (Nat.le_refl _), Nat.sub_self]
theorem and_mask {N n : Nat} : N &&& (2 ^ n - 1) = N % 2 ^ n := Nat.and_two_pow_sub_one_eq_mod N n
/-- two bytes at once -/
theorem and_two {N j : Nat} : N &&& (65535 * 2 ^ (8 * j)) = byt N j * 2 ^ (8 * j) + byt N (j + 1) * 2 ^ (8 * (j + 1)) := by
  have e : N &&& (65535 * 2 ^ (8 * j)) = (N / 2 ^ (8 * j) % 2 ^ 16) * 2 ^ (8 * j) := by
    apply Nat.eq_of_testBit_eq
    intro k
    rw [Nat.testBit_and, ← Nat.shiftLeft_eq, ← Nat.shiftLeft_eq, Nat.testBit_shiftLeft, Nat.testBit_shiftLeft]
    by_cases q : k ≥ 8 * j
    · rw [Nat.testBit_mod_two_pow, Nat.testBit_div_two_pow, show (65535 : Nat) = 2 ^ 16 - 1 from rfl, Nat.testBit_two_pow_sub_one]
      have : k - 8 * j + 8 * j = k := by omega
      rw [this]
      simp only [q, decide_true, Bool.true_and]
      exact Bool.and_comm _ _
    · simp [q]
  rw [e]
  have h1 : byt N (j + 1) = N / 2 ^ (8 * j) / 2 ^ 8 % 2 ^ 8 := by
    unfold byt
    rw [Nat.mul_add, Nat.pow_add, Nat.div_div_eq_div_mul]
  have h2 : 2 ^ (8 * (j + 1)) = 2 ^ (8 * j) * 2 ^ 8 := by rw [Nat.mul_add, Nat.pow_add]
  have h3 : N / 2 ^ (8 * j) % 2 ^ 16 = N / 2 ^ (8 * j) % 2 ^ 8 + (N / 2 ^ (8 * j) / 2 ^ 8 % 2 ^ 8) * 2 ^ 8 := by omega
  rw [h3, h1, h2, Nat.add_mul]
  unfold byt
  congr 1
  rw [Nat.mul_assoc, Nat.mul_comm (2 ^ 8) (2 ^ (8 * j))]
theorem byt_clear2 {N j i : Nat} : byt (N - (N &&& (65535 * 2 ^ (8 * j)))) i = if i = j ∨ i = j + 1 then 0 else byt N i := by
  have h1 : ∀ i, byt (N - byt N j * 2 ^ (8 * j)) i = if i = j then 0 else byt N i := fun i => by
    rw [byt_sub (Nat.le_refl _), Nat.sub_self]
  have h2 : byt (N - byt N j * 2 ^ (8 * j)) (j + 1) = byt N (j + 1) := by rw [h1, if_neg (by omega)]
  rw [and_two, Nat.sub_add_eq, byt_sub (Nat.le_of_eq h2.symm), h2, Nat.sub_self, h1]
  by_cases c : i = j + 1
  · rw [if_pos c, if_pos (Or.inr c)]
  · rw [if_neg c]
    by_cases c2 : i = j
    · rw [if_pos c2, if_pos (Or.inl c2)]
    · rw [if_neg c2, if_neg (fun z => z.elim c2 c)]
end UW

/-! Q10 -/
/-! calls of what a local name holds; enumerate from a number; ints in tuples; sorted({i, j}) -/
namespace UW
open PySem
section
variable {z : PH} {Q : D → PH → Prop} {QI : Wk → PH → Prop} {QS : Fl × Env → PH → Prop} {E : XD} {ρ : Env}
theorem W_apart {f : DF} {ds : List D} (h : D.ltAll 0 ds = true) : Wp (mApart f ds z) Q E = Wp (f ds .nil) (fun d _ => if d.lt 0 = true then Q d z else False) (fun c fs _ => if D.ltAll 0 (fs.map (·.2)) = true then E c fs z else False) := by
  unfold mApart
  rw [if_pos h]
  cases f ds .nil with
  | ok d z2 =>
    simp only [W_ok]
    by_cases c : d.lt 0 = true
    · rw [if_pos c, if_pos c, W_ok]
    · rw [if_neg c, if_neg c, W_no]
  | exc c fs z2 =>
    simp only [W_exc]
    by_cases q : D.ltAll 0 (fs.map (·.2)) = true
    · rw [if_pos q, if_pos q, W_exc]
    · rw [if_neg q, if_neg q, W_no]
  | bad => simp only [W_no]
theorem W_callL {tab : List (Str × DF)} {i : Nat} {a : DA} {x : Str} {f : DF} (hρ : ρ[i]? = some (some (.gl x))) (hf : fTab x tab = some f) : Wp (dCallL tab i a ρ z) Q E = Wp (a ρ z) (fun ds z1 => Wp (mApart f ds z1) Q E) E := by
  unfold dCallL
  rw [hρ]
  simp only [hf]
  exact W_bind
theorem W_iEnumN {st : Nat} {e : DE} : Wp (iEnum st e ρ z) QI E = Wp (e ρ z) (fun x z1 => Wp (srcOf x z1) (fun s z2 => QI (wkEnum st s) z2) E) E := by
  show Wp (mBind _ _ _) _ _ = _
  rw [W_bind]
  refine wp_ext fun x z1 => ?_
  rw [W_bind]
  refine wp_ext fun s z2 => ?_
  rw [W_pure]
theorem wken_get {st : Nat} {xs : List D} {i : Nat} (hi : i ≤ xs.length) : wkEnum st (.t xs) i z = match (xs.mapIdx fun k x => D.tup [.int ((st + k : Nat) : Int), x])[i]? with | some d => .item d | none => .stop := by
  unfold wkEnum
  by_cases c : i < xs.length
  · simp [srcL, List.getElem?_eq_getElem c, List.getElem?_mapIdx]
  · have e : i = xs.length := (by omega)
    have n1 : xs[i]? = none := List.getElem?_eq_none (by omega)
    simp [srcL, n1, List.getElem?_mapIdx, e]
theorem W_sort2 {i j : Int} : Wp (fSort2 (.int i) (.int j) z) Q E = Q (.ref z.n) (z.new (.lst (sort2D i j))) := by
  show Wp (mNew _ z) Q E = _
  rw [W_new]
theorem W_ixI {tab : List (Int × D)} {i : Int} {d : D} (h : kTabI i tab = some d) : Wp (fIxI tab (.int i) z) Q E = Q d z := by
  show Wp (mOpt _ z) _ _ = _
  rw [h, W_opt]
/-! tuples of ints -/
def intsD' (xs : List Int) : List D := xs.map D.int
theorem ints_sc {xs : List Int} : (xs.map D.int).all D.isSc = true := by
  rw [List.all_eq_true]
  intro x h
  obtain ⟨i, _, rfl⟩ := List.mem_map.mp h
  rfl
theorem ints_in {i : Int} {xs : List Int} : inL (.int i) (xs.map D.int) = decide (i ∈ xs) := by
  have e : ∀ y : Int, eqF (.int y) (.int i) = decide (y = i) := fun y => id rfl
  induction xs with
  | nil => rfl
  | cons x r ih =>
    unfold inL at ih ⊢
    rw [List.map_cons, List.any_cons, ih, e]
    by_cases c : x = i
    · simp [c]
    · have : ¬ i = x := fun q => c q.symm
      simp [c, this]
theorem ints_plain {xs : List Int} : (D.tup (xs.map D.int)).plain = true := by
  have : D.plainAll (xs.map D.int) = true := plainAll_iff.mpr fun x h => by
    obtain ⟨i, _, rfl⟩ := List.mem_map.mp h
    rfl
  simpa [D.plain] using this
theorem ints_deep {xs : List Int} : (D.py (.tup (xs.map D.int))).depth < 64 := by
  simp only [D.py, PyData.depth]
  have := depthAll_le (n := 0) (xs := xs.map D.int) fun x h => by
    obtain ⟨i, _, rfl⟩ := List.mem_map.mp h
    exact Nat.le_refl _
  omega
theorem eqv_ints : ∀ {xs ys : List Int}, PyData.eqvAll (D.pyAll (xs.map D.int)) (D.pyAll (ys.map D.int)) = decide (xs = ys)
  | [], [] => rfl
  | [], _ :: _ => rfl
  | _ :: _, [] => rfl
  | x :: xs, y :: ys => by
    simp only [List.map_cons, D.pyAll, D.py, PyData.eqvAll, eqv_ints (xs := xs) (ys := ys), PyData.eqv]
    by_cases c : x = y
    · subst c; simp
    · simp [c]
theorem W_eqInts {xs ys : List Int} : Wp (fEq (.tup (xs.map D.int)) (.tup (ys.map D.int)) z) Q E = Q (.bl (decide (xs = ys))) z := by
  rw [W_eqP ints_plain ints_plain ints_deep ints_deep rfl]
  show Q (.bl (PyData.eqvAll (D.pyAll (xs.map D.int)) (D.pyAll (ys.map D.int)))) z = _
  rw [eqv_ints]
theorem W_neInts {xs ys : List Int} : Wp (fNe (.tup (xs.map D.int)) (.tup (ys.map D.int)) z) Q E = Q (.bl (!decide (xs = ys))) z := by
  have a := W_eqInts (z := z) (Q := fun x z' => Q (.bl (match x with | .bl b => !b | _ => false)) z') (E := E) (xs := xs) (ys := ys)
  unfold fEq fNe at *
  cases q : fEq0 (.tup (xs.map D.int)) (.tup (ys.map D.int)) z with
  | none => rw [q] at a; simp only [W_no] at a ⊢; exact a
  | some b => rw [q] at a; simp only [W_ok] at a ⊢; exact a
end
end UW
namespace UW
open PySem
section
variable {z : PH} {Q : D → PH → Prop} {E : XD}
theorem W_reprL {r n k : Nat} {xs : List D} (h : z.get r = some (.lst xs)) (hx : ∀ x ∈ xs, Pn n k x) (hn : n < 49) (hk : 4 + xs.length * (k + 2) ≤ 16777216) : Wp (fRepr [.ref r] z) Q E = Q (.rep (.list (D.pyAll xs))) z := by
  have f := frz_lst h hx (by omega)
  have o : okShow (.list (D.pyAll xs)) = true := by
    have e : line = 16777216 := rfl
    have s := szAll_le fun x m => (hx x m).sz
    have d := depthAll_le fun x m => (hx x m).deep
    have a1 : fitAll (D.pyAll xs) = true := fitAll_of fun x m => (hx x m).fit
    have a2 : 4 + szAll (D.pyAll xs) ≤ line := by rw [e]; exact Nat.le_trans (Nat.add_le_add_left s 4) hk
    have a3 : (PyData.list (D.pyAll xs)).depth ≤ 50 := by
      simp only [PyData.depth]
      omega
    have e1 : fitS (.list (D.pyAll xs)) = true := a1
    have e2 : decide (szB (.list (D.pyAll xs)) ≤ line) = true := decide_eq_true a2
    have e3 : decide ((PyData.list (D.pyAll xs)).depth ≤ 50) = true := decide_eq_true a3
    unfold okShow
    rw [e1, e2, e3]
    rfl
  have : fRepr [.ref r] z = .ok (.rep (.list (D.pyAll xs))) z := by
    unfold fRepr
    simp only [f, o, if_true]
  rw [this, W_ok]
theorem intsTo_is : ∀ n : Nat, intsTo n = (List.range n).map fun (k : Nat) => D.int (k : Int)
  | 0 => rfl
  | n + 1 => by rw [intsTo, intsTo_is n, List.range_succ, List.map_append]; rfl
theorem W_tupRg {n : Nat} (h : n ≤ 1000000) : Wp (fTupRg (.int (n : Int)) z) Q E = Q (.tup ((List.range n).map fun (k : Nat) => D.int (k : Int))) z := by
  show Wp ((if 0 ≤ (n : Int) ∧ (n : Int) ≤ 1000000 then mPure (.tup (intsTo (n : Int).toNat)) else mBad : M D) z) Q E = _
  rw [W_ite1 ⟨by omega, by omega⟩, W_pure, Int.toNat_natCast, intsTo_is]
end
end UW
namespace UW
open PySem
section
variable {z : PH} {Q : D → PH → Prop} {QT : Bool → PH → Prop} {QI : Wk → PH → Prop} {QS : Fl × Env → PH → Prop} {E : XD} {ρ : Env}
theorem W_truI {i : Int} : Wp (fTru (.int i) z) QT E = QT (decide (i ≠ 0)) z := by
  show Wp (mPure _ z) QT E = _
  rw [W_pure]
theorem W_iConst {xs : List D} : Wp (iConst xs ρ z) QI E = QI (wkList xs) z := by
  show Wp (mPure _ z) QI E = _
  rw [W_pure]
theorem W_aug {i : Nat} {f : D → D → M D} {e : DE} : Wp (sAug i f e ρ z) QS E = Wp (dVar i ρ z) (fun x z1 => Wp (e ρ z1) (fun y z2 => Wp (f x y z2) (fun d z3 => QS (.nx, ρ.set i (some d)) z3) E) E) E := by
  show Wp (mBind _ _ _) _ _ = _
  rw [W_bind]
  refine wp_ext fun x z1 => ?_
  rw [W_bind]
  refine wp_ext fun y z2 => ?_
  rw [W_bind]
  refine wp_ext fun d z3 => ?_
  rw [W_pure]
/-- a while by an invariant: i turns are done, at most n -/
theorem sat_while {c : DT} {b : DS} (n : Nat) (I : Nat → Env → PH → Prop) (hn : n < maxTurns)
    (test : ∀ i ρ z', I i ρ z' → Wp (c ρ z') (fun k z1 => if k = true then i < n ∧ Wp (b ρ z1) (fun p z2 => p.1 = .nx ∧ I (i + 1) p.2 z2) E else QS (.nx, ρ) z1) E) (start : I 0 ρ z) : Wp (sWhile c b ρ z) QS E := by
  have key : ∀ m i ρ z, I i ρ z → i ≤ n → n - i < m → Wp (loopW c b m ρ z) QS E := by
    intro m
    induction m with
    | zero => intro i ρ z _ _ h; omega
    | succ m ih =>
      intro i ρ z hI hi hm
      show Wp (mBind (c ρ) _ z) _ _
      rw [W_bind]
      refine mono_wp (test i ρ z hI) (fun k z1 q => ?_) fun _ _ _ q => q
      cases k with
      | false =>
        simp only [Bool.false_eq_true, if_false] at q ⊢
        rw [W_pure]
        exact q
      | true =>
        simp only [if_true] at q ⊢
        obtain ⟨q1, q2⟩ := q
        rw [W_bind]
        refine mono_wp q2 (fun p z2 q => ?_) fun _ _ _ q => q
        obtain ⟨f, ρ2⟩ := p
        obtain ⟨rfl, q⟩ := q
        exact ih (i + 1) ρ2 z2 q (by omega) (by omega)
  exact key maxTurns 0 ρ z start (Nat.zero_le _) (by omega)
end
end UW

/-! Q11 -/
/-! dicts: dict(x), get, sets of ints, a dict that is only read -/
namespace UW
open PySem
section
variable {z : PH} {Q : D → PH → Prop} {QI : Wk → PH → Prop} {E : XD} {ρ : Env}
theorem W_fDct {r : Nat} {kvs : List (D × D)} (h : z.get r = some (.dct kvs)) : Wp (fDct (.ref r) z) Q E = Q (.ref r) z := by
  show Wp (mGet (.ref r) _ z) Q E = _
  rw [W_get, h]
  show Wp (mPure _ z) Q E = _
  rw [W_pure]
theorem W_fGet1 {r : Nat} {kvs : List (D × D)} {y : D} (h : z.get r = some (.dct kvs)) (hk : y.isKey = true) : Wp (fGet1 (.ref r) y z) Q E = Q ((kGet y kvs).getD .non) z := by
  show Wp (mGet (.ref r) _ z) Q E = _
  rw [W_get, h]
  show Wp ((if y.isKey = true then mPure ((kGet y kvs).getD .non) else mBad : M D) z) Q E = _
  rw [if_pos hk, W_pure]
theorem W_fGet2 {r : Nat} {kvs : List (D × D)} {y d : D} (h : z.get r = some (.dct kvs)) (hk : y.isKey = true) : Wp (fGet2 (.ref r) y d z) Q E = Q ((kGet y kvs).getD d) z := by
  show Wp (mGet (.ref r) _ z) Q E = _
  rw [W_get, h]
  show Wp ((if y.isKey = true then mPure ((kGet y kvs).getD d) else mBad : M D) z) Q E = _
  rw [if_pos hk, W_pure]
theorem W_get1 {o e : DE} : Wp (dGet1 o e ρ z) Q E = Wp (o ρ z) (fun x z1 => Wp (fDct x z1) (fun _ z2 => Wp (e ρ z2) (fun y z3 => Wp (fGet1 x y z3) Q E) E) E) E := by
  show Wp (mBind _ _ _) Q E = _
  rw [W_bind]
  refine wp_ext fun x z1 => ?_
  rw [W_bind]
  refine wp_ext fun _ z2 => ?_
  rw [W_bind]
theorem W_get2 {o e f : DE} : Wp (dGet2 o e f ρ z) Q E = Wp (o ρ z) (fun x z1 => Wp (fDct x z1) (fun _ z2 => Wp (e ρ z2) (fun y z3 => Wp (f ρ z3) (fun d z4 => Wp (fGet2 x y d z4) Q E) E) E) E) E := by
  show Wp (mBind _ _ _) Q E = _
  rw [W_bind]
  refine wp_ext fun x z1 => ?_
  rw [W_bind]
  refine wp_ext fun _ z2 => ?_
  rw [W_bind]
  refine wp_ext fun y z3 => ?_
  rw [W_bind]
theorem W_dictD {r : Nat} {kvs : List (D × D)} (h : z.get r = some (.dct kvs)) : Wp (fDictOf [.ref r] z) Q E = Q (.ref z.n) (z.new (.dct kvs)) := by
  show Wp (mGet (.ref r) (fun _ o => fDictO o) z) Q E = _
  rw [W_get, h]
  show Wp (mNew _ z) Q E = _
  rw [W_new]
theorem W_dictL {r : Nat} {xs : List D} {kvs : List (D × D)} (h : z.get r = some (.lst xs)) (hp : pairsD xs = some kvs) (hk : (kvs.all fun p => p.1.isKey) = true) : Wp (fDictOf [.ref r] z) Q E = Q (.ref z.n) (z.new (.dct (kMerge kvs))) := by
  show Wp (mGet (.ref r) (fun _ o => fDictO o) z) Q E = _
  rw [W_get, h]
  show Wp ((match pairsD xs with | some kvs => if (kvs.all fun p => p.1.isKey) = true then mNew (.dct (kMerge kvs)) else mBad | none => mBad : M D) z) Q E = _
  rw [hp]
  show Wp ((if (kvs.all fun p => p.1.isKey) = true then mNew (.dct (kMerge kvs)) else mBad : M D) z) Q E = _
  rw [if_pos hk, W_new]
theorem pairs_map {α : Type} {f : α → D × D} : ∀ {xs : List α}, pairsD (xs.map fun x => .tup [(f x).1, (f x).2]) = some (xs.map f)
  | [] => rfl
  | x :: r => by
    rw [List.map_cons]
    show (match pairsD (r.map fun x => .tup [(f x).1, (f x).2]) with | some kvs => some (((f x).1, (f x).2) :: kvs) | none => none) = _
    rw [pairs_map]
    rfl
theorem W_setS {r : Nat} {ns : List Int} (h : z.get r = some (.lst (ns.map D.int))) (hl : ns.length < 64) : Wp (fSetS (.ref r) z) Q E = Q (.ref z.n) (z.new (.lst ((sortU ns).map D.int))) := by
  show Wp (mGet (.ref r) _ z) Q E = _
  rw [W_get, h]
  show Wp ((match intsD (ns.map D.int) with | some ns => if ns.length < 64 then mNew (.lst ((sortU ns).map D.int)) else mBad | none => mBad : M D) z) Q E = _
  rw [intsD_map]
  show Wp ((if ns.length < 64 then mNew (.lst ((sortU ns).map D.int)) else mBad : M D) z) Q E = _
  rw [if_pos hl, W_new]
/-- a dict that is only read: what runs finds it so, and leaves it so -/
theorem sat_lock {i r : Nat} {e : DE} {kvs : List (D × D)} (hρ : ρ[i]? = some (some (.ref r))) (h : z.get r = some (.dct kvs)) (he : Wp (e ρ (z.put r (.fdct kvs) [])) (fun d z2 => z2.get r = some (.fdct kvs) ∧ Q d (z2.put r (.dct kvs) [])) (fun _ _ _ => False)) : Wp (dLock i e ρ z) Q E := by
  unfold dLock
  rw [hρ]
  simp only [h]
  cases hh : e ρ (z.put r (.fdct kvs) []) with
  | ok d z2 =>
    rw [hh, W_ok] at he
    simp only [he.1, W_ok]
    exact he.2
  | exc c fs z2 => rw [hh, W_exc] at he; exact he.elim
  | bad => rw [hh, W_no] at he; exact he.elim
theorem W_iKeysD {e : DE} : Wp (iKeysD e ρ z) QI E = Wp (e ρ z) (fun x z1 => Wp (mGet x (fun r o => match o with | .fdct _ => mPure (wkKeys r) | _ => mBad) z1) QI E) E := by
  show Wp (mBind _ _ _) QI E = _
  first | exact W_bind | (rw [W_bind]; rfl)
theorem W_keysR {r : Nat} {kvs : List (D × D)} (h : z.get r = some (.fdct kvs)) : Wp (mGet (.ref r) (fun r o => match o with | .fdct _ => mPure (wkKeys r) | _ => mBad) z) QI E = QI (wkKeys r) z := by
  rw [W_get, h]
  show Wp (mPure _ z) QI E = _
  rw [W_pure]
theorem wkk_get {r : Nat} {kvs : List (D × D)} (h : z.get r = some (.fdct kvs)) (i : Nat) : wkKeys r i z = match (kvs.map (·.1))[i]? with | some d => .item d | none => .stop := by
  unfold wkKeys
  rw [h, List.getElem?_map]
  show (match kvs[i]? with | some p => ItR.item p.1 | none => ItR.stop) = _
  cases kvs[i]? <;> rfl
/-- as sat_mcut; nothing is forgotten where something older tells of what was made -/
theorem sat_mcutL {m : M D} {Q : D → PH → Prop} (h : Wp (m z) (fun d z1 => z.n ≤ z1.n ∧ ∀ z2, z.n ≤ z2.n → (∀ k, k < z.n → z2.get k = z1.get k) → (d.lt z.n = false ∨ z1.lowOk z.n = false → z2 = z1) → Q d z2) E) : Wp (mCut m z) Q E := by
  unfold mCut
  cases e : m z with
  | ok d z1 =>
    rw [e, W_ok] at h
    obtain ⟨hn, hq⟩ := h
    simp only
    by_cases c : d.lt z.n = true
    · rw [if_pos c, W_ok]
      refine hq _ (PH.n_cut hn) (fun k hk => PH.get_cut hn hk) (fun q => ?_)
      rcases q with q | q
      · exact absurd c (by rw [q]; exact Bool.false_ne_true)
      · unfold PH.cut
        rw [if_neg (by rw [q]; exact Bool.false_ne_true)]
    · rw [if_neg c, W_ok]
      exact hq _ hn (fun _ _ => rfl) (fun _ => rfl)
  | exc c fs z1 => rw [e, W_exc] at h; simp only; rw [W_exc]; exact h
  | bad => rw [e, W_no] at h; exact h.elim
theorem low_put {r k : Nat} {o : PO} {vs : List D} (h : D.ltAll (r + 1) vs = false) (hk : r < k) : (z.put r o vs).lowOk k = false := by
  unfold PH.lowOk PH.put
  simp only [h]
  cases z.low with
  | none => simp; omega
  | some l => simp; omega
theorem W_ixFd {kvs : List (D × D)} {k : D} : Wp (fIxO k (.fdct kvs) z) Q E = Wp ((if k.isKey = true then mOpt (kGet k kvs) else mBad : M D) z) Q E := by unfold Wp; rfl
/-- pairs with distinct keys make the dict as they stand -/
theorem kMerge_nod {kvs : List (D × D)} (h : kvs.Pairwise fun p q => kEq p.1 q.1 = false) : kMerge kvs = kvs := by
  have key : ∀ {kvs acc : List (D × D)}, (∀ p ∈ acc, ∀ q ∈ kvs, kEq p.1 q.1 = false) → kvs.Pairwise (fun p q => kEq p.1 q.1 = false) → kvs.foldl (fun acc p => kPut p.1 p.2 acc) acc = acc ++ kvs := by
    intro kvs
    induction kvs with
    | nil => intro acc _ _; simp
    | cons x r ih =>
      intro acc h1 h2
      rw [List.pairwise_cons] at h2
      have hp : kPut x.1 x.2 acc = acc ++ [x] := by
        unfold kPut
        rw [if_neg]
        rw [Bool.not_eq_true, List.any_eq_false]
        intro p hp
        rw [h1 p hp x List.mem_cons_self]
        exact Bool.false_ne_true
      rw [List.foldl_cons, hp, ih (fun p hpm q hq => ?_) h2.2, List.append_assoc]
      · rfl
      · rcases List.mem_append.mp hpm with hpm | hpm
        · exact h1 p hpm q (List.mem_cons_of_mem _ hq)
        · rw [List.mem_singleton.mp hpm]
          exact h2.1 q hq
  have := key (kvs := kvs) (acc := []) (fun p hp => nomatch hp) h
  rw [List.nil_append] at this
  exact this
end
end UW

/-! Q12 -/
/-! sorted of a dict's keys -/
namespace UW
open PySem
section
variable {z : PH} {Q : D → PH → Prop} {E : XD} {ρ : Env}
theorem W_sortKD {r : Nat} {kvs : List (D × D)} {ns : List Int} (h : z.get r = some (.dct kvs)) (hk : keysI kvs = some ns) (hl : ns.length ≤ 10000) : Wp (fSortIA [.ref r] z) Q E = Q (.ref z.n) (z.new (.lst ((sortZ ns).map D.int))) := by
  show Wp (mGet (.ref r) (fun _ o => fSortK o) z) Q E = _
  rw [W_get, h]
  show Wp ((match keysI kvs with | some ns => if ns.length ≤ 10000 then mNew (.lst ((sortZ ns).map D.int)) else mBad | none => mBad : M D) z) Q E = _
  rw [hk]
  show Wp ((if ns.length ≤ 10000 then mNew (.lst ((sortZ ns).map D.int)) else mBad : M D) z) Q E = _
  rw [if_pos hl, W_new]
theorem W_sortIL {r : Nat} {ns : List Int} (h : z.get r = some (.lst (ns.map D.int))) : Wp (fSortIA [.ref r] z) Q E = Q (.ref z.n) (z.new (.lst ((sortZ ns).map D.int))) := by
  show Wp (mGet (.ref r) (fun _ o => fSortK o) z) Q E = _
  rw [W_get, h]
  show Wp ((match intsD (ns.map D.int) with | some ns => mNew (.lst ((sortZ ns).map D.int)) | none => mBad : M D) z) Q E = _
  rw [intsD_map, W_new]
end
end UW

/-! Q13 -/
/-! index, pop, +=, dict(pairs), stars in tuple displays -/
namespace UW
open PySem
section
variable {z : PH} {Q : D → PH → Prop} {QA : List D → PH → Prop} {QT : Bool → PH → Prop} {E : XD} {ρ : Env}
theorem pos_in {x : D} : ∀ {xs : List D}, inL x xs = (posL x xs).isSome
  | [] => rfl
  | y :: r => by
    show (eqF y x || inL x r) = _
    unfold posL
    by_cases c : eqF y x = true
    · rw [if_pos c, c]; rfl
    · rw [if_neg c, Bool.eq_false_iff.mpr c, Bool.false_or, pos_in]
      cases posL x r <;> rfl
theorem W_index {o e : DE} : Wp (dIndex o e ρ z) Q E = Wp (o ρ z) (fun x z1 => Wp (fLstQ x z1) (fun _ z2 => Wp (e ρ z2) (fun y z3 => Wp (fIndex x y z3) Q E) E) E) E := by
  show Wp (mBind _ _ _) _ _ = _
  rw [W_bind]
  refine wp_ext fun x z1 => ?_
  rw [W_bind]
  refine wp_ext fun _ z2 => ?_
  first | exact W_bind | rw [W_bind]
theorem W_fIndex {r j : Nat} {y : D} {xs : List D} (h : z.get r = some (.lst xs)) (hy : y.isSc = true) (hs : xs.all D.isSc = true) (hp : posL y xs = some j) : Wp (fIndex (.ref r) y z) Q E = Q (.int (j : Int)) z := by
  show Wp (mGet (.ref r) _ z) Q E = _
  rw [W_get, h]
  show Wp ((if y.isSc = true ∧ xs.all D.isSc = true then (match posL y xs with | some j => mPure (.int (j : Int)) | none => mBad) else mBad : M D) z) Q E = _
  rw [W_ite1 ⟨hy, hs⟩, hp]
  show Wp (mPure _ z) Q E = _
  rw [W_pure]
theorem W_dictT {xs : List D} {kvs : List (D × D)} (hp : pairsD xs = some kvs) (hk : (kvs.all fun p => p.1.isKey) = true) : Wp (fDictB [.tup xs] z) Q E = Q (.ref z.n) (z.new (.dct (kMerge kvs))) := by
  show Wp ((match pairsD xs with | some kvs => if (kvs.all fun p => p.1.isKey) = true then mNew (.dct (kMerge kvs)) else mBad | none => mBad : M D) z) Q E = _
  rw [hp]
  show Wp ((if (kvs.all fun p => p.1.isKey) = true then mNew (.dct (kMerge kvs)) else mBad : M D) z) Q E = _
  rw [W_ite1 hk, W_new]
theorem W_truL {r : Nat} {xs : List D} (h : z.get r = some (.lst xs)) : Wp (fTru (.ref r) z) QT E = QT (!xs.isEmpty) z := by
  unfold fTru
  rw [W_get, h]
  show Wp (mPure _ z) QT E = _
  rw [W_pure]
theorem W_popL {r : Nat} {xs : List D} {y : D} (h : z.get r = some (.lst (xs ++ [y]))) : Wp (fPopL (.ref r) z) Q E = Q y (z.put r (.lst xs) []) := by
  show Wp (mGet (.ref r) _ z) Q E = _
  rw [W_get, h]
  have e : (xs ++ [y])[(xs ++ [y]).length - 1]? = some y := by simp
  show Wp ((match (xs ++ [y])[(xs ++ [y]).length - 1]? with | some y' => mBind (mPut r (.lst (xs ++ [y]).dropLast) []) (fun _ => mPure y') | none => mBad : M D) z) Q E = _
  rw [e]
  show Wp (mBind (mPut r (.lst (xs ++ [y]).dropLast) []) (fun _ => mPure y) z) Q E = _
  rw [W_bind, W_put, W_pure, List.dropLast_concat]
theorem W_iaddL {r r' : Nat} {xs ys : List D} (h : z.get r = some (.lst xs)) (h' : z.get r' = some (.lst ys)) (hl : xs.length + ys.length ≤ line) : Wp (fIAdd (.ref r) (.ref r') z) Q E = Q (.ref r) (z.put r (.lst (xs ++ ys)) ys) := by
  show Wp (mGet (.ref r) (fun r o => fIAddO (.ref r') r o) z) Q E = _
  rw [W_get, h]
  show Wp (mGet (.ref r') (fun _ o' => fIAddL r xs o') z) Q E = _
  rw [W_get, h']
  show Wp ((if xs.length + ys.length ≤ line then mBind (mPut r (.lst (xs ++ ys)) ys) (fun _ => mPure (D.ref r)) else mBad : M D) z) Q E = _
  rw [W_ite1 hl, W_bind, W_put, W_pure]
theorem W_aStarT {a : DE} {r : DA} : Wp (aStar a r ρ z) QA E = Wp (a ρ z) (fun x z1 => Wp (fItems x z1) (fun xs z2 => Wp (r ρ z2) (fun ys z3 => QA (xs ++ ys) z3) E) E) E := by
  show Wp (mBind _ _ _) _ _ = _
  rw [W_bind]
  refine wp_ext fun x z1 => ?_
  rw [W_bind]
  refine wp_ext fun xs z2 => ?_
  rw [W_bind]
  exact wp_ext fun ys z3 => W_pure
theorem W_itemsT {xs : List D} : Wp (fItems (.tup xs) z) QA E = QA xs z := by unfold Wp; rfl
theorem W_tupS {xs : List D} (h : xs.length ≤ 100000) : Wp (fTupS xs z) Q E = Q (.tup xs) z := by
  show Wp ((if xs.length ≤ line then mPure (.tup xs) else mBad : M D) z) Q E = _
  rw [W_ite1 (Nat.le_trans h (by decide)), W_pure]
end
end UW

/-! L25 -/
set_option genInjectivity false
set_option genSizeOf false
namespace Law
open PySem PySem.Spec PyProof.Rows L2 UW
def top (i : Nat) : Stmt := PySem.Challenge.pw_unwindrows_k25_scripts_refused.main.body.getD i (.Pass ⟨0, 0, 0, 0⟩)
/-! ### the text -/
abbrev s_is_between : Stmt := top 17
abbrev n_is_between : List Str := ["thing", "least", "most"]
abbrev p_is_between : List Str := ["thing", "least", "most"]
theorem sc_is_between : FnScope n_is_between p_is_between (defScope s_is_between) := ⟨rfl, rfl, rfl, by decide +kernel, rfl, by decide +kernel, by decide +kernel⟩
abbrev s_is_basis : Stmt := top 18
abbrev n_is_basis : List Str := ["thing"]
abbrev p_is_basis : List Str := ["thing"]
theorem sc_is_basis : FnScope n_is_basis p_is_basis (defScope s_is_basis) := ⟨rfl, rfl, rfl, by decide +kernel, rfl, by decide +kernel, by decide +kernel⟩
abbrev s_are_wheres : Stmt := top 25
abbrev n_are_wheres : List Str := ["things", "thing", "is_good", "word", "which", "is_number"]
abbrev p_are_wheres : List Str := ["things"]
theorem sc_are_wheres : FnScope n_are_wheres p_are_wheres (defScope s_are_wheres) := ⟨rfl, rfl, rfl, by decide +kernel, rfl, by decide +kernel, by decide +kernel⟩
abbrev s__are_sets : Stmt := top 29
abbrev n__are_sets : List Str := ["thing", "parts", "pair", "part", "_"]
abbrev p__are_sets : List Str := ["thing"]
theorem sc__are_sets : FnScope n__are_sets p__are_sets (defScope s__are_sets) := ⟨rfl, rfl, rfl, by decide +kernel, rfl, by decide +kernel, by decide +kernel⟩
abbrev s__replaced : Stmt := top 31
abbrev n__replaced : List Str := ["parts", "sets", "replaced", "part", "old"]
abbrev p__replaced : List Str := ["parts", "sets"]
theorem sc__replaced : FnScope n__replaced p__replaced (defScope s__replaced) := ⟨rfl, rfl, rfl, by decide +kernel, rfl, by decide +kernel, by decide +kernel⟩
abbrev s__law_mixed : Stmt := top 37
abbrev n__law_mixed : List Str := ["cell", "k"]
abbrev p__law_mixed : List Str := ["cell", "k"]
theorem sc__law_mixed : FnScope n__law_mixed p__law_mixed (defScope s__law_mixed) := ⟨rfl, rfl, rfl, by decide +kernel, rfl, by decide +kernel, by decide +kernel⟩
abbrev s__law_begin : Stmt := top 38
abbrev n__law_begin : List Str := ["script", "cells", "cell"]
abbrev p__law_begin : List Str := ["script"]
theorem sc__law_begin : FnScope n__law_begin p__law_begin (defScope s__law_begin) := ⟨rfl, rfl, rfl, by decide +kernel, rfl, by decide +kernel, by decide +kernel⟩
abbrev s__law_raised : Stmt := top 41
abbrev n__law_raised : List Str := ["asked", "caught", "e"]
abbrev p__law_raised : List Str := ["asked"]
theorem sc__law_raised : FnScope n__law_raised p__law_raised (defScope s__law_raised) := ⟨rfl, rfl, rfl, by decide +kernel, rfl, by decide +kernel, by decide +kernel⟩
abbrev s_is_finding : Stmt := top 24
abbrev n_is_finding : List Str := ["thing", "basis", "offset"]
abbrev p_is_finding : List Str := ["thing"]
theorem sc_is_finding : FnScope n_is_finding p_is_finding (defScope s_is_finding) := ⟨rfl, rfl, rfl, by decide +kernel, rfl, by decide +kernel, by decide +kernel⟩
abbrev s__is_group : Stmt := top 30
abbrev n__is_group : List Str := ["thing", "least", "most", "place", "again", "sets", "keeps"]
abbrev p__is_group : List Str := ["thing", "least", "most"]
theorem sc__is_group : FnScope n__is_group p__is_group (defScope s__is_group) := ⟨rfl, rfl, rfl, by decide +kernel, rfl, by decide +kernel, by decide +kernel⟩
abbrev s__law_draw : Stmt := top 39
abbrev n__law_draw : List Str := ["state", "many", "at", "place", "left", "number"]
abbrev p__law_draw : List Str := ["state", "many"]
theorem sc__law_draw : FnScope n__law_draw p__law_draw (defScope s__law_draw) := ⟨rfl, rfl, rfl, by decide +kernel, rfl, by decide +kernel, by decide +kernel⟩
abbrev s_is_rule : Stmt := top 26
abbrev n_is_rule : List Str := ["finding", "sites", "where"]
abbrev p_is_rule : List Str := ["finding", "sites"]
theorem sc_is_rule : FnScope n_is_rule p_is_rule (defScope s_is_rule) := ⟨rfl, rfl, rfl, by decide +kernel, rfl, by decide +kernel, by decide +kernel⟩
abbrev s__law_of : Stmt := top 40
abbrev n__law_of : List Str := ["state", "some"]
abbrev p__law_of : List Str := ["state", "some"]
theorem sc__law_of : FnScope n__law_of p__law_of (defScope s__law_of) := ⟨rfl, rfl, rfl, by decide +kernel, rfl, by decide +kernel, by decide +kernel⟩
abbrev s__done : Stmt := top 32
abbrev n__done : List Str := ["thing", "least", "most", "pile", "rows", "finding", "sites", "index", "group", "place", "again", "sets", "keeps", "others"]
abbrev p__done : List Str := ["thing"]
theorem sc__done : FnScope n__done p__done (defScope s__done) := ⟨rfl, rfl, rfl, by decide +kernel, rfl, by decide +kernel, by decide +kernel⟩
abbrev s__law_spoilt : Stmt := top 42
abbrev n__law_spoilt : List Str := ["state", "spot", "least", "sets", "some", "places", "one"]
abbrev p__law_spoilt : List Str := ["state", "spot", "least"]
theorem sc__law_spoilt : FnScope n__law_spoilt p__law_spoilt (defScope s__law_spoilt) := ⟨rfl, rfl, rfl, by decide +kernel, rfl, by decide +kernel, by decide +kernel⟩
abbrev s_need_script : Stmt := top 33
abbrev n_need_script : List Str := ["thing"]
abbrev p_need_script : List Str := ["thing"]
theorem sc_need_script : FnScope n_need_script p_need_script (defScope s_need_script) := ⟨rfl, rfl, rfl, by decide +kernel, rfl, by decide +kernel, by decide +kernel⟩
abbrev s_expanded : Stmt := top 34
abbrev n_expanded : List Str := ["groups"]
abbrev p_expanded : List Str := ["groups"]
theorem sc_expanded : FnScope n_expanded p_expanded (defScope s_expanded) := ⟨rfl, rfl, rfl, by decide +kernel, rfl, by decide +kernel, by decide +kernel⟩
abbrev s_size_of : Stmt := top 35
abbrev n_size_of : List Str := ["groups", "_", "again", "sets", "keeps"]
abbrev p_size_of : List Str := ["groups"]
theorem sc_size_of : FnScope n_size_of p_size_of (defScope s_size_of) := ⟨rfl, rfl, rfl, by decide +kernel, rfl, by decide +kernel, by decide +kernel⟩
abbrev s__law_refused : Stmt := top 43
abbrev n__law_refused : List Str := ["groups", "due", "told"]
abbrev p__law_refused : List Str := ["groups", "due"]
theorem sc__law_refused : FnScope n__law_refused p__law_refused (defScope s__law_refused) := ⟨rfl, rfl, rfl, by decide +kernel, rfl, by decide +kernel, by decide +kernel⟩
abbrev s_law : Stmt := top 44
abbrev n_law : List Str := ["script", "state", "turn", "thing", "groups", "first", "many", "at", "good", "again", "blind", "k"]
abbrev p_law : List Str := ["script"]
theorem sc_law : FnScope n_law p_law (defScope s_law) := ⟨rfl, rfl, rfl, by decide +kernel, rfl, by decide +kernel, by decide +kernel⟩
abbrev s_init_BadScript : Stmt := inClass (top 8) 0
theorem sc_init_BadScript : FnScope ["self", "index"] ["self", "index"] (defScope s_init_BadScript) := ⟨rfl, rfl, rfl, by decide +kernel, rfl, by decide +kernel, by decide +kernel⟩
/-! ### constants -/
abbrev k_REGISTERS : D := (.tup [(.str "p"), (.str "q"), (.str "r"), (.str "s"), (.str "x"), (.str "y")])
abbrev k_MOST_CODE : D := (.int 60)
abbrev k_MOST_WORDS : D := (.int 64)
abbrev k_ITEMS : D := (.tup [(.str "back"), (.str "p"), (.str "q"), (.str "r"), (.str "s")])
abbrev k_ENTRY : D := (.tup [(.tup [(.str "sp"), (.int 0)]), (.tup [(.tup [(.str "word"), (.int 0)]), (.tup [(.str "in"), (.str "p")]), (.tup [(.str "in"), (.str "q")]), (.tup [(.str "in"), (.str "r")]), (.tup [(.str "in"), (.str "s")])])])
abbrev k_PARTS : D := (.tup [(.str "base"), (.str "back"), (.str "p"), (.str "q"), (.str "r"), (.str "s")])
abbrev k_MOST_FINDING : D := (.int 128)
abbrev k_MOST_KEEPS : D := (.int 60)
abbrev it_BadCode : List (Str × Bool) := [("BadScript", false)]
abbrev it_BadPath : List (Str × Bool) := [("BadScript", false)]
abbrev it_BadPlace : List (Str × Bool) := [("BadScript", false)]
abbrev it_BadItem : List (Str × Bool) := [("BadScript", false)]
abbrev it_BadTable : List (Str × Bool) := [("BadScript", false)]
abbrev it_BadPaper : List (Str × Bool) := [("BadScript", false)]
abbrev it_BadScript : List (Str × Bool) := [("BadScript", true)]
abbrev it_BadHouse : List (Str × Bool) := [("BadScript", false)]
abbrev it_BadText : List (Str × Bool) := [("BadScript", false)]
abbrev it_TooMany : List (Str × Bool) := [("BadScript", false)]
abbrev it_NeverThere : List (Str × Bool) := [("BadScript", false)]
abbrev xt_UnwindError : List (Str × Bool) := [("BadScript", true)]
abbrev xs_index : List Str := ["BadScript"]
abbrev xs_place : List Str := []
abbrev xs_value : List Str := []
abbrev xs_row : List Str := []
abbrev xs_number : List Str := []
abbrev xs_line : List Str := []
abbrev xs_word : List Str := []
abbrev xs_most : List Str := []
/-! ### what each def does -/
def d_is_between : DF := dFun 3 (sRet (dAnd (d1 (fIsi "int") (dVar 0)) (dAnd (dNot (d1 (fIsi "bool") (dVar 0))) (dChain (fI0 fun i j => .bl (decide (i ≤ j))) (fI0 fun i j => .bl (decide (i ≤ j))) (dVar 1) (dVar 0) (dVar 2)))))
def d_is_basis : DF := dFun 1 (sRet (dAnd (d1 (fIsi "str") (dVar 0)) (dOr (d2 fEq (dVar 0) (dC (.str "sp"))) (d2 fIn (dVar 0) (dC k_REGISTERS)))))
def d_are_wheres : DF := dFun 6 (sSeq (sFor (iAny (dVar 0)) (gNm 1)
      (sSeq (sIf (tNotD (tBool (d1 (fIsi "tuple") (dVar 1)))) (sRet (dC (.bl false))) sNext)
      (sSeq (sIf (tBool (d2 fEq (dN fLen (aCons (dVar 1) aNil)) (dC (.int 2)))) (sSeq (sAsg (dVar 1) (gTp [(gNm 3), (gNm 4)]))
      (sIf (tBool (d1 (fIsi "str") (dVar 4))) (sAsg (dAnd (d1 (fIsi "str") (dVar 3)) (dAnd (d2 fEq (dVar 3) (dC (.str "in"))) (d2 fIn (dVar 4) (dC k_REGISTERS)))) (gNm 2)) (sSeq (sAsg (dAnd (d1 (fIsi "int") (dVar 4)) (dNot (d1 (fIsi "bool") (dVar 4)))) (gNm 5))
      (sAsg (dAnd (d1 (fIsi "str") (dVar 3)) (dAnd (d2 fEq (dVar 3) (dC (.str "word"))) (dAnd (dVar 5) (dChain (fI0 fun i j => .bl (decide (i ≤ j))) (fI0 fun i j => .bl (decide (i ≤ j))) (d1 fNeg (dC k_MOST_WORDS)) (dVar 4) (dC (.int 0)))))) (gNm 2))))) (sAsg (dAnd (d2 fEq (dN fLen (aCons (dVar 1) aNil)) (dC (.int 1))) (dAnd (d1 (fIsi "str") (d2 fIx (dVar 1) (dC (.int 0)))) (d2 fEq (d2 fIx (dVar 1) (dC (.int 0))) (dC (.str "lost"))))) (gNm 2)))
      (sIf (tNotD (tTru (dVar 2))) (sRet (dC (.bl false))) sNext))))
      (sRet (dC (.bl true))))
def d__are_sets : DF := dFun 5 (sSeq (sIf (tNotD (tBool (d1 (fIsi "tuple") (dVar 0)))) (sRet (dC (.bl false))) sNext)
      (sSeq (sAsg (dN fListOf (aCons (dC k_PARTS) aNil)) (gNm 1))
      (sSeq (sFor (iAny (dVar 0)) (gNm 2)
      (sSeq (sIf (tOrD (tNotD (tBool (d1 (fIsi "tuple") (dVar 2)))) (tBool (d2 fNe (dN fLen (aCons (dVar 2) aNil)) (dC (.int 2))))) (sRet (dC (.bl false))) sNext)
      (sSeq (sAsg (dVar 2) (gTp [(gNm 3), (gNm 4)]))
      (sSeq (sIf (tOrD (tNotD (tBool (d1 (fIsi "str") (dVar 3)))) (tBool (d2 fNotIn (dVar 3) (dVar 1)))) (sRet (dC (.bl false))) sNext)
      (sAsg (dSlice (dVar 1) (oSome (d2 fAdd (dIndex (dVar 1) (dVar 3)) (dC (.int 1)))) oNone) (gNm 1))))))
      (sRet (dC (.bl true))))))
def d__replaced : DF := dFun 5 (sSeq (sAsg (dN fDictB (aCons (dVar 1) aNil)) (gNm 2))
      (sRet (dLc (iZip (dC k_PARTS) (dVar 0)) (gTp [(gNm 3), (gNm 4)]) tYesD (dGet2 (dVar 2) (dVar 3) (dVar 4)) [3, 4])))
def d__law_mixed : DF := dFun 2 (sSeq (sAsg (d2 (fI cPos fun i j => .int (i % j)) (dN fIntOf (aCons (dVar 0) aNil)) (dC (.int 2147483647))) (gNm 0))
      (sRet (d2 (fI cPos fun i j => .int (i % j)) (d2 fMul (d2 (fI cPos fun i j => .int (i % j)) (d2 fAdd (d2 fAdd (d2 fMul (dVar 0) (d2 fAdd (dC (.int 48271)) (d2 fMul (d2 fMul (dC (.int 2)) (dVar 1)) (dVar 1)))) (d2 fMul (dC (.int 69621)) (dVar 1))) (dC (.int 11))) (dC (.int 2147483647))) (dC (.int 69621))) (dC (.int 2147483629)))))
def d__law_begin : DF := dFun 3 (sSeq (sAsg (dIf (tBool (d2 fNe (dVar 0) (dN fLst aNil))) (dN fListOf (aCons (dVar 0) aNil)) (dN fLst (aCons (dC (.int 0)) aNil))) (gNm 1))
      (sRet (dDict (pCons (dC (.str "cells")) (dVar 1) (pCons (dC (.str "lefts")) (dLc (iAny (dVar 1)) (gNm 2) tYesD (dIf (tBool (d2 (fI0 fun i j => .bl (decide (j ≤ i))) (dVar 2) (d2 (fI cPow fun i j => .int (i ^ j.toNat)) (dC (.int 10)) (dC (.int 18))))) (dVar 2) (dC (.int 0))) [2]) (pCons (dC (.str "at")) (dC (.int 0)) pNil))))))
def dr__law_raised : DS := (sSeq (sIf (tBool (d2 fIs (dVar 1) (dC .non))) (sRet (dN fTup aNil)) sNext)
      (sSeq (sIf (tBool (d1 (fIsX it_BadCode) (dVar 1))) (sRet (dN fTup (aCons (dC (.str "code")) (aCons (d1 (fXf xs_place "place") (dVar 1)) aNil)))) sNext)
      (sSeq (sIf (tBool (d1 (fIsX it_BadPath) (dVar 1))) (sRet (dN fTup (aCons (dC (.str "path")) (aCons (d1 (fXf xs_index "index") (dVar 1)) aNil)))) sNext)
      (sSeq (sIf (tBool (d1 (fIsX it_BadPlace) (dVar 1))) (sRet (dN fTup (aCons (dC (.str "place")) (aCons (d1 (fXf xs_value "value") (dVar 1)) aNil)))) sNext)
      (sSeq (sIf (tBool (d1 (fIsX it_BadItem) (dVar 1))) (sRet (dN fTup (aCons (dC (.str "item")) (aCons (d1 (fXf xs_value "value") (dVar 1)) aNil)))) sNext)
      (sSeq (sIf (tBool (d1 (fIsX it_BadTable) (dVar 1))) (sRet (dN fTup (aCons (dC (.str "table")) (aCons (d1 (fXf xs_row "row") (dVar 1)) aNil)))) sNext)
      (sSeq (sIf (tBool (d1 (fIsX it_BadPaper) (dVar 1))) (sRet (dN fTup (aCons (dC (.str "paper")) (aCons (d1 (fXf xs_number "number") (dVar 1)) aNil)))) sNext)
      (sSeq (sIf (tBool (d1 (fIsX it_BadScript) (dVar 1))) (sRet (dN fTup (aCons (dC (.str "script")) (aCons (d1 (fXf xs_index "index") (dVar 1)) aNil)))) sNext)
      (sSeq (sIf (tBool (d1 (fIsX it_BadHouse) (dVar 1))) (sRet (dN fTup (aCons (dC (.str "house")) (aCons (d1 (fXf xs_place "place") (dVar 1)) aNil)))) sNext)
      (sSeq (sIf (tBool (d1 (fIsX it_BadText) (dVar 1))) (sRet (dN fTup (aCons (dC (.str "text")) (aCons (d1 (fXf xs_line "line") (dVar 1)) (aCons (d1 (fXf xs_word "word") (dVar 1)) aNil))))) sNext)
      (sSeq (sIf (tBool (d1 (fIsX it_TooMany) (dVar 1))) (sRet (dN fTup (aCons (dC (.str "many")) (aCons (d1 (fXf xs_most "most") (dVar 1)) aNil)))) sNext)
      (sRet (dIf (tBool (d1 (fIsX it_NeverThere) (dVar 1))) (dN fTup (aCons (dC (.str "never")) (aCons (d1 (fXf xs_place "place") (dVar 1)) aNil))) (dN fTup (aCons (dC (.str "other")) aNil)))))))))))))))
def d_is_finding : DF := dFun 3 (sSeq (sIf (tOrD (tNotD (tBool (d1 (fIsi "tuple") (dVar 0)))) (tBool (d2 fNe (dN fLen (aCons (dVar 0) aNil)) (dC (.int 2))))) (sRet (dC (.bl false))) sNext)
      (sSeq (sAsg (dVar 0) (gTp [(gNm 1), (gNm 2)]))
      (sRet (dAnd (dCall d_is_basis (aCons (dVar 1) aNil)) (dCall d_is_between (aCons (dVar 2) (aCons (d1 fNeg (dC k_MOST_WORDS)) (aCons (dC k_MOST_FINDING) aNil))))))))
def d__is_group : DF := dFun 7 (sSeq (sIf (tOrD (tNotD (tBool (d1 (fIsi "tuple") (dVar 0)))) (tBool (d2 fNe (dN fLen (aCons (dVar 0) aNil)) (dC (.int 4))))) (sRet (dC (.bl false))) sNext)
      (sSeq (sAsg (dVar 0) (gTp [(gNm 3), (gNm 4), (gNm 5), (gNm 6)]))
      (sSeq (sIf (tOrD (tNotD (tBool (dCall d_is_between (aCons (dVar 3) (aCons (dVar 1) (aCons (dVar 2) aNil)))))) (tNotD (tBool (d1 (fIsi "bool") (dVar 4))))) (sRet (dC (.bl false))) sNext)
      (sRet (dAnd (dCall d__are_sets (aCons (dVar 5) aNil)) (dCall d_is_between (aCons (dVar 6) (aCons (dC (.int 0)) (aCons (dC k_MOST_KEEPS) aNil)))))))))
def d__law_draw : DF := dFun 6 (sSeq (sAsg (d2 fIx (dVar 0) (dC (.str "at"))) (gNm 2))
      (sSeq (sAsg (d2 fAdd (dVar 2) (dC (.int 1))) (gSubD (dVar 0) (dC (.str "at"))))
      (sSeq (sAsg (d2 (fI cPos fun i j => .int (i % j)) (dN fIntOf (aCons (dVar 2) aNil)) (dN fLen (aCons (d2 fIx (dVar 0) (dC (.str "cells"))) aNil))) (gNm 3))
      (sSeq (sAsg (d2 fIx (d2 fIx (dVar 0) (dC (.str "lefts"))) (dVar 3)) (gNm 4))
      (sSeq (sIf (tBool (d2 (fI0 fun i j => .bl (decide (j < i))) (dVar 4) (dC (.int 0)))) (sSeq (sAsg (d2 (fI cDiv fun i j => .int (i / j)) (dVar 4) (dVar 1)) (gSubD (d2 fIx (dVar 0) (dC (.str "lefts"))) (dVar 3)))
      (sRet (d2 (fI cPos fun i j => .int (i % j)) (dN fIntOf (aCons (dVar 4) aNil)) (dVar 1)))) sNext)
      (sSeq (sAsg (dCall d__law_mixed (aCons (dCall d__law_mixed (aCons (d2 fIx (d2 fIx (dVar 0) (dC (.str "cells"))) (dVar 3)) (aCons (dVar 2) aNil))) (aCons (d2 fAdd (dC (.int 40)) (dVar 2)) aNil))) (gNm 5))
      (sRet (d2 (fI cPos fun i j => .int (i % j)) (d2 (fI cDiv fun i j => .int (i / j)) (dN fIntOf (aCons (d2 fAdd (d2 fMul (dVar 5) (dC (.int 2147483647))) (dCall d__law_mixed (aCons (dVar 5) (aCons (d2 fAdd (dC (.int 7)) (dVar 2)) aNil)))) aNil)) (dC (.int 64))) (dVar 1)))))))))
def d_is_rule : DF := dFun 3 (sSeq (sIf (tOrD (tNotD (tBool (d1 (fIsi "tuple") (dVar 1)))) (tOrD (tBool (d2 fNe (dN fLen (aCons (dVar 1) aNil)) (dN fLen (aCons (dC k_ITEMS) aNil)))) (tNotD (tBool (dCall d_are_wheres (aCons (dVar 1) aNil)))))) (sRet (dC (.bl false))) sNext)
      (sSeq (sIf (tBool (d2 fIs (dVar 0) (dC .non))) (sRet (dNot (dN fAny (aCons (dLc (iAny (dVar 1)) (gNm 2) tYesD (d2 fEq (d2 fIx (dVar 2) (dC (.int 0))) (dC (.str "word"))) [2]) aNil)))) sNext)
      (sRet (dCall d_is_finding (aCons (dVar 0) aNil)))))
def d__law_of : DF := dFun 2 (sRet (d2 fIx (dVar 1) (dCall d__law_draw (aCons (dVar 0) (aCons (dN fLen (aCons (dVar 1) aNil)) aNil)))))
def d__done : DF := dFun 14 (sSeq (sIf (tOrD (tNotD (tBool (d1 (fIsi "tuple") (dVar 0)))) (tNotD (tBool (dChain (fI0 fun i j => .bl (decide (i ≤ j))) (fI0 fun i j => .bl (decide (i ≤ j))) (dC (.int 1)) (dN fLen (aCons (dVar 0) aNil)) (dC k_MOST_CODE))))) (sRaise "BadScript" ["index"] (aCons (dC .non) aNil)) sNext)
      (sSeq (sAsg (dC (.int 0)) (gNm 1))
      (sSeq (sAsg (dC (.int 0)) (gNm 2))
      (sSeq (sAsg (dC k_ENTRY) (gTp [(gNm 5), (gNm 6)]))
      (sSeq (sAsg (dN fLst aNil) (gNm 3))
      (sSeq (sAsg (dN fLst aNil) (gNm 4))
      (sSeq (sFor (iEnumX (dVar 0)) (gTp [(gNm 7), (gNm 8)])
      (sSeq (sIf (tNotD (tBool (dCall d__is_group (aCons (dVar 8) (aCons (dVar 1) (aCons (dVar 2) aNil)))))) (sRaise "BadScript" ["index"] (aCons (dVar 7) aNil)) sNext)
      (sSeq (sAsg (dVar 8) (gTp [(gNm 9), (gNm 10), (gNm 11), (gNm 12)]))
      (sSeq (sIf (tAndD (tTru (dVar 10)) (tNotD (tTru (dVar 3)))) (sRaise "BadScript" ["index"] (aCons (dVar 7) aNil)) sNext)
      (sSeq (sIf (tTru (dVar 10)) (sAsg (d1 fPopL (dVar 3)) (gTp [(gNm 5), (gNm 6)])) sNext)
      (sSeq (sAsg (dCall d__replaced (aCons (dN fTupS (aCons (dVar 5) (aStar (dVar 6) aNil))) (aCons (dVar 11) aNil))) (gSt 5 13))
      (sSeq (sAsg (dN fTupOf (aCons (dVar 13) aNil)) (gNm 6))
      (sSeq (sIf (tNotD (tBool (dCall d_is_rule (aCons (dVar 5) (aCons (dVar 6) aNil))))) (sRaise "BadScript" ["index"] (aCons (dVar 7) aNil)) sNext)
      (sSeq (sDrop (dAppend (dVar 4) (dN fTup (aCons (dVar 9) (aCons (dVar 5) (aCons (dVar 6) aNil))))))
      (sSeq (sAug 3 fIAdd (d2 fMul (dN fLst (aCons (dN fTup (aCons (dVar 5) (aCons (dVar 6) aNil))) aNil)) (dVar 12)))
      (sSeq (sAsg (d2 fAdd (dVar 9) (dC (.int 1))) (gNm 1))
      (sAsg (d2 (fI0 fun i j => .int (i - j)) (dC k_MOST_CODE) (dC (.int 1))) (gNm 2)))))))))))))
      (sRet (dN fTupOf (aCons (dVar 4) aNil))))))))))
def d__law_spoilt : DF := dFun 7 (sSeq (sAsg (dN fLst (aCons (dN fTup (aCons (dN fTup (aCons (dC (.str "base")) (aCons (dN fTup (aCons (dC (.str "sp")) (aCons (dC (.int 129)) aNil))) aNil))) aNil)) (aCons (dN fTup (aCons (dN fTup (aCons (dC (.str "base")) (aCons (dN fTup (aCons (dC (.str "in")) (aCons (dC (.str "p")) aNil))) aNil))) aNil)) (aCons (dN fTup (aCons (dN fTup (aCons (dC (.str "base")) (aCons (dC (.int 0)) aNil))) aNil)) (aCons (dN fTup (aCons (dN fTup (aCons (dC (.str "back")) (aCons (dC .non) aNil))) aNil)) aNil))))) (gNm 3))
      (sSeq (sAsg (d2 fAdd (dVar 3) (dN fLst (aCons (dN fTup (aCons (dN fTup (aCons (dC (.str "back")) (aCons (dN fTup (aCons (dC (.str "sp")) (aCons (dC (.int 0)) aNil))) aNil))) aNil)) (aCons (dN fTup (aCons (dN fTup (aCons (dC (.str "p")) (aCons (dN fTup (aCons (dC (.str "lost")) aNil)) aNil))) (aCons (dN fTup (aCons (dC (.str "back")) (aCons (dN fTup (aCons (dC (.str "lost")) aNil)) aNil))) aNil))) (aCons (dN fTup (aCons (dN fTup (aCons (dC (.str "x")) (aCons (dN fTup (aCons (dC (.str "lost")) aNil)) aNil))) aNil)) aNil))))) (gNm 3))
      (sSeq (sAsg (d2 fAdd (dVar 3) (dN fLst (aCons (dN fTup (aCons (dN fTup (aCons (dC (.str "p")) (aCons (dN fTup (aCons (dC (.str "lost")) aNil)) aNil))) (aCons (dN fTup (aCons (dC (.str "p")) (aCons (dN fTup (aCons (dC (.str "lost")) aNil)) aNil))) aNil))) (aCons (dN fTup (aCons (dN fTup (aCons (dC (.str "p")) (aCons (dN fTup (aCons (dC (.str "lost")) aNil)) aNil))) (aCons (dN fTup (aCons (dC (.str "base")) (aCons (dN fTup (aCons (dC (.str "sp")) (aCons (dC (.int 0)) aNil))) aNil))) aNil))) aNil)))) (gNm 3))
      (sSeq (sAsg (d2 fAdd (dVar 3) (dN fLst (aCons (dN fTup (aCons (dN fTup (aCons (dC (.str "p")) (aCons (dN fTup (aCons (dC (.str "word")) (aCons (dC (.bl false)) aNil))) aNil))) aNil)) (aCons (dN fTup (aCons (dN fTup (aCons (dC (.str "base")) (aCons (dN fTup (aCons (dC (.str "sp")) (aCons (dC (.bl false)) aNil))) aNil))) aNil)) aNil)))) (gNm 3))
      (sSeq (sAsg (d2 fAdd (dVar 3) (dN fLst (aCons (dN fTup (aCons (dN fTup (aCons (dC (.str "p")) (aCons (dN fTup (aCons (dC (.str "word")) (aCons (dC (.int 1)) aNil))) aNil))) aNil)) (aCons (dN fLst (aCons (dN fTup (aCons (dC (.str "p")) (aCons (dN fTup (aCons (dC (.str "lost")) aNil)) aNil))) aNil)) (aCons (dC .non) (aCons (dN fTup (aCons (dC (.str "p")) (aCons (dN fTup (aCons (dC (.str "lost")) aNil)) aNil))) (aCons (dN fTup (aCons (dN fTup (aCons (dC (.str "p")) aNil)) aNil)) (aCons (dN fTup (aCons (dN fLst (aCons (dC (.str "p")) (aCons (dN fTup (aCons (dC (.str "lost")) aNil)) aNil))) aNil)) aNil)))))))) (gNm 3))
      (sSeq (sAsg (dLc (iAny (dVar 3)) (gNm 6) tYesD (dN fTup (aCons (dVar 1) (aCons (dC (.bl false)) (aCons (dVar 6) (aCons (dC (.int 0)) aNil))))) [6]) (gNm 4))
      (sSeq (sAsg (d2 fAdd (dVar 4) (dN fLst (aCons (dN fTup (aCons (dVar 1) (aCons (dC (.int 0)) (aCons (dN fTup aNil) (aCons (dC (.int 0)) aNil))))) (aCons (dN fTup (aCons (dVar 1) (aCons (dC .non) (aCons (dN fTup aNil) (aCons (dC (.int 0)) aNil))))) (aCons (dN fTup (aCons (dVar 1) (aCons (dC (.bl false)) (aCons (dN fTup aNil) (aCons (d1 fNeg (dC (.int 1))) aNil))))) (aCons (dN fTup (aCons (dVar 1) (aCons (dC (.bl false)) (aCons (dN fTup aNil) (aCons (dC (.int 61)) aNil))))) (aCons (dC .non) (aCons (dN fTup aNil) aNil)))))))) (gNm 4))
      (sSeq (sAsg (d2 fAdd (dVar 4) (dN fLst (aCons (dN fTup (aCons (dVar 1) (aCons (dC (.bl false)) (aCons (dN fTup aNil) (aCons (dC (.bl true)) aNil))))) (aCons (dN fTup (aCons (dVar 1) (aCons (dC (.bl false)) (aCons (dN fTup aNil) (aCons (dC (.str "0")) aNil))))) (aCons (dN fTup (aCons (dVar 1) (aCons (dC (.bl false)) (aCons (dN fTup aNil) aNil)))) (aCons (dN fLst (aCons (dVar 1) (aCons (dC (.bl false)) (aCons (dN fTup aNil) (aCons (dC (.int 0)) aNil))))) aNil)))))) (gNm 4))
      (sSeq (sAsg (dN fLst (aCons (d2 (fI0 fun i j => .int (i - j)) (dVar 2) (dC (.int 1))) (aCons (dC (.int 60)) (aCons (dC .non) (aCons (dC (.bl true)) (aCons (dC (.str "0")) (aCons (dN fTup (aCons (dC (.int 0)) aNil)) aNil))))))) (gNm 5))
      (sRet (dCall d__law_of (aCons (dVar 0) (aCons (d2 fAdd (d2 fAdd (dVar 4) (dLc (iAny (dVar 5)) (gNm 6) tYesD (dN fTup (aCons (dVar 6) (aCons (dC (.bl false)) (aCons (dN fTup aNil) (aCons (dC (.int 0)) aNil))))) [6])) (dN fLst (aCons (dN fTup (aCons (dVar 1) (aCons (dC (.bl false)) (aCons (dN fTup aNil) (aCons (dC (.int 0)) (aCons (dC (.int 0)) aNil)))))) aNil))) aNil)))))))))))))
def d_need_script : DF := dFun 1 (sSeq (sDrop (dCall d__done (aCons (dVar 0) aNil)))
      (sRet (dVar 0)))
def d_expanded : DF := dFun 1 (sRet (dCall d__done (aCons (dVar 0) aNil)))
def d_size_of : DF := dFun 5 (sSeq (sDrop (dCall d_need_script (aCons (dVar 0) aNil)))
      (sRet (dN fSum (aCons (dLc (iAny (dVar 0)) (gTp [(gNm 1), (gNm 2), (gNm 3), (gNm 4)]) tYesD (d2 fAdd (d2 fAdd (d2 fAdd (dC (.int 1)) (dN fIntOf (aCons (dVar 2) aNil))) (dN fLen (aCons (dVar 3) aNil))) (dVar 4)) [1, 2, 3, 4]) aNil))))
def d__law_refused : DF := dFun 3 (sSeq (sAsg (dN fLst (aCons (dRaised xt_UnwindError dr__law_raised (dCall d_expanded (aCons (dVar 0) aNil))) (aCons (dRaised xt_UnwindError dr__law_raised (dCall d_size_of (aCons (dVar 0) aNil))) aNil))) (gNm 2))
      (sRet (d2 fEq (d2 fAdd (dVar 2) (dN fLst (aCons (dRaised xt_UnwindError dr__law_raised (dCall d_need_script (aCons (dVar 0) aNil))) aNil))) (d2 fMul (dN fLst (aCons (dVar 1) aNil)) (dC (.int 3))))))
def d_law : DF := dFun 12 (sSeq (sAsg (dCall d__law_begin (aCons (dVar 0) aNil)) (gNm 1))
      (sSeq (sFor (iRange1 (d2 fAdd (dC (.int 6)) (dN fMin2 (aCons (dC (.int 6)) (aCons (dN fLen (aCons (dVar 0) aNil)) aNil))))) (gNm 2)
      (sSeq (sAsg (d2 fAdd (dC (.int 1)) (dCall d__law_draw (aCons (dVar 1) (aCons (dC (.int 30)) aNil)))) (gNm 6))
      (sSeq (sAsg (dLc (iRange1 (dVar 6)) (gNm 11) tYesD (dN fTup (aCons (d2 fMul (dC (.int 2)) (dVar 11)) (aCons (dC (.bl false)) (aCons (dN fTup aNil) (aCons (dC (.int 0)) aNil))))) [11]) (gNm 4))
      (sSeq (sAsg (dCall d__law_draw (aCons (dVar 1) (aCons (dVar 6) aNil))) (gNm 7))
      (sSeq (sAsg (dCall d__law_spoilt (aCons (dVar 1) (aCons (d2 fMul (dC (.int 2)) (dVar 7)) (aCons (dIf (tBool (d2 (fI0 fun i j => .bl (decide (j < i))) (dVar 7) (dC (.int 0)))) (d2 (fI0 fun i j => .int (i - j)) (d2 fMul (dC (.int 2)) (dVar 7)) (dC (.int 1))) (dC (.int 0))) aNil)))) (gSubD (dVar 4) (dVar 7)))
      (sIf (tNotD (tBool (dCall d__law_refused (aCons (dN fTupOf (aCons (dVar 4) aNil)) (aCons (dN fTup (aCons (dC (.str "script")) (aCons (dVar 7) aNil))) aNil))))) (sRet (dC (.bl false))) sNext))))))
      (sSeq (sFor (iAny (dN fLst (aCons (dC .non) (aCons (dN fTup aNil) (aCons (dN fLst aNil) (aCons dDict0 (aCons (dC (.str "script")) (aCons (dC (.int 0)) (aCons (dN fLst (aCons (dN fTup (aCons (dC (.int 0)) (aCons (dC (.bl false)) (aCons (dN fTup aNil) (aCons (dC (.int 0)) aNil))))) aNil)) (aCons (d2 fMul (dN fTup (aCons (dN fTup (aCons (dC (.int 0)) (aCons (dC (.bl false)) (aCons (dN fTup aNil) (aCons (dC (.int 0)) aNil))))) aNil)) (dC (.int 61))) aNil)))))))))) (gNm 3)
      (sIf (tNotD (tBool (dCall d__law_refused (aCons (dVar 3) (aCons (dN fTup (aCons (dC (.str "script")) (aCons (dC .non) aNil))) aNil))))) (sRet (dC (.bl false))) sNext))
      (sSeq (sAsg (dN fTup (aCons (dN fTup (aCons (dC (.int 0)) (aCons (dC (.bl false)) (aCons (dN fTup aNil) (aCons (dC (.int 0)) aNil))))) (aCons (dN fTup (aCons (dC (.int 1)) (aCons (dC (.bl true)) (aCons (dN fTup aNil) (aCons (dC (.int 0)) aNil))))) (aCons (dN fTup (aCons (dC (.int 1)) (aCons (dC (.bl false)) (aCons (dN fTup (aCons (dN fTup (aCons (dC (.str "base")) (aCons (dC .non) aNil))) aNil)) (aCons (dC (.int 0)) aNil))))) aNil)))) (gTp [(gNm 8), (gNm 9), (gNm 10)]))
      (sSeq (sFor (iAny (dN fLst (aCons (dN fTup (aCons (dVar 8) (aCons (dVar 9) (aCons (dC .non) aNil)))) (aCons (dN fTup (aCons (dVar 8) (aCons (dC .non) (aCons (dVar 9) aNil)))) (aCons (dN fTup (aCons (dVar 8) (aCons (dVar 10) (aCons (dC .non) aNil)))) (aCons (dN fTup (aCons (dVar 8) (aCons (dC .non) (aCons (dVar 10) aNil)))) aNil)))))) (gNm 4)
      (sIf (tNotD (tBool (dCall d__law_refused (aCons (dVar 4) (aCons (dN fTup (aCons (dC (.str "script")) (aCons (dC (.int 1)) aNil))) aNil))))) (sRet (dC (.bl false))) sNext))
      (sSeq (sFor (iAny (dN fLst (aCons (dN fTup (aCons (dC (.int 1)) (aCons (dC (.bl false)) (aCons (dN fTup aNil) (aCons (dC (.int 0)) aNil))))) (aCons (dN fTup (aCons (dC (.int 0)) (aCons (dC (.bl true)) (aCons (dN fTup aNil) (aCons (dC (.int 0)) aNil))))) (aCons (dN fTup (aCons (dC (.bl false)) (aCons (dC (.bl false)) (aCons (dN fTup aNil) (aCons (dC (.int 0)) aNil))))) (aCons (dN fTup (aCons (d1 fNeg (dC (.int 1))) (aCons (dC (.bl false)) (aCons (dN fTup aNil) (aCons (dC (.int 0)) aNil))))) aNil)))))) (gNm 5)
      (sIf (tNotD (tBool (dCall d__law_refused (aCons (dN fTup (aCons (dVar 5) aNil)) (aCons (dN fTup (aCons (dC (.str "script")) (aCons (dC (.int 0)) aNil))) aNil))))) (sRet (dC (.bl false))) sNext))
      (sRet (dC (.bl true)))))))))
/-! ### what the top has made -/
structure Tp (g : Gb) (w : World) where
  f_is_between : Addr
  fd_is_between : FuncData
  F_is_between : Fd g.K g.mg "is_between" s_is_between p_is_between f_is_between fd_is_between
  f_is_basis : Addr
  fd_is_basis : FuncData
  F_is_basis : Fd g.K g.mg "is_basis" s_is_basis p_is_basis f_is_basis fd_is_basis
  f_are_wheres : Addr
  fd_are_wheres : FuncData
  F_are_wheres : Fd g.K g.mg "are_wheres" s_are_wheres p_are_wheres f_are_wheres fd_are_wheres
  f__are_sets : Addr
  fd__are_sets : FuncData
  F__are_sets : Fd g.K g.mg "_are_sets" s__are_sets p__are_sets f__are_sets fd__are_sets
  f__replaced : Addr
  fd__replaced : FuncData
  F__replaced : Fd g.K g.mg "_replaced" s__replaced p__replaced f__replaced fd__replaced
  f__law_mixed : Addr
  fd__law_mixed : FuncData
  F__law_mixed : Fd g.K g.mg "_law_mixed" s__law_mixed p__law_mixed f__law_mixed fd__law_mixed
  f__law_begin : Addr
  fd__law_begin : FuncData
  F__law_begin : Fd g.K g.mg "_law_begin" s__law_begin p__law_begin f__law_begin fd__law_begin
  f__law_raised : Addr
  fd__law_raised : FuncData
  F__law_raised : Fd g.K g.mg "_law_raised" s__law_raised p__law_raised f__law_raised fd__law_raised
  f_is_finding : Addr
  fd_is_finding : FuncData
  F_is_finding : Fd g.K g.mg "is_finding" s_is_finding p_is_finding f_is_finding fd_is_finding
  f__is_group : Addr
  fd__is_group : FuncData
  F__is_group : Fd g.K g.mg "_is_group" s__is_group p__is_group f__is_group fd__is_group
  f__law_draw : Addr
  fd__law_draw : FuncData
  F__law_draw : Fd g.K g.mg "_law_draw" s__law_draw p__law_draw f__law_draw fd__law_draw
  f_is_rule : Addr
  fd_is_rule : FuncData
  F_is_rule : Fd g.K g.mg "is_rule" s_is_rule p_is_rule f_is_rule fd_is_rule
  f__law_of : Addr
  fd__law_of : FuncData
  F__law_of : Fd g.K g.mg "_law_of" s__law_of p__law_of f__law_of fd__law_of
  f__done : Addr
  fd__done : FuncData
  F__done : Fd g.K g.mg "_done" s__done p__done f__done fd__done
  f__law_spoilt : Addr
  fd__law_spoilt : FuncData
  F__law_spoilt : Fd g.K g.mg "_law_spoilt" s__law_spoilt p__law_spoilt f__law_spoilt fd__law_spoilt
  f_need_script : Addr
  fd_need_script : FuncData
  F_need_script : Fd g.K g.mg "need_script" s_need_script p_need_script f_need_script fd_need_script
  f_expanded : Addr
  fd_expanded : FuncData
  F_expanded : Fd g.K g.mg "expanded" s_expanded p_expanded f_expanded fd_expanded
  f_size_of : Addr
  fd_size_of : FuncData
  F_size_of : Fd g.K g.mg "size_of" s_size_of p_size_of f_size_of fd_size_of
  f__law_refused : Addr
  fd__law_refused : FuncData
  cd__law_refused : Addr
  P__law_refused : Addr
  F__law_refused : FdL g.K g.mg "_law_refused" s__law_refused p__law_refused f__law_refused fd__law_refused cd__law_refused
  f_law : Addr
  fd_law : FuncData
  F_law : Fd g.K g.mg "law" s_law p_law f_law fd_law
  tabs : g.T = [(P__law_refused, ("_law_refused" : Str) ++ ".<locals>." ++ "<lambda>")]
  b_isinstance : g.mg "isinstance" = none
  b_int : g.mg "int" = none
  b_bool : g.mg "bool" = none
  b_str : g.mg "str" = none
  b_tuple : g.mg "tuple" = none
  b_len : g.mg "len" = none
  b_list : g.mg "list" = none
  b_dict : g.mg "dict" = none
  b_zip : g.mg "zip" = none
  b_any : g.mg "any" = none
  b_enumerate : g.mg "enumerate" = none
  b_sum : g.mg "sum" = none
  b_range : g.mg "range" = none
  b_min : g.mg "min" = none
  v_REGISTERS : V
  u_REGISTERS : Value
  c_REGISTERS : KC g "REGISTERS" k_REGISTERS v_REGISTERS u_REGISTERS
  v_MOST_CODE : V
  u_MOST_CODE : Value
  c_MOST_CODE : KC g "MOST_CODE" k_MOST_CODE v_MOST_CODE u_MOST_CODE
  v_MOST_WORDS : V
  u_MOST_WORDS : Value
  c_MOST_WORDS : KC g "MOST_WORDS" k_MOST_WORDS v_MOST_WORDS u_MOST_WORDS
  v_ITEMS : V
  u_ITEMS : Value
  c_ITEMS : KC g "ITEMS" k_ITEMS v_ITEMS u_ITEMS
  v_ENTRY : V
  u_ENTRY : Value
  c_ENTRY : KC g "ENTRY" k_ENTRY v_ENTRY u_ENTRY
  v_PARTS : V
  u_PARTS : Value
  c_PARTS : KC g "PARTS" k_PARTS v_PARTS u_PARTS
  v_MOST_FINDING : V
  u_MOST_FINDING : Value
  c_MOST_FINDING : KC g "MOST_FINDING" k_MOST_FINDING v_MOST_FINDING u_MOST_FINDING
  v_MOST_KEEPS : V
  u_MOST_KEEPS : Value
  c_MOST_KEEPS : KC g "MOST_KEEPS" k_MOST_KEEPS v_MOST_KEEPS u_MOST_KEEPS
  C_BadScript : Addr
  mC_BadScript : g.mg "BadScript" = some (.ref C_BadScript)
  C_BadCode : Addr
  mC_BadCode : g.mg "BadCode" = some (.ref C_BadCode)
  C_BadPath : Addr
  mC_BadPath : g.mg "BadPath" = some (.ref C_BadPath)
  C_BadPlace : Addr
  mC_BadPlace : g.mg "BadPlace" = some (.ref C_BadPlace)
  C_BadItem : Addr
  mC_BadItem : g.mg "BadItem" = some (.ref C_BadItem)
  C_BadTable : Addr
  mC_BadTable : g.mg "BadTable" = some (.ref C_BadTable)
  C_BadPaper : Addr
  mC_BadPaper : g.mg "BadPaper" = some (.ref C_BadPaper)
  C_BadHouse : Addr
  mC_BadHouse : g.mg "BadHouse" = some (.ref C_BadHouse)
  C_BadText : Addr
  mC_BadText : g.mg "BadText" = some (.ref C_BadText)
  C_TooMany : Addr
  mC_TooMany : g.mg "TooMany" = some (.ref C_TooMany)
  C_NeverThere : Addr
  mC_NeverThere : g.mg "NeverThere" = some (.ref C_NeverThere)
  C_UnwindError : Addr
  mC_UnwindError : g.mg "UnwindError" = some (.ref C_UnwindError)
  fI_BadScript : Addr
  fdI_BadScript : FuncData
  X_BadScript : XC g "BadScript" s_init_BadScript ["self", "index"] ["index"] C_BadScript fI_BadScript fdI_BadScript
  ik_BadCode_BadScript : PySem.W.kitOne g.K (.ref C_BadScript) (.ref C_BadCode) = some false
  ik_BadPath_BadScript : PySem.W.kitOne g.K (.ref C_BadScript) (.ref C_BadPath) = some false
  ik_BadPlace_BadScript : PySem.W.kitOne g.K (.ref C_BadScript) (.ref C_BadPlace) = some false
  ik_BadItem_BadScript : PySem.W.kitOne g.K (.ref C_BadScript) (.ref C_BadItem) = some false
  ik_BadTable_BadScript : PySem.W.kitOne g.K (.ref C_BadScript) (.ref C_BadTable) = some false
  ik_BadPaper_BadScript : PySem.W.kitOne g.K (.ref C_BadScript) (.ref C_BadPaper) = some false
  ik_BadScript_BadScript : PySem.W.kitOne g.K (.ref C_BadScript) (.ref C_BadScript) = some true
  ik_BadHouse_BadScript : PySem.W.kitOne g.K (.ref C_BadScript) (.ref C_BadHouse) = some false
  ik_BadText_BadScript : PySem.W.kitOne g.K (.ref C_BadScript) (.ref C_BadText) = some false
  ik_TooMany_BadScript : PySem.W.kitOne g.K (.ref C_BadScript) (.ref C_TooMany) = some false
  ik_NeverThere_BadScript : PySem.W.kitOne g.K (.ref C_BadScript) (.ref C_NeverThere) = some false
  xk_UnwindError_BadScript : PySem.W.exmOne g.K (.ref C_BadScript) (.ref C_UnwindError) = some true
section
variable {P : Program} {base : Heap} {g : Gb} {w : World}
theorem is_BadCode (T : Tp g w) : IsTab g T.C_BadCode it_BadCode := ⟨fun c b e => istab_1 (Pr := fun c b => ∃ C, g.mg c = some (.ref C) ∧ ExcC g.K C ∧ PySem.W.kitOne g.K (.ref C) (.ref T.C_BadCode) = some b) e ⟨T.C_BadScript, T.mC_BadScript, T.X_BadScript.ec, T.ik_BadCode_BadScript⟩⟩
theorem is_BadPath (T : Tp g w) : IsTab g T.C_BadPath it_BadPath := ⟨fun c b e => istab_1 (Pr := fun c b => ∃ C, g.mg c = some (.ref C) ∧ ExcC g.K C ∧ PySem.W.kitOne g.K (.ref C) (.ref T.C_BadPath) = some b) e ⟨T.C_BadScript, T.mC_BadScript, T.X_BadScript.ec, T.ik_BadPath_BadScript⟩⟩
theorem is_BadPlace (T : Tp g w) : IsTab g T.C_BadPlace it_BadPlace := ⟨fun c b e => istab_1 (Pr := fun c b => ∃ C, g.mg c = some (.ref C) ∧ ExcC g.K C ∧ PySem.W.kitOne g.K (.ref C) (.ref T.C_BadPlace) = some b) e ⟨T.C_BadScript, T.mC_BadScript, T.X_BadScript.ec, T.ik_BadPlace_BadScript⟩⟩
theorem is_BadItem (T : Tp g w) : IsTab g T.C_BadItem it_BadItem := ⟨fun c b e => istab_1 (Pr := fun c b => ∃ C, g.mg c = some (.ref C) ∧ ExcC g.K C ∧ PySem.W.kitOne g.K (.ref C) (.ref T.C_BadItem) = some b) e ⟨T.C_BadScript, T.mC_BadScript, T.X_BadScript.ec, T.ik_BadItem_BadScript⟩⟩
theorem is_BadTable (T : Tp g w) : IsTab g T.C_BadTable it_BadTable := ⟨fun c b e => istab_1 (Pr := fun c b => ∃ C, g.mg c = some (.ref C) ∧ ExcC g.K C ∧ PySem.W.kitOne g.K (.ref C) (.ref T.C_BadTable) = some b) e ⟨T.C_BadScript, T.mC_BadScript, T.X_BadScript.ec, T.ik_BadTable_BadScript⟩⟩
theorem is_BadPaper (T : Tp g w) : IsTab g T.C_BadPaper it_BadPaper := ⟨fun c b e => istab_1 (Pr := fun c b => ∃ C, g.mg c = some (.ref C) ∧ ExcC g.K C ∧ PySem.W.kitOne g.K (.ref C) (.ref T.C_BadPaper) = some b) e ⟨T.C_BadScript, T.mC_BadScript, T.X_BadScript.ec, T.ik_BadPaper_BadScript⟩⟩
theorem is_BadScript (T : Tp g w) : IsTab g T.C_BadScript it_BadScript := ⟨fun c b e => istab_1 (Pr := fun c b => ∃ C, g.mg c = some (.ref C) ∧ ExcC g.K C ∧ PySem.W.kitOne g.K (.ref C) (.ref T.C_BadScript) = some b) e ⟨T.C_BadScript, T.mC_BadScript, T.X_BadScript.ec, T.ik_BadScript_BadScript⟩⟩
theorem is_BadHouse (T : Tp g w) : IsTab g T.C_BadHouse it_BadHouse := ⟨fun c b e => istab_1 (Pr := fun c b => ∃ C, g.mg c = some (.ref C) ∧ ExcC g.K C ∧ PySem.W.kitOne g.K (.ref C) (.ref T.C_BadHouse) = some b) e ⟨T.C_BadScript, T.mC_BadScript, T.X_BadScript.ec, T.ik_BadHouse_BadScript⟩⟩
theorem is_BadText (T : Tp g w) : IsTab g T.C_BadText it_BadText := ⟨fun c b e => istab_1 (Pr := fun c b => ∃ C, g.mg c = some (.ref C) ∧ ExcC g.K C ∧ PySem.W.kitOne g.K (.ref C) (.ref T.C_BadText) = some b) e ⟨T.C_BadScript, T.mC_BadScript, T.X_BadScript.ec, T.ik_BadText_BadScript⟩⟩
theorem is_TooMany (T : Tp g w) : IsTab g T.C_TooMany it_TooMany := ⟨fun c b e => istab_1 (Pr := fun c b => ∃ C, g.mg c = some (.ref C) ∧ ExcC g.K C ∧ PySem.W.kitOne g.K (.ref C) (.ref T.C_TooMany) = some b) e ⟨T.C_BadScript, T.mC_BadScript, T.X_BadScript.ec, T.ik_TooMany_BadScript⟩⟩
theorem is_NeverThere (T : Tp g w) : IsTab g T.C_NeverThere it_NeverThere := ⟨fun c b e => istab_1 (Pr := fun c b => ∃ C, g.mg c = some (.ref C) ∧ ExcC g.K C ∧ PySem.W.kitOne g.K (.ref C) (.ref T.C_NeverThere) = some b) e ⟨T.C_BadScript, T.mC_BadScript, T.X_BadScript.ec, T.ik_NeverThere_BadScript⟩⟩
theorem ex_UnwindError (T : Tp g w) : ExTab g (.ref T.C_UnwindError) xt_UnwindError := ⟨fun c b e => istab_1 (Pr := fun c b => ∃ C, g.mg c = some (.ref C) ∧ PySem.W.exmOne g.K (.ref C) (.ref T.C_UnwindError) = some b) e ⟨T.C_BadScript, T.mC_BadScript, T.xk_UnwindError_BadScript⟩⟩
theorem xf_index (T : Tp g w) : XfTab g xs_index "index" := ⟨fun c hc => xftab_1 (Pc := fun c => ∃ C, g.mg c = some (.ref C) ∧ XfC g.K C ∧ PySem.W.findIn g.K (.ref C) "index" = some none) hc ⟨T.C_BadScript, T.mC_BadScript, T.X_BadScript.xf, T.X_BadScript.no _ (by decide)⟩⟩
theorem xf_place (T : Tp g w) : XfTab g xs_place "place" := ⟨fun c hc => xftab_0 (Pc := fun c => ∃ C, g.mg c = some (.ref C) ∧ XfC g.K C ∧ PySem.W.findIn g.K (.ref C) "place" = some none) hc ⟩
theorem xf_value (T : Tp g w) : XfTab g xs_value "value" := ⟨fun c hc => xftab_0 (Pc := fun c => ∃ C, g.mg c = some (.ref C) ∧ XfC g.K C ∧ PySem.W.findIn g.K (.ref C) "value" = some none) hc ⟩
theorem xf_row (T : Tp g w) : XfTab g xs_row "row" := ⟨fun c hc => xftab_0 (Pc := fun c => ∃ C, g.mg c = some (.ref C) ∧ XfC g.K C ∧ PySem.W.findIn g.K (.ref C) "row" = some none) hc ⟩
theorem xf_number (T : Tp g w) : XfTab g xs_number "number" := ⟨fun c hc => xftab_0 (Pc := fun c => ∃ C, g.mg c = some (.ref C) ∧ XfC g.K C ∧ PySem.W.findIn g.K (.ref C) "number" = some none) hc ⟩
theorem xf_line (T : Tp g w) : XfTab g xs_line "line" := ⟨fun c hc => xftab_0 (Pc := fun c => ∃ C, g.mg c = some (.ref C) ∧ XfC g.K C ∧ PySem.W.findIn g.K (.ref C) "line" = some none) hc ⟩
theorem xf_word (T : Tp g w) : XfTab g xs_word "word" := ⟨fun c hc => xftab_0 (Pc := fun c => ∃ C, g.mg c = some (.ref C) ∧ XfC g.K C ∧ PySem.W.findIn g.K (.ref C) "word" = some none) hc ⟩
theorem xf_most (T : Tp g w) : XfTab g xs_most "most" := ⟨fun c hc => xftab_0 (Pc := fun c => ∃ C, g.mg c = some (.ref C) ∧ XfC g.K C ∧ PySem.W.findIn g.K (.ref C) "most" = some none) hc ⟩
theorem init_BadScript (T : Tp g w) : FnOk P w g.K g.mg base C8.CX0 1 T.fI_BadScript T.fdI_BadScript ["self", "index"] (spX1 g.K "index") :=
  fnok_of T.X_BadScript.fn sc_init_BadScript spX1_len (fun cdv A outer s H vs Q E hr h => ⟨_, pss_one (ps_ost (pv 0) (pv 1)), init1_of h⟩)
theorem ok_is_between (T : Tp g w) : FnG P w g.K g.mg base false 1 T.f_is_between T.fd_is_between p_is_between (spF g 3 d_is_between) := by
  refine fn_body T.F_is_between.fn sc_is_between (spF_len (ps := p_is_between)) (fun cdv A outer s H vs Q E hcd hg hr h => ?_)
  exact ⟨_, (pss_one (ps_ret (pe_and (pe_callB call_isi (by rfl) T.b_isinstance (by decide +kernel) (pa_cons (pv 0) (pa_cons (pe_bltn (v := .ty "int") (by rfl) T.b_int (by decide +kernel) rfl) pa_nil))) (pe_and (pe_not (pe_callB call_isi (by rfl) T.b_isinstance (by decide +kernel) (pa_cons (pv 0) (pa_cons (pe_bltn (v := .ty "bool") (by rfl) T.b_bool (by decide +kernel) rfl) pa_nil)))) (pe_one (pe_chain op_le op_le (pv 1) (pv 0) (pv 2))))))),
    body_of (es_ret (ev_and (ev_isi ev_var) (ev_and (ev_not (ev_isi ev_var)) (ev_chain (rw_I0 fun _ _ _ => .bl _) (rw_I0 fun _ _ _ => .bl _) nox_I0 nox_I0 ev_var ev_var ev_var)))) (by decide) h⟩
theorem ok_is_basis (T : Tp g w) : FnG P w g.K g.mg base false 1 T.f_is_basis T.fd_is_basis p_is_basis (spF g 1 d_is_basis) := by
  refine fn_body T.F_is_basis.fn sc_is_basis (spF_len (ps := p_is_basis)) (fun cdv A outer s H vs Q E hcd hg hr h => ?_)
  exact ⟨_, (pss_one (ps_ret (pe_and (pe_callB call_isi (by rfl) T.b_isinstance (by decide +kernel) (pa_cons (pv 0) (pa_cons (pe_bltn (v := .ty "str") (by rfl) T.b_str (by decide +kernel) rfl) pa_nil))) (pe_one (pe_or (pe_cmpR (op_eqA hr.units) (pv 0) pe_str (nomark _)) (pe_one (pe_cmpR (op_inA (hu_of hr)) (pv 0) (pe_glob rfl T.c_REGISTERS.m T.c_REGISTERS.r) (by rfl)))))))),
    body_of (es_ret (ev_and (ev_isi ev_var) (ev_or (ev_op rw_eq nox_eq ev_var (ev_c fun _ => .str _)) (ev_op rw_in nox_in ev_var (ev_c T.c_REGISTERS.d))))) (by decide) h⟩
theorem ok_are_wheres (T : Tp g w) : FnG P w g.K g.mg base false 1 T.f_are_wheres T.fd_are_wheres p_are_wheres (spF g 1 d_are_wheres) := by
  refine fn_body T.F_are_wheres.fn sc_are_wheres (spF_len (ps := p_are_wheres)) (fun cdv A outer s H vs Q E hcd hg hr h => ?_)
  exact ⟨_, (pss_cons (ps_for (passes_of rfl) rfl (pi_any (pv 0)) (pg_name (i := 1) sc_are_wheres.nd rfl (by first | exact Or.inl rfl | exact Or.inr rfl))
      (pss_cons (ps_if (pt_not (pt_val (pe_callB call_isi (by rfl) T.b_isinstance (by decide +kernel) (pa_cons (pv 1) (pa_cons (pe_bltn (v := .ty "tuple") (by rfl) T.b_tuple (by decide +kernel) rfl) pa_nil))))) (pss_one (ps_ret pe_bl)) pss_nil)
      (pss_cons (ps_if (pt_cmpR (op_eqA hr.units) (pe_callB call_lenA (by rfl) T.b_len (by decide +kernel) (pa_cons (pv 1) pa_nil)) pe_int (nomark _)) (pss_cons (ps_asg (pv 1) (pg_tup (n := 2) rfl (pgs_cons (pg_name (i := 3) sc_are_wheres.nd rfl (by first | exact Or.inl rfl | exact Or.inr rfl)) (pgs_cons (pg_name (i := 4) sc_are_wheres.nd rfl (by first | exact Or.inl rfl | exact Or.inr rfl)) pgs_nil))))
      (pss_one (ps_if (pt_val (pe_callB call_isi (by rfl) T.b_isinstance (by decide +kernel) (pa_cons (pv 4) (pa_cons (pe_bltn (v := .ty "str") (by rfl) T.b_str (by decide +kernel) rfl) pa_nil)))) (pss_one (ps_set (i := 2) sc_are_wheres.nd rfl (by first | exact Or.inl rfl | exact Or.inr rfl) (pe_and (pe_callB call_isi (by rfl) T.b_isinstance (by decide +kernel) (pa_cons (pv 3) (pa_cons (pe_bltn (v := .ty "str") (by rfl) T.b_str (by decide +kernel) rfl) pa_nil))) (pe_and (pe_cmpR (op_eqA hr.units) (pv 3) pe_str (nomark _)) (pe_one (pe_cmpR (op_inA (hu_of hr)) (pv 4) (pe_glob rfl T.c_REGISTERS.m T.c_REGISTERS.r) (by rfl))))))) (pss_cons (ps_set (i := 5) sc_are_wheres.nd rfl (by first | exact Or.inl rfl | exact Or.inr rfl) (pe_and (pe_callB call_isi (by rfl) T.b_isinstance (by decide +kernel) (pa_cons (pv 4) (pa_cons (pe_bltn (v := .ty "int") (by rfl) T.b_int (by decide +kernel) rfl) pa_nil))) (pe_one (pe_not (pe_callB call_isi (by rfl) T.b_isinstance (by decide +kernel) (pa_cons (pv 4) (pa_cons (pe_bltn (v := .ty "bool") (by rfl) T.b_bool (by decide +kernel) rfl) pa_nil)))))))
      (pss_one (ps_set (i := 2) sc_are_wheres.nd rfl (by first | exact Or.inl rfl | exact Or.inr rfl) (pe_and (pe_callB call_isi (by rfl) T.b_isinstance (by decide +kernel) (pa_cons (pv 3) (pa_cons (pe_bltn (v := .ty "str") (by rfl) T.b_str (by decide +kernel) rfl) pa_nil))) (pe_and (pe_cmpR (op_eqA hr.units) (pv 3) pe_str (nomark _)) (pe_and (pv 5) (pe_one (pe_chain op_le op_le (pe_un un_neg (pe_glob rfl T.c_MOST_WORDS.m T.c_MOST_WORDS.r)) (pv 4) pe_int))))))))))) (pss_one (ps_set (i := 2) sc_are_wheres.nd rfl (by first | exact Or.inl rfl | exact Or.inr rfl) (pe_and (pe_cmpR (op_eqA hr.units) (pe_callB call_lenA (by rfl) T.b_len (by decide +kernel) (pa_cons (pv 1) pa_nil)) pe_int (nomark _)) (pe_and (pe_callB call_isi (by rfl) T.b_isinstance (by decide +kernel) (pa_cons (pe_ix (ix_any (hu_of hr)) (pv 1) pe_int (fun _ _ => rfl)) (pa_cons (pe_bltn (v := .ty "str") (by rfl) T.b_str (by decide +kernel) rfl) pa_nil))) (pe_one (pe_cmpR (op_eqA hr.units) (pe_ix (ix_any (hu_of hr)) (pv 1) pe_int (fun _ _ => rfl)) pe_str (nomark _))))))))
      (pss_one (ps_if (pt_not (pt_truth (pv 2) (by intro _; rfl))) (pss_one (ps_ret pe_bl)) pss_nil)))))
      (pss_one (ps_ret pe_bl))),
    body_of (es_seq (es_for (ei_any ev_var) eg_name
      (es_seq (es_if (et_not (et_B (ev_isi ev_var))) (es_ret (ev_c fun _ => .bl _)) es_next)
      (es_seq (es_if (et_test (ev_op rw_eq nox_eq (ev_call rws_len nox_len (ea_cons ev_var ea_nil)) (ev_c fun _ => .int _))) (es_seq (es_asg ev_var (eg_tupL (egl_cons eg_name (egl_cons eg_name egl_nil)) rfl))
      (es_if (et_B (ev_isi ev_var)) (es_asg (ev_and (ev_isi ev_var) (ev_and (ev_op rw_eq nox_eq ev_var (ev_c fun _ => .str _)) (ev_op rw_in nox_in ev_var (ev_c T.c_REGISTERS.d)))) eg_name) (es_seq (es_asg (ev_and (ev_isi ev_var) (ev_not (ev_isi ev_var))) eg_name)
      (es_asg (ev_and (ev_isi ev_var) (ev_and (ev_op rw_eq nox_eq ev_var (ev_c fun _ => .str _)) (ev_and ev_var (ev_chain (rw_I0 fun _ _ _ => .bl _) (rw_I0 fun _ _ _ => .bl _) nox_I0 nox_I0 (ev_un rw_neg nox_neg (ev_c T.c_MOST_WORDS.d)) ev_var (ev_c fun _ => .int _))))) eg_name)))) (es_asg (ev_and (ev_op rw_eq nox_eq (ev_call rws_len nox_len (ea_cons ev_var ea_nil)) (ev_c fun _ => .int _)) (ev_and (ev_isi (ev_op rw_ix nox_ix ev_var (ev_c fun _ => .int _))) (ev_op rw_eq nox_eq (ev_op rw_ix nox_ix ev_var (ev_c fun _ => .int _)) (ev_c fun _ => .str _)))) eg_name))
      (es_if (et_not (et_truth ev_var)) (es_ret (ev_c fun _ => .bl _)) es_next))))
      (es_ret (ev_c fun _ => .bl _))) (by decide) h⟩
theorem ok__are_sets (T : Tp g w) : FnG P w g.K g.mg base false 1 T.f__are_sets T.fd__are_sets p__are_sets (spF g 1 d__are_sets) := by
  refine fn_body T.F__are_sets.fn sc__are_sets (spF_len (ps := p__are_sets)) (fun cdv A outer s H vs Q E hcd hg hr h => ?_)
  exact ⟨_, (pss_cons (ps_if (pt_not (pt_val (pe_callB call_isi (by rfl) T.b_isinstance (by decide +kernel) (pa_cons (pv 0) (pa_cons (pe_bltn (v := .ty "tuple") (by rfl) T.b_tuple (by decide +kernel) rfl) pa_nil))))) (pss_one (ps_ret pe_bl)) pss_nil)
      (pss_cons (ps_set (i := 1) sc__are_sets.nd rfl (by first | exact Or.inl rfl | exact Or.inr rfl) (pe_callTy call_list_of (by rfl) T.b_list (by decide +kernel) (pa_cons (pe_glob rfl T.c_PARTS.m T.c_PARTS.r) pa_nil)))
      (pss_cons (ps_for (passes_of rfl) rfl (pi_any (pv 0)) (pg_name (i := 2) sc__are_sets.nd rfl (by first | exact Or.inl rfl | exact Or.inr rfl))
      (pss_cons (ps_if (PW.pt (pw_or (pt_not (pt_val (pe_callB call_isi (by rfl) T.b_isinstance (by decide +kernel) (pa_cons (pv 2) (pa_cons (pe_bltn (v := .ty "tuple") (by rfl) T.b_tuple (by decide +kernel) rfl) pa_nil))))) (pw_or1 (pt_cmpR (op_neA hr.units) (pe_callB call_lenA (by rfl) T.b_len (by decide +kernel) (pa_cons (pv 2) pa_nil)) pe_int (nomark _))))) (pss_one (ps_ret pe_bl)) pss_nil)
      (pss_cons (ps_asg (pv 2) (pg_tup (n := 2) rfl (pgs_cons (pg_name (i := 3) sc__are_sets.nd rfl (by first | exact Or.inl rfl | exact Or.inr rfl)) (pgs_cons (pg_name (i := 4) sc__are_sets.nd rfl (by first | exact Or.inl rfl | exact Or.inr rfl)) pgs_nil))))
      (pss_cons (ps_if (PW.pt (pw_or (pt_not (pt_val (pe_callB call_isi (by rfl) T.b_isinstance (by decide +kernel) (pa_cons (pv 3) (pa_cons (pe_bltn (v := .ty "str") (by rfl) T.b_str (by decide +kernel) rfl) pa_nil))))) (pw_or1 (pt_cmpR (op_notInA (hu_of hr)) (pv 3) (pv 1) (by rfl))))) (pss_one (ps_ret pe_bl)) pss_nil)
      (pss_one (ps_set (i := 1) sc__are_sets.nd rfl (by first | exact Or.inl rfl | exact Or.inr rfl) (pe_slice sl_any (pv 1) (po_some (pe_op op_addA (pe_bm PySem.F.plainAttrs_list PySem.F.slot_list_index PySem.F.type_list_index mt_index (pv 1) (pa_cons (pv 3) pa_nil)) pe_int)) po_none)))))))
      (pss_one (ps_ret pe_bl))))),
    body_of (es_seq (es_if (et_not (et_B (ev_isi ev_var))) (es_ret (ev_c fun _ => .bl _)) es_next)
      (es_seq (es_asg (ev_call rws_list nox_list (ea_cons (ev_c T.c_PARTS.d) ea_nil)) eg_name)
      (es_seq (es_for (ei_any ev_var) eg_name
      (es_seq (es_if (et_or (et_not (et_B (ev_isi ev_var))) (et_test (ev_op rw_ne nox_ne (ev_call rws_len nox_len (ea_cons ev_var ea_nil)) (ev_c fun _ => .int _)))) (es_ret (ev_c fun _ => .bl _)) es_next)
      (es_seq (es_asg ev_var (eg_tupL (egl_cons eg_name (egl_cons eg_name egl_nil)) rfl))
      (es_seq (es_if (et_or (et_not (et_B (ev_isi ev_var))) (et_test (ev_op rw_notIn nox_notIn ev_var ev_var))) (es_ret (ev_c fun _ => .bl _)) es_next)
      (es_asg (ev_slice ev_var (eo_some (ev_op rw_add nox_add (ev_index ev_var ev_var) (ev_c fun _ => .int _))) eo_none) eg_name)))))
      (es_ret (ev_c fun _ => .bl _))))) (by decide) h⟩
theorem ok__replaced (T : Tp g w) : FnG P w g.K g.mg base false 1 T.f__replaced T.fd__replaced p__replaced (spF g 2 d__replaced) := by
  refine fn_body T.F__replaced.fn sc__replaced (spF_len (ps := p__replaced)) (fun cdv A outer s H vs Q E hcd hg hr h => ?_)
  exact ⟨_, (pss_cons (ps_set (i := 2) sc__replaced.nd rfl (by first | exact Or.inl rfl | exact Or.inr rfl) (pe_callTy (call_dictB rfl) (by rfl) T.b_dict (by decide +kernel) (pa_cons (pv 1) pa_nil)))
      (pss_one (ps_ret (pe_lc (own := [("part", 3), ("old", 4)]) rfl sc__replaced.nd (pi_zipB (by rfl) T.b_zip (pa_cons (pe_glob rfl T.c_PARTS.m T.c_PARTS.r) (pa_cons (pv 0) pa_nil))) (blkOk_by (own := [("part", 3), ("old", 4)]) (N := n__replaced) (sc := defScope s__replaced) (by decide +kernel)) (fun _ _ _ _ _ => (pg_tup (n := 2) rfl (pgs_cons (pg_name (i := 3) sc__replaced.nd rfl (by first | exact Or.inl rfl | exact Or.inr rfl)) (pgs_cons (pg_name (i := 4) sc__replaced.nd rfl (by first | exact Or.inl rfl | exact Or.inr rfl)) pgs_nil)))) (fun _ _ _ _ _ => pts_nil) (fun _ _ _ _ _ => (pe_dget2 (hu_of hr) (pv 2) (pv 3) (pv 4) ⟨rfl, rfl, rfl, rfl⟩)))))),
    body_of (es_seq (es_asg (ev_call rws_dictB nox_dictB (ea_cons ev_var ea_nil)) eg_name)
      (es_ret (ev_lc (ei_zip (ev_c T.c_PARTS.d) ev_var) (eg_tupL (egl_cons eg_name (egl_cons eg_name egl_nil)) rfl) et_yes (ev_get2 ev_var ev_var ev_var) (by decide)))) (by decide) h⟩
theorem ok__law_mixed (T : Tp g w) : FnG P w g.K g.mg base false 1 T.f__law_mixed T.fd__law_mixed p__law_mixed (spF g 2 d__law_mixed) := by
  refine fn_body T.F__law_mixed.fn sc__law_mixed (spF_len (ps := p__law_mixed)) (fun cdv A outer s H vs Q E hcd hg hr h => ?_)
  exact ⟨_, (pss_cons (ps_set (i := 0) sc__law_mixed.nd rfl (by first | exact Or.inl rfl | exact Or.inr rfl) (pe_op op_mod (pe_callTy call_int1 (by rfl) T.b_int (by decide +kernel) (pa_cons (pv 0) pa_nil)) pe_int))
      (pss_one (ps_ret (pe_op op_mod (pe_op op_mulA (pe_op op_mod (pe_op op_addA (pe_op op_addA (pe_op op_mulA (pv 0) (pe_op op_addA pe_int (pe_op op_mulA (pe_op op_mulA pe_int (pv 1)) (pv 1)))) (pe_op op_mulA pe_int (pv 1))) pe_int) pe_int) pe_int) pe_int)))),
    body_of (es_seq (es_asg (ev_op (rw_I cPos_of fun _ _ _ => .int _) nox_I (ev_call rws_int nox_int (ea_cons ev_var ea_nil)) (ev_c fun _ => .int _)) eg_name)
      (es_ret (ev_op (rw_I cPos_of fun _ _ _ => .int _) nox_I (ev_op rw_mul nox_mul (ev_op (rw_I cPos_of fun _ _ _ => .int _) nox_I (ev_op rw_add nox_add (ev_op rw_add nox_add (ev_op rw_mul nox_mul ev_var (ev_op rw_add nox_add (ev_c fun _ => .int _) (ev_op rw_mul nox_mul (ev_op rw_mul nox_mul (ev_c fun _ => .int _) ev_var) ev_var))) (ev_op rw_mul nox_mul (ev_c fun _ => .int _) ev_var)) (ev_c fun _ => .int _)) (ev_c fun _ => .int _)) (ev_c fun _ => .int _)) (ev_c fun _ => .int _)))) (by decide) h⟩
theorem ok__law_begin (T : Tp g w) : FnG P w g.K g.mg base false 1 T.f__law_begin T.fd__law_begin p__law_begin (spF g 1 d__law_begin) := by
  refine fn_body T.F__law_begin.fn sc__law_begin (spF_len (ps := p__law_begin)) (fun cdv A outer s H vs Q E hcd hg hr h => ?_)
  exact ⟨_, (pss_cons (ps_set (i := 1) sc__law_begin.nd rfl (by first | exact Or.inl rfl | exact Or.inr rfl) (pe_ifExp (pt_cmpR (op_neA hr.units) (pv 0) (pe_lst pa_nil) (nomark _)) (pe_callTy call_list_of (by rfl) T.b_list (by decide +kernel) (pa_cons (pv 0) pa_nil)) (pe_lst (pa_cons pe_int pa_nil))))
      (pss_one (ps_ret (pe_disp (pps_cons pe_str (pv 1) (pps_cons pe_str (pe_lc (own := [("cell", 2)]) rfl sc__law_begin.nd (pi_any (pv 1)) (blkOk_by (own := [("cell", 2)]) (N := n__law_begin) (sc := defScope s__law_begin) (by decide +kernel)) (fun _ _ _ _ _ => (pg_name (i := 2) sc__law_begin.nd rfl (by first | exact Or.inl rfl | exact Or.inr rfl))) (fun _ _ _ _ _ => pts_nil) (fun _ _ _ _ _ => (pe_ifExp (pt_cmpR op_ge (pv 2) (pe_op op_pow pe_int pe_int) (nomark _)) (pv 2) pe_int))) (pps_cons pe_str pe_int pps_nil))) (by rfl) (by rfl) (fun z => by cases z) (by decide))))),
    body_of (es_seq (es_asg (ev_if (et_test (ev_op rw_ne nox_ne ev_var (ev_lst ea_nil le1000))) (ev_call rws_list nox_list (ea_cons ev_var ea_nil)) (ev_lst (ea_cons (ev_c fun _ => .int _) ea_nil) le1000)) eg_name)
      (es_ret (ev_dict (ep_cons (ev_c fun _ => .str _) ev_var (ep_cons (ev_c fun _ => .str _) (ev_lc (ei_any ev_var) eg_name et_yes (ev_if (et_test (ev_op (rw_I0 fun _ _ _ => .bl _) nox_I0 ev_var (ev_op (rw_I cPow_of fun _ _ _ => .int _) nox_I (ev_c fun _ => .int _) (ev_c fun _ => .int _)))) ev_var (ev_c fun _ => .int _)) (by decide)) (ep_cons (ev_c fun _ => .str _) (ev_c fun _ => .int _) ep_nil)))))) (by decide) h⟩
theorem es__law_raised (T : Tp g w) : ∃ tr, EvS g WNo tr dr__law_raised ∧ ∀ (X : Cx) (gf : Addr) (cdg : Value) (s : Shared) (H : Hp), X.K = g.K → X.mg = g.mg → PSs (lamZ X n__law_raised "_law_raised" (defScope s__law_raised) gf cdg s H) (restS s__law_raised) tr := by
  refine ⟨_, (es_seq (es_if (et_test (ev_op rw_isN nox_is ev_var (ev_c fun _ => .non))) (es_ret (ev_tup ea_nil le1000)) es_next)
      (es_seq (es_if (et_B (ev_isX (is_BadCode T) ev_var)) (es_ret (ev_tup (ea_cons (ev_c fun _ => .str _) (ea_cons (ev_xnf (xf_place T) ev_var) ea_nil)) le1000)) es_next)
      (es_seq (es_if (et_B (ev_isX (is_BadPath T) ev_var)) (es_ret (ev_tup (ea_cons (ev_c fun _ => .str _) (ea_cons (ev_xnf (xf_index T) ev_var) ea_nil)) le1000)) es_next)
      (es_seq (es_if (et_B (ev_isX (is_BadPlace T) ev_var)) (es_ret (ev_tup (ea_cons (ev_c fun _ => .str _) (ea_cons (ev_xnf (xf_value T) ev_var) ea_nil)) le1000)) es_next)
      (es_seq (es_if (et_B (ev_isX (is_BadItem T) ev_var)) (es_ret (ev_tup (ea_cons (ev_c fun _ => .str _) (ea_cons (ev_xnf (xf_value T) ev_var) ea_nil)) le1000)) es_next)
      (es_seq (es_if (et_B (ev_isX (is_BadTable T) ev_var)) (es_ret (ev_tup (ea_cons (ev_c fun _ => .str _) (ea_cons (ev_xnf (xf_row T) ev_var) ea_nil)) le1000)) es_next)
      (es_seq (es_if (et_B (ev_isX (is_BadPaper T) ev_var)) (es_ret (ev_tup (ea_cons (ev_c fun _ => .str _) (ea_cons (ev_xnf (xf_number T) ev_var) ea_nil)) le1000)) es_next)
      (es_seq (es_if (et_B (ev_isX (is_BadScript T) ev_var)) (es_ret (ev_tup (ea_cons (ev_c fun _ => .str _) (ea_cons (ev_xnf (xf_index T) ev_var) ea_nil)) le1000)) es_next)
      (es_seq (es_if (et_B (ev_isX (is_BadHouse T) ev_var)) (es_ret (ev_tup (ea_cons (ev_c fun _ => .str _) (ea_cons (ev_xnf (xf_place T) ev_var) ea_nil)) le1000)) es_next)
      (es_seq (es_if (et_B (ev_isX (is_BadText T) ev_var)) (es_ret (ev_tup (ea_cons (ev_c fun _ => .str _) (ea_cons (ev_xnf (xf_line T) ev_var) (ea_cons (ev_xnf (xf_word T) ev_var) ea_nil))) le1000)) es_next)
      (es_seq (es_if (et_B (ev_isX (is_TooMany T) ev_var)) (es_ret (ev_tup (ea_cons (ev_c fun _ => .str _) (ea_cons (ev_xnf (xf_most T) ev_var) ea_nil)) le1000)) es_next)
      (es_ret (ev_if (et_B (ev_isX (is_NeverThere T) ev_var)) (ev_tup (ea_cons (ev_c fun _ => .str _) (ea_cons (ev_xnf (xf_place T) ev_var) ea_nil)) le1000) (ev_tup (ea_cons (ev_c fun _ => .str _) ea_nil) le1000)))))))))))))), fun X gf cdg s H hK hM => ?_⟩
  obtain ⟨prog, w', K', mg', base', A', N', s0, H0, env', outer', stack', ex', fn', calm', pn', xe'⟩ := X
  cases hK
  cases hM
  exact (pss_cons (ps_if (pt_cmpR op_isN (pv 1) pe_non (nomark _)) (pss_one (ps_ret (pe_tupF pa_nil))) pss_nil)
      (pss_cons (ps_if (pt_val (pe_callB call_isXn (by rfl) T.b_isinstance (by decide +kernel) (pa_cons (pv 1) (pa_cons (pe_glob (v := .ref T.C_BadCode) rfl T.mC_BadCode rfl) pa_nil)))) (pss_one (ps_ret (pe_tupF (pa_cons pe_str (pa_cons (pe_xnf (pv 1)) pa_nil))))) pss_nil)
      (pss_cons (ps_if (pt_val (pe_callB call_isXn (by rfl) T.b_isinstance (by decide +kernel) (pa_cons (pv 1) (pa_cons (pe_glob (v := .ref T.C_BadPath) rfl T.mC_BadPath rfl) pa_nil)))) (pss_one (ps_ret (pe_tupF (pa_cons pe_str (pa_cons (pe_xnf (pv 1)) pa_nil))))) pss_nil)
      (pss_cons (ps_if (pt_val (pe_callB call_isXn (by rfl) T.b_isinstance (by decide +kernel) (pa_cons (pv 1) (pa_cons (pe_glob (v := .ref T.C_BadPlace) rfl T.mC_BadPlace rfl) pa_nil)))) (pss_one (ps_ret (pe_tupF (pa_cons pe_str (pa_cons (pe_xnf (pv 1)) pa_nil))))) pss_nil)
      (pss_cons (ps_if (pt_val (pe_callB call_isXn (by rfl) T.b_isinstance (by decide +kernel) (pa_cons (pv 1) (pa_cons (pe_glob (v := .ref T.C_BadItem) rfl T.mC_BadItem rfl) pa_nil)))) (pss_one (ps_ret (pe_tupF (pa_cons pe_str (pa_cons (pe_xnf (pv 1)) pa_nil))))) pss_nil)
      (pss_cons (ps_if (pt_val (pe_callB call_isXn (by rfl) T.b_isinstance (by decide +kernel) (pa_cons (pv 1) (pa_cons (pe_glob (v := .ref T.C_BadTable) rfl T.mC_BadTable rfl) pa_nil)))) (pss_one (ps_ret (pe_tupF (pa_cons pe_str (pa_cons (pe_xnf (pv 1)) pa_nil))))) pss_nil)
      (pss_cons (ps_if (pt_val (pe_callB call_isXn (by rfl) T.b_isinstance (by decide +kernel) (pa_cons (pv 1) (pa_cons (pe_glob (v := .ref T.C_BadPaper) rfl T.mC_BadPaper rfl) pa_nil)))) (pss_one (ps_ret (pe_tupF (pa_cons pe_str (pa_cons (pe_xnf (pv 1)) pa_nil))))) pss_nil)
      (pss_cons (ps_if (pt_val (pe_callB call_isXn (by rfl) T.b_isinstance (by decide +kernel) (pa_cons (pv 1) (pa_cons (pe_glob (v := .ref T.C_BadScript) rfl T.mC_BadScript rfl) pa_nil)))) (pss_one (ps_ret (pe_tupF (pa_cons pe_str (pa_cons (pe_xnf (pv 1)) pa_nil))))) pss_nil)
      (pss_cons (ps_if (pt_val (pe_callB call_isXn (by rfl) T.b_isinstance (by decide +kernel) (pa_cons (pv 1) (pa_cons (pe_glob (v := .ref T.C_BadHouse) rfl T.mC_BadHouse rfl) pa_nil)))) (pss_one (ps_ret (pe_tupF (pa_cons pe_str (pa_cons (pe_xnf (pv 1)) pa_nil))))) pss_nil)
      (pss_cons (ps_if (pt_val (pe_callB call_isXn (by rfl) T.b_isinstance (by decide +kernel) (pa_cons (pv 1) (pa_cons (pe_glob (v := .ref T.C_BadText) rfl T.mC_BadText rfl) pa_nil)))) (pss_one (ps_ret (pe_tupF (pa_cons pe_str (pa_cons (pe_xnf (pv 1)) (pa_cons (pe_xnf (pv 1)) pa_nil)))))) pss_nil)
      (pss_cons (ps_if (pt_val (pe_callB call_isXn (by rfl) T.b_isinstance (by decide +kernel) (pa_cons (pv 1) (pa_cons (pe_glob (v := .ref T.C_TooMany) rfl T.mC_TooMany rfl) pa_nil)))) (pss_one (ps_ret (pe_tupF (pa_cons pe_str (pa_cons (pe_xnf (pv 1)) pa_nil))))) pss_nil)
      (pss_one (ps_ret (pe_ifExp (pt_val (pe_callB call_isXn (by rfl) T.b_isinstance (by decide +kernel) (pa_cons (pv 1) (pa_cons (pe_glob (v := .ref T.C_NeverThere) rfl T.mC_NeverThere rfl) pa_nil)))) (pe_tupF (pa_cons pe_str (pa_cons (pe_xnf (pv 1)) pa_nil))) (pe_tupF (pa_cons pe_str pa_nil))))))))))))))))
theorem gives__law_raised (T : Tp g w) {X : Cx} (hK : X.K = g.K) (hM : X.mg = g.mg) {cdv : Value} {qq : Str} : LamX.GivesTo X n__law_raised "_law_raised" (defScope s__law_raised) T.f__law_raised cdv (defBody s__law_raised) "asked" qq (TTr g xt_UnwindError dr__law_raised) := by
  obtain ⟨tr, hr, hp⟩ := es__law_raised T
  exact raised_gives hK (ex_UnwindError T) hr rfl rfl rfl rfl (by rw [hM]; exact T.mC_UnwindError) rfl (fun s H => hp X _ _ s H hK hM)
theorem ok_is_finding (T : Tp g w) : FnG P w g.K g.mg base false 2 T.f_is_finding T.fd_is_finding p_is_finding (spF g 1 d_is_finding) := by
  refine fn_body T.F_is_finding.fn sc_is_finding (spF_len (ps := p_is_finding)) (fun cdv A outer s H vs Q E hcd hg hr h => ?_)
  exact ⟨_, (pss_cons (ps_if (PW.pt (pw_or (pt_not (pt_val (pe_callB call_isi (by rfl) T.b_isinstance (by decide +kernel) (pa_cons (pv 0) (pa_cons (pe_bltn (v := .ty "tuple") (by rfl) T.b_tuple (by decide +kernel) rfl) pa_nil))))) (pw_or1 (pt_cmpR (op_neA hr.units) (pe_callB call_lenA (by rfl) T.b_len (by decide +kernel) (pa_cons (pv 0) pa_nil)) pe_int (nomark _))))) (pss_one (ps_ret pe_bl)) pss_nil)
      (pss_cons (ps_asg (pv 0) (pg_tup (n := 2) rfl (pgs_cons (pg_name (i := 1) sc_is_finding.nd rfl (by first | exact Or.inl rfl | exact Or.inr rfl)) (pgs_cons (pg_name (i := 2) sc_is_finding.nd rfl (by first | exact Or.inl rfl | exact Or.inr rfl)) pgs_nil))))
      (pss_one (ps_ret (pe_and (pe_callW (ok_is_basis T) (fun z => nomatch z) (hr.mono (by decide)) rfl T.F_is_basis.mg T.F_is_basis.fn.kp T.F_is_basis.b .nil (takes_of rfl rfl rfl rfl) (pa_cons (pv 1) pa_nil)) (pe_one (pe_callW (ok_is_between T) (fun z => nomatch z) (hr.mono (by decide)) rfl T.F_is_between.mg T.F_is_between.fn.kp T.F_is_between.b .nil (takes_of rfl rfl rfl rfl) (pa_cons (pv 2) (pa_cons (pe_un un_neg (pe_glob rfl T.c_MOST_WORDS.m T.c_MOST_WORDS.r)) (pa_cons (pe_glob rfl T.c_MOST_FINDING.m T.c_MOST_FINDING.r) pa_nil)))))))))),
    body_of (es_seq (es_if (et_or (et_not (et_B (ev_isi ev_var))) (et_test (ev_op rw_ne nox_ne (ev_call rws_len nox_len (ea_cons ev_var ea_nil)) (ev_c fun _ => .int _)))) (es_ret (ev_c fun _ => .bl _)) es_next)
      (es_seq (es_asg ev_var (eg_tupL (egl_cons eg_name (egl_cons eg_name egl_nil)) rfl))
      (es_ret (ev_and (ev_call_ (ea_cons ev_var ea_nil)) (ev_call_ (ea_cons ev_var (ea_cons (ev_un rw_neg nox_neg (ev_c T.c_MOST_WORDS.d)) (ea_cons (ev_c T.c_MOST_FINDING.d) ea_nil)))))))) (by decide) h⟩
theorem ok__is_group (T : Tp g w) : FnG P w g.K g.mg base false 2 T.f__is_group T.fd__is_group p__is_group (spF g 3 d__is_group) := by
  refine fn_body T.F__is_group.fn sc__is_group (spF_len (ps := p__is_group)) (fun cdv A outer s H vs Q E hcd hg hr h => ?_)
  exact ⟨_, (pss_cons (ps_if (PW.pt (pw_or (pt_not (pt_val (pe_callB call_isi (by rfl) T.b_isinstance (by decide +kernel) (pa_cons (pv 0) (pa_cons (pe_bltn (v := .ty "tuple") (by rfl) T.b_tuple (by decide +kernel) rfl) pa_nil))))) (pw_or1 (pt_cmpR (op_neA hr.units) (pe_callB call_lenA (by rfl) T.b_len (by decide +kernel) (pa_cons (pv 0) pa_nil)) pe_int (nomark _))))) (pss_one (ps_ret pe_bl)) pss_nil)
      (pss_cons (ps_asg (pv 0) (pg_tup (n := 4) rfl (pgs_cons (pg_name (i := 3) sc__is_group.nd rfl (by first | exact Or.inl rfl | exact Or.inr rfl)) (pgs_cons (pg_name (i := 4) sc__is_group.nd rfl (by first | exact Or.inl rfl | exact Or.inr rfl)) (pgs_cons (pg_name (i := 5) sc__is_group.nd rfl (by first | exact Or.inl rfl | exact Or.inr rfl)) (pgs_cons (pg_name (i := 6) sc__is_group.nd rfl (by first | exact Or.inl rfl | exact Or.inr rfl)) pgs_nil))))))
      (pss_cons (ps_if (PW.pt (pw_or (pt_not (pt_val (pe_callW (ok_is_between T) (fun z => nomatch z) (hr.mono (by decide)) rfl T.F_is_between.mg T.F_is_between.fn.kp T.F_is_between.b .nil (takes_of rfl rfl rfl rfl) (pa_cons (pv 3) (pa_cons (pv 1) (pa_cons (pv 2) pa_nil)))))) (pw_or1 (pt_not (pt_val (pe_callB call_isi (by rfl) T.b_isinstance (by decide +kernel) (pa_cons (pv 4) (pa_cons (pe_bltn (v := .ty "bool") (by rfl) T.b_bool (by decide +kernel) rfl) pa_nil)))))))) (pss_one (ps_ret pe_bl)) pss_nil)
      (pss_one (ps_ret (pe_and (pe_callW (ok__are_sets T) (fun z => nomatch z) (hr.mono (by decide)) rfl T.F__are_sets.mg T.F__are_sets.fn.kp T.F__are_sets.b .nil (takes_of rfl rfl rfl rfl) (pa_cons (pv 5) pa_nil)) (pe_one (pe_callW (ok_is_between T) (fun z => nomatch z) (hr.mono (by decide)) rfl T.F_is_between.mg T.F_is_between.fn.kp T.F_is_between.b .nil (takes_of rfl rfl rfl rfl) (pa_cons (pv 6) (pa_cons pe_int (pa_cons (pe_glob rfl T.c_MOST_KEEPS.m T.c_MOST_KEEPS.r) pa_nil))))))))))),
    body_of (es_seq (es_if (et_or (et_not (et_B (ev_isi ev_var))) (et_test (ev_op rw_ne nox_ne (ev_call rws_len nox_len (ea_cons ev_var ea_nil)) (ev_c fun _ => .int _)))) (es_ret (ev_c fun _ => .bl _)) es_next)
      (es_seq (es_asg ev_var (eg_tupL (egl_cons eg_name (egl_cons eg_name (egl_cons eg_name (egl_cons eg_name egl_nil)))) rfl))
      (es_seq (es_if (et_or (et_not (et_B (ev_call_ (ea_cons ev_var (ea_cons ev_var (ea_cons ev_var ea_nil)))))) (et_not (et_B (ev_isi ev_var)))) (es_ret (ev_c fun _ => .bl _)) es_next)
      (es_ret (ev_and (ev_call_ (ea_cons ev_var ea_nil)) (ev_call_ (ea_cons ev_var (ea_cons (ev_c fun _ => .int _) (ea_cons (ev_c T.c_MOST_KEEPS.d) ea_nil))))))))) (by decide) h⟩
theorem ok__law_draw (T : Tp g w) : FnG P w g.K g.mg base false 2 T.f__law_draw T.fd__law_draw p__law_draw (spF g 2 d__law_draw) := by
  refine fn_body T.F__law_draw.fn sc__law_draw (spF_len (ps := p__law_draw)) (fun cdv A outer s H vs Q E hcd hg hr h => ?_)
  exact ⟨_, (pss_cons (ps_set (i := 2) sc__law_draw.nd rfl (by first | exact Or.inl rfl | exact Or.inr rfl) (pe_ix (ix_any (hu_of hr)) (pv 0) pe_str (fun _ _ => rfl)))
      (pss_cons (ps_asg (pe_op op_addA (pv 2) pe_int) (pg_sub (pv 0) pe_str (set_any (hu_of hr))))
      (pss_cons (ps_set (i := 3) sc__law_draw.nd rfl (by first | exact Or.inl rfl | exact Or.inr rfl) (pe_op op_mod (pe_callTy call_int1 (by rfl) T.b_int (by decide +kernel) (pa_cons (pv 2) pa_nil)) (pe_callB call_lenA (by rfl) T.b_len (by decide +kernel) (pa_cons (pe_ix (ix_any (hu_of hr)) (pv 0) pe_str (fun _ _ => rfl)) pa_nil))))
      (pss_cons (ps_set (i := 4) sc__law_draw.nd rfl (by first | exact Or.inl rfl | exact Or.inr rfl) (pe_ix (ix_any (hu_of hr)) (pe_ix (ix_any (hu_of hr)) (pv 0) pe_str (fun _ _ => rfl)) (pv 3) (fun _ _ => rfl)))
      (pss_cons (ps_if (pt_cmpR op_gt (pv 4) pe_int (nomark _)) (pss_cons (ps_asg (pe_op op_fdiv (pv 4) (pv 1)) (pg_sub (pe_ix (ix_any (hu_of hr)) (pv 0) pe_str (fun _ _ => rfl)) (pv 3) (set_any (hu_of hr))))
      (pss_one (ps_ret (pe_op op_mod (pe_callTy call_int1 (by rfl) T.b_int (by decide +kernel) (pa_cons (pv 4) pa_nil)) (pv 1))))) pss_nil)
      (pss_cons (ps_set (i := 5) sc__law_draw.nd rfl (by first | exact Or.inl rfl | exact Or.inr rfl) (pe_callW (ok__law_mixed T) (fun z => nomatch z) (hr.mono (by decide)) rfl T.F__law_mixed.mg T.F__law_mixed.fn.kp T.F__law_mixed.b .nil (takes_of rfl rfl rfl rfl) (pa_cons (pe_callW (ok__law_mixed T) (fun z => nomatch z) (hr.mono (by decide)) rfl T.F__law_mixed.mg T.F__law_mixed.fn.kp T.F__law_mixed.b .nil (takes_of rfl rfl rfl rfl) (pa_cons (pe_ix (ix_any (hu_of hr)) (pe_ix (ix_any (hu_of hr)) (pv 0) pe_str (fun _ _ => rfl)) (pv 3) (fun _ _ => rfl)) (pa_cons (pv 2) pa_nil))) (pa_cons (pe_op op_addA pe_int (pv 2)) pa_nil))))
      (pss_one (ps_ret (pe_op op_mod (pe_op op_fdiv (pe_callTy call_int1 (by rfl) T.b_int (by decide +kernel) (pa_cons (pe_op op_addA (pe_op op_mulA (pv 5) pe_int) (pe_callW (ok__law_mixed T) (fun z => nomatch z) (hr.mono (by decide)) rfl T.F__law_mixed.mg T.F__law_mixed.fn.kp T.F__law_mixed.b .nil (takes_of rfl rfl rfl rfl) (pa_cons (pv 5) (pa_cons (pe_op op_addA pe_int (pv 2)) pa_nil)))) pa_nil)) pe_int) (pv 1)))))))))),
    body_of (es_seq (es_asg (ev_op rw_ix nox_ix ev_var (ev_c fun _ => .str _)) eg_name)
      (es_seq (es_asg (ev_op rw_add nox_add ev_var (ev_c fun _ => .int _)) (eg_sub ev_var (ev_c fun _ => .str _)))
      (es_seq (es_asg (ev_op (rw_I cPos_of fun _ _ _ => .int _) nox_I (ev_call rws_int nox_int (ea_cons ev_var ea_nil)) (ev_call rws_len nox_len (ea_cons (ev_op rw_ix nox_ix ev_var (ev_c fun _ => .str _)) ea_nil))) eg_name)
      (es_seq (es_asg (ev_op rw_ix nox_ix (ev_op rw_ix nox_ix ev_var (ev_c fun _ => .str _)) ev_var) eg_name)
      (es_seq (es_if (et_test (ev_op (rw_I0 fun _ _ _ => .bl _) nox_I0 ev_var (ev_c fun _ => .int _))) (es_seq (es_asg (ev_op (rw_I cDiv_of fun _ _ _ => .int _) nox_I ev_var ev_var) (eg_sub (ev_op rw_ix nox_ix ev_var (ev_c fun _ => .str _)) ev_var))
      (es_ret (ev_op (rw_I cPos_of fun _ _ _ => .int _) nox_I (ev_call rws_int nox_int (ea_cons ev_var ea_nil)) ev_var))) es_next)
      (es_seq (es_asg (ev_call_ (ea_cons (ev_call_ (ea_cons (ev_op rw_ix nox_ix (ev_op rw_ix nox_ix ev_var (ev_c fun _ => .str _)) ev_var) (ea_cons ev_var ea_nil))) (ea_cons (ev_op rw_add nox_add (ev_c fun _ => .int _) ev_var) ea_nil))) eg_name)
      (es_ret (ev_op (rw_I cPos_of fun _ _ _ => .int _) nox_I (ev_op (rw_I cDiv_of fun _ _ _ => .int _) nox_I (ev_call rws_int nox_int (ea_cons (ev_op rw_add nox_add (ev_op rw_mul nox_mul ev_var (ev_c fun _ => .int _)) (ev_call_ (ea_cons ev_var (ea_cons (ev_op rw_add nox_add (ev_c fun _ => .int _) ev_var) ea_nil)))) ea_nil)) (ev_c fun _ => .int _)) ev_var)))))))) (by decide) h⟩
theorem ok_is_rule (T : Tp g w) : FnG P w g.K g.mg base false 3 T.f_is_rule T.fd_is_rule p_is_rule (spF g 2 d_is_rule) := by
  refine fn_body T.F_is_rule.fn sc_is_rule (spF_len (ps := p_is_rule)) (fun cdv A outer s H vs Q E hcd hg hr h => ?_)
  exact ⟨_, (pss_cons (ps_if (PW.pt (pw_or (pt_not (pt_val (pe_callB call_isi (by rfl) T.b_isinstance (by decide +kernel) (pa_cons (pv 1) (pa_cons (pe_bltn (v := .ty "tuple") (by rfl) T.b_tuple (by decide +kernel) rfl) pa_nil))))) (pw_or (pt_cmpR (op_neA hr.units) (pe_callB call_lenA (by rfl) T.b_len (by decide +kernel) (pa_cons (pv 1) pa_nil)) (pe_callB call_lenA (by rfl) T.b_len (by decide +kernel) (pa_cons (pe_glob rfl T.c_ITEMS.m T.c_ITEMS.r) pa_nil)) (nomark _)) (pw_or1 (pt_not (pt_val (pe_callW (ok_are_wheres T) (fun z => nomatch z) (hr.mono (by decide)) rfl T.F_are_wheres.mg T.F_are_wheres.fn.kp T.F_are_wheres.b .nil (takes_of rfl rfl rfl rfl) (pa_cons (pv 1) pa_nil)))))))) (pss_one (ps_ret pe_bl)) pss_nil)
      (pss_cons (ps_if (pt_cmpR op_isN (pv 0) pe_non (nomark _)) (pss_one (ps_ret (pe_not (pe_callB (cr_any rfl) (by rfl) T.b_any (by decide +kernel) (pa_cons (pe_lc (own := [("where", 2)]) rfl sc_is_rule.nd (pi_any (pv 1)) (blkOk_by (own := [("where", 2)]) (N := n_is_rule) (sc := defScope s_is_rule) (by decide +kernel)) (fun _ _ _ _ _ => (pg_name (i := 2) sc_is_rule.nd rfl (by first | exact Or.inl rfl | exact Or.inr rfl))) (fun _ _ _ _ _ => pts_nil) (fun _ _ _ _ _ => (pe_cmpR (op_eqA hr.units) (pe_ix (ix_any (hu_of hr)) (pv 2) pe_int (fun _ _ => rfl)) pe_str (nomark _)))) pa_nil))))) pss_nil)
      (pss_one (ps_ret (pe_callW (ok_is_finding T) (fun z => nomatch z) (hr.mono (by decide)) rfl T.F_is_finding.mg T.F_is_finding.fn.kp T.F_is_finding.b .nil (takes_of rfl rfl rfl rfl) (pa_cons (pv 0) pa_nil)))))),
    body_of (es_seq (es_if (et_or (et_not (et_B (ev_isi ev_var))) (et_or (et_test (ev_op rw_ne nox_ne (ev_call rws_len nox_len (ea_cons ev_var ea_nil)) (ev_call rws_len nox_len (ea_cons (ev_c T.c_ITEMS.d) ea_nil)))) (et_not (et_B (ev_call_ (ea_cons ev_var ea_nil)))))) (es_ret (ev_c fun _ => .bl _)) es_next)
      (es_seq (es_if (et_test (ev_op rw_isN nox_is ev_var (ev_c fun _ => .non))) (es_ret (ev_not (ev_call rws_any nox_any (ea_cons (ev_lc (ei_any ev_var) eg_name et_yes (ev_op rw_eq nox_eq (ev_op rw_ix nox_ix ev_var (ev_c fun _ => .int _)) (ev_c fun _ => .str _)) (by decide)) ea_nil)))) es_next)
      (es_ret (ev_call_ (ea_cons ev_var ea_nil))))) (by decide) h⟩
theorem ok__law_of (T : Tp g w) : FnG P w g.K g.mg base false 3 T.f__law_of T.fd__law_of p__law_of (spF g 2 d__law_of) := by
  refine fn_body T.F__law_of.fn sc__law_of (spF_len (ps := p__law_of)) (fun cdv A outer s H vs Q E hcd hg hr h => ?_)
  exact ⟨_, (pss_one (ps_ret (pe_ix (ix_any (hu_of hr)) (pv 1) (pe_callW (ok__law_draw T) (fun z => nomatch z) (hr.mono (by decide)) rfl T.F__law_draw.mg T.F__law_draw.fn.kp T.F__law_draw.b .nil (takes_of rfl rfl rfl rfl) (pa_cons (pv 0) (pa_cons (pe_callB call_lenA (by rfl) T.b_len (by decide +kernel) (pa_cons (pv 1) pa_nil)) pa_nil))) (fun _ _ => rfl)))),
    body_of (es_ret (ev_op rw_ix nox_ix ev_var (ev_call_ (ea_cons ev_var (ea_cons (ev_call rws_len nox_len (ea_cons ev_var ea_nil)) ea_nil))))) (by decide) h⟩
theorem ok__done (T : Tp g w) : FnG P w g.K g.mg base false 4 T.f__done T.fd__done p__done (spF g 1 d__done) := by
  refine fn_body T.F__done.fn sc__done (spF_len (ps := p__done)) (fun cdv A outer s H vs Q E hcd hg hr h => ?_)
  exact ⟨_, (pss_cons (ps_if (PW.pt (pw_or (pt_not (pt_val (pe_callB call_isi (by rfl) T.b_isinstance (by decide +kernel) (pa_cons (pv 0) (pa_cons (pe_bltn (v := .ty "tuple") (by rfl) T.b_tuple (by decide +kernel) rfl) pa_nil))))) (pw_or1 (pt_not (pt_chain op_le op_le pe_int (pe_callB call_lenA (by rfl) T.b_len (by decide +kernel) (pa_cons (pv 0) pa_nil)) (pe_glob rfl T.c_MOST_CODE.m T.c_MOST_CODE.r)))))) (pss_one (ps_raise rfl (takes_of rfl rfl rfl rfl) (pmk_oex T.X_BadScript.oe T.X_BadScript.iC T.X_BadScript.tI (init_BadScript T) (hr.mono (by decide)) T.X_BadScript.b .nil C8.pass0 rfl T.X_BadScript.m (pa_cons pe_non pa_nil)))) pss_nil)
      (pss_cons (ps_set (i := 1) sc__done.nd rfl (by first | exact Or.inl rfl | exact Or.inr rfl) pe_int)
      (pss_cons (ps_set (i := 2) sc__done.nd rfl (by first | exact Or.inl rfl | exact Or.inr rfl) pe_int)
      (pss_cons (ps_asg (pe_glob rfl T.c_ENTRY.m T.c_ENTRY.r) (pg_tup (n := 2) rfl (pgs_cons (pg_name (i := 5) sc__done.nd rfl (by first | exact Or.inl rfl | exact Or.inr rfl)) (pgs_cons (pg_name (i := 6) sc__done.nd rfl (by first | exact Or.inl rfl | exact Or.inr rfl)) pgs_nil))))
      (pss_cons (ps_set (i := 3) sc__done.nd rfl (by first | exact Or.inl rfl | exact Or.inr rfl) (pe_lst pa_nil))
      (pss_cons (ps_set (i := 4) sc__done.nd rfl (by first | exact Or.inl rfl | exact Or.inr rfl) (pe_lst pa_nil))
      (pss_cons (ps_for (passes_of rfl) rfl (pi_enumB (by rfl) T.b_enumerate (pa_cons (pv 0) pa_nil)) (pg_tup (n := 2) rfl (pgs_cons (pg_name (i := 7) sc__done.nd rfl (by first | exact Or.inl rfl | exact Or.inr rfl)) (pgs_cons (pg_name (i := 8) sc__done.nd rfl (by first | exact Or.inl rfl | exact Or.inr rfl)) pgs_nil)))
      (pss_cons (ps_if (pt_not (pt_val (pe_callW (ok__is_group T) (fun z => nomatch z) (hr.mono (by decide)) rfl T.F__is_group.mg T.F__is_group.fn.kp T.F__is_group.b .nil (takes_of rfl rfl rfl rfl) (pa_cons (pv 8) (pa_cons (pv 1) (pa_cons (pv 2) pa_nil)))))) (pss_one (ps_raise rfl (takes_of rfl rfl rfl rfl) (pmk_oex T.X_BadScript.oe T.X_BadScript.iC T.X_BadScript.tI (init_BadScript T) (hr.mono (by decide)) T.X_BadScript.b .nil C8.pass0 rfl T.X_BadScript.m (pa_cons (pv 7) pa_nil)))) pss_nil)
      (pss_cons (ps_asg (pv 8) (pg_tup (n := 4) rfl (pgs_cons (pg_name (i := 9) sc__done.nd rfl (by first | exact Or.inl rfl | exact Or.inr rfl)) (pgs_cons (pg_name (i := 10) sc__done.nd rfl (by first | exact Or.inl rfl | exact Or.inr rfl)) (pgs_cons (pg_name (i := 11) sc__done.nd rfl (by first | exact Or.inl rfl | exact Or.inr rfl)) (pgs_cons (pg_name (i := 12) sc__done.nd rfl (by first | exact Or.inl rfl | exact Or.inr rfl)) pgs_nil))))))
      (pss_cons (ps_if (PW.pt (pw_and (pt_truth (pv 10) (by intro _; rfl)) (pw_and1 (pt_not (pt_truth (pv 3) (by intro _; rfl)))))) (pss_one (ps_raise rfl (takes_of rfl rfl rfl rfl) (pmk_oex T.X_BadScript.oe T.X_BadScript.iC T.X_BadScript.tI (init_BadScript T) (hr.mono (by decide)) T.X_BadScript.b .nil C8.pass0 rfl T.X_BadScript.m (pa_cons (pv 7) pa_nil)))) pss_nil)
      (pss_cons (ps_if (pt_truth (pv 10) (by intro _; rfl)) (pss_one (ps_asg (pe_bm0 PySem.F.plainAttrs_list PySem.F.slot_list_pop PySem.F.type_list_pop mt_pop (pv 3)) (pg_tup (n := 2) rfl (pgs_cons (pg_name (i := 5) sc__done.nd rfl (by first | exact Or.inl rfl | exact Or.inr rfl)) (pgs_cons (pg_name (i := 6) sc__done.nd rfl (by first | exact Or.inl rfl | exact Or.inr rfl)) pgs_nil))))) pss_nil)
      (pss_cons (ps_asg (pe_callW (ok__replaced T) (fun z => nomatch z) (hr.mono (by decide)) rfl T.F__replaced.mg T.F__replaced.fn.kp T.F__replaced.b .nil (takes_of rfl rfl rfl rfl) (pa_cons (pe_tupF (pa_cons (pv 5) (StX.pa_star (pv 6) pa_nil))) (pa_cons (pv 11) pa_nil))) (pg_star rfl (pgs_cons (pg_name (i := 5) sc__done.nd rfl (by first | exact Or.inl rfl | exact Or.inr rfl)) (pgs_cons (pg_name (i := 13) sc__done.nd rfl (by first | exact Or.inl rfl | exact Or.inr rfl)) pgs_nil))))
      (pss_cons (ps_set (i := 6) sc__done.nd rfl (by first | exact Or.inl rfl | exact Or.inr rfl) (pe_callTy call_tupF (by rfl) T.b_tuple (by decide +kernel) (pa_cons (pv 13) pa_nil)))
      (pss_cons (ps_if (pt_not (pt_val (pe_callW (ok_is_rule T) (fun z => nomatch z) (hr.mono (by decide)) rfl T.F_is_rule.mg T.F_is_rule.fn.kp T.F_is_rule.b .nil (takes_of rfl rfl rfl rfl) (pa_cons (pv 5) (pa_cons (pv 6) pa_nil))))) (pss_one (ps_raise rfl (takes_of rfl rfl rfl rfl) (pmk_oex T.X_BadScript.oe T.X_BadScript.iC T.X_BadScript.tI (init_BadScript T) (hr.mono (by decide)) T.X_BadScript.b .nil C8.pass0 rfl T.X_BadScript.m (pa_cons (pv 7) pa_nil)))) pss_nil)
      (pss_cons (ps_expr (pe_bm PySem.F.plainAttrs_list PySem.F.slot_list_append PySem.F.type_list_append mt_append (pv 4) (pa_cons (pe_tupF (pa_cons (pv 9) (pa_cons (pv 5) (pa_cons (pv 6) pa_nil)))) pa_nil)))
      (pss_cons (ps_aug (i := 3) sc__done.nd rfl (by first | exact Or.inl rfl | exact Or.inr rfl) (pe_op op_mulA (pe_lst (pa_cons (pe_tupF (pa_cons (pv 5) (pa_cons (pv 6) pa_nil))) pa_nil)) (pv 12)) iop_addX)
      (pss_cons (ps_set (i := 1) sc__done.nd rfl (by first | exact Or.inl rfl | exact Or.inr rfl) (pe_op op_addA (pv 9) pe_int))
      (pss_one (ps_set (i := 2) sc__done.nd rfl (by first | exact Or.inl rfl | exact Or.inr rfl) (pe_op op_sub (pe_glob rfl T.c_MOST_CODE.m T.c_MOST_CODE.r) pe_int))))))))))))))
      (pss_one (ps_ret (pe_callTy call_tupF (by rfl) T.b_tuple (by decide +kernel) (pa_cons (pv 4) pa_nil))))))))))),
    body_of (es_seq (es_if (et_or (et_not (et_B (ev_isi ev_var))) (et_not (et_test (ev_chain (rw_I0 fun _ _ _ => .bl _) (rw_I0 fun _ _ _ => .bl _) nox_I0 nox_I0 (ev_c fun _ => .int _) (ev_call rws_len nox_len (ea_cons ev_var ea_nil)) (ev_c T.c_MOST_CODE.d))))) (es_raise1 T.X_BadScript.m T.X_BadScript.oe (T.X_BadScript.no _ (by decide)) (ea_cons (ev_c fun _ => .non) ea_nil)) es_next)
      (es_seq (es_asg (ev_c fun _ => .int _) eg_name)
      (es_seq (es_asg (ev_c fun _ => .int _) eg_name)
      (es_seq (es_asg (ev_c T.c_ENTRY.d) (eg_tupL (egl_cons eg_name (egl_cons eg_name egl_nil)) rfl))
      (es_seq (es_asg (ev_lst ea_nil le1000) eg_name)
      (es_seq (es_asg (ev_lst ea_nil le1000) eg_name)
      (es_seq (es_for (ei_enumX ev_var) (eg_tupL (egl_cons eg_name (egl_cons eg_name egl_nil)) rfl)
      (es_seq (es_if (et_not (et_B (ev_call_ (ea_cons ev_var (ea_cons ev_var (ea_cons ev_var ea_nil)))))) (es_raise1 T.X_BadScript.m T.X_BadScript.oe (T.X_BadScript.no _ (by decide)) (ea_cons ev_var ea_nil)) es_next)
      (es_seq (es_asg ev_var (eg_tupL (egl_cons eg_name (egl_cons eg_name (egl_cons eg_name (egl_cons eg_name egl_nil)))) rfl))
      (es_seq (es_if (et_and (et_truth ev_var) (et_not (et_truth ev_var))) (es_raise1 T.X_BadScript.m T.X_BadScript.oe (T.X_BadScript.no _ (by decide)) (ea_cons ev_var ea_nil)) es_next)
      (es_seq (es_if (et_truth ev_var) (es_asg (ev_popL ev_var) (eg_tupL (egl_cons eg_name (egl_cons eg_name egl_nil)) rfl)) es_next)
      (es_seq (es_asg (ev_call_ (ea_cons (ev_tupS (eb_cons ev_var (eb_star ev_var ea_nil.evB))) (ea_cons ev_var ea_nil))) eg_star)
      (es_seq (es_asg (ev_call rws_tup nox_tup (ea_cons ev_var ea_nil)) eg_name)
      (es_seq (es_if (et_not (et_B (ev_call_ (ea_cons ev_var (ea_cons ev_var ea_nil))))) (es_raise1 T.X_BadScript.m T.X_BadScript.oe (T.X_BadScript.no _ (by decide)) (ea_cons ev_var ea_nil)) es_next)
      (es_seq (es_drop (ev_append ev_var (ev_tup (ea_cons ev_var (ea_cons ev_var (ea_cons ev_var ea_nil))) le1000)))
      (es_seq (es_aug rw_iadd nox_iadd (ev_op rw_mul nox_mul (ev_lst (ea_cons (ev_tup (ea_cons ev_var (ea_cons ev_var ea_nil)) le1000) ea_nil) le1000) ev_var))
      (es_seq (es_asg (ev_op rw_add nox_add ev_var (ev_c fun _ => .int _)) eg_name)
      (es_asg (ev_op (rw_I0 fun _ _ _ => .int _) nox_I0 (ev_c T.c_MOST_CODE.d) (ev_c fun _ => .int _)) eg_name))))))))))))
      (es_ret (ev_call rws_tup nox_tup (ea_cons ev_var ea_nil)))))))))) (by decide) h⟩
theorem ok__law_spoilt (T : Tp g w) : FnG P w g.K g.mg base false 4 T.f__law_spoilt T.fd__law_spoilt p__law_spoilt (spF g 3 d__law_spoilt) := by
  refine fn_body T.F__law_spoilt.fn sc__law_spoilt (spF_len (ps := p__law_spoilt)) (fun cdv A outer s H vs Q E hcd hg hr h => ?_)
  exact ⟨_, (pss_cons (ps_set (i := 3) sc__law_spoilt.nd rfl (by first | exact Or.inl rfl | exact Or.inr rfl) (pe_lst (pa_cons (pe_tupF (pa_cons (pe_tupF (pa_cons pe_str (pa_cons (pe_tupF (pa_cons pe_str (pa_cons pe_int pa_nil))) pa_nil))) pa_nil)) (pa_cons (pe_tupF (pa_cons (pe_tupF (pa_cons pe_str (pa_cons (pe_tupF (pa_cons pe_str (pa_cons pe_str pa_nil))) pa_nil))) pa_nil)) (pa_cons (pe_tupF (pa_cons (pe_tupF (pa_cons pe_str (pa_cons pe_int pa_nil))) pa_nil)) (pa_cons (pe_tupF (pa_cons (pe_tupF (pa_cons pe_str (pa_cons pe_non pa_nil))) pa_nil)) pa_nil))))))
      (pss_cons (ps_set (i := 3) sc__law_spoilt.nd rfl (by first | exact Or.inl rfl | exact Or.inr rfl) (pe_op op_addA (pv 3) (pe_lst (pa_cons (pe_tupF (pa_cons (pe_tupF (pa_cons pe_str (pa_cons (pe_tupF (pa_cons pe_str (pa_cons pe_int pa_nil))) pa_nil))) pa_nil)) (pa_cons (pe_tupF (pa_cons (pe_tupF (pa_cons pe_str (pa_cons (pe_tupF (pa_cons pe_str pa_nil)) pa_nil))) (pa_cons (pe_tupF (pa_cons pe_str (pa_cons (pe_tupF (pa_cons pe_str pa_nil)) pa_nil))) pa_nil))) (pa_cons (pe_tupF (pa_cons (pe_tupF (pa_cons pe_str (pa_cons (pe_tupF (pa_cons pe_str pa_nil)) pa_nil))) pa_nil)) pa_nil))))))
      (pss_cons (ps_set (i := 3) sc__law_spoilt.nd rfl (by first | exact Or.inl rfl | exact Or.inr rfl) (pe_op op_addA (pv 3) (pe_lst (pa_cons (pe_tupF (pa_cons (pe_tupF (pa_cons pe_str (pa_cons (pe_tupF (pa_cons pe_str pa_nil)) pa_nil))) (pa_cons (pe_tupF (pa_cons pe_str (pa_cons (pe_tupF (pa_cons pe_str pa_nil)) pa_nil))) pa_nil))) (pa_cons (pe_tupF (pa_cons (pe_tupF (pa_cons pe_str (pa_cons (pe_tupF (pa_cons pe_str pa_nil)) pa_nil))) (pa_cons (pe_tupF (pa_cons pe_str (pa_cons (pe_tupF (pa_cons pe_str (pa_cons pe_int pa_nil))) pa_nil))) pa_nil))) pa_nil)))))
      (pss_cons (ps_set (i := 3) sc__law_spoilt.nd rfl (by first | exact Or.inl rfl | exact Or.inr rfl) (pe_op op_addA (pv 3) (pe_lst (pa_cons (pe_tupF (pa_cons (pe_tupF (pa_cons pe_str (pa_cons (pe_tupF (pa_cons pe_str (pa_cons pe_bl pa_nil))) pa_nil))) pa_nil)) (pa_cons (pe_tupF (pa_cons (pe_tupF (pa_cons pe_str (pa_cons (pe_tupF (pa_cons pe_str (pa_cons pe_bl pa_nil))) pa_nil))) pa_nil)) pa_nil)))))
      (pss_cons (ps_set (i := 3) sc__law_spoilt.nd rfl (by first | exact Or.inl rfl | exact Or.inr rfl) (pe_op op_addA (pv 3) (pe_lst (pa_cons (pe_tupF (pa_cons (pe_tupF (pa_cons pe_str (pa_cons (pe_tupF (pa_cons pe_str (pa_cons pe_int pa_nil))) pa_nil))) pa_nil)) (pa_cons (pe_lst (pa_cons (pe_tupF (pa_cons pe_str (pa_cons (pe_tupF (pa_cons pe_str pa_nil)) pa_nil))) pa_nil)) (pa_cons pe_non (pa_cons (pe_tupF (pa_cons pe_str (pa_cons (pe_tupF (pa_cons pe_str pa_nil)) pa_nil))) (pa_cons (pe_tupF (pa_cons (pe_tupF (pa_cons pe_str pa_nil)) pa_nil)) (pa_cons (pe_tupF (pa_cons (pe_lst (pa_cons pe_str (pa_cons (pe_tupF (pa_cons pe_str pa_nil)) pa_nil))) pa_nil)) pa_nil)))))))))
      (pss_cons (ps_setLc (i := 4) (own := [("one", 6)]) rfl sc__law_spoilt.nd rfl rfl (sw_true rfl rfl rfl (by decide +kernel)) (pi_any (pv 3)) (blkOk_by (own := [("one", 6)]) (N := n__law_spoilt) (sc := defScope s__law_spoilt) (by decide +kernel)) (fun _ _ _ _ _ => (pg_name (i := 6) sc__law_spoilt.nd rfl (by first | exact Or.inl rfl | exact Or.inr rfl))) (fun _ _ _ _ _ => pts_nil) (fun _ _ _ _ _ => (pe_tupF (pa_cons (pv 1) (pa_cons pe_bl (pa_cons (pv 6) (pa_cons pe_int pa_nil)))))))
      (pss_cons (ps_set (i := 4) sc__law_spoilt.nd rfl (by first | exact Or.inl rfl | exact Or.inr rfl) (pe_op op_addA (pv 4) (pe_lst (pa_cons (pe_tupF (pa_cons (pv 1) (pa_cons pe_int (pa_cons (pe_tupF pa_nil) (pa_cons pe_int pa_nil))))) (pa_cons (pe_tupF (pa_cons (pv 1) (pa_cons pe_non (pa_cons (pe_tupF pa_nil) (pa_cons pe_int pa_nil))))) (pa_cons (pe_tupF (pa_cons (pv 1) (pa_cons pe_bl (pa_cons (pe_tupF pa_nil) (pa_cons (pe_un un_neg pe_int) pa_nil))))) (pa_cons (pe_tupF (pa_cons (pv 1) (pa_cons pe_bl (pa_cons (pe_tupF pa_nil) (pa_cons pe_int pa_nil))))) (pa_cons pe_non (pa_cons (pe_tupF pa_nil) pa_nil)))))))))
      (pss_cons (ps_set (i := 4) sc__law_spoilt.nd rfl (by first | exact Or.inl rfl | exact Or.inr rfl) (pe_op op_addA (pv 4) (pe_lst (pa_cons (pe_tupF (pa_cons (pv 1) (pa_cons pe_bl (pa_cons (pe_tupF pa_nil) (pa_cons pe_bl pa_nil))))) (pa_cons (pe_tupF (pa_cons (pv 1) (pa_cons pe_bl (pa_cons (pe_tupF pa_nil) (pa_cons pe_str pa_nil))))) (pa_cons (pe_tupF (pa_cons (pv 1) (pa_cons pe_bl (pa_cons (pe_tupF pa_nil) pa_nil)))) (pa_cons (pe_lst (pa_cons (pv 1) (pa_cons pe_bl (pa_cons (pe_tupF pa_nil) (pa_cons pe_int pa_nil))))) pa_nil)))))))
      (pss_cons (ps_set (i := 5) sc__law_spoilt.nd rfl (by first | exact Or.inl rfl | exact Or.inr rfl) (pe_lst (pa_cons (pe_op op_sub (pv 2) pe_int) (pa_cons pe_int (pa_cons pe_non (pa_cons pe_bl (pa_cons pe_str (pa_cons (pe_tupF (pa_cons pe_int pa_nil)) pa_nil))))))))
      (pss_one (ps_ret (pe_callW (ok__law_of T) (fun z => nomatch z) (hr.mono (by decide)) rfl T.F__law_of.mg T.F__law_of.fn.kp T.F__law_of.b .nil (takes_of rfl rfl rfl rfl) (pa_cons (pv 0) (pa_cons (pe_op op_addA (pe_op op_addA (pv 4) (pe_lc (own := [("one", 6)]) rfl sc__law_spoilt.nd (pi_any (pv 5)) (blkOk_by (own := [("one", 6)]) (N := n__law_spoilt) (sc := defScope s__law_spoilt) (by decide +kernel)) (fun _ _ _ _ _ => (pg_name (i := 6) sc__law_spoilt.nd rfl (by first | exact Or.inl rfl | exact Or.inr rfl))) (fun _ _ _ _ _ => pts_nil) (fun _ _ _ _ _ => (pe_tupF (pa_cons (pv 6) (pa_cons pe_bl (pa_cons (pe_tupF pa_nil) (pa_cons pe_int pa_nil)))))))) (pe_lst (pa_cons (pe_tupF (pa_cons (pv 1) (pa_cons pe_bl (pa_cons (pe_tupF pa_nil) (pa_cons pe_int (pa_cons pe_int pa_nil)))))) pa_nil))) pa_nil)))))))))))))),
    body_of (es_seq (es_asg (ev_lst (ea_cons (ev_tup (ea_cons (ev_tup (ea_cons (ev_c fun _ => .str _) (ea_cons (ev_tup (ea_cons (ev_c fun _ => .str _) (ea_cons (ev_c fun _ => .int _) ea_nil)) le1000) ea_nil)) le1000) ea_nil) le1000) (ea_cons (ev_tup (ea_cons (ev_tup (ea_cons (ev_c fun _ => .str _) (ea_cons (ev_tup (ea_cons (ev_c fun _ => .str _) (ea_cons (ev_c fun _ => .str _) ea_nil)) le1000) ea_nil)) le1000) ea_nil) le1000) (ea_cons (ev_tup (ea_cons (ev_tup (ea_cons (ev_c fun _ => .str _) (ea_cons (ev_c fun _ => .int _) ea_nil)) le1000) ea_nil) le1000) (ea_cons (ev_tup (ea_cons (ev_tup (ea_cons (ev_c fun _ => .str _) (ea_cons (ev_c fun _ => .non) ea_nil)) le1000) ea_nil) le1000) ea_nil)))) le1000) eg_name)
      (es_seq (es_asg (ev_op rw_add nox_add ev_var (ev_lst (ea_cons (ev_tup (ea_cons (ev_tup (ea_cons (ev_c fun _ => .str _) (ea_cons (ev_tup (ea_cons (ev_c fun _ => .str _) (ea_cons (ev_c fun _ => .int _) ea_nil)) le1000) ea_nil)) le1000) ea_nil) le1000) (ea_cons (ev_tup (ea_cons (ev_tup (ea_cons (ev_c fun _ => .str _) (ea_cons (ev_tup (ea_cons (ev_c fun _ => .str _) ea_nil) le1000) ea_nil)) le1000) (ea_cons (ev_tup (ea_cons (ev_c fun _ => .str _) (ea_cons (ev_tup (ea_cons (ev_c fun _ => .str _) ea_nil) le1000) ea_nil)) le1000) ea_nil)) le1000) (ea_cons (ev_tup (ea_cons (ev_tup (ea_cons (ev_c fun _ => .str _) (ea_cons (ev_tup (ea_cons (ev_c fun _ => .str _) ea_nil) le1000) ea_nil)) le1000) ea_nil) le1000) ea_nil))) le1000)) eg_name)
      (es_seq (es_asg (ev_op rw_add nox_add ev_var (ev_lst (ea_cons (ev_tup (ea_cons (ev_tup (ea_cons (ev_c fun _ => .str _) (ea_cons (ev_tup (ea_cons (ev_c fun _ => .str _) ea_nil) le1000) ea_nil)) le1000) (ea_cons (ev_tup (ea_cons (ev_c fun _ => .str _) (ea_cons (ev_tup (ea_cons (ev_c fun _ => .str _) ea_nil) le1000) ea_nil)) le1000) ea_nil)) le1000) (ea_cons (ev_tup (ea_cons (ev_tup (ea_cons (ev_c fun _ => .str _) (ea_cons (ev_tup (ea_cons (ev_c fun _ => .str _) ea_nil) le1000) ea_nil)) le1000) (ea_cons (ev_tup (ea_cons (ev_c fun _ => .str _) (ea_cons (ev_tup (ea_cons (ev_c fun _ => .str _) (ea_cons (ev_c fun _ => .int _) ea_nil)) le1000) ea_nil)) le1000) ea_nil)) le1000) ea_nil)) le1000)) eg_name)
      (es_seq (es_asg (ev_op rw_add nox_add ev_var (ev_lst (ea_cons (ev_tup (ea_cons (ev_tup (ea_cons (ev_c fun _ => .str _) (ea_cons (ev_tup (ea_cons (ev_c fun _ => .str _) (ea_cons (ev_c fun _ => .bl _) ea_nil)) le1000) ea_nil)) le1000) ea_nil) le1000) (ea_cons (ev_tup (ea_cons (ev_tup (ea_cons (ev_c fun _ => .str _) (ea_cons (ev_tup (ea_cons (ev_c fun _ => .str _) (ea_cons (ev_c fun _ => .bl _) ea_nil)) le1000) ea_nil)) le1000) ea_nil) le1000) ea_nil)) le1000)) eg_name)
      (es_seq (es_asg (ev_op rw_add nox_add ev_var (ev_lst (ea_cons (ev_tup (ea_cons (ev_tup (ea_cons (ev_c fun _ => .str _) (ea_cons (ev_tup (ea_cons (ev_c fun _ => .str _) (ea_cons (ev_c fun _ => .int _) ea_nil)) le1000) ea_nil)) le1000) ea_nil) le1000) (ea_cons (ev_lst (ea_cons (ev_tup (ea_cons (ev_c fun _ => .str _) (ea_cons (ev_tup (ea_cons (ev_c fun _ => .str _) ea_nil) le1000) ea_nil)) le1000) ea_nil) le1000) (ea_cons (ev_c fun _ => .non) (ea_cons (ev_tup (ea_cons (ev_c fun _ => .str _) (ea_cons (ev_tup (ea_cons (ev_c fun _ => .str _) ea_nil) le1000) ea_nil)) le1000) (ea_cons (ev_tup (ea_cons (ev_tup (ea_cons (ev_c fun _ => .str _) ea_nil) le1000) ea_nil) le1000) (ea_cons (ev_tup (ea_cons (ev_lst (ea_cons (ev_c fun _ => .str _) (ea_cons (ev_tup (ea_cons (ev_c fun _ => .str _) ea_nil) le1000) ea_nil)) le1000) ea_nil) le1000) ea_nil)))))) le1000)) eg_name)
      (es_seq (es_asg (ev_lc (ei_any ev_var) eg_name et_yes (ev_tup (ea_cons ev_var (ea_cons (ev_c fun _ => .bl _) (ea_cons ev_var (ea_cons (ev_c fun _ => .int _) ea_nil)))) le1000) (by decide)) eg_name)
      (es_seq (es_asg (ev_op rw_add nox_add ev_var (ev_lst (ea_cons (ev_tup (ea_cons ev_var (ea_cons (ev_c fun _ => .int _) (ea_cons (ev_tup ea_nil le1000) (ea_cons (ev_c fun _ => .int _) ea_nil)))) le1000) (ea_cons (ev_tup (ea_cons ev_var (ea_cons (ev_c fun _ => .non) (ea_cons (ev_tup ea_nil le1000) (ea_cons (ev_c fun _ => .int _) ea_nil)))) le1000) (ea_cons (ev_tup (ea_cons ev_var (ea_cons (ev_c fun _ => .bl _) (ea_cons (ev_tup ea_nil le1000) (ea_cons (ev_un rw_neg nox_neg (ev_c fun _ => .int _)) ea_nil)))) le1000) (ea_cons (ev_tup (ea_cons ev_var (ea_cons (ev_c fun _ => .bl _) (ea_cons (ev_tup ea_nil le1000) (ea_cons (ev_c fun _ => .int _) ea_nil)))) le1000) (ea_cons (ev_c fun _ => .non) (ea_cons (ev_tup ea_nil le1000) ea_nil)))))) le1000)) eg_name)
      (es_seq (es_asg (ev_op rw_add nox_add ev_var (ev_lst (ea_cons (ev_tup (ea_cons ev_var (ea_cons (ev_c fun _ => .bl _) (ea_cons (ev_tup ea_nil le1000) (ea_cons (ev_c fun _ => .bl _) ea_nil)))) le1000) (ea_cons (ev_tup (ea_cons ev_var (ea_cons (ev_c fun _ => .bl _) (ea_cons (ev_tup ea_nil le1000) (ea_cons (ev_c fun _ => .str _) ea_nil)))) le1000) (ea_cons (ev_tup (ea_cons ev_var (ea_cons (ev_c fun _ => .bl _) (ea_cons (ev_tup ea_nil le1000) ea_nil))) le1000) (ea_cons (ev_lst (ea_cons ev_var (ea_cons (ev_c fun _ => .bl _) (ea_cons (ev_tup ea_nil le1000) (ea_cons (ev_c fun _ => .int _) ea_nil)))) le1000) ea_nil)))) le1000)) eg_name)
      (es_seq (es_asg (ev_lst (ea_cons (ev_op (rw_I0 fun _ _ _ => .int _) nox_I0 ev_var (ev_c fun _ => .int _)) (ea_cons (ev_c fun _ => .int _) (ea_cons (ev_c fun _ => .non) (ea_cons (ev_c fun _ => .bl _) (ea_cons (ev_c fun _ => .str _) (ea_cons (ev_tup (ea_cons (ev_c fun _ => .int _) ea_nil) le1000) ea_nil)))))) le1000) eg_name)
      (es_ret (ev_call_ (ea_cons ev_var (ea_cons (ev_op rw_add nox_add (ev_op rw_add nox_add ev_var (ev_lc (ei_any ev_var) eg_name et_yes (ev_tup (ea_cons ev_var (ea_cons (ev_c fun _ => .bl _) (ea_cons (ev_tup ea_nil le1000) (ea_cons (ev_c fun _ => .int _) ea_nil)))) le1000) (by decide))) (ev_lst (ea_cons (ev_tup (ea_cons ev_var (ea_cons (ev_c fun _ => .bl _) (ea_cons (ev_tup ea_nil le1000) (ea_cons (ev_c fun _ => .int _) (ea_cons (ev_c fun _ => .int _) ea_nil))))) le1000) ea_nil) le1000)) ea_nil))))))))))))) (by decide) h⟩
theorem ok_need_script (T : Tp g w) : FnG P w g.K g.mg base false 5 T.f_need_script T.fd_need_script p_need_script (spF g 1 d_need_script) := by
  refine fn_body T.F_need_script.fn sc_need_script (spF_len (ps := p_need_script)) (fun cdv A outer s H vs Q E hcd hg hr h => ?_)
  exact ⟨_, (pss_cons (ps_expr (pe_callW (ok__done T) (fun z => nomatch z) (hr.mono (by decide)) rfl T.F__done.mg T.F__done.fn.kp T.F__done.b .nil (takes_of rfl rfl rfl rfl) (pa_cons (pv 0) pa_nil)))
      (pss_one (ps_ret (pv 0)))),
    body_of (es_seq (es_drop (ev_call_ (ea_cons ev_var ea_nil)))
      (es_ret ev_var)) (by decide) h⟩
theorem ok_expanded (T : Tp g w) : FnG P w g.K g.mg base false 5 T.f_expanded T.fd_expanded p_expanded (spF g 1 d_expanded) := by
  refine fn_body T.F_expanded.fn sc_expanded (spF_len (ps := p_expanded)) (fun cdv A outer s H vs Q E hcd hg hr h => ?_)
  exact ⟨_, (pss_one (ps_ret (pe_callW (ok__done T) (fun z => nomatch z) (hr.mono (by decide)) rfl T.F__done.mg T.F__done.fn.kp T.F__done.b .nil (takes_of rfl rfl rfl rfl) (pa_cons (pv 0) pa_nil)))),
    body_of (es_ret (ev_call_ (ea_cons ev_var ea_nil))) (by decide) h⟩
theorem ok_size_of (T : Tp g w) : FnG P w g.K g.mg base false 6 T.f_size_of T.fd_size_of p_size_of (spF g 1 d_size_of) := by
  refine fn_body T.F_size_of.fn sc_size_of (spF_len (ps := p_size_of)) (fun cdv A outer s H vs Q E hcd hg hr h => ?_)
  exact ⟨_, (pss_cons (ps_expr (pe_callW (ok_need_script T) (fun z => nomatch z) (hr.mono (by decide)) rfl T.F_need_script.mg T.F_need_script.fn.kp T.F_need_script.b .nil (takes_of rfl rfl rfl rfl) (pa_cons (pv 0) pa_nil)))
      (pss_one (ps_ret (pe_callB (cr_sum rfl) (by rfl) T.b_sum (by decide +kernel) (pa_cons (pe_lc (own := [("_", 1), ("again", 2), ("sets", 3), ("keeps", 4)]) rfl sc_size_of.nd (pi_any (pv 0)) (blkOk_by (own := [("_", 1), ("again", 2), ("sets", 3), ("keeps", 4)]) (N := n_size_of) (sc := defScope s_size_of) (by decide +kernel)) (fun _ _ _ _ _ => (pg_tup (n := 4) rfl (pgs_cons (pg_name (i := 1) sc_size_of.nd rfl (by first | exact Or.inl rfl | exact Or.inr rfl)) (pgs_cons (pg_name (i := 2) sc_size_of.nd rfl (by first | exact Or.inl rfl | exact Or.inr rfl)) (pgs_cons (pg_name (i := 3) sc_size_of.nd rfl (by first | exact Or.inl rfl | exact Or.inr rfl)) (pgs_cons (pg_name (i := 4) sc_size_of.nd rfl (by first | exact Or.inl rfl | exact Or.inr rfl)) pgs_nil)))))) (fun _ _ _ _ _ => pts_nil) (fun _ _ _ _ _ => (pe_op op_addA (pe_op op_addA (pe_op op_addA pe_int (pe_callTy call_int1 (by rfl) T.b_int (by decide +kernel) (pa_cons (pv 2) pa_nil))) (pe_callB call_lenA (by rfl) T.b_len (by decide +kernel) (pa_cons (pv 3) pa_nil))) (pv 4)))) pa_nil))))),
    body_of (es_seq (es_drop (ev_call_ (ea_cons ev_var ea_nil)))
      (es_ret (ev_call rws_sum nox_sum (ea_cons (ev_lc (ei_any ev_var) (eg_tupL (egl_cons eg_name (egl_cons eg_name (egl_cons eg_name (egl_cons eg_name egl_nil)))) rfl) et_yes (ev_op rw_add nox_add (ev_op rw_add nox_add (ev_op rw_add nox_add (ev_c fun _ => .int _) (ev_call rws_int nox_int (ea_cons ev_var ea_nil))) (ev_call rws_len nox_len (ea_cons ev_var ea_nil))) ev_var) (by decide)) ea_nil)))) (by decide) h⟩
theorem ok__law_refused (T : Tp g w) (TB : LamX.TabB base g.mg T.cd__law_refused T.P__law_refused) : FnG P w g.K g.mg base false 9 T.f__law_refused T.fd__law_refused p__law_refused (spF g 2 d__law_refused) := by
  refine fn_bodyL T.F__law_refused.fn sc__law_refused (spF_len (ps := p__law_refused)) (fun A outer s H vs Q E hg hr h => ?_)
  exact ⟨_, (pss_cons (ps_set (i := 2) sc__law_refused.nd rfl (by first | exact Or.inl rfl | exact Or.inr rfl) (pe_lst (pa_cons (pe_raised (k := 6) rfl T.F__law_raised sc__law_raised rfl (.inl rfl) (fun _ => gives__law_raised T rfl rfl) TB rfl (by rw [T.tabs]; exact List.mem_cons_self ..) (tab_one T.tabs) (hr.mono (by decide)) (LamX.lamS_by (by show LamX.lamSB (defScope s__law_refused) _ = true; decide +kernel)) rfl (fun _ _ _ _ _ => rfl) (fun A2 outer2 s2 H2 E2 f2 c2 hr2 => (pe_callW (ok_expanded T) (fun z => nomatch z) (hr2.mono (by decide)) rfl T.F_expanded.mg T.F_expanded.fn.kp T.F_expanded.b .nil (takes_of rfl rfl rfl rfl) (pa_cons (pv 0) pa_nil)))) (pa_cons (pe_raisedY (k := 6) (y := "y") rfl T.F__law_raised sc__law_raised rfl (.inl rfl) (fun _ => gives__law_raised T rfl rfl) TB rfl (by rw [T.tabs]; exact List.mem_cons_self ..) (tab_one T.tabs) (hr.mono (by decide)) (lamY_by (by show lamYB n__law_refused (defScope s__law_refused) _ _ = true; decide +kernel)) rfl rfl (fun _ _ _ _ _ _ _ _ _ h => BindsTo.of_defaults rfl h rfl rfl rfl) (fun A2 outer2 s2 H2 E2 f2 c2 hr2 => (pe_callW (ok_size_of T) (fun z => nomatch z) (hr2.mono (by decide)) rfl T.F_size_of.mg T.F_size_of.fn.kp T.F_size_of.b .nil (takes_of rfl rfl rfl rfl) (pa_cons (pv 0) pa_nil)))) pa_nil))))
      (pss_one (ps_ret (pe_cmpR (op_eqA hr.units) (pe_op op_addA (pv 2) (pe_lst (pa_cons (pe_raised (k := 6) rfl T.F__law_raised sc__law_raised rfl (.inl rfl) (fun _ => gives__law_raised T rfl rfl) TB rfl (by rw [T.tabs]; exact List.mem_cons_self ..) (tab_one T.tabs) (hr.mono (by decide)) (LamX.lamS_by (by show LamX.lamSB (defScope s__law_refused) _ = true; decide +kernel)) rfl (fun _ _ _ _ _ => rfl) (fun A2 outer2 s2 H2 E2 f2 c2 hr2 => (pe_callW (ok_need_script T) (fun z => nomatch z) (hr2.mono (by decide)) rfl T.F_need_script.mg T.F_need_script.fn.kp T.F_need_script.b .nil (takes_of rfl rfl rfl rfl) (pa_cons (pv 0) pa_nil)))) pa_nil))) (pe_op op_mulA (pe_lst (pa_cons (pv 1) pa_nil)) pe_int) (nomark _))))),
    body_of (es_seq (es_asg (ev_lst (ea_cons (ev_raised (fun E2 => (ev_call_ (ea_cons ev_var ea_nil)))) (ea_cons (ev_raised (fun E2 => (ev_call_ (ea_cons ev_var ea_nil)))) ea_nil)) le1000) eg_name)
      (es_ret (ev_op rw_eq nox_eq (ev_op rw_add nox_add ev_var (ev_lst (ea_cons (ev_raised (fun E2 => (ev_call_ (ea_cons ev_var ea_nil)))) ea_nil) le1000)) (ev_op rw_mul nox_mul (ev_lst (ea_cons ev_var ea_nil) le1000) (ev_c fun _ => .int _))))) (by decide) h⟩
theorem ok_law (T : Tp g w) (TB : LamX.TabB base g.mg T.cd__law_refused T.P__law_refused) : FnG P w g.K g.mg base false 10 T.f_law T.fd_law p_law (spF g 1 d_law) := by
  refine fn_body T.F_law.fn sc_law (spF_len (ps := p_law)) (fun cdv A outer s H vs Q E hcd hg hr h => ?_)
  exact ⟨_, (pss_cons (ps_set (i := 1) sc_law.nd rfl (by first | exact Or.inl rfl | exact Or.inr rfl) (pe_callW (ok__law_begin T) (fun z => nomatch z) (hr.mono (by decide)) rfl T.F__law_begin.mg T.F__law_begin.fn.kp T.F__law_begin.b .nil (takes_of rfl rfl rfl rfl) (pa_cons (pv 0) pa_nil)))
      (pss_cons (ps_for (passes_of rfl) rfl (pi_range1 (by rfl) T.b_range (pa_cons (pe_op op_addA pe_int (pe_callB (call_min2 rfl) (by rfl) T.b_min (by decide +kernel) (pa_cons pe_int (pa_cons (pe_callB call_lenA (by rfl) T.b_len (by decide +kernel) (pa_cons (pv 0) pa_nil)) pa_nil)))) pa_nil)) (pg_name (i := 2) sc_law.nd rfl (by first | exact Or.inl rfl | exact Or.inr rfl))
      (pss_cons (ps_set (i := 6) sc_law.nd rfl (by first | exact Or.inl rfl | exact Or.inr rfl) (pe_op op_addA pe_int (pe_callW (ok__law_draw T) (fun z => nomatch z) (hr.mono (by decide)) rfl T.F__law_draw.mg T.F__law_draw.fn.kp T.F__law_draw.b .nil (takes_of rfl rfl rfl rfl) (pa_cons (pv 1) (pa_cons pe_int pa_nil)))))
      (pss_cons (ps_setLc (i := 4) (own := [("k", 11)]) rfl sc_law.nd rfl rfl (sw_true rfl rfl rfl (by decide +kernel)) (pi_range1 (by rfl) T.b_range (pa_cons (pv 6) pa_nil)) (blkOk_by (own := [("k", 11)]) (N := n_law) (sc := defScope s_law) (by decide +kernel)) (fun _ _ _ _ _ => (pg_name (i := 11) sc_law.nd rfl (by first | exact Or.inl rfl | exact Or.inr rfl))) (fun _ _ _ _ _ => pts_nil) (fun _ _ _ _ _ => (pe_tupF (pa_cons (pe_op op_mulA pe_int (pv 11)) (pa_cons pe_bl (pa_cons (pe_tupF pa_nil) (pa_cons pe_int pa_nil)))))))
      (pss_cons (ps_set (i := 7) sc_law.nd rfl (by first | exact Or.inl rfl | exact Or.inr rfl) (pe_callW (ok__law_draw T) (fun z => nomatch z) (hr.mono (by decide)) rfl T.F__law_draw.mg T.F__law_draw.fn.kp T.F__law_draw.b .nil (takes_of rfl rfl rfl rfl) (pa_cons (pv 1) (pa_cons (pv 6) pa_nil))))
      (pss_cons (ps_asg (pe_callW (ok__law_spoilt T) (fun z => nomatch z) (hr.mono (by decide)) rfl T.F__law_spoilt.mg T.F__law_spoilt.fn.kp T.F__law_spoilt.b .nil (takes_of rfl rfl rfl rfl) (pa_cons (pv 1) (pa_cons (pe_op op_mulA pe_int (pv 7)) (pa_cons (pe_ifExp (pt_cmpR op_gt (pv 7) pe_int (nomark _)) (pe_op op_sub (pe_op op_mulA pe_int (pv 7)) pe_int) pe_int) pa_nil)))) (pg_sub (pv 4) (pv 7) (set_any (hu_of hr))))
      (pss_one (ps_if (pt_not (pt_val (pe_callW (ok__law_refused T TB) (fun z => nomatch z) (hr.mono (by decide)) rfl T.F__law_refused.mg T.F__law_refused.fn.kp T.F__law_refused.b .nil (takes_of rfl rfl rfl rfl) (pa_cons (pe_callTy call_tupF (by rfl) T.b_tuple (by decide +kernel) (pa_cons (pv 4) pa_nil)) (pa_cons (pe_tupF (pa_cons pe_str (pa_cons (pv 7) pa_nil))) pa_nil))))) (pss_one (ps_ret pe_bl)) pss_nil)))))))
      (pss_cons (ps_for (passes_of rfl) rfl (pi_any (pe_lst (pa_cons pe_non (pa_cons (pe_tupF pa_nil) (pa_cons (pe_lst pa_nil) (pa_cons pe_dnewK (pa_cons pe_str (pa_cons pe_int (pa_cons (pe_lst (pa_cons (pe_tupF (pa_cons pe_int (pa_cons pe_bl (pa_cons (pe_tupF pa_nil) (pa_cons pe_int pa_nil))))) pa_nil)) (pa_cons (pe_op op_mulA (pe_tupF (pa_cons (pe_tupF (pa_cons pe_int (pa_cons pe_bl (pa_cons (pe_tupF pa_nil) (pa_cons pe_int pa_nil))))) pa_nil)) pe_int) pa_nil)))))))))) (pg_name (i := 3) sc_law.nd rfl (by first | exact Or.inl rfl | exact Or.inr rfl))
      (pss_one (ps_if (pt_not (pt_val (pe_callW (ok__law_refused T TB) (fun z => nomatch z) (hr.mono (by decide)) rfl T.F__law_refused.mg T.F__law_refused.fn.kp T.F__law_refused.b .nil (takes_of rfl rfl rfl rfl) (pa_cons (pv 3) (pa_cons (pe_tupF (pa_cons pe_str (pa_cons pe_non pa_nil))) pa_nil))))) (pss_one (ps_ret pe_bl)) pss_nil)))
      (pss_cons (ps_asg (pe_tupF (pa_cons (pe_tupF (pa_cons pe_int (pa_cons pe_bl (pa_cons (pe_tupF pa_nil) (pa_cons pe_int pa_nil))))) (pa_cons (pe_tupF (pa_cons pe_int (pa_cons pe_bl (pa_cons (pe_tupF pa_nil) (pa_cons pe_int pa_nil))))) (pa_cons (pe_tupF (pa_cons pe_int (pa_cons pe_bl (pa_cons (pe_tupF (pa_cons (pe_tupF (pa_cons pe_str (pa_cons pe_non pa_nil))) pa_nil)) (pa_cons pe_int pa_nil))))) pa_nil)))) (pg_tup (n := 3) rfl (pgs_cons (pg_name (i := 8) sc_law.nd rfl (by first | exact Or.inl rfl | exact Or.inr rfl)) (pgs_cons (pg_name (i := 9) sc_law.nd rfl (by first | exact Or.inl rfl | exact Or.inr rfl)) (pgs_cons (pg_name (i := 10) sc_law.nd rfl (by first | exact Or.inl rfl | exact Or.inr rfl)) pgs_nil)))))
      (pss_cons (ps_for (passes_of rfl) rfl (pi_any (pe_lst (pa_cons (pe_tupF (pa_cons (pv 8) (pa_cons (pv 9) (pa_cons pe_non pa_nil)))) (pa_cons (pe_tupF (pa_cons (pv 8) (pa_cons pe_non (pa_cons (pv 9) pa_nil)))) (pa_cons (pe_tupF (pa_cons (pv 8) (pa_cons (pv 10) (pa_cons pe_non pa_nil)))) (pa_cons (pe_tupF (pa_cons (pv 8) (pa_cons pe_non (pa_cons (pv 10) pa_nil)))) pa_nil)))))) (pg_name (i := 4) sc_law.nd rfl (by first | exact Or.inl rfl | exact Or.inr rfl))
      (pss_one (ps_if (pt_not (pt_val (pe_callW (ok__law_refused T TB) (fun z => nomatch z) (hr.mono (by decide)) rfl T.F__law_refused.mg T.F__law_refused.fn.kp T.F__law_refused.b .nil (takes_of rfl rfl rfl rfl) (pa_cons (pv 4) (pa_cons (pe_tupF (pa_cons pe_str (pa_cons pe_int pa_nil))) pa_nil))))) (pss_one (ps_ret pe_bl)) pss_nil)))
      (pss_cons (ps_for (passes_of rfl) rfl (pi_any (pe_lst (pa_cons (pe_tupF (pa_cons pe_int (pa_cons pe_bl (pa_cons (pe_tupF pa_nil) (pa_cons pe_int pa_nil))))) (pa_cons (pe_tupF (pa_cons pe_int (pa_cons pe_bl (pa_cons (pe_tupF pa_nil) (pa_cons pe_int pa_nil))))) (pa_cons (pe_tupF (pa_cons pe_bl (pa_cons pe_bl (pa_cons (pe_tupF pa_nil) (pa_cons pe_int pa_nil))))) (pa_cons (pe_tupF (pa_cons (pe_un un_neg pe_int) (pa_cons pe_bl (pa_cons (pe_tupF pa_nil) (pa_cons pe_int pa_nil))))) pa_nil)))))) (pg_name (i := 5) sc_law.nd rfl (by first | exact Or.inl rfl | exact Or.inr rfl))
      (pss_one (ps_if (pt_not (pt_val (pe_callW (ok__law_refused T TB) (fun z => nomatch z) (hr.mono (by decide)) rfl T.F__law_refused.mg T.F__law_refused.fn.kp T.F__law_refused.b .nil (takes_of rfl rfl rfl rfl) (pa_cons (pe_tupF (pa_cons (pv 5) pa_nil)) (pa_cons (pe_tupF (pa_cons pe_str (pa_cons pe_int pa_nil))) pa_nil))))) (pss_one (ps_ret pe_bl)) pss_nil)))
      (pss_one (ps_ret pe_bl)))))))),
    body_of (es_seq (es_asg (ev_call_ (ea_cons ev_var ea_nil)) eg_name)
      (es_seq (es_for (ei_range1 (ev_op rw_add nox_add (ev_c fun _ => .int _) (ev_call rws_min2 nox_min2 (ea_cons (ev_c fun _ => .int _) (ea_cons (ev_call rws_len nox_len (ea_cons ev_var ea_nil)) ea_nil))))) eg_name
      (es_seq (es_asg (ev_op rw_add nox_add (ev_c fun _ => .int _) (ev_call_ (ea_cons ev_var (ea_cons (ev_c fun _ => .int _) ea_nil)))) eg_name)
      (es_seq (es_asg (ev_lc (ei_range1 ev_var) eg_name et_yes (ev_tup (ea_cons (ev_op rw_mul nox_mul (ev_c fun _ => .int _) ev_var) (ea_cons (ev_c fun _ => .bl _) (ea_cons (ev_tup ea_nil le1000) (ea_cons (ev_c fun _ => .int _) ea_nil)))) le1000) (by decide)) eg_name)
      (es_seq (es_asg (ev_call_ (ea_cons ev_var (ea_cons ev_var ea_nil))) eg_name)
      (es_seq (es_asg (ev_call_ (ea_cons ev_var (ea_cons (ev_op rw_mul nox_mul (ev_c fun _ => .int _) ev_var) (ea_cons (ev_if (et_test (ev_op (rw_I0 fun _ _ _ => .bl _) nox_I0 ev_var (ev_c fun _ => .int _))) (ev_op (rw_I0 fun _ _ _ => .int _) nox_I0 (ev_op rw_mul nox_mul (ev_c fun _ => .int _) ev_var) (ev_c fun _ => .int _)) (ev_c fun _ => .int _)) ea_nil)))) (eg_sub ev_var ev_var))
      (es_if (et_not (et_B (ev_call_ (ea_cons (ev_call rws_tup nox_tup (ea_cons ev_var ea_nil)) (ea_cons (ev_tup (ea_cons (ev_c fun _ => .str _) (ea_cons ev_var ea_nil)) le1000) ea_nil))))) (es_ret (ev_c fun _ => .bl _)) es_next))))))
      (es_seq (es_for (ei_any (ev_lst (ea_cons (ev_c fun _ => .non) (ea_cons (ev_tup ea_nil le1000) (ea_cons (ev_lst ea_nil le1000) (ea_cons ev_dict0 (ea_cons (ev_c fun _ => .str _) (ea_cons (ev_c fun _ => .int _) (ea_cons (ev_lst (ea_cons (ev_tup (ea_cons (ev_c fun _ => .int _) (ea_cons (ev_c fun _ => .bl _) (ea_cons (ev_tup ea_nil le1000) (ea_cons (ev_c fun _ => .int _) ea_nil)))) le1000) ea_nil) le1000) (ea_cons (ev_op rw_mul nox_mul (ev_tup (ea_cons (ev_tup (ea_cons (ev_c fun _ => .int _) (ea_cons (ev_c fun _ => .bl _) (ea_cons (ev_tup ea_nil le1000) (ea_cons (ev_c fun _ => .int _) ea_nil)))) le1000) ea_nil) le1000) (ev_c fun _ => .int _)) ea_nil)))))))) le1000)) eg_name
      (es_if (et_not (et_B (ev_call_ (ea_cons ev_var (ea_cons (ev_tup (ea_cons (ev_c fun _ => .str _) (ea_cons (ev_c fun _ => .non) ea_nil)) le1000) ea_nil))))) (es_ret (ev_c fun _ => .bl _)) es_next))
      (es_seq (es_asg (ev_tup (ea_cons (ev_tup (ea_cons (ev_c fun _ => .int _) (ea_cons (ev_c fun _ => .bl _) (ea_cons (ev_tup ea_nil le1000) (ea_cons (ev_c fun _ => .int _) ea_nil)))) le1000) (ea_cons (ev_tup (ea_cons (ev_c fun _ => .int _) (ea_cons (ev_c fun _ => .bl _) (ea_cons (ev_tup ea_nil le1000) (ea_cons (ev_c fun _ => .int _) ea_nil)))) le1000) (ea_cons (ev_tup (ea_cons (ev_c fun _ => .int _) (ea_cons (ev_c fun _ => .bl _) (ea_cons (ev_tup (ea_cons (ev_tup (ea_cons (ev_c fun _ => .str _) (ea_cons (ev_c fun _ => .non) ea_nil)) le1000) ea_nil) le1000) (ea_cons (ev_c fun _ => .int _) ea_nil)))) le1000) ea_nil))) le1000) (eg_tupL (egl_cons eg_name (egl_cons eg_name (egl_cons eg_name egl_nil))) rfl))
      (es_seq (es_for (ei_any (ev_lst (ea_cons (ev_tup (ea_cons ev_var (ea_cons ev_var (ea_cons (ev_c fun _ => .non) ea_nil))) le1000) (ea_cons (ev_tup (ea_cons ev_var (ea_cons (ev_c fun _ => .non) (ea_cons ev_var ea_nil))) le1000) (ea_cons (ev_tup (ea_cons ev_var (ea_cons ev_var (ea_cons (ev_c fun _ => .non) ea_nil))) le1000) (ea_cons (ev_tup (ea_cons ev_var (ea_cons (ev_c fun _ => .non) (ea_cons ev_var ea_nil))) le1000) ea_nil)))) le1000)) eg_name
      (es_if (et_not (et_B (ev_call_ (ea_cons ev_var (ea_cons (ev_tup (ea_cons (ev_c fun _ => .str _) (ea_cons (ev_c fun _ => .int _) ea_nil)) le1000) ea_nil))))) (es_ret (ev_c fun _ => .bl _)) es_next))
      (es_seq (es_for (ei_any (ev_lst (ea_cons (ev_tup (ea_cons (ev_c fun _ => .int _) (ea_cons (ev_c fun _ => .bl _) (ea_cons (ev_tup ea_nil le1000) (ea_cons (ev_c fun _ => .int _) ea_nil)))) le1000) (ea_cons (ev_tup (ea_cons (ev_c fun _ => .int _) (ea_cons (ev_c fun _ => .bl _) (ea_cons (ev_tup ea_nil le1000) (ea_cons (ev_c fun _ => .int _) ea_nil)))) le1000) (ea_cons (ev_tup (ea_cons (ev_c fun _ => .bl _) (ea_cons (ev_c fun _ => .bl _) (ea_cons (ev_tup ea_nil le1000) (ea_cons (ev_c fun _ => .int _) ea_nil)))) le1000) (ea_cons (ev_tup (ea_cons (ev_un rw_neg nox_neg (ev_c fun _ => .int _)) (ea_cons (ev_c fun _ => .bl _) (ea_cons (ev_tup ea_nil le1000) (ea_cons (ev_c fun _ => .int _) ea_nil)))) le1000) ea_nil)))) le1000)) eg_name
      (es_if (et_not (et_B (ev_call_ (ea_cons (ev_tup (ea_cons ev_var ea_nil) le1000) (ea_cons (ev_tup (ea_cons (ev_c fun _ => .str _) (ea_cons (ev_c fun _ => .int _) ea_nil)) le1000) ea_nil))))) (es_ret (ev_c fun _ => .bl _)) es_next))
      (es_ret (ev_c fun _ => .bl _)))))))) (by decide) h⟩
end
end Law

/-! P0 -/
namespace Law
open PySem UW
section
variable {z : PH} {Q : D → PH → Prop} {E : XD}
def isReg : D → Bool
  | .str s => inL (.str s) [.str "p", .str "q", .str "r", .str "s", .str "x", .str "y"]
  | _ => false
def isBas : D → Bool
  | .str s => decide (s = "sp") || isReg (.str s)
  | _ => false
def isBet (lo hi : Int) : D → Bool
  | .int i => decide (lo ≤ i) && decide (i ≤ hi)
  | _ => false
theorem between_ok {d : D} {lo hi : Int} (h : Kn z d) : Wp (d_is_between [d, .int lo, .int hi] z) Q E = Q (.bl (isBet lo hi d)) z := by
  simp! [d_is_between]
  cases d with
  | int i =>
    by_cases h1 : lo ≤ i
    · simp! [D.isIntD, D.isBlD, isBet, h1]
    · simp! [D.isIntD, D.isBlD, isBet, h1]
  | _ => simp! [D.isIntD, D.isBlD, isBet]
theorem bas_ok {d : D} (h : Kn z d) : Wp (d_is_basis [d] z) Q E = Q (.bl (isBas d)) z := by
  simp! [d_is_basis]
  cases d with
  | str s => 
    simp! [D.isStrD, isBas, isReg, D.isSc, List.all_cons, List.all_nil]
    by_cases c : s = "sp"
    · simp! [c]
    · simp! [c, D.isSc, List.all_cons, List.all_nil]
  | _ => simp! [D.isStrD, isBas]
end
end Law

/-! T1a -/
set_option pp.maxSteps 250
/-! findings, wheres, rules, tables -/
namespace Law
open PySem UW
section
variable {z : PH} {Q : D → PH → Prop} {E : XD}
def isFind : D → Bool
  | .tup [b, n] => isBas b && isBet (-64) 128 n
  | _ => false
theorem find_ok {d : D} (h : KnD z 1 d) : Wp (mCut (d_is_finding [d]) z) (fun x z' => x = .bl (isFind d) ∧ Fr 0 z z') E := by
  refine sat_mcut_fr (R := fun x => x = .bl (isFind d)) ?_
  have h0 := h.kn
  simp! [d_is_finding]
  cases d with
  | tup ps =>
    match ps, h with
    | [], h => simp! [D.isTupD, isFind, Int.natCast_zero, Int.natCast_one, Int.cast_ofNat_Int]; exact Fr.rfl
    | [a], h => simp! [D.isTupD, isFind, Int.natCast_zero, Int.natCast_one, Int.cast_ofNat_Int]; exact Fr.rfl
    | [a, b], h =>
      have ka : Kn z a := h.item (.head _)
      have kb : Kn z b := h.item (.tail _ (.head _))
      simp! [D.isTupD, isFind, k_MOST_WORDS, k_MOST_FINDING, Int.natCast_zero, Int.natCast_one, Int.cast_ofNat_Int]
      refine mono_wp (cut_is fun _ => bas_ok ka) (fun x z1 q => ?_) fun _ _ _ q => q
      obtain ⟨rfl, f1⟩ := q
      cases e : isBas a with
      | false => simp! []; exact f1
      | true =>
        simp! []
        refine mono_wp (cut_is fun _ => between_ok (kb.fr (b := 0) f1)) (fun x z2 q => ?_) fun _ _ _ q => q
        obtain ⟨rfl, f2⟩ := q
        simp! []
        exact f1.trans f2
    | a :: b :: c :: r, h =>
      have e1 : ¬ ((r.length + 1 + 1 + 1 : Nat) : Int) = 2 := by omega
      simp! [D.isTupD, isFind, List.length_cons, e1]
      exact Fr.rfl
  | _ => simp! [D.isTupD, isFind, Int.natCast_zero, Int.natCast_one, Int.cast_ofNat_Int]; exact Fr.rfl
/-! wheres -/
def isWhere : D → Bool
  | .tup [.str w, .str r] => decide (w = "in") && isReg (.str r)
  | .tup [.str w, .int k] => decide (w = "word") && (decide (-64 ≤ k) && decide (k ≤ 0))
  | .tup [.str w] => decide (w = "lost")
  | _ => false
def areWheres : D → Bool
  | .tup ws => ws.all isWhere
  | _ => false
def WStep (ws : List D) (d : D) (z : PH) (p : Fl × UW.Env) (z2 : PH) : Prop := Fr 0 z z2 ∧ ((isWhere d = true ∧ p.1 = .nx ∧ ∃ b c d0 e, p.2 = [some (.tup ws), some d, b, c, d0, e]) ∨ (isWhere d = false ∧ p.1 = .rt (.bl false)))
theorem WStep.yes {ws : List D} {d : D} {z : PH} {b c d0 e : Option D} (h : isWhere d = true) : WStep ws d z (.nx, [some (.tup ws), some d, b, c, d0, e]) z := ⟨Fr.rfl, .inl ⟨h, rfl, _, _, _, _, rfl⟩⟩
theorem WStep.no {ws : List D} {d : D} {z : PH} {ρ : UW.Env} (h : isWhere d = false) : WStep ws d z (.rt (.bl false), ρ) z := ⟨Fr.rfl, .inr ⟨h, rfl⟩⟩
theorem wheres_ok {ws : List D} (h : KnD z 2 (.tup ws)) : Wp (mCut (d_are_wheres [.tup ws]) z) (fun x z' => x = .bl (ws.all isWhere) ∧ Fr 0 z z') E := by
  refine sat_mcut_fr (R := fun x => x = .bl (ws.all isWhere)) ?_
  have hl : ws.length ≤ 16000 := h.kn
  simp! [d_are_wheres]
  refine sat_loopF ws.length ws (fun i ρ z' => i ≤ ws.length ∧ (∀ (j : Nat) y, j < i → ws[j]? = some y → isWhere y = true) ∧ (∃ a b c d e, ρ = [some (.tup ws), a, b, c, d, e]) ∧ Fr 0 z z') rfl (fun i ρ z' q => rfl) (fun i ρ z' d hd q => ?_) (fun ρ z' q => ?_) maxTurns 0 _ z
    ⟨Nat.zero_le _, fun j y hj => absurd hj (Nat.not_lt_zero _), ⟨_, _, _, _, _, rfl⟩, Fr.rfl⟩ (Nat.zero_le _) (by simp only [maxTurns]; omega)
  · obtain ⟨q1, q2, ⟨a, b, c, d0, e, rfl⟩, f⟩ := q
    have kd : KnD z' 1 d := (h.item (List.mem_of_getElem? hd)).fr f
    have hi := (List.getElem?_eq_some_iff.mp hd).1
    rw [W_gNm]
    refine mono_wp (P := WStep ws d z') ?_ (fun p z2 q => ?_) fun _ _ _ q => q
    · have k0 := kd.kn
      simp! []
      cases d with
      | tup ps =>
        match ps, kd with
        | [], kd => simp! [D.isTupD, Int.natCast_zero, Int.natCast_one, Int.cast_ofNat_Int]; exact .no rfl
        | [x], kd =>
          have kx : Kn z' x := kd.item (.head _)
          cases x with
          | str w =>
            by_cases c1 : w = "lost"
            · subst c1
              simp! [D.isTupD, D.isStrD, ↓W_at0, Int.natCast_zero, Int.natCast_one, Int.cast_ofNat_Int]; exact .yes (by simp [isWhere])
            · simp! [D.isTupD, D.isStrD, c1, ↓W_at0, Int.natCast_zero, Int.natCast_one, Int.cast_ofNat_Int]; exact .no (by simp [isWhere, c1])
          | _ => simp! [D.isTupD, D.isStrD, ↓W_at0, Int.natCast_zero, Int.natCast_one, Int.cast_ofNat_Int]; exact .no rfl
        | [x, y], kd =>
          have kx : Kn z' x := kd.item (.head _)
          have ky : Kn z' y := kd.item (.tail _ (.head _))
          cases y with
          | str r =>
            cases x with
            | str w =>
              by_cases c1 : w = "in"
              · subst c1
                cases cr : isReg (.str r) with
                | true =>
                  have cr2 : inL (.str r) [.str "p", .str "q", .str "r", .str "s", .str "x", .str "y"] = true := cr
                  simp! [D.isTupD, D.isStrD, D.isSc, List.all_cons, List.all_nil, cr2, Int.natCast_zero, Int.natCast_one, Int.cast_ofNat_Int]; exact .yes (by simp [isWhere, cr])
                | false =>
                  have cr2 : inL (.str r) [.str "p", .str "q", .str "r", .str "s", .str "x", .str "y"] = false := cr
                  simp! [D.isTupD, D.isStrD, D.isSc, List.all_cons, List.all_nil, cr2, Int.natCast_zero, Int.natCast_one, Int.cast_ofNat_Int]; exact .no (by simp [isWhere, cr])
              · simp! [D.isTupD, D.isStrD, c1, Int.natCast_zero, Int.natCast_one, Int.cast_ofNat_Int]; exact .no (by simp [isWhere, c1])
            | _ => simp! [D.isTupD, D.isStrD, Int.natCast_zero, Int.natCast_one, Int.cast_ofNat_Int]; exact .no rfl
          | int i =>
            cases x with
            | str w =>
              by_cases c1 : w = "word"
              · subst c1
                by_cases c2 : -64 ≤ i
                · by_cases c3 : i ≤ 0
                  · simp! [D.isTupD, D.isStrD, D.isIntD, D.isBlD, k_MOST_WORDS, c2, c3, Int.natCast_zero, Int.natCast_one, Int.cast_ofNat_Int]; exact .yes (by simp [isWhere, c2, c3])
                  · simp! [D.isTupD, D.isStrD, D.isIntD, D.isBlD, k_MOST_WORDS, c2, c3, Int.natCast_zero, Int.natCast_one, Int.cast_ofNat_Int]; exact .no (by simp [isWhere, c3])
                · simp! [D.isTupD, D.isStrD, D.isIntD, D.isBlD, k_MOST_WORDS, c2, Int.natCast_zero, Int.natCast_one, Int.cast_ofNat_Int]; exact .no (by simp [isWhere, c2])
              · simp! [D.isTupD, D.isStrD, D.isIntD, D.isBlD, c1, Int.natCast_zero, Int.natCast_one, Int.cast_ofNat_Int]; exact .no (by simp [isWhere, c1])
            | _ => simp! [D.isTupD, D.isStrD, D.isIntD, D.isBlD, Int.natCast_zero, Int.natCast_one, Int.cast_ofNat_Int]; exact .no rfl
          | _ =>
            cases x with
            | str w =>
              by_cases c1 : w = "word"
              · subst c1
                simp! [D.isTupD, D.isStrD, D.isIntD, D.isBlD, Int.natCast_zero, Int.natCast_one, Int.cast_ofNat_Int]; exact .no rfl
              · simp! [D.isTupD, D.isStrD, D.isIntD, D.isBlD, c1, Int.natCast_zero, Int.natCast_one, Int.cast_ofNat_Int]; exact .no rfl
            | _ => simp! [D.isTupD, D.isStrD, D.isIntD, D.isBlD, Int.natCast_zero, Int.natCast_one, Int.cast_ofNat_Int]; exact .no rfl
        | x :: y :: w :: r, kd =>
          have e1 : ¬ ((r.length + 1 + 1 + 1 : Nat) : Int) = 2 := by omega
          have e2 : ¬ ((r.length + 1 + 1 + 1 : Nat) : Int) = 1 := by omega
          simp! [D.isTupD, e1, e2]
          exact .no (by cases x <;> cases y <;> rfl)
      | _ => simp! [D.isTupD]; exact .no rfl
    · obtain ⟨f2, q⟩ := q
      obtain ⟨fl, ρ2⟩ := p
      rcases q with ⟨g, rfl, a, b, c, e, rfl⟩ | ⟨g, rfl⟩
      · refine ⟨hi, fun j y hj hy => ?_, ⟨_, _, _, _, _, rfl⟩, f.trans f2⟩
        by_cases ej : j = i
        · subst ej
          rw [hd] at hy
          cases hy
          exact g
        · exact q2 j y (by omega) hy
      · simp! []
        refine ⟨?_, f.trans f2⟩
        have : ws.all isWhere = false := List.all_eq_false.mpr ⟨d, List.mem_of_getElem? hd, by rw [g]; exact Bool.false_ne_true⟩
        rw [this]
  · obtain ⟨q1, q2, ⟨a, b, c, d0, e, rfl⟩, f⟩ := q
    simp! []
    refine ⟨?_, f⟩
    have : ws.all isWhere = true := List.all_eq_true.mpr fun y hy => by
      obtain ⟨j, hj⟩ := List.getElem?_of_mem hy
      exact q2 j y (List.getElem?_eq_some_iff.mp hj).1 hj
    rw [this]
/-! rules -/
def isWord : D → Bool
  | .tup (.str w :: _) => decide (w = "word")
  | _ => false
def isRule (f s : D) : Bool := match s with
  | .tup ws => decide (ws.length = 5) && (ws.all isWhere && (match f with | .non => !(ws.any isWord) | _ => isFind f))
  | _ => false
theorem known_of {d : D} (h : Kn z d) : d.known = true := by
  cases d <;> first | rfl | exact (show False from h).elim
theorem where_head {d : D} (h : isWhere d = true) : ∃ w r, d = .tup (.str w :: r) := by
  unfold isWhere at h
  split at h <;> first | exact ⟨_, _, rfl⟩ | cases h
theorem rule_ok {f s : D} (hf : KnD z 1 f) (hs : KnD z 2 s) : Wp (mCut (d_is_rule [f, s]) z) (fun x z' => x = .bl (isRule f s) ∧ Fr 0 z z') E := by
  refine sat_mcut_fr (R := fun x => x = .bl (isRule f s)) ?_
  have k0 := hs.kn
  simp! [d_is_rule]
  cases s with
  | tup ws =>
    have hl : ws.length ≤ 16000 := k0
    by_cases c5 : ws.length = 5
    · have e5 : ((5 : Nat) : Int) = 5 := rfl
      simp! [D.isTupD, c5, k_ITEMS, e5, Int.natCast_zero, Int.natCast_one, Int.cast_ofNat_Int]
      refine mono_wp (wheres_ok hs) (fun x z1 q => ?_) fun _ _ _ q => q
      obtain ⟨rfl, f1⟩ := q
      cases hw : ws.all isWhere with
      | false =>
        simp! [isRule, hw]
        exact f1
      | true =>
        have kf := hf.fr f1
        have kn := known_of kf.kn
        simp! [↓W_is, kn]
        cases f with
        | non =>
          simp! [isNon_non, wipeE]
          refine mono_wp (lc_map (b := 0) ws (fun d => .bl (isWord d)) (by simp only [maxTurns]; omega) (fun i z' _ _ => rfl) (fun z' d hd f => ?_)) (fun rs z2 q => ?_) fun _ _ _ q => q
          · obtain ⟨w, r, rfl⟩ := where_head (List.all_eq_true.mp hw d hd)
            simp! [↓W_at0, isWord]
            exact Fr.rfl
          · have hg : (z2.new (.lst rs)).get z2.n = some (.lst ((ws.map isWord).map D.bl)) := by
              rw [get_new_eq, q.1, List.map_map]
              rfl
            simp! [↓W_any hg]
            refine ⟨?_, (f1.trans q.2).trans Fr.new⟩
            simp [isRule, hw, c5, List.any_map]
        | _ =>
          simp! [D.isNon]
          refine mono_wp (find_ok kf) (fun x z2 q => ?_) fun _ _ _ q => q
          obtain ⟨rfl, f2⟩ := q
          simp! []
          refine ⟨?_, f1.trans f2⟩
          simp [isRule, hw, c5]
    · have e5 : ¬ (ws.length : Int) = 5 := by omega
      simp! [D.isTupD, e5, k_ITEMS, Int.natCast_zero, Int.natCast_one, Int.cast_ofNat_Int]
      refine ⟨?_, Fr.rfl⟩
      simp [isRule, c5]
  | _ => simp! [D.isTupD, isRule]; exact Fr.rfl
end
end Law

/-! P2 -/
namespace Law
open PySem UW
section
variable {z : PH} {Q : D → PH → Prop} {E : XD}
def BdK (k : Int) : Prop := -4000000000000000000 < k ∧ k < 4000000000000000000
theorem mixed_ok {c k : Int} (h : BdK k) : Wp (mCut (d__law_mixed [.int c, .int k]) z) (fun x z' => (∃ r, x = .int r ∧ 0 ≤ r ∧ r < 2147483629) ∧ Fr 0 z z') E := by
  refine sat_mcut_fr (R := fun x => ∃ r, x = .int r ∧ 0 ≤ r ∧ r < 2147483629) ?_
  obtain ⟨h1, h2⟩ := h
  simp! [d__law_mixed]
  exact ⟨⟨_, rfl, Int.emod_nonneg _ (by decide), Int.emod_lt_of_pos _ (by decide)⟩, Fr.rfl⟩
/-- the draws' state at s: so many drawn; it lies below b -/
def SI (b : Nat) (z : PH) (s : Nat) (n : Nat) : Prop := ∃ (c l : Nat) (cs ls : List Int), (c < b ∧ l < b ∧ s < b ∧ c ≠ l ∧ b ≤ z.n) ∧
  z.get s = some (.dct [(.str "cells", .ref c), (.str "lefts", .ref l), (.str "at", .int n)]) ∧ z.get c = some (.lst (cs.map D.int)) ∧ z.get l = some (.lst (ls.map D.int)) ∧
  (ls.length = cs.length ∧ 0 < cs.length ∧ cs.length < 1000) ∧ ∀ x ∈ ls, 0 ≤ x
theorem SI.of {b n s : Nat} {z z' : PH} (h : SI b z s n) (hn : b ≤ z'.n) (f : ∀ k, k < b → z'.get k = z.get k) : SI b z' s n := by
  obtain ⟨c, l, cs, ls, ⟨i1, i2, i3, i4, _⟩, h2, h3, h4, h5⟩ := h
  exact ⟨c, l, cs, ls, ⟨i1, i2, i3, i4, hn⟩, (f _ i3).trans h2, (f _ i1).trans h3, (f _ i2).trans h4, h5⟩
theorem SI.le {b n s : Nat} {z : PH} (h : SI b z s n) : b ≤ z.n := by
  obtain ⟨_, _, _, _, ⟨_, _, _, _, h⟩, _⟩ := h
  exact h
theorem SI.fr {b n s : Nat} {z z' : PH} (h : SI b z s n) (f : Fr 0 z z') : SI b z' s n := h.of (Nat.le_trans h.le f.1) fun k hk => f.2 k (Nat.zero_le _) (Nat.lt_of_lt_of_le hk h.le)
theorem SI.put {b n s r : Nat} {o : PO} {vs : List D} (h : SI b z s n) (hr : b ≤ r) (hz : r < z.n) : SI b (z.put r o vs) s n := h.of (by rw [PH.n_put]; exact h.le) fun k hk => by rw [PH.get_put _ _ _ _ _ hz, if_neg (by omega)]
/-- what a draw does -/
def KK (z z' : PH) : Prop := ∀ d, Kn z d → Kn z' d
theorem KK.trans {z z1 z2 : PH} (h : KK z z1) (h' : KK z1 z2) : KK z z2 := fun d k => h' d (h d k)
theorem KK.fr {z z1 : PH} (h : Fr 0 z z1) : KK z z1 := fun d k => k.fr (b := 0) h
/-- what is told of the older ones -/
theorem KK.old {z z1 z2 : PH} (h : KK z z1) (hk : ∀ k, k < z.n → z2.get k = z1.get k) : KK z z2 := fun d k => by
  have k1 := h d k
  cases d with
  | ref r =>
    obtain ⟨o, e, _⟩ := k
    obtain ⟨o1, e1, q⟩ := k1
    exact ⟨o1, (hk r (PH.get_lt e)).trans e1, q⟩
  | _ => exact k1
def Drawn (b s n : Nat) (z : PH) (R : D → Prop) : D → PH → Prop := fun x z' => R x ∧ SI b z' s (n + 1) ∧ Fr b z z' ∧ KK z z'
theorem drawn_cut {b s n : Nat} {z : PH} {m : M D} {R : D → Prop} (hb : b ≤ z.n) (h : Wp (m z) (Drawn b s n z R) E) : Wp (mCut m z) (Drawn b s n z R) E := by
  refine sat_mcut_st (fun d z1 z2 q h1 h2 h3 => ⟨q.1, q.2.1.of (by omega) fun k hk => h3 k (by omega), q.2.2.1.of h2 h3, q.2.2.2.old h3⟩) (mono_wp h (fun x z1 q => ⟨q.2.2.1.1, q⟩) fun _ _ _ q => q)
theorem draw_ok {b n s : Nat} {many : Int} (h : SI b z s n) (hn : n < 1000000) (m0 : 0 < many) (m1 : many < 1073741824) :
    Wp (mCut (d__law_draw [.ref s, .int many]) z) (Drawn b s n z fun x => ∃ k : Int, x = .int k ∧ 0 ≤ k ∧ k < many) E := by
  refine drawn_cut h.le ?_
  obtain ⟨c, l, cs, ls, ⟨hcb, hlb, hsb, hcl, hbz⟩, hs, hc, hl, ⟨e1, e2, e3⟩, hnn⟩ := h
  simp! [d__law_draw, D.isKey, kGet, kPut, List.any_cons, List.any_nil]

  have hz := PH.get_lt hs
  have hcs : c ≠ s := fun e => by rw [e, hs] at hc; cases hc
  have hls : l ≠ s := fun e => by rw [e, hs] at hl; cases hl
  have fr1 : Fr b z (z.put s (.dct [(.str "cells", .ref c), (.str "lefts", .ref l), (.str "at", .int (n + 1 : Int))]) [.int (n + 1 : Int)]) := Fr.put hsb hz
  have qs : (z.put s (.dct [(.str "cells", .ref c), (.str "lefts", .ref l), (.str "at", .int (n + 1 : Int))]) [.int (n + 1 : Int)]).get s = some (.dct [(.str "cells", .ref c), (.str "lefts", .ref l), (.str "at", .int (n + 1 : Int))]) := by rw [PH.get_put _ _ _ _ _ hz, if_pos rfl]
  have qc : (z.put s (.dct [(.str "cells", .ref c), (.str "lefts", .ref l), (.str "at", .int (n + 1 : Int))]) [.int (n + 1 : Int)]).get c = some (.lst (cs.map D.int)) := by rw [PH.get_put _ _ _ _ _ hz, if_neg hcs]; exact hc
  have ql : (z.put s (.dct [(.str "cells", .ref c), (.str "lefts", .ref l), (.str "at", .int (n + 1 : Int))]) [.int (n + 1 : Int)]).get l = some (.lst (ls.map D.int)) := by rw [PH.get_put _ _ _ _ _ hz, if_neg hls]; exact hl
  have keep : ∀ r, r ≠ s → (z.put s (.dct [(.str "cells", .ref c), (.str "lefts", .ref l), (.str "at", .int (n + 1 : Int))]) [.int (n + 1 : Int)]).get r = z.get r := fun r hr => by rw [PH.get_put _ _ _ _ _ hz, if_neg hr]
  have qn : (z.put s (.dct [(.str "cells", .ref c), (.str "lefts", .ref l), (.str "at", .int (n + 1 : Int))]) [.int (n + 1 : Int)]).n = z.n := PH.n_put _ _ _ _
  generalize z.put s (.dct [(.str "cells", .ref c), (.str "lefts", .ref l), (.str "at", .int (n + 1 : Int))]) [.int (n + 1 : Int)] = z1 at *
  have hk : n % cs.length < cs.length := Nat.mod_lt _ e2
  obtain ⟨x, hx⟩ : ∃ x, ls[n % cs.length]? = some x := ⟨ls[n % cs.length]'(by omega), List.getElem?_eq_getElem (by omega)⟩
  obtain ⟨y, hy⟩ : ∃ y, cs[n % cs.length]? = some y := ⟨cs[n % cs.length]'(by omega), List.getElem?_eq_getElem (by omega)⟩
  have hx1 : (ls.map D.int)[n % cs.length]? = some (.int x) := by rw [List.getElem?_map, hx]; rfl
  have hy1 : (cs.map D.int)[n % cs.length]? = some (.int y) := by rw [List.getElem?_map, hy]; rfl
  have hp : (n : Int) % (cs.length : Int) = ((n % cs.length : Nat) : Int) := (Int.natCast_emod _ _).symm
  simp! [D.isKey, kGet, hp]
  have hzn : b ≤ z1.n := by omega
  have fin : ∀ z2 (ls2 : List Int), z1.n ≤ z2.n → (∀ k, k < z1.n → k ≠ l → z2.get k = z1.get k) → z2.get l = some (.lst (ls2.map D.int)) → ls2.length = ls.length → (∀ x ∈ ls2, 0 ≤ x) → SI b z2 s (n + 1) ∧ Fr b z z2 ∧ KK z z2 := by
    intro z2 ls2 w1 w2 w3 w4 w5
    refine ⟨⟨c, l, cs, ls2, ⟨hcb, hlb, hsb, hcl, by omega⟩, ?_, ?_, w3, ⟨by omega, e2, e3⟩, w5⟩, fr1.trans ⟨w1, fun k hb hk => w2 k hk (by omega)⟩, fun d kd => ?_⟩
    · rw [w2 s (PH.get_lt qs) hls.symm]; exact qs
    · rw [w2 c (PH.get_lt qc) hcl]; exact qc
    · cases d with
      | ref r =>
        obtain ⟨o, e, q⟩ := kd
        by_cases e1 : r = l
        · subst e1; exact ⟨_, w3, .inl ⟨_, rfl⟩⟩
        · by_cases e2 : r = s
          · subst e2; exact ⟨_, (w2 r (PH.get_lt qs) e1).trans qs, .inr ⟨_, rfl⟩⟩
          · refine ⟨o, (w2 r (by have := PH.get_lt e; omega) e1).trans ((keep r e2).trans e), q⟩
      | _ => exact kd
  by_cases hx0 : 0 < x
  · have hkl : n % cs.length < (ls.map D.int).length := by rw [List.length_map]; omega
    simp! [hx0, D.isKey, kGet, hp]
    refine ⟨⟨_, rfl, Int.emod_nonneg _ (by omega), Int.emod_lt_of_pos _ m0⟩, fin _ (ls.set (n % cs.length) (x / many)) (Nat.le_of_eq (PH.n_put _ _ _ _).symm) (fun k hk hkl => ?_) ?_ (by rw [List.length_set]) fun q hq => ?_⟩
    · rw [PH.get_put _ _ _ _ _ (PH.get_lt ql), if_neg hkl]
    · rw [PH.get_put _ _ _ _ _ (PH.get_lt ql), if_pos rfl, List.map_set]
    · rcases List.mem_or_eq_of_mem_set hq with h | h
      · exact hnn q h
      · rw [h]; exact Int.ediv_nonneg (Int.le_of_lt hx0) (Int.le_of_lt m0)
  · simp! [hx0, D.isKey, kGet, hp]
    have w1 : BdK (n : Int) := ⟨by omega, by omega⟩
    have w3 : BdK (40 + (n : Int)) := ⟨by omega, by omega⟩
    have w5 : BdK (7 + (n : Int)) := ⟨by omega, by omega⟩
    refine mono_wp (mixed_ok w1) (fun x1 z2 q => ?_) fun _ _ _ q => q
    obtain ⟨⟨r1, rfl, a1, b1⟩, f1⟩ := q
    simp! []
    refine mono_wp (mixed_ok w3) (fun x1 z3 q => ?_) fun _ _ _ q => q
    obtain ⟨⟨r2, rfl, a2, b2⟩, f2⟩ := q
    simp! []
    refine mono_wp (mixed_ok w5) (fun x1 z4 q => ?_) fun _ _ _ q => q
    obtain ⟨⟨r3, rfl, a3, b3⟩, f3⟩ := q
    simp! []
    have f4 : Fr 0 z1 z4 := (f1.trans f2).trans f3
    refine ⟨⟨_, rfl, Int.emod_nonneg _ (by omega), Int.emod_lt_of_pos _ m0⟩, fin z4 ls f4.1 (fun k hk _ => f4.2 k (Nat.zero_le _) hk) ((f4.2 l (Nat.zero_le _) (PH.get_lt ql)).trans ql) rfl hnn⟩
theorem of_ok {b n s r : Nat} {xs : List D} (h : SI b z s n) (hn : n < 1000000) (hb : b ≤ r) (hr : z.get r = some (.lst xs)) (h0 : 0 < xs.length) (h1 : xs.length < 1000) :
    Wp (mCut (d__law_of [.ref s, .ref r]) z) (Drawn b s n z fun x => x ∈ xs) E := by
  refine drawn_cut h.le ?_
  simp! [d__law_of]
  refine mono_wp (draw_ok h hn (by omega) (by omega)) (fun x z1 q => ?_) fun _ _ _ q => q
  obtain ⟨⟨k, rfl, k0, k1⟩, s1, f1, kk⟩ := q
  obtain ⟨j, rfl⟩ := Int.eq_ofNat_of_zero_le k0
  have hj : j < xs.length := by omega
  have hr1 : z1.get r = some (.lst xs) := (f1.2 r hb (PH.get_lt hr)).trans hr
  have hx : xs[j]? = some xs[j] := List.getElem?_eq_getElem hj
  simp! []
  exact ⟨List.getElem_mem hj, s1, f1, kk⟩
/-! the beginning -/
theorem begin_ok (ns : List Int) (hl : ns.length ≤ 63) : Wp (mCut (d__law_begin [.klst (ns.map D.int)]) .nil) (fun d z' => ∃ s, d = .ref s ∧ SI z'.n z' s 0) NoE := by
  refine sat_mcut ?_
  have g0 : (PH.nil.new (.lst [])).get PH.nil.n = some (.lst []) := get_new_eq
  have key : ∀ (cs : List Int) (z1 : PH) (c : Nat) (x0 : Option D), z1.get c = some (.lst (cs.map D.int)) → cs.length < 1000 →
      Wp (loopC (wkRef c) (gNm 2) tYesD (dIf (tBool (d2 (fI0 fun i j => .bl (decide (j ≤ i))) (dVar 2) (d2 (fI cPow fun i j => .int (i ^ j.toNat)) (dC (.int 10)) (dC (.int 18))))) (dVar 2) (dC (.int 0))) [x0, some (.ref c), none] maxTurns 0 z1)
        (fun rs z' => rs = (cs.map fun k => if (10 : Int) ^ (18 : Int).toNat ≤ k then k else 0).map D.int ∧ Fr 0 z1 z') NoE := by
    intro cs z1 c x0 hc h1
    refine mono_wp (lc_map (b := 0) (cs.map D.int) (fun d => match d with | .int k => .int (if (10 : Int) ^ (18 : Int).toNat ≤ k then k else 0) | _ => .non) (by rw [List.length_map, maxTurns]; omega) (fun i z' _ f => wkr_get ((f.2 c (Nat.zero_le _) (PH.get_lt hc)).trans hc) i) (fun z' d hd f => ?_)) (fun rs z' q => ⟨?_, q.2⟩) fun _ _ _ q => q
    · obtain ⟨k, _, rfl⟩ := List.mem_map.mp hd
      by_cases h : (10 : Int) ^ (18 : Int).toNat ≤ k
      · simp! [h]; exact Fr.rfl
      · simp! [h]; exact Fr.rfl
    · rw [q.1, List.map_map, List.map_map]
      rfl
  have fin : ∀ (cs ls : List Int) (z2 : PH) (c : Nat), z2.get c = some (.lst (cs.map D.int)) → 0 < cs.length → cs.length < 1000 → ls.length = cs.length → (∀ x ∈ ls, 0 ≤ x) →
      SI ((z2.new (.lst (ls.map D.int))).new (.dct [(.str "cells", .ref c), (.str "lefts", .ref z2.n), (.str "at", .int 0)])).n ((z2.new (.lst (ls.map D.int))).new (.dct [(.str "cells", .ref c), (.str "lefts", .ref z2.n), (.str "at", .int 0)])) (z2.new (.lst (ls.map D.int))).n 0 := by
    intro cs ls z2 c hc h0 h1 h2 h3
    have hcn := PH.get_lt hc
    refine ⟨c, z2.n, cs, ls, ⟨by simp only [PH.n_new]; omega, by simp only [PH.n_new]; omega, by simp only [PH.n_new]; omega, by omega, Nat.le_refl _⟩, get_new_eq, ?_, ?_, ⟨h2, h0, h1⟩, h3⟩
    · rw [get_new_ne (by rw [PH.n_new]; omega), get_new_ne hcn]; exact hc
    · rw [get_new_ne (by rw [PH.n_new]; omega)]; exact get_new_eq
  have nn : ∀ (cs : List Int), ∀ x ∈ (cs.map fun k => if (10 : Int) ^ (18 : Int).toNat ≤ k then k else 0), 0 ≤ x := by
    intro cs x hx
    obtain ⟨k, _, rfl⟩ := List.mem_map.mp hx
    split
    · next h =>
      have : (10 : Int) ^ (18 : Int).toNat = 1000000000000000000 := by decide
      rw [this] at h; omega
    · exact Int.le_refl _
  simp! [d__law_begin, ↓W_neKl]
  by_cases he : ns = []
  · have g1 : ((PH.nil.new (.lst [])).new (.lst [.int 0])).get (PH.nil.new (.lst [])).n = some (.lst [.int 0]) := get_new_eq
    simp! [he, wipeE]
    refine mono_wp (key [0] _ _ _ g1 (by decide)) (fun rs z' q => ?_) fun _ _ _ q => q.elim
    obtain ⟨rfl, f⟩ := q
    have hc := (f.2 _ (Nat.zero_le _) (PH.get_lt g1)).trans g1
    simp! [List.all_cons, List.all_nil, D.isKey, kMerge, List.foldl_cons, List.foldl_nil, kPut, List.any_cons, List.any_nil]
    refine ⟨Nat.zero_le _, fun z2 _ _ h3 => ⟨_, rfl, ?_⟩⟩
    rw [h3 rfl]
    exact fin [0] _ z' _ hc (by decide) (by decide) (by rw [List.length_map]) (nn [0])
  · have g1 : ((PH.nil.new (.lst [])).new (.lst (ns.map D.int))).get (PH.nil.new (.lst [])).n = some (.lst (ns.map D.int)) := get_new_eq
    simp! [he, wipeE]
    refine mono_wp (key ns _ _ _ g1 (by omega)) (fun rs z' q => ?_) fun _ _ _ q => q.elim
    obtain ⟨rfl, f⟩ := q
    have hc := (f.2 _ (Nat.zero_le _) (PH.get_lt g1)).trans g1
    simp! [List.all_cons, List.all_nil, D.isKey, kMerge, List.foldl_cons, List.foldl_nil, kPut, List.any_cons, List.any_nil]
    refine ⟨Nat.zero_le _, fun z2 _ _ h3 => ⟨_, rfl, ?_⟩⟩
    rw [h3 rfl]
    exact fin ns _ z' _ hc (List.length_pos_iff.mpr he) (by omega) (by rw [List.length_map]) (nn ns)
end
end Law

/-! P3a -/
/-! draws, how many there may have been; letters, instructions, codes drawn -/
namespace Law
open PySem UW
section
variable {z z' : PH} {Q : D → PH → Prop} {E : XD} {b s k : Nat}
def St (b s k : Nat) (z : PH) : Prop := ∃ n, n ≤ k ∧ SI b z s n
theorem St.fr (h : St b s k z) (f : Fr 0 z z') : St b s k z' := let ⟨n, a, c⟩ := h; ⟨n, a, c.fr f⟩
theorem St.le (h : St b s k z) : b ≤ z.n := let ⟨_, _, c⟩ := h; c.le
theorem St.mono {k' : Nat} (h : St b s k z) (e : k ≤ k') : St b s k' z := let ⟨n, a, c⟩ := h; ⟨n, Nat.le_trans a e, c⟩
theorem St.put {r : Nat} {o : PO} {vs : List D} (h : St b s k z) (hr : b ≤ r) (hz : r < z.n) : St b s k (z.put r o vs) := let ⟨n, a, c⟩ := h; ⟨n, a, c.put hr hz⟩
theorem St.of (h : St b s k z) (hn : b ≤ z'.n) (f : ∀ k, k < b → z'.get k = z.get k) : St b s k z' := let ⟨n, a, c⟩ := h; ⟨n, a, c.of hn f⟩
/-- what a def that draws hands back: R of it, the draws' state with at most k done, all from b on as it was -/
def Dr (b s k : Nat) (z : PH) (R : D → Prop) : D → PH → Prop := fun x z' => R x ∧ St b s k z' ∧ Fr b z z' ∧ KK z z'
theorem dr_cut {m : M D} {R : D → Prop} (hb : b ≤ z.n) (h : Wp (m z) (Dr b s k z R) E) : Wp (mCut m z) (Dr b s k z R) E := by
  refine sat_mcut_st (fun d z1 z2 q h1 h2 h3 => ⟨q.1, q.2.1.of (by omega) fun k hk => h3 k (by omega), q.2.2.1.of h2 h3, q.2.2.2.old h3⟩) (mono_wp h (fun x z1 q => ⟨q.2.2.1.1, q⟩) fun _ _ _ q => q)
theorem draw_st (h : St b s k z) (hk : k < 900000) {many : Int} (m0 : 0 < many) (m1 : many < 1073741824) :
    Wp (mCut (d__law_draw [.ref s, .int many]) z) (Dr b s (k + 1) z fun x => ∃ j : Nat, x = .int j ∧ (j : Int) < many) E := by
  obtain ⟨n, hn, h⟩ := h
  refine mono_wp (draw_ok h (by omega) m0 m1) (fun x z1 q => ?_) fun _ _ _ q => q
  obtain ⟨⟨j, rfl, j0, j1⟩, s1, f, kk⟩ := q
  obtain ⟨i, rfl⟩ := Int.eq_ofNat_of_zero_le j0
  exact ⟨⟨i, rfl, j1⟩, ⟨n + 1, by omega, s1⟩, f, kk⟩
theorem of_st {r : Nat} {xs : List D} (h : St b s k z) (hk : k < 900000) (hb : b ≤ r) (hr : z.get r = some (.lst xs)) (h0 : 0 < xs.length) (h1 : xs.length < 1000) :
    Wp (mCut (d__law_of [.ref s, .ref r]) z) (Dr b s (k + 1) z fun x => x ∈ xs) E := by
  obtain ⟨n, hn, h⟩ := h
  refine mono_wp (of_ok h (by omega) hb hr h0 h1) (fun x z1 q => ?_) fun _ _ _ q => q
  exact ⟨q.1, ⟨n + 1, by omega, q.2.1⟩, q.2.2⟩
theorem W_ixS {s : Str} {i : Nat} {c : Nat} (hl : s.length ≤ line) (h : s.cps.toList[i]? = some c) : Wp (fIx (.str s) (.int (i : Int)) z) Q E = Q (letter c) z := by
  show Wp ((if s.length ≤ line then mOpt (atC s (i : Int)) else mBad : M D) z) Q E = _
  have hi : i < s.cps.toList.length := (List.getElem?_eq_some_iff.mp h).1
  have : atC s (i : Int) = some (letter c) := by
    unfold atC ixD
    rw [if_pos (Int.natCast_nonneg i), if_pos (by exact_mod_cast hi)]
    simp only [Int.toNat_natCast, h]
  rw [W_ite1 hl, this, W_opt]
/-- a letter of a text -/
theorem ofS_st {t : Str} (h : St b s k z) (hk : k < 900000) (h0 : 0 < t.length) (h1 : t.length < 1000) :
    Wp (mCut (d__law_of [.ref s, .str t]) z) (Dr b s (k + 1) z fun x => ∃ c, x = letter c ∧ c ∈ t.cps.toList) E := by
  refine dr_cut h.le ?_
  have hline : line = 16777216 := rfl
  have hl : t.length ≤ line := by omega
  simp! [d__law_of]
  refine mono_wp (draw_st h hk (by omega) (by omega)) (fun x z1 q => ?_) fun _ _ _ q => q
  obtain ⟨⟨j, rfl, k1⟩, s1, f1, kk⟩ := q
  have hj : j < t.cps.toList.length := by
    have : t.cps.toList.length = t.length := by simp [Str.length]
    omega
  have hx : t.cps.toList[j]? = some (t.cps.toList[j]) := List.getElem?_eq_getElem hj
  simp! [↓W_ixS hl hx]
  exact ⟨⟨_, rfl, List.getElem_mem hj⟩, s1, f1, kk⟩
theorem Dr.imp {R R' : D → Prop} {x : D} (h : ∀ x, R x → R' x) (q : Dr b s k z R x z') : Dr b s k z R' x z' := ⟨h _ q.1, q.2⟩
def regs : List D := [.str "p", .str "q", .str "r", .str "s", .str "x", .str "y"]
theorem regs_of {c : Nat} (h : c ∈ ("pqrsxy" : Str).cps.toList) : letter c ∈ regs := by
  have e : ("pqrsxy" : Str).cps.toList = [112, 113, 114, 115, 120, 121] := by decide +kernel
  rw [e] at h
  simp only [List.mem_cons, or_false, List.not_mem_nil] at h
  rcases h with rfl | rfl | rfl | rfl | rfl | rfl
  · exact .head _
  · exact .tail _ (.head _)
  · exact .tail _ (.tail _ (.head _))
  · exact .tail _ (.tail _ (.tail _ (.head _)))
  · exact .tail _ (.tail _ (.tail _ (.tail _ (.head _))))
  · exact .tail _ (.tail _ (.tail _ (.tail _ (.tail _ (.head _)))))
theorem reg_st (h : St b s k z) (hk : k < 900000) : Wp (mCut (d__law_of [.ref s, .str "pqrsxy"]) z) (Dr b s (k + 1) z fun x => x ∈ regs) E :=
  mono_wp (ofS_st h hk (by decide +kernel) (by decide +kernel)) (fun x z1 q => q.imp fun x ⟨c, e, m⟩ => e ▸ regs_of m) fun _ _ _ q => q
theorem regs_fit {x : D} (h : x ∈ regs) : isReg x = true ∧ isBas x = true ∧ Pn 0 1921 x := by
  simp only [regs, List.mem_cons, List.not_mem_nil, or_false] at h
  rcases h with rfl | rfl | rfl | rfl | rfl | rfl <;> exact ⟨by decide +kernel, by decide +kernel, Pn.lit (by decide +kernel)⟩
theorem at_mem {i : Nat} {xs : List D} (hi : i < xs.length) (h : ∀ x ∈ xs, Q x z) : Wp (fAt xs (.int (i : Int)) z) Q E := by
  rw [W_atN (List.getElem?_eq_getElem hi)]
  exact h _ (List.getElem_mem hi)
theorem ix_mem {r i : Nat} {xs : List D} (g : z.get r = some (.lst xs)) (hi : i < xs.length) (h : ∀ x ∈ xs, Q x z) : Wp (fIx (.ref r) (.int (i : Int)) z) Q E := by
  rw [W_ixR g, W_ixL, W_atN (List.getElem?_eq_getElem hi)]
  exact h _ (List.getElem_mem hi)
/-! what is handed back may tell of new things -/
theorem KnD.cut {z1 z2 : PH} {n : Nat} (hk : ∀ k, k < n → z2.get k = z1.get k) : ∀ {m : Nat} {d : D}, d.lt n = true → KnD z1 m d → KnD z2 m d := by
  have one : ∀ {d : D}, d.lt n = true → Kn z1 d → Kn z2 d := fun {d} l h => by
    cases d with
    | ref r =>
      obtain ⟨o, e, q⟩ := h
      exact ⟨o, (hk r (of_decide_eq_true l)).trans e, q⟩
    | _ => exact h
  intro m
  induction m with
  | zero => intro d l h; exact one l h
  | succ m ih =>
    intro d l h
    refine ⟨one l h.1, fun ps e p hp => ?_⟩
    subst e
    have l2 : D.ltAll n ps = true := by simpa only [D.lt] using l
    exact ih (D.ltAll_iff.mp l2 p hp) (h.2 ps rfl p hp)
def DrK (b s k n : Nat) (z : PH) (R : D → Prop) : D → PH → Prop := fun x z' => R x ∧ KnD z' n x ∧ St b s k z' ∧ Fr b z z' ∧ KK z z'
theorem drK_cut {n : Nat} {m : M D} {R : D → Prop} (hb : b ≤ z.n) (h : Wp (m z) (DrK b s k n z R) E) : Wp (mCut m z) (DrK b s k n z R) E := by
  refine sat_mcut (mono_wp h (fun x z1 q => ⟨q.2.2.2.1.1, fun z2 h1 h2 h3 => ?_⟩) fun _ _ _ q => q)
  obtain ⟨q1, q2, q3, q4, q5⟩ := q
  refine ⟨q1, ?_, q3.of (by omega) fun k hk => h2 k (by omega), q4.of h1 h2, q5.old h2⟩
  cases l : x.lt z.n with
  | false => rw [h3 l]; exact q2
  | true => exact KnD.cut h2 l q2
theorem knd_kk {n : Nat} {d : D} (h : KnD z n d) (q : KK z z') : KnD z' n d := h.map q
/-- one of two, which tell one thing -/
theorem br_val {c : Bool} {m1 m2 : M D} {K : D → PH → Prop} {v : D} (h1 : c = true → Wp (m1 z) (fun d z' => d = v ∧ z' = z) E) (h2 : c = false → Wp (m2 z) (fun d z' => d = v ∧ z' = z) E) (h : K v z) : Br c (Wp (m1 z) K E) (Wp (m2 z) K E) := by
  cases c with
  | true => rw [Br_t]; exact mono_wp (h1 rfl) (fun d z' q => by rw [q.1, q.2]; exact h) fun _ _ _ q => q
  | false => rw [Br_f]; exact mono_wp (h2 rfl) (fun d z' q => by rw [q.1, q.2]; exact h) fun _ _ _ q => q
end
end Law

/-! A25 -/
set_option pp.maxSteps 250
/-! scripts: sets, groups, what is replaced -/
namespace Law
open PySem UW
section
variable {z z' : PH} {E : XD}
def parts6 : List D := [.str "base", .str "back", .str "p", .str "q", .str "r", .str "s"]
/-- pairs of a part and a thing, the parts in their order, none twice -/
def setsGo : List D → List D → Bool
  | _, [] => true
  | ps, x :: r => match x with
    | .tup [p, _] => match p with
      | .str s => match posL (.str s) ps with
        | some j => setsGo (ps.drop (j + 1)) r
        | none => false
      | _ => false
    | _ => false
def setsOk : D → Bool
  | .tup xs => setsGo parts6 xs
  | _ => false
/-- the parts left: texts in a list of the store -/
def Parts (z : PH) (r : Nat) (ps : List D) : Prop := z.get r = some (.lst ps) ∧ ps.all D.isSc = true ∧ ps.length ≤ 6
theorem sets_ok {d : D} (h : KnD z 2 d) : Wp (mCut (d__are_sets [d]) z) (fun x z' => x = .bl (setsOk d) ∧ Fr 0 z z') E := by
  refine sat_mcut_fr (R := fun x => x = .bl (setsOk d)) ?_
  have h0 := h.kn
  simp! [d__are_sets]
  cases d with
  | tup xs =>
    have hl : xs.length ≤ 16000 := h0
    simp! [D.isTupD, k_PARTS]
    have g0 : (z.new (.lst parts6)).get z.n = some (.lst parts6) := get_new_eq
    have f0 : Fr 0 z (z.new (.lst parts6)) := Fr.new
    rw [show ([.str "base", .str "back", .str "p", .str "q", .str "r", .str "s"] : List D) = parts6 from rfl]
    generalize z.new (.lst parts6) = z0 at g0 f0
    generalize z.n = rn at g0
    refine sat_loopF xs.length xs (fun i ρ z' => i ≤ xs.length ∧ (∃ r ps a b c, ρ = [some (.tup xs), some (.ref r), a, b, c] ∧ Parts z' r ps ∧ setsGo parts6 xs = setsGo ps (xs.drop i)) ∧ Fr 0 z z') rfl (fun i ρ z' q => rfl) (fun i ρ z' d hd q => ?_) (fun ρ z' q => ?_) maxTurns 0 _ z0
      ⟨Nat.zero_le _, ⟨rn, parts6, _, _, _, rfl, ⟨g0, by decide, by decide⟩, rfl⟩, f0⟩ (Nat.zero_le _) (by simp only [maxTurns]; omega)
    · obtain ⟨q1, ⟨r, ps, a, b, c, rfl, qp, qe⟩, f⟩ := q
      have kd : KnD z' 1 d := (h.item (List.mem_of_getElem? hd)).fr f
      have hi := (List.getElem?_eq_some_iff.mp hd).1
      have hdrop : xs.drop i = d :: xs.drop (i + 1) := by
        rw [List.drop_eq_getElem_cons hi, (List.getElem?_eq_some_iff.mp hd).2]
      rw [hdrop] at qe
      have k0 := kd.kn
      have no : setsGo ps (d :: xs.drop (i + 1)) = false → ∀ {z2 : PH}, Fr 0 z' z2 → (D.bl false = .bl (setsOk (.tup xs)) ∧ Fr 0 z z2) := fun e {z2} f2 => ⟨by rw [setsOk, qe, e], f.trans f2⟩
      simp! []
      cases d with
      | tup ys =>
        match ys, kd with
        | [], _ => simp! [D.isTupD, Int.natCast_zero, Int.natCast_one, Int.cast_ofNat_Int]; exact no rfl Fr.rfl
        | [x], _ => simp! [D.isTupD, Int.natCast_zero, Int.natCast_one, Int.cast_ofNat_Int]; exact no rfl Fr.rfl
        | [x, y], kd =>
          have kx : Kn z' x := kd.item (.head _)
          cases x with
          | str s =>
            have sc : (D.str s).isSc = true := rfl
            cases hp : posL (.str s) ps with
            | none =>
              have hin : inL (.str s) ps = false := by rw [pos_in, hp]; rfl
              simp! [D.isTupD, D.isStrD, ↓W_notInS, ↓W_inL qp.1 sc qp.2.1, hin, Int.natCast_zero, Int.natCast_one, Int.cast_ofNat_Int]
              exact no (by simp only [setsGo, hp]) Fr.rfl
            | some j =>
              have hin : inL (.str s) ps = true := by rw [pos_in, hp]; rfl
              have ej : ((j : Int) + 1) = ((j + 1 : Nat) : Int) := by omega
              have qp1 := qp.1
              simp! [D.isTupD, D.isStrD, ↓W_notInS, ↓W_inL qp.1 sc qp.2.1, hin, ↓W_index, ↓W_lstQ qp1, ↓W_fIndex qp1 sc qp.2.1 hp, ej, cut_drop, Int.natCast_zero, Int.natCast_one, Int.cast_ofNat_Int]
              refine ⟨hi, ⟨_, ps.drop (j + 1), _, _, _, rfl, ⟨get_new_eq, ?_, ?_⟩, ?_⟩, f.trans Fr.new⟩
              · exact List.all_eq_true.mpr fun w hw => List.all_eq_true.mp qp.2.1 w (List.mem_of_mem_drop hw)
              · have := qp.2.2
                rw [List.length_drop]; omega
              · rw [qe]
                simp only [setsGo, hp]
          | _ => simp! [D.isTupD, D.isStrD, Int.natCast_zero, Int.natCast_one, Int.cast_ofNat_Int]; exact no rfl Fr.rfl
        | x :: y :: w :: r2, _ =>
          have e1 : ¬ ((r2.length + 1 + 1 + 1 : Nat) : Int) = 2 := by omega
          simp! [D.isTupD, e1]
          exact no rfl Fr.rfl
      | _ => simp! [D.isTupD]; exact no rfl Fr.rfl
    · obtain ⟨q1, ⟨r, ps, a, b, c, rfl, qp, qe⟩, f⟩ := q
      simp! []
      rw [List.drop_length] at qe
      exact ⟨by rw [setsOk, qe]; rfl, f⟩
  | _ => simp! [D.isTupD]; exact ⟨rfl, Fr.rfl⟩
/-! groups -/
def groupOk (lo hi : Int) : D → Bool
  | .tup [p, a, t, k] => (isBet lo hi p && a.isBlD) && (setsOk t && isBet 0 60 k)
  | _ => false
theorem group_ok {d : D} {lo hi : Int} (h : KnD z 3 d) : Wp (mCut (d__is_group [d, .int lo, .int hi]) z) (fun x z' => x = .bl (groupOk lo hi d) ∧ Fr 0 z z') E := by
  refine sat_mcut_fr (R := fun x => x = .bl (groupOk lo hi d)) ?_
  have h0 := h.kn
  simp! [d__is_group]
  cases d with
  | tup ys =>
    match ys, h with
    | [], _ => simp! [D.isTupD, Int.natCast_zero, Int.natCast_one, Int.cast_ofNat_Int]; exact ⟨rfl, Fr.rfl⟩
    | [x], _ => simp! [D.isTupD, Int.natCast_zero, Int.natCast_one, Int.cast_ofNat_Int]; exact ⟨rfl, Fr.rfl⟩
    | [x, y], _ => simp! [D.isTupD, Int.natCast_zero, Int.natCast_one, Int.cast_ofNat_Int]; exact ⟨rfl, Fr.rfl⟩
    | [x, y, w], _ => simp! [D.isTupD, Int.natCast_zero, Int.natCast_one, Int.cast_ofNat_Int]; exact ⟨rfl, Fr.rfl⟩
    | [p, a, t, k], h =>
      have kp : Kn z p := (h.item (.head _)).kn
      have ka : Kn z a := (h.item (.tail _ (.head _))).kn
      have kt : KnD z 2 t := h.item (.tail _ (.tail _ (.head _)))
      have kk : Kn z k := (h.item (.tail _ (.tail _ (.tail _ (.head _))))).kn
      simp! [D.isTupD, k_MOST_KEEPS, Int.natCast_zero, Int.natCast_one, Int.cast_ofNat_Int]
      refine mono_wp (cut_is fun _ => between_ok kp) (fun x z1 q => ?_) fun _ _ _ q => q
      obtain ⟨rfl, f1⟩ := q
      have ka1 : Kn z1 a := ka.fr (b := 0) f1
      cases e : isBet lo hi p with
      | false => simp! []; exact ⟨by simp only [groupOk, e, Bool.false_and], f1⟩
      | true =>
        simp! []
        cases e2 : a.isBlD with
        | false => simp! [e2]; exact ⟨by simp only [groupOk, e2, Bool.and_false, Bool.false_and], f1⟩
        | true =>
          simp! [e2]
          refine mono_wp (sets_ok (kt.fr f1)) (fun x z2 q => ?_) fun _ _ _ q => q
          obtain ⟨rfl, f2⟩ := q
          cases e3 : setsOk t with
          | false => simp! []; exact ⟨by simp only [groupOk, e3, Bool.false_and, Bool.and_false], f1.trans f2⟩
          | true =>
            simp! []
            refine mono_wp (cut_is fun _ => between_ok (kk.fr (b := 0) (f1.trans f2))) (fun x z3 q => ?_) fun _ _ _ q => q
            obtain ⟨rfl, f3⟩ := q
            simp! []
            exact ⟨by simp only [groupOk, e, e2, e3, Bool.true_and], (f1.trans f2).trans f3⟩
    | x :: y :: w :: v :: u :: r2, _ =>
      have e1 : ¬ ((r2.length + 1 + 1 + 1 + 1 + 1 : Nat) : Int) = 4 := by omega
      simp! [D.isTupD, e1]
      exact ⟨rfl, Fr.rfl⟩
  | _ => simp! [D.isTupD]; exact ⟨rfl, Fr.rfl⟩
/-! what is replaced -/
def replOne (kvs : List (D × D)) : D → D
  | .tup [p, o] => (kGet p kvs).getD o
  | _ => .non
def repl (t : D) (ps : List D) : List D := match t with
  | .tup xs => (List.zipWith (fun x y => D.tup [x, y]) parts6 ps).map (replOne (kMerge ((pairsD xs).getD [])))
  | _ => []
theorem sets_pairs : ∀ {xs ps : List D}, setsGo ps xs = true → ∃ kvs, pairsD xs = some kvs ∧ (kvs.all fun p => p.1.isKey) = true
  | [], _, _ => ⟨[], rfl, rfl⟩
  | x :: r, ps, h => by
    unfold setsGo at h
    split at h
    · rename_i p v
      cases p with
      | str s =>
        simp only at h
        cases e : posL (.str s) ps with
        | none => (rw [e] at h; cases h)
        | some j =>
          rw [e] at h
          obtain ⟨kvs, h1, h2⟩ := sets_pairs (ps := ps.drop (j + 1)) h
          exact ⟨(.str s, v) :: kvs, by simp only [pairsD, h1], by rw [List.all_cons, h2]; rfl⟩
      | _ => cases h
    · cases h
theorem repl_len {xs ps : List D} (hl : ps.length = 6) : (repl (.tup xs) ps).length = 6 := by
  simp only [repl, List.length_map, List.length_zipWith, hl]; rfl
theorem replaced_ok {xs ps : List D} (ht : setsGo parts6 xs = true) (hl : ps.length = 6) : Wp (mCut (d__replaced [.tup ps, .tup xs]) z) (fun x z' => ∃ r, x = .ref r ∧ z.n ≤ r ∧ z'.get r = some (.lst (repl (.tup xs) ps)) ∧ Fr 0 z z') E := by
  refine sat_mcut ?_
  suffices hh : Wp (d__replaced [.tup ps, .tup xs] z) (fun x z' => ∃ r, x = .ref r ∧ z.n ≤ r ∧ z'.get r = some (.lst (repl (.tup xs) ps)) ∧ Fr 0 z z') E by
    refine mono_wp hh (fun x z1 q => ?_) fun _ _ _ q => q
    obtain ⟨r, rfl, q1, q2, q3⟩ := q
    refine ⟨q3.1, fun z2 _ _ e => ?_⟩
    have : z2 = z1 := e (by simp only [D.lt, decide_eq_false_iff_not]; omega)
    subst this
    exact ⟨r, rfl, q1, q2, q3⟩
  obtain ⟨kvs, h1, h2⟩ := sets_pairs ht
  have hr : repl (.tup xs) ps = (List.zipWith (fun x y => D.tup [x, y]) parts6 ps).map (replOne (kMerge kvs)) := by simp only [repl, h1, Option.getD_some]
  rw [hr]
  have l6 : (List.zipWith (fun x y => D.tup [x, y]) parts6 ps).length = 6 := by rw [List.length_zipWith, hl]; rfl
  simp! [d__replaced, ↓W_dictT h1 h2, k_PARTS, wipeE]
  rw [show ([.str "base", .str "back", .str "p", .str "q", .str "r", .str "s"] : List D) = parts6 from rfl]
  have g0 : (z.new (.dct (kMerge kvs))).get z.n = some (.dct (kMerge kvs)) := get_new_eq
  have f0 : Fr 0 z (z.new (.dct (kMerge kvs))) := Fr.new
  have hz := f0.1
  generalize hz0 : z.new (.dct (kMerge kvs)) = z0 at *
  have l0 := PH.get_lt g0
  generalize z.n = rn at *
  refine mono_wp (lc_map (b := 0) (List.zipWith (fun x y => D.tup [x, y]) parts6 ps) (replOne (kMerge kvs)) (by rw [l6]; simp only [maxTurns]; omega) (fun i z' hi _ => wkz_get rfl rfl (by rw [hl]; rfl) (by rw [l6] at hi; exact hi)) (fun z1 d hd f => ?_)) (fun rs z1 q => ?_) fun _ _ _ q => q
  · have g1 : z1.get rn = some (.dct (kMerge kvs)) := (f.2 rn (Nat.zero_le _) l0).trans g0
    obtain ⟨j, hj⟩ := List.getElem?_of_mem hd
    rw [List.getElem?_zipWith] at hj
    cases e1 : parts6[j]? with
    | none => rw [e1] at hj; cases hj
    | some p =>
      cases e2 : ps[j]? with
      | none => rw [e1, e2] at hj; cases hj
      | some o =>
        rw [e1, e2] at hj
        cases hj
        have kp : p.isKey = true := by
          have : ∀ p ∈ parts6, p.isKey = true := by decide
          exact this p (List.mem_of_getElem? e1)
        simp! [↓W_get2, ↓W_fDct g1, ↓W_fGet2 g1 kp]
        exact ⟨rfl, Fr.rfl⟩
  · obtain ⟨rfl, f1⟩ := q
    simp! []
    exact ⟨_, rfl, Nat.le_trans hz f1.1, get_new_eq, (f0.trans f1).trans Fr.new⟩
end
end Law

/-! B25 -/
set_option pp.maxSteps 250
/-! what a script comes to -/
namespace Law
open PySem UW
section
variable {z z' : PH} {E : XD}
def fin0 : D := .tup [.str "sp", .int 0]
def sit0 : List D := [.tup [.str "word", .int 0], .tup [.str "in", .str "p"], .tup [.str "in", .str "q"], .tup [.str "in", .str "r"], .tup [.str "in", .str "s"]]
theorem rule0 : isRule fin0 (.tup sit0) = true := by decide +kernel
theorem reg_len {r : Str} (h : isReg (.str r) = true) : r.length ≤ line := by
  have e : ∀ a c : Str, eqF (.str a) (.str c) = decide (a = c) := fun _ _ => rfl
  simp only [isReg, inL, List.any_cons, List.any_nil, e, Bool.or_eq_true, decide_eq_true_eq, Bool.or_false] at h
  rcases h with h | h | h | h | h | h <;> (rw [← h]; decide +kernel)
theorem bas_kn {d : D} (h : isBas d = true) : Kn z d := by
  cases d with
  | str s =>
    simp only [isBas, Bool.or_eq_true, decide_eq_true_eq] at h
    rcases h with h | h
    · rw [h]; show (Str.ofString "sp").length ≤ line; decide +kernel
    · exact reg_len h
  | _ => cases h
theorem where_kn {d : D} (h : isWhere d = true) : KnD z 1 d := by
  unfold isWhere at h
  have two : ∀ {a b : D}, Kn z a → Kn z b → KnD z 1 (.tup [a, b]) := fun h1 h2 => KnD.tup (by simp) (List.forall_mem_cons.mpr ⟨h1, List.forall_mem_cons.mpr ⟨h2, List.forall_mem_nil _⟩⟩)
  split at h
  · rw [Bool.and_eq_true, decide_eq_true_eq] at h
    obtain ⟨rfl, h2⟩ := h
    exact two (show (Str.ofString "in").length ≤ line by decide +kernel) (reg_len h2)
  · rw [Bool.and_eq_true, decide_eq_true_eq] at h
    obtain ⟨rfl, h2⟩ := h
    exact two (show (Str.ofString "word").length ≤ line by decide +kernel) trivial
  · rw [decide_eq_true_eq] at h
    obtain rfl := h
    exact KnD.tup (by simp) (List.forall_mem_cons.mpr ⟨(show (Str.ofString "lost").length ≤ line by decide +kernel), List.forall_mem_nil _⟩)
  · cases h
theorem find_kn {d : D} (h : isFind d = true) : KnD z 1 d := by
  unfold isFind at h
  split at h
  · rename_i b n
    rw [Bool.and_eq_true] at h
    refine KnD.tup (by simp) (List.forall_mem_cons.mpr ⟨bas_kn h.1, List.forall_mem_cons.mpr ⟨?_, List.forall_mem_nil _⟩⟩)
    cases n with
    | int i => trivial
    | _ => cases h.2
  · cases h
theorem rule_kn {f : D} {s : List D} (h : isRule f (.tup s) = true) : s.length = 5 ∧ KnD z 1 f ∧ ∀ w ∈ s, KnD z 1 w := by
  simp only [isRule, Bool.and_eq_true, decide_eq_true_eq] at h
  obtain ⟨h1, h2, h3⟩ := h
  refine ⟨h1, ?_, fun w hw => where_kn (List.all_eq_true.mp h2 w hw)⟩
  cases f with
  | non => exact KnD.no (d := .non) (z := z) trivial (fun _ => nofun) 1
  | _ => exact find_kn h3
/-! the values that a dict made of pairs holds are the pairs' -/
theorem put_vals {k v : D} {p : D × D} : ∀ {kvs : List (D × D)}, p ∈ kPut k v kvs → p.2 = v ∨ ∃ q ∈ kvs, q.2 = p.2 := by
  intro kvs h
  unfold kPut at h
  split at h
  · rcases List.mem_map.mp h with ⟨q, hq, e⟩
    split at e
    · left; rw [← e]
    · right; exact ⟨q, hq, by rw [e]⟩
  · obtain h | h := List.mem_append.mp h
    · exact .inr ⟨p, h, rfl⟩
    · left; rw [List.mem_singleton.mp h]
theorem merge_vals : ∀ {kvs acc : List (D × D)} {p : D × D}, p ∈ kvs.foldl (fun acc p => kPut p.1 p.2 acc) acc → (∃ q ∈ acc, q.2 = p.2) ∨ ∃ q ∈ kvs, q.2 = p.2
  | [], acc, p, h => .inl ⟨p, h, rfl⟩
  | x :: r, acc, p, h => by
    rcases merge_vals (kvs := r) (acc := kPut x.1 x.2 acc) h with ⟨q, h1, h2⟩ | ⟨q, h1, h2⟩
    · rcases put_vals h1 with h3 | ⟨q2, h3, h4⟩
      · exact .inr ⟨x, List.mem_cons_self, by rw [← h2, h3]⟩
      · exact .inl ⟨q2, h3, h4.trans h2⟩
    · exact .inr ⟨q, List.mem_cons_of_mem _ h1, h2⟩
theorem get_vals {k v : D} : ∀ {kvs : List (D × D)}, kGet k kvs = some v → ∃ q ∈ kvs, q.2 = v
  | [], h => by cases h
  | (a, b) :: r, h => by
    unfold kGet at h
    split at h
    · cases h; exact ⟨_, List.mem_cons_self, rfl⟩
    · obtain ⟨q, h1, h2⟩ := get_vals h
      exact ⟨q, List.mem_cons_of_mem _ h1, h2⟩
theorem pairs_mem : ∀ {xs : List D} {kvs : List (D × D)}, pairsD xs = some kvs → ∀ q ∈ kvs, D.tup [q.1, q.2] ∈ xs
  | [], kvs, h => by cases h; exact fun _ h => nomatch h
  | x :: r, kvs, h => by
    unfold pairsD at h
    split at h
    · rename_i e; cases e
    · rename_i k v r2 e
      cases e
      cases e2 : pairsD r with
      | none => rw [e2] at h; cases h
      | some kvs2 =>
        rw [e2] at h
        cases h
        intro q hq
        obtain rfl | hq := List.mem_cons.mp hq
        · exact List.mem_cons_self
        · exact List.mem_cons_of_mem _ (pairs_mem e2 q hq)
    · cases h
theorem repl_kn {xs ps : List D} (ht : setsGo parts6 xs = true) (h : KnD z 3 (.tup xs)) (hp : ∀ w ∈ ps, KnD z 1 w) : ∀ w ∈ repl (.tup xs) ps, KnD z 1 w := by
  obtain ⟨kvs, h1, h2⟩ := sets_pairs ht
  intro w hw
  simp only [repl, h1, Option.getD_some] at hw
  obtain ⟨d, hd, rfl⟩ := List.mem_map.mp hw
  obtain ⟨j, hj⟩ := List.getElem?_of_mem hd
  rw [List.getElem?_zipWith] at hj
  cases e1 : parts6[j]? with
  | none => rw [e1] at hj; cases hj
  | some p =>
    cases e2 : ps[j]? with
    | none => rw [e1, e2] at hj; cases hj
    | some o =>
      rw [e1, e2] at hj
      cases hj
      show KnD z 1 ((kGet p (kMerge kvs)).getD o)
      cases e3 : kGet p (kMerge kvs) with
      | none => exact hp o (List.mem_of_getElem? e2)
      | some v =>
        obtain ⟨q, q1, q2⟩ := get_vals e3
        rcases merge_vals q1 with ⟨_, c, _⟩ | ⟨q', q3, q4⟩
        · cases c
        · have := pairs_mem h1 q' q3
          have k2 := (h.item this).item (p := q'.2) (by simp)
          rw [q4, q2] at k2
          exact k2
/-! the machine of scripts -/
def backG (a : Bool) (f : D) (s pile : List D) : Option (D × List D × List D) :=
  if a = true then match pile.getLast? with
    | some (.tup [f', .tup s']) => some (f', s', pile.dropLast)
    | _ => none
  else some (f, s, pile)
def tailG (p : Int) (t : D) (k : Int) (f1 : D) (s1 p1 : List D) : Option (Int × D × List D × List D) := match repl t (f1 :: s1) with
  | f2 :: s2 => if isRule f2 (.tup s2) = true then some (p, f2, s2, p1 ++ List.replicate k.toNat (.tup [f2, .tup s2])) else none
  | [] => none
def stepG (lo hi : Int) (f : D) (s pile : List D) (g : D) : Option (Int × D × List D × List D) :=
  if groupOk lo hi g = true then match g with
    | .tup [.int p, .bl a, t, .int k] => match backG a f s pile with
      | some q => tailG p t k q.1 q.2.1 q.2.2
      | none => none
    | _ => none
  else none
def scriptGo : Nat → Int → Int → D → List D → List D → List D → List D → Except D (List D)
  | _, _, _, _, _, _, acc, [] => .ok acc
  | i, lo, hi, f, s, pile, acc, g :: r => match stepG lo hi f s pile g with
    | some (p, f2, s2, pile2) => scriptGo (i + 1) (p + 1) 59 f2 s2 pile2 (acc ++ [.tup [.int p, f2, .tup s2]]) r
    | none => .error (.int (i : Int))
def scriptRun : D → Except D (List D)
  | .tup xs => if 1 ≤ xs.length ∧ xs.length ≤ 60 then scriptGo 0 0 0 fin0 sit0 [] [] xs else .error .non
  | _ => .error .non
theorem group_inv {lo hi : Int} {g : D} (h : groupOk lo hi g = true) : ∃ p a xs k, g = .tup [.int p, .bl a, .tup xs, .int k] ∧ setsGo parts6 xs = true ∧ 0 ≤ k ∧ k ≤ 60 := by
  unfold groupOk at h
  split at h
  · rename_i p a t k
    rw [Bool.and_eq_true, Bool.and_eq_true, Bool.and_eq_true] at h
    obtain ⟨⟨h1, h2⟩, h3, h4⟩ := h
    cases p with
    | int p =>
      cases a with
      | bl a =>
        cases t with
        | tup xs =>
          cases k with
          | int k =>
            simp only [isBet, Bool.and_eq_true, decide_eq_true_eq] at h4
            exact ⟨p, a, xs, k, rfl, h3, h4.1, h4.2⟩
          | _ => cases h4
        | _ => cases h3
      | _ => cases h2
    | _ => cases h1
  · cases h
theorem kk_put {r : Nat} {ys vs : List D} (hr : r < z.n) : ∀ d, Kn z d → Kn (z.put r (.lst ys) vs) d := fun d k => by
  cases d with
  | ref q =>
    obtain ⟨o, h1, h2⟩ := k
    by_cases c : q = r
    · subst c
      exact ⟨_, get_put_eq hr, .inl ⟨_, rfl⟩⟩
    · exact ⟨o, by rw [get_put_ne hr c]; exact h1, h2⟩
  | _ => exact k
def BadS (z : PH) (d : D) : XD := fun c fs z' => c = "BadScript" ∧ ∃ p, scriptRun d = .error p ∧ fs = [(("index" : Str), p)] ∧ Fr 0 z z'
def GoodP (y : D) : Prop := ∃ f s, y = .tup [f, .tup s] ∧ isRule f (.tup s) = true
theorem done_ok {d : D} (h : KnD z 5 d) : Wp (mCut (d__done [d]) z) (fun x z' => (∃ rows, scriptRun d = .ok rows ∧ x = .tup rows) ∧ Fr 0 z z') (BadS z d) := by
  refine sat_mcut_fr (R := fun x => ∃ rows, scriptRun d = .ok rows ∧ x = .tup rows) ?_
  have hk1 : Kn z d := h.kn
  simp! [d__done]
  have other : scriptRun d = .error .non → BadS z d ("BadScript" : Str) [(("index" : Str), .non)] z := fun e => ⟨rfl, _, e, rfl, Fr.rfl⟩
  cases d with
  | tup xs =>
    by_cases h1 : (1 : Int) ≤ xs.length
    · by_cases h2 : (xs.length : Int) ≤ 60
      · have hc : scriptRun (.tup xs) = scriptGo 0 0 0 fin0 sit0 [] [] xs := by
          have a : 1 ≤ xs.length ∧ xs.length ≤ 60 := by omega
          simp only [scriptRun, a, and_self, if_true]
        simp! [D.isTupD, h1, h2, k_MOST_CODE, k_ENTRY]
        have gp : ((z.new (.lst [])).new (.lst [])).get z.n = some (.lst []) := by and_intros
        have gr : ((z.new (.lst [])).new (.lst [])).get (z.n + 1) = some (.lst []) := by and_intros
        have F : Fr 0 z ((z.new (.lst [])).new (.lst [])) := by subst_eqs
        have hz0 : z.n ≤ z.n := Nat.le_refl _
        have hn : z.n ≠ z.n + 1 := by omega
        try rw [PH.n_new]
        generalize ((z.new (.lst [])).new (.lst [])) = z0 at *
        generalize hrr : z.n + 1 = rr at *
        generalize hrp : z.n = rp at gp hn ⊢
        have hrp' : z.n ≤ rp := by omega
        have hrr' : z.n ≤ rr := by omega
        clear hrr hrp hz0
        rw [show (.tup [.str "sp", .int 0] : D) = fin0 from rfl, show ([.tup [.str "word", .int 0], .tup [.str "in", .str "p"], .tup [.str "in", .str "q"], .tup [.str "in", .str "r"], .tup [.str "in", .str "s"]] : List D) = sit0 from rfl]
        refine sat_loopF xs.length (xs.mapIdx fun k x => D.tup [.int (k : Int), x]) (fun i ρ z' => i ≤ xs.length ∧ (∃ lo hi f1 s1 p1 acc a7 a8 a9 a10 a11 a12 a13, ρ = [some (.tup xs), some (.int lo), some (.int hi), some (.ref rp), some (.ref rr), some f1, some (.tup s1), a7, a8, a9, a10, a11, a12, a13] ∧
            z'.get rp = some (.lst p1) ∧ z'.get rr = some (.lst acc) ∧ isRule f1 (.tup s1) = true ∧ (∀ y ∈ p1, GoodP y) ∧ p1.length ≤ 60 * i ∧ acc.length = i ∧ scriptRun (.tup xs) = scriptGo i lo hi f1 s1 p1 acc (xs.drop i)) ∧ Fr 0 z z') (by rw [List.length_mapIdx])
          (fun i ρ z' q => wke_get q.1) (fun i ρ z' d hd q => ?_) (fun ρ z' q => ?_) maxTurns 0 _ z0 ⟨Nat.zero_le _, ⟨0, 0, fin0, sit0, [], [], _, _, _, _, _, _, _, rfl, gp, gr, rule0, (fun _ h => nomatch h), Nat.zero_le _, rfl, hc⟩, F⟩ (Nat.zero_le _) (by simp only [maxTurns]; omega)
        · clear gp gr F
          obtain ⟨q1, ⟨lo, hi, f1, s1, p1, acc, a7, a8, a9, a10, a11, a12, a13, rfl, gp, gr, hR, hP, hl, ha, qe⟩, F⟩ := q
          rw [List.getElem?_mapIdx] at hd
          cases hx : xs[i]? with
          | none => rw [hx] at hd; cases hd
          | some x =>
            rw [hx] at hd
            cases hd
            have hi' : i < xs.length := (List.getElem?_eq_some_iff.mp hx).1
            have hdr : xs.drop i = x :: xs.drop (i + 1) := by
              rw [List.drop_eq_getElem_cons hi', (List.getElem?_eq_some_iff.mp hx).2]
            rw [hdr] at qe
            have kx : KnD z' 4 x := (h.item (List.mem_of_getElem? hx)).fr F
            have bad : stepG lo hi f1 s1 p1 x = none → ∀ {z2 : PH}, Fr 0 z z2 → BadS z (.tup xs) ("BadScript" : Str) [(("index" : Str), .int (i : Int))] z2 := fun e {z2} f2 => ⟨rfl, .int (i : Int), by rw [qe, scriptGo, e], rfl, f2⟩
            simp! []
            refine mono_wp (group_ok kx.less) (fun v z1 q => ?_) fun _ _ _ q => q
            obtain ⟨rfl, e1⟩ := q
            have lp := PH.get_lt gp
            have lr := PH.get_lt gr
            replace gp := (e1.2 rp (Nat.zero_le _) lp).trans gp
            replace gr := (e1.2 rr (Nat.zero_le _) lr).trans gr
            replace kx := kx.fr e1
            replace F := F.trans e1
            clear e1 lp lr
            cases hg : groupOk lo hi x with
            | false => simp! []; exact bad (by simp only [stepG, hg, Bool.false_eq_true, if_false]) F
            | true =>
              obtain ⟨p, a, ts, k, rfl, hts, k0, k60⟩ := group_inv hg
              have kt : KnD z1 3 (.tup ts) := kx.item (by simp)
              have he : stepG lo hi f1 s1 p1 (.tup [.int p, .bl a, .tup ts, .int k]) = match backG a f1 s1 p1 with | some q => tailG p (.tup ts) k q.1 q.2.1 q.2.2 | none => none := by simp only [stepG, hg, if_true]
              rw [scriptGo] at qe
              generalize hsg : stepG lo hi f1 s1 p1 (.tup [.int p, .bl a, .tup ts, .int k]) = sg at *
              have lp := PH.get_lt gp
              have lr := PH.get_lt gr
              have l5 := (rule_kn (z := z1) hR).1
              cases a
              case' false =>
                have he : sg = tailG p (.tup ts) k f1 s1 p1 := by rw [he]; rfl
                simp! [↓W_truL gp, ↓W_aStarT, ↓W_itemsT, ↓W_tupS, List.append_nil]
                generalize hzz : z1 = z2 at gp gr F kt lp lr ⊢
              case' true =>
                rcases List.eq_nil_or_concat p1 with rfl | ⟨p1, y, rfl⟩
                case' inl =>
                  simp! [↓W_truL gp, List.isEmpty_nil]
                  exact bad (by rw [he]; rfl) F
                case' inr =>
                  rw [List.concat_eq_append] at gp hP he hl
                  obtain ⟨f1, s1, rfl, hR⟩ := hP y (List.mem_append_right _ (List.mem_singleton.mpr rfl))
                  have he : sg = tailG p (.tup ts) k f1 s1 p1 := by rw [he]; simp only [backG, if_true, List.getLast?_concat, List.dropLast_concat]
                  have hP : ∀ y ∈ p1, GoodP y := fun y hy => hP y (List.mem_append_left _ hy)
                  have hl : p1.length ≤ 60 * i := by rw [List.length_append] at hl; omega
                  have l5 := (rule_kn (z := z1) hR).1
                  have hie : (p1 ++ [D.tup [f1, .tup s1]]).isEmpty = false := by cases p1 <;> rfl
                  simp! [↓W_truL gp, hie, ↓W_popL gp, ↓W_aStarT, ↓W_itemsT, ↓W_tupS, List.append_nil]
                  have gp : (z1.put rp (.lst p1) []).get rp = some (.lst p1) := get_put_eq lp
                  have gr : (z1.put rp (.lst p1) []).get rr = some (.lst acc) := by rw [get_put_ne lp hn.symm]; exact gr
                  have F : Fr 0 z (z1.put rp (.lst p1) []) := F.putN hrp' lp
                  have kt : KnD (z1.put rp (.lst p1) []) 3 (.tup ts) := kt.map (kk_put lp)
                  have lp : rp < (z1.put rp (.lst p1) []).n := PH.get_lt gp
                  have lr : rr < (z1.put rp (.lst p1) []).n := PH.get_lt gr
                  generalize hzz : z1.put rp (.lst p1) [] = z2 at gp gr F kt lp lr ⊢
              all_goals
                have l5 := rule_kn (z := z2) hR
                refine mono_wp (replaced_ok hts (by rw [List.length_cons, l5.1])) (fun v z3 q => ?_) fun _ _ _ q => q
                obtain ⟨r, rfl, hr, g3, F3⟩ := q
                have kw := repl_kn hts kt (List.forall_mem_cons.mpr ⟨l5.2.1, l5.2.2⟩)
                obtain ⟨f2, s2, e2, l2⟩ : ∃ f2 s2, repl (.tup ts) (f1 :: s1) = f2 :: s2 ∧ s2.length = 5 := by
                  have := repl_len (xs := ts) (ps := f1 :: s1) (by rw [List.length_cons, l5.1])
                  cases e : repl (.tup ts) (f1 :: s1) with
                  | nil => rw [e] at this; cases this
                  | cons a b => exact ⟨a, b, rfl, by rw [e] at this; simpa using this⟩
                rw [e2] at g3 kw
                simp only [tailG, e2] at he
                replace gp := (F3.2 rp (Nat.zero_le _) lp).trans gp
                replace gr := (F3.2 rr (Nat.zero_le _) lr).trans gr
                have kf : KnD z3 1 f2 := (kw f2 List.mem_cons_self).fr F3
                have ks : KnD z3 2 (.tup s2) := KnD.tup (by omega) fun w hw => (kw w (List.mem_cons_of_mem _ hw)).fr F3
                simp! []
                have f4 : Fr 0 z3 (z3.new (.lst s2)) := Fr.new
                replace lp := Nat.lt_of_lt_of_le lp (F3.trans f4).1
                replace lr := Nat.lt_of_lt_of_le lr (F3.trans f4).1
                refine mono_wp (rule_ok (kf.fr f4) (ks.fr f4)) (fun v z4 q => ?_) fun _ _ _ q => q
                obtain ⟨rfl, f5⟩ := q
                have F6 := (F.trans F3).trans (f4.trans f5)
                cases hr2 : isRule f2 (.tup s2) with
                | false => simp! []; exact bad (by rw [he, hr2]; rfl) F6
                | true =>
                  rw [hr2, if_pos rfl] at he
                  rw [he] at qe
                  replace gp := ((f4.trans f5).2 rp (Nat.zero_le _) (PH.get_lt gp)).trans gp
                  replace gr := ((f4.trans f5).2 rr (Nat.zero_le _) (PH.get_lt gr)).trans gr
                  have lp4 := PH.get_lt gp
                  have lr4 := PH.get_lt gr
                  have hlr : (List.replicate k.toNat (D.tup [f2, .tup s2])).length ≤ 60 := by rw [List.length_replicate]; omega
                  simp! [↓W_append, ↓W_lstQ gr, ↓W_app gr, ↓W_aug, ↓W_mulRep, flat_rep]
                  have hll : p1.length + (List.replicate k.toNat (D.tup [f2, .tup s2])).length ≤ line := by
                    have : line = 16777216 := rfl
                    omega
                  rw [W_iaddL (xs := p1) (ys := List.replicate k.toNat (D.tup [f2, .tup s2])) (by and_intros) get_new_eq hll]
                  simp! []
                  have F7 := ((F6.putN (o := .lst (acc ++ [D.tup [D.int p, f2, D.tup s2]])) (vs := [D.tup [D.int p, f2, D.tup s2]]) hrr' lr4).trans (Fr.new (o := .lst [D.tup [f2, D.tup s2]]))).trans (Fr.new (o := .lst (List.replicate k.toNat (D.tup [f2, D.tup s2]))))
                  have lp7 : rp < (((z4.put rr (PO.lst (acc ++ [D.tup [D.int p, f2, D.tup s2]])) [D.tup [D.int p, f2, D.tup s2]]).new (PO.lst [D.tup [f2, D.tup s2]])).new (PO.lst (List.replicate k.toNat (D.tup [f2, D.tup s2])))).n := by simp only [PH.n_new, PH.n_put]; omega
                  refine ⟨hi', ⟨p + 1, 59, f2, s2, p1 ++ List.replicate k.toNat (D.tup [f2, .tup s2]), acc ++ [D.tup [D.int p, f2, D.tup s2]], _, _, _, _, _, _, _, rfl, get_put_eq lp7, ?_, hr2, fun y hy => ?_, ?_, ?_, qe⟩, F7.putN hrp' lp7⟩
                  · rw [get_put_ne lp7 hn.symm]
                    and_intros
                  · rcases List.mem_append.mp hy with hy | hy
                    · exact hP y hy
                    · exact ⟨f2, s2, (List.mem_replicate.mp hy).2, hr2⟩
                  · rw [List.length_append]; omega
                  · rw [List.length_append]; rw [List.length_singleton]; omega
        · obtain ⟨q1, ⟨lo, hi, f1, s1, p1, acc, a7, a8, a9, a10, a11, a12, a13, rfl, gp, gr, hR, hP, hl, ha, qe⟩, F⟩ := q
          rw [List.drop_length, scriptGo] at qe
          simp! []
          exact ⟨⟨acc, qe, rfl⟩, F⟩
      · simp! [D.isTupD, h1, h2, k_MOST_CODE]
        refine other ?_
        have a : ¬ (1 ≤ xs.length ∧ xs.length ≤ 60) := by omega
        simp only [scriptRun, a, if_false]
    · simp! [D.isTupD, h1]
      refine other ?_
      have a : ¬ (1 ≤ xs.length ∧ xs.length ≤ 60) := by omega
      simp only [scriptRun, a, if_false]
  | _ => simp! [D.isTupD]; exact other rfl
end
end Law

/-! C25 -/
set_option pp.maxSteps 250
/-! what refuses a script -/
namespace Law
open PySem UW
section
variable {z z' : PH} {E : XD}
theorem raisedS_ok {p : D} {z : PH} : Wp (restOf dr__law_raised (exnOf ("BadScript" : Str) [(("index" : Str), p)]) z) (fun x z' => x = .tup [.str "script", p] ∧ z' = z) NoE := by
  rw [W_rest]
  simp! [dr__law_raised, exnOf, ↓W_is, ↓W_isX, ↓W_xf, known_exn, isNon_exn, tabB, xLook, List.mem_singleton, List.mem_cons, List.not_mem_nil, true_or, or_true, or_false, false_or]
/-- _law_raised of something that lets BadScript out -/
theorem raisedS_by {b : DE} {d p : D} {ρ : UW.Env} (h2 : Wp (b ρ z) (fun _ _ => False) (BadS z d)) (hc : scriptRun d = .error p) :
    Wp (dRaised xt_UnwindError dr__law_raised b ρ z) (fun x z' => x = .tup [.str "script", p] ∧ Fr 0 z z') E := by
  rw [W_raised]
  refine sat_mcut_fr (R := fun x => x = .tup [.str "script", p]) (b := 0) ?_
  rw [W_ask]
  refine mono_wp h2 (fun x z2 q => q.elim) fun c fs z2 q => ?_
  obtain ⟨rfl, p', hc2, rfl, f2⟩ := q
  rw [hc] at hc2; cases hc2
  show Wp (restOf _ _ _) _ _
  refine mono_wp raisedS_ok (fun x z3 q => ?_) fun _ _ _ q => q.elim
  obtain ⟨rfl, rfl⟩ := q
  exact ⟨rfl, f2⟩
theorem done_exc {d p : D} (h : KnD z 5 d) (hc : scriptRun d = .error p) : Wp (mCut (d__done [d]) z) (fun _ _ => False) (BadS z d) :=
  mono_wp (done_ok h) (fun v z1 q => by obtain ⟨⟨rows, e, _⟩, _⟩ := q; rw [hc] at e; cases e) fun _ _ _ q => q
theorem need_exc {d p : D} (h : KnD z 5 d) (hc : scriptRun d = .error p) : Wp (mCut (d_need_script [d]) z) (fun _ _ => False) (BadS z d) := by
  refine mono_wp (sat_mcut_fr (b := 0) (R := fun _ => False) ?_) (fun _ _ q => q.1) fun _ _ _ q => q
  simp! [d_need_script]
  exact mono_wp (done_exc h hc) (fun _ _ q => q.elim) fun _ _ _ q => q
theorem exp_exc {d p : D} (h : KnD z 5 d) (hc : scriptRun d = .error p) : Wp (mCut (d_expanded [d]) z) (fun _ _ => False) (BadS z d) := by
  refine mono_wp (sat_mcut_fr (b := 0) (R := fun _ => False) ?_) (fun _ _ q => q.1) fun _ _ _ q => q
  simp! [d_expanded]
  exact mono_wp (done_exc h hc) (fun _ _ q => q.elim) fun _ _ _ q => q
theorem size_exc {d p : D} (h : KnD z 5 d) (hc : scriptRun d = .error p) : Wp (mCut (d_size_of [d]) z) (fun _ _ => False) (BadS z d) := by
  refine mono_wp (sat_mcut_fr (b := 0) (R := fun _ => False) ?_) (fun _ _ q => q.1) fun _ _ _ q => q
  simp! [d_size_of]
  exact mono_wp (need_exc h hc) (fun _ _ q => q.elim) fun _ _ _ q => q
theorem refusedS_ok {d p : D} (h : KnD z 5 d) (hc : scriptRun d = .error p) (hp : Pn 0 1921 p) : Wp (mCut (d__law_refused [d, .tup [.str "script", p]]) z) (fun x z' => x = .bl true ∧ Fr 0 z z') E := by
  refine sat_mcut_fr (R := fun x => x = .bl true) (b := 0) ?_
  have hw : Pn 1 20000 (.tup [.str "script", p]) := Pn.tupM (n := 0) (k := 1921) (m := 2) (List.forall_mem_cons.mpr ⟨Pn.lit (by decide +kernel), List.forall_mem_cons.mpr ⟨hp, List.forall_mem_nil _⟩⟩) (by simp) (by decide) (by decide)
  have raised : ∀ {b : DE} {ρ : UW.Env} {z : PH}, Wp (b ρ z) (fun _ _ => False) (BadS z d) → Wp (dRaised xt_UnwindError dr__law_raised b ρ z) (fun x z' => x = .tup [.str "script", p] ∧ Fr 0 z z') E := fun hb => raisedS_by hb hc
  generalize hw0 : D.tup [.str "script", p] = w at hw raised ⊢
  simp! [d__law_refused]
  refine mono_wp (raised (by simp! []; exact exp_exc h hc)) (fun x z1 q => ?_) fun _ _ _ q => q
  obtain ⟨ew, f1⟩ := q
  rw [ew]
  clear ew
  simp! []
  refine mono_wp (raised (by simp! []; exact size_exc (h.fr f1) hc)) (fun x z2 q => ?_) fun _ _ _ q => q
  obtain ⟨ew, f2⟩ := q
  rw [ew]
  clear ew
  have f3 := f1.trans f2
  have g3 : (z2.new (.lst [w, w])).get z2.n = some (.lst [w, w]) := get_new_eq
  have f4 : Fr 0 z (z2.new (.lst [w, w])) := f3.trans Fr.new
  generalize hz3 : z2.new (.lst [w, w]) = z3 at g3 f4
  simp! [hz3]
  refine mono_wp (raised (by simp! []; exact need_exc (h.fr f4) hc)) (fun x z4 q => ?_) fun _ _ _ q => q
  obtain ⟨ew, f5⟩ := q
  rw [ew]
  clear ew
  have g4 := (f5.2 z2.n (Nat.zero_le _) (PH.get_lt g3)).trans g3
  have hn := PH.get_lt g4
  have all : ∀ x ∈ [w, w, w], Pn 1 20000 x := fun x hx => by
    simp only [List.mem_cons, List.not_mem_nil, or_false, or_self] at hx
    rw [hx]; exact hw
  simp! [rep_three, ↓W_mulRep]
  rw [W_eqLR (by and_intros) (by and_intros) all (by decide)]
  simp! []
  exact (f4.trans f5).trans (by subst_eqs)
/-! groups that keep all as it is -/
def goodG (j : Int) : D := .tup [.int (2 * j), .bl false, .tup [], .int 0]
def loA (j : Nat) : Int := if j = 0 then 0 else 2 * (j : Int) - 1
def hiA (j : Nat) : Int := if j = 0 then 0 else 59
theorem repl_same : repl (.tup []) (fin0 :: sit0) = fin0 :: sit0 := rfl
theorem step_good {j : Nat} (hj : j < 30) : stepG (loA j) (hiA j) fin0 sit0 [] (goodG j) = some (2 * (j : Int), fin0, sit0, []) := by
  have hb : isBet (loA j) (hiA j) (.int (2 * (j : Int))) = true := by
    unfold loA hiA isBet
    by_cases c : j = 0
    · subst c; rfl
    · simp only [if_neg c, Bool.and_eq_true, decide_eq_true_eq]; omega
  have hg : groupOk (loA j) (hiA j) (.tup [.int (2 * (j : Int)), .bl false, .tup [], .int 0]) = true := by
    simp only [groupOk, hb, Bool.true_and]
    rfl
  have r0 := rule0
  show stepG (loA j) (hiA j) fin0 sit0 [] (.tup [.int (2 * (j : Int)), .bl false, .tup [], .int 0]) = _
  simp only [stepG, hg, if_true, backG, tailG, repl_same, r0, Bool.false_eq_true, if_false]
  rfl
theorem go_goods {L r : List D} {a : Nat} (ha : a ≤ 30) (hL : ∀ j, j < a → L[j]? = some (goodG (j : Int))) : ∀ j, j ≤ a → ∃ acc, scriptGo 0 0 0 fin0 sit0 [] [] (L.take j ++ r) = scriptGo j (loA j) (hiA j) fin0 sit0 [] acc r := by
  intro j
  induction j generalizing r with
  | zero => intro _; exact ⟨[], by simp [loA, hiA]⟩
  | succ j ih =>
    intro hj
    have e := hL j (by omega)
    have e4 : L.take (j + 1) ++ r = L.take j ++ (goodG (j : Int) :: r) := by
      rw [List.take_add_one, e]; simp
    obtain ⟨acc, q⟩ := ih (r := goodG (j : Int) :: r) (by omega)
    refine ⟨acc ++ [.tup [.int (2 * (j : Int)), fin0, .tup sit0]], ?_⟩
    · rw [e4, q, scriptGo, step_good (by omega)]
      have h1 : loA (j + 1) = 2 * (j : Int) + 1 := by simp only [loA, if_neg (Nat.succ_ne_zero j)]; omega
      have h2 : hiA (j + 1) = 59 := by simp only [hiA, if_neg (Nat.succ_ne_zero j)]
      simp only [h1, h2]
/-- good groups with one that is not in their midst -/
theorem run_spoilt {L : List D} {a : Nat} {x : D} (hl : L.length ≤ 30) (ha : a < L.length) (hL : ∀ j, j < L.length → L[j]? = some (goodG (j : Int))) (hx : stepG (loA a) (hiA a) fin0 sit0 [] x = none) : scriptRun (.tup (L.set a x)) = .error (.int (a : Int)) := by
  have e : L.set a x = L.take a ++ x :: L.drop (a + 1) := by rw [List.set_eq_take_append_cons_drop, if_pos ha]
  have l1 : 1 ≤ (L.set a x).length ∧ (L.set a x).length ≤ 60 := by rw [List.length_set]; omega
  simp only [scriptRun, l1, and_self, if_true]
  obtain ⟨acc, q⟩ := go_goods (L := L) (r := x :: L.drop (a + 1)) (a := a) (by omega) (fun j hj => hL j (by omega)) a (Nat.le_refl _)
  rw [e, q, scriptGo, hx]
/-! groups that are refused -/
def badOne (t : D) : Bool := !setsOk t || (match repl t (fin0 :: sit0) with
  | f2 :: s2 => !isRule f2 (.tup s2)
  | [] => true)
theorem step_no {lo hi : Int} {f x : D} {s p : List D} (h : groupOk lo hi x = false) : stepG lo hi f s p x = none := by
  simp only [stepG, h, Bool.false_eq_true, if_false]
theorem step_bad {lo hi p : Int} {t : D} (h : badOne t = true) : stepG lo hi fin0 sit0 [] (.tup [.int p, .bl false, t, .int 0]) = none := by
  cases hs : setsOk t with
  | false => exact step_no (by simp only [groupOk, hs, Bool.false_and, Bool.and_false])
  | true =>
    unfold badOne at h
    rw [hs, Bool.not_true, Bool.false_or] at h
    cases hg : groupOk lo hi (.tup [.int p, .bl false, t, .int 0]) with
    | false => exact step_no hg
    | true =>
      simp only [stepG, hg, if_true, backG, Bool.false_eq_true, if_false, tailG]
      cases e : repl t (fin0 :: sit0) with
      | nil => rfl
      | cons f2 s2 =>
        rw [e] at h
        have : isRule f2 (.tup s2) = false := by simpa using h
        simp only [this, Bool.false_eq_true, if_false]
end
end Law

/-! D25 -/
set_option pp.maxSteps 400
/-! a group that is spoilt -/
namespace Law
open PySem UW
section
variable {z z' : PH} {E : XD} {b s k : Nat}
def Spl (lo hi : Int) (z : PH) (x : D) : Prop := KnD z 4 x ∧ stepG lo hi fin0 sit0 [] x = none
def oneG (p : Int) (x : D) : D := .tup [.int p, .bl false, x, .int 0]
def putG (x : D) : D := .tup [x, .bl false, .tup [], .int 0]
/-- closed data whose kinds are known down to depth n -/
def knB : Nat → D → Bool
  | _, .non => true
  | _, .bl _ => true
  | _, .int _ => true
  | _, .str s => decide (s.length ≤ 100)
  | 0, .tup xs => decide (xs.length ≤ 100)
  | n + 1, .tup xs => decide (xs.length ≤ 100) && xs.all (knB n)
  | _, _ => false
theorem knB_ok : ∀ {n : Nat} {d : D}, knB n d = true → KnD z n d := by
  intro n
  induction n with
  | zero =>
    intro d h
    cases d with
    | str s =>
      simp only [knB, decide_eq_true_eq] at h
      have : line = 16777216 := rfl
      show s.length ≤ line
      omega
    | tup xs =>
      simp only [knB, decide_eq_true_eq] at h
      show xs.length ≤ 16000
      omega
    | non | bl _ | int _ => trivial
    | _ => cases h
  | succ n ih =>
    intro d h
    cases d with
    | str s =>
      simp only [knB, decide_eq_true_eq] at h
      have : line = 16777216 := rfl
      exact KnD.no (d := .str s) (show s.length ≤ line by omega) (fun _ => nofun) _
    | tup xs =>
      simp only [knB, Bool.and_eq_true, decide_eq_true_eq, List.all_eq_true] at h
      exact KnD.tup (by omega) fun x hx => ih (h.2 x hx)
    | non => exact KnD.no (d := .non) (z := z) trivial (fun _ => nofun) _
    | bl _ => exact KnD.no (d := .bl _) (z := z) trivial (fun _ => nofun) _
    | int _ => exact KnD.no (d := .int _) (z := z) trivial (fun _ => nofun) _
    | _ => cases h
abbrev lostD : D := .tup [.str "lost"]
abbrev prD (w : String) (v : D) : D := .tup [.str w, v]
def sets17 (r1 r2 : Nat) : List D := [.tup [prD "base" (.tup [.str "sp", .int 129])], .tup [prD "base" (.tup [.str "in", .str "p"])], .tup [prD "base" (.int 0)], .tup [prD "back" .non],
  .tup [prD "back" (.tup [.str "sp", .int 0])], .tup [prD "p" lostD, prD "back" lostD], .tup [prD "x" lostD], .tup [prD "p" lostD, prD "p" lostD], .tup [prD "p" lostD, prD "base" (.tup [.str "sp", .int 0])],
  .tup [prD "p" (.tup [.str "word", .bl false])], .tup [prD "base" (.tup [.str "sp", .bl false])], .tup [prD "p" (.tup [.str "word", .int 1])], .ref r1, .non, prD "p" lostD, .tup [.tup [.str "p"]], .tup [.ref r2]]
theorem oneG_spl {lo hi p : Int} {t : D} (h1 : KnD z 3 t) (h2 : badOne t = true) : Spl lo hi z (oneG p t) :=
  ⟨KnD.tup (by simp) (List.forall_mem_cons.mpr ⟨knB_ok (d := .int p) rfl, List.forall_mem_cons.mpr ⟨knB_ok (d := .bl false) rfl, List.forall_mem_cons.mpr ⟨h1, List.forall_mem_cons.mpr ⟨knB_ok (d := .int 0) rfl, List.forall_mem_nil _⟩⟩⟩⟩), step_bad h2⟩
theorem sets_spl {lo hi p : Int} {r1 r2 : Nat} (k1 : ∃ xs, z.get r1 = some (.lst xs)) (k2 : ∃ xs, z.get r2 = some (.lst xs)) : ∀ x ∈ (sets17 r1 r2).map (oneG p), Spl lo hi z x := by
  have rf : ∀ {r n : Nat}, (∃ xs, z.get r = some (.lst xs)) → KnD z n (.ref r) := fun {r n} ⟨xs, e⟩ => KnD.no (d := .ref r) ⟨_, e, .inl ⟨_, rfl⟩⟩ (fun _ => nofun) n
  intro x hx
  obtain ⟨t, ht, rfl⟩ := List.mem_map.mp hx
  refine oneG_spl ?_ ?_
  · revert t
    unfold sets17
    intro t ht _
    revert t
    have cl : ∀ t ∈ ([.tup [prD "base" (.tup [.str "sp", .int 129])], .tup [prD "base" (.tup [.str "in", .str "p"])], .tup [prD "base" (.int 0)], .tup [prD "back" .non],
      .tup [prD "back" (.tup [.str "sp", .int 0])], .tup [prD "p" lostD, prD "back" lostD], .tup [prD "x" lostD], .tup [prD "p" lostD, prD "p" lostD], .tup [prD "p" lostD, prD "base" (.tup [.str "sp", .int 0])],
      .tup [prD "p" (.tup [.str "word", .bl false])], .tup [prD "base" (.tup [.str "sp", .bl false])], .tup [prD "p" (.tup [.str "word", .int 1])], .non, prD "p" lostD, .tup [.tup [.str "p"]]] : List D), knB 3 t = true := List.all_eq_true.mp (by decide +kernel)
    intro t ht _
    simp only [List.mem_cons, List.not_mem_nil, or_false] at ht cl
    rcases ht with rfl | rfl | rfl | rfl | rfl | rfl | rfl | rfl | rfl | rfl | rfl | rfl | rfl | rfl | rfl | rfl | rfl
    case inr.inr.inr.inr.inr.inr.inr.inr.inr.inr.inr.inr.inl => exact rf k1
    case inr.inr.inr.inr.inr.inr.inr.inr.inr.inr.inr.inr.inr.inr.inr.inr => exact KnD.tup (by simp) (List.forall_mem_cons.mpr ⟨rf k2, List.forall_mem_nil _⟩)
    all_goals exact knB_ok (cl _ (by simp))
  · have : (sets17 0 0).all badOne = true := by decide +kernel
    have e : (sets17 r1 r2).map badOne = (sets17 0 0).map badOne := rfl
    have h : badOne t ∈ (sets17 r1 r2).map badOne := List.mem_map_of_mem ht
    rw [e] at h
    obtain ⟨t', h1, h2⟩ := List.mem_map.mp h
    rw [← h2]
    exact List.all_eq_true.mp this t' h1
end
end Law

/-! E25 -/
set_option pp.maxSteps 400
/-! the drawn one -/
namespace Law
open PySem UW
section
variable {z z' : PH} {E : XD} {b s k : Nat}
theorem kn_int {i : Int} {n : Nat} : KnD z n (.int i) := KnD.no (d := .int i) (z := z) trivial (fun _ => nofun) n
theorem four {p a t k : D} (h1 : KnD z 3 p) (h2 : KnD z 3 a) (h3 : KnD z 3 t) (h4 : KnD z 3 k) : KnD z 4 (.tup [p, a, t, k]) := KnD.tup (by simp) (List.forall_mem_cons.mpr ⟨h1, List.forall_mem_cons.mpr ⟨h2, List.forall_mem_cons.mpr ⟨h3, List.forall_mem_cons.mpr ⟨h4, List.forall_mem_nil _⟩⟩⟩⟩)
theorem kb {b : Bool} : KnD z 3 (.bl b) := knB_ok (d := .bl b) rfl
theorem k0 : KnD z 3 (.tup []) := knB_ok (by decide)
theorem puts_spl {a : Nat} {lo : Int} (el : lo = loA a) : ∀ x ∈ ([.int (lo - 1), .int 60, .non, .bl true, .str "0", .tup [.int 0]].map putG : List D), Spl (loA a) (hiA a) z x := by
  have hh : hiA a ≤ 59 := by unfold hiA; split <;> omega
  have g : ∀ {p : D}, KnD z 3 p → isBet (loA a) (hiA a) p = false → Spl (loA a) (hiA a) z (putG p) := fun {p} h1 h2 => ⟨four h1 kb k0 kn_int, step_no (by simp only [putG, groupOk, h2, Bool.false_and])⟩
  simp only [List.map_cons, List.map_nil]
  refine List.forall_mem_cons.mpr ⟨g kn_int (by simp only [isBet, Bool.and_eq_false_iff, decide_eq_false_iff_not]; left; omega), ?_⟩
  refine List.forall_mem_cons.mpr ⟨g kn_int (by simp only [isBet, Bool.and_eq_false_iff, decide_eq_false_iff_not]; right; omega), ?_⟩
  refine List.forall_mem_cons.mpr ⟨g (knB_ok (by decide +kernel)) rfl, ?_⟩
  refine List.forall_mem_cons.mpr ⟨g (knB_ok (by decide +kernel)) rfl, ?_⟩
  refine List.forall_mem_cons.mpr ⟨g (knB_ok (by decide +kernel)) rfl, ?_⟩
  exact List.forall_mem_cons.mpr ⟨g (knB_ok (by decide +kernel)) rfl, List.forall_mem_nil _⟩
def some6 (p : Int) : List D := [.tup [.int p, .int 0, .tup [], .int 0], .tup [.int p, .non, .tup [], .int 0], .tup [.int p, .bl false, .tup [], .int (-1)], .tup [.int p, .bl false, .tup [], .int 61], .non, .tup []]
def some4 (p : Int) (r : Nat) : List D := [.tup [.int p, .bl false, .tup [], .bl true], .tup [.int p, .bl false, .tup [], .str "0"], .tup [.int p, .bl false, .tup []], .ref r]
def some1 (p : Int) : List D := [.tup [.int p, .bl false, .tup [], .int 0, .int 0]]
theorem six_spl {lo hi p : Int} : ∀ x ∈ some6 p, Spl lo hi z x := by
  have no : KnD z 3 .non := knB_ok (by decide)
  unfold some6
  refine List.forall_mem_cons.mpr ⟨⟨four kn_int kn_int k0 kn_int, step_no (by simp [groupOk, D.isBlD])⟩, ?_⟩
  refine List.forall_mem_cons.mpr ⟨⟨four kn_int no k0 kn_int, step_no (by simp [groupOk, D.isBlD])⟩, ?_⟩
  refine List.forall_mem_cons.mpr ⟨⟨four kn_int kb k0 kn_int, step_no (by simp [groupOk, isBet])⟩, ?_⟩
  refine List.forall_mem_cons.mpr ⟨⟨four kn_int kb k0 kn_int, step_no (by simp [groupOk, isBet])⟩, ?_⟩
  refine List.forall_mem_cons.mpr ⟨⟨knB_ok (by decide), step_no rfl⟩, ?_⟩
  exact List.forall_mem_cons.mpr ⟨⟨knB_ok (by decide), step_no rfl⟩, List.forall_mem_nil _⟩
theorem fours_spl {lo hi p : Int} {r : Nat} (k1 : ∃ xs, z.get r = some (.lst xs)) : ∀ x ∈ some4 p r, Spl lo hi z x := by
  unfold some4
  obtain ⟨xs, e⟩ := k1
  refine List.forall_mem_cons.mpr ⟨⟨four kn_int kb k0 kb, step_no (by simp [groupOk, isBet])⟩, ?_⟩
  refine List.forall_mem_cons.mpr ⟨⟨four kn_int kb k0 (knB_ok (by decide +kernel)), step_no (by simp [groupOk, isBet])⟩, ?_⟩
  refine List.forall_mem_cons.mpr ⟨⟨KnD.tup (by simp) (List.forall_mem_cons.mpr ⟨kn_int, List.forall_mem_cons.mpr ⟨kb, List.forall_mem_cons.mpr ⟨k0, List.forall_mem_nil _⟩⟩⟩), step_no rfl⟩, ?_⟩
  exact List.forall_mem_cons.mpr ⟨⟨KnD.no (d := .ref r) ⟨_, e, .inl ⟨_, rfl⟩⟩ (fun _ => nofun) _, step_no rfl⟩, List.forall_mem_nil _⟩
theorem ones_spl {lo hi p : Int} : ∀ x ∈ some1 p, Spl lo hi z x := List.forall_mem_cons.mpr ⟨⟨KnD.tup (by simp) (List.forall_mem_cons.mpr ⟨kn_int, List.forall_mem_cons.mpr ⟨kb, List.forall_mem_cons.mpr ⟨k0, List.forall_mem_cons.mpr ⟨kn_int, List.forall_mem_cons.mpr ⟨kn_int, List.forall_mem_nil _⟩⟩⟩⟩⟩), step_no rfl⟩, List.forall_mem_nil _⟩
theorem spoilt_st (h : St b s k z) (hk : k + 1 < 900000) {a : Nat} {p lo : Int} (el : lo = loA a) : Wp (mCut (d__law_spoilt [.ref s, .int p, .int lo]) z) (DrK b s (k + 1) 4 z (fun x => stepG (loA a) (hiA a) fin0 sit0 [] x = none)) E := by
  refine drK_cut h.le ?_
  have hb := h.le
  simp! [d__law_spoilt, wipeE]
  simp only [PH.n_new]
  refine mono_wp (lc_map (b := 0) (sets17 (z.n + 1 + 1 + 1 + 1 + 1 + 1 + 1) (z.n + 1 + 1 + 1 + 1 + 1 + 1 + 1 + 1)) (oneG p) (by show 17 < maxTurns; simp only [maxTurns]; omega) (fun i z' hi f => ?_) (fun z' d hd f => ?_)) (fun rs z1 q => ?_) fun _ _ _ q => q
  · refine wkr_get ((f.2 _ (Nat.zero_le _) ?_).trans ?_) i
    · simp only [PH.n_new]; omega
    · unfold sets17; and_intros
  · simp! []
    exact ⟨rfl, Fr.rfl⟩
  obtain ⟨rfl, f1⟩ := q
  have k1 : ∃ xs, z1.get (z.n + 1 + 1 + 1 + 1 + 1 + 1 + 1) = some (.lst xs) := ⟨_, (f1.2 _ (Nat.zero_le _) (by simp only [PH.n_new]; omega)).trans (by and_intros)⟩
  have k2 : ∃ xs, z1.get (z.n + 1 + 1 + 1 + 1 + 1 + 1 + 1 + 1) = some (.lst xs) := ⟨_, (f1.2 _ (Nat.zero_le _) (by simp only [PH.n_new]; omega)).trans (by and_intros)⟩
  have F1 : Fr 0 z z1 := Fr.trans (by subst_eqs) f1
  have hs := sets_spl (lo := loA a) (hi := hiA a) (p := p) k1 k2
  have ls : ((sets17 (z.n + 1 + 1 + 1 + 1 + 1 + 1 + 1) (z.n + 1 + 1 + 1 + 1 + 1 + 1 + 1 + 1)).map (oneG p)).length = 17 := rfl
  clear f1 k1 k2
  generalize (sets17 (z.n + 1 + 1 + 1 + 1 + 1 + 1 + 1) (z.n + 1 + 1 + 1 + 1 + 1 + 1 + 1 + 1)).map (oneG p) = S at hs ls ⊢
  simp! [wipeE]
  simp only [PH.n_new]
  refine mono_wp (lc_map (b := 0) [.int (lo - 1), .int 60, .non, .bl true, .str "0", .tup [.int 0]] putG (by show 6 < maxTurns; simp only [maxTurns]; omega) (fun i z' hi f => ?_) (fun z' d hd f => ?_)) (fun rs z2 q => ?_) fun _ _ _ q => q
  · refine wkr_get ((f.2 _ (Nat.zero_le _) ?_).trans ?_) i
    · simp only [PH.n_new]; omega
    · and_intros
  · simp! []
    exact ⟨rfl, Fr.rfl⟩
  obtain ⟨rfl, f2⟩ := q
  have k3 : ∃ xs, z2.get (z1.n + 1 + 1 + 1) = some (.lst xs) := ⟨_, (f2.2 _ (Nat.zero_le _) (by simp only [PH.n_new]; omega)).trans (by and_intros)⟩
  have gS : z2.get (z1.n + 1 + 1 + 1 + 1 + 1) = some (.lst (S ++ some6 p ++ some4 p (z1.n + 1 + 1 + 1))) := (f2.2 _ (Nat.zero_le _) (by simp only [PH.n_new]; omega)).trans (by unfold some6 some4; and_intros)
  have F2 : Fr 0 z1 z2 := Fr.trans (by subst_eqs) f2
  have hp := puts_spl (z := z2) el
  have lp : ([.int (lo - 1), .int 60, .non, .bl true, .str "0", .tup [.int 0]].map putG : List D).length = 6 := rfl
  clear f2
  have n1 : z1.n + 1 + 1 + 1 + 1 + 1 < z2.n := PH.get_lt gS
  generalize hP : ([.int (lo - 1), .int 60, .non, .bl true, .str "0", .tup [.int 0]].map putG : List D) = P at hp lp ⊢
  have b1 := F1.1
  have l6 : (some6 p).length = 6 := rfl
  have l4 : (some4 p (z1.n + 1 + 1 + 1)).length = 4 := rfl
  have all : ∀ x ∈ S ++ some6 p ++ some4 p (z1.n + 1 + 1 + 1) ++ P ++ some1 p, Spl (loA a) (hiA a) z2 x := fun x hx => by
    obtain hx | hx := List.mem_append.mp hx
    · obtain hx | hx := List.mem_append.mp hx
      · obtain hx | hx := List.mem_append.mp hx
        · obtain hx | hx := List.mem_append.mp hx
          · exact ⟨(hs x hx).1.fr F2, (hs x hx).2⟩
          · exact six_spl x hx
        · exact fours_spl k3 x hx
      · exact hp x hx
    · exact ones_spl x hx
  generalize hT : S ++ some6 p ++ some4 p (z1.n + 1 + 1 + 1) = T at gS all
  have lT : T.length = 27 := by rw [← hT, List.length_append, List.length_append, ls, l6, l4]
  have ad : (T.length + P.length ≤ line) := by rw [lT, lp]; decide
  have s3 := h.fr (F1.trans F2)
  simp only [PH.n_new]
  simp! []
  refine mono_wp (of_st (xs := T ++ P ++ some1 p) (s3.fr (by subst_eqs)) (by omega) (by simp only [PH.n_new]; omega) get_new_eq (by simp only [List.length_append]; omega) (by simp only [List.length_append, lT, lp]; show 27 + 6 + 1 < 1000; decide)) (fun x z3 q => ?_) fun _ _ _ q => q
  obtain ⟨hx, s4, f4, kk4⟩ := q
  simp! []
  refine ⟨(all x hx).2, ?_, s4, ?_, ?_⟩
  · exact knd_kk ((all x hx).1.fr (by subst_eqs)) kk4
  · exact Fr.trans (Fr.trans (F1.trans F2) (by subst_eqs) : Fr 0 z _).zero f4
  · exact (KK.fr (Fr.trans (F1.trans F2) (by subst_eqs))).trans kk4
end
end Law

/-! F25 -/
set_option pp.maxSteps 400
/-! the law -/
namespace Law
open PySem UW
section
variable {z z' : PH} {E : XD} {b s k : Nat}
def goodOf : D → D
  | .int i => goodG i
  | d => d
theorem goods_get {n j : Nat} (h : j < n) : ((UW.upTo n).map goodOf)[j]? = some (goodG (j : Int)) := by
  rw [List.getElem?_map, upTo_get h]; rfl
theorem goods_kn {n : Nat} {x : D} (h : x ∈ (UW.upTo n).map goodOf) : KnD z 4 x := by
  obtain ⟨j, hj⟩ := List.getElem?_of_mem h
  have : j < n := by
    have := (List.getElem?_eq_some_iff.mp hj).1
    rw [List.length_map, upTo_len] at this
    exact this
  rw [goods_get this] at hj
  cases hj
  exact four kn_int kb k0 kn_int
def errIs (e : Except D (List D)) (k : Int) : Bool := match e with
  | .error (.int i) => decide (i = k)
  | _ => false
theorem errIs_of {e : Except D (List D)} {k : Int} (h : errIs e k = true) : e = .error (.int k) := by
  unfold errIs at h
  split at h
  · rw [decide_eq_true_eq] at h; rw [h]
  · cases h
abbrev gD : D := .tup [.int 0, .bl false, .tup [], .int 0]
abbrev aD : D := .tup [.int 1, .bl true, .tup [], .int 0]
abbrev bD : D := .tup [.int 1, .bl false, .tup [.tup [.str "base", .non]], .int 0]
def four1 : List D := [.tup [gD, aD, .non], .tup [gD, .non, aD], .tup [gD, bD, .non], .tup [gD, .non, bD]]
def four0 : List D := [.tup [.int 1, .bl false, .tup [], .int 0], .tup [.int 0, .bl true, .tup [], .int 0], .tup [.bl false, .bl false, .tup [], .int 0], .tup [.int (-1), .bl false, .tup [], .int 0]]
theorem four1_ok : ∀ x ∈ four1, KnD z 5 x ∧ scriptRun x = .error (.int 1) := by
  have h1 : four1.all (fun x => knB 5 x && errIs (scriptRun x) 1) = true := by decide +kernel
  intro x hx
  have := List.all_eq_true.mp h1 x hx
  rw [Bool.and_eq_true] at this
  exact ⟨knB_ok this.1, errIs_of this.2⟩
theorem four0_ok : ∀ x ∈ four0, KnD z 5 (.tup [x]) ∧ scriptRun (.tup [x]) = .error (.int 0) := by
  have h1 : four0.all (fun x => knB 5 (.tup [x]) && errIs (scriptRun (.tup [x])) 0) = true := by decide +kernel
  intro x hx
  have := List.all_eq_true.mp h1 x hx
  rw [Bool.and_eq_true] at this
  exact ⟨knB_ok this.1, errIs_of this.2⟩
theorem wp_out {o : Out D} {v : D} (h : Wp o (fun d _ => d = v) NoE) : ∃ z', o = .ok v z' := by
  unfold Wp at h
  cases o with
  | ok d z' => exact ⟨z', by rw [show d = v from h]⟩
  | exc c fs z' => exact (show False from h).elim
  | bad => exact (show False from h).elim
theorem law_wp (ns : List Int) (hl : ns.length ≤ 63) : Wp (d_law [.klst (ns.map D.int)] .nil) (fun d _ => d = .bl true) NoE := by
  simp! [d_law]
  refine mono_wp (begin_ok ns hl) (fun x z1 q => ?_) fun _ _ _ q => q
  obtain ⟨s, rfl, s1⟩ := q
  generalize hb : z1.n = b at s1
  have s2 : St b s 0 z1 := ⟨0, Nat.le_refl _, s1⟩
  obtain ⟨t, ht, et⟩ : ∃ t : Nat, t ≤ 12 ∧ (6 + if (ns.length : Int) < 6 then (ns.length : Int) else 6) = (t : Int) := by
    by_cases c : (ns.length : Int) < 6
    · exact ⟨6 + ns.length, by omega, by rw [if_pos c]; omega⟩
    · exact ⟨12, by omega, by rw [if_neg c]; rfl⟩
  have hok : okRg (t : Int) = true := okRg_nat (by omega)
  simp! [↓W_range1, ↓W_min2, ↓W_lenK, et, hok]
  refine sat_loopF t (UW.upTo t) (fun i ρ z' => i ≤ t ∧ (∃ a2 a3 a4 a5 a6 a7 a8 a9 a10 a11, ρ = [some (.klst (ns.map D.int)), some (.ref s), a2, a3, a4, a5, a6, a7, a8, a9, a10, a11]) ∧ St b s (4 * i) z') upTo_len (fun i ρ z' q => wkg_get) (fun i ρ z' d hd q => ?_) (fun ρ z' q => ?_) maxTurns 0 _ z1 ⟨Nat.zero_le _, ⟨_, _, _, _, _, _, _, _, _, _, rfl⟩, s2⟩ (Nat.zero_le _) (by simp only [maxTurns]; omega)
  · obtain ⟨_, ⟨a2, a3, a4, a5, a6, a7, a8, a9, a10, a11, rfl⟩, h1⟩ := q
    obtain ⟨hi, rfl⟩ := upTo_inv hd
    simp! []
    refine mono_wp (draw_st h1 (by omega) (by decide) (by decide)) (fun v z2 q => ?_) fun _ _ _ q => q
    obtain ⟨⟨m, rfl, m6⟩, s3, f3, kk3⟩ := q
    have em : (1 + (m : Int)) = ((m + 1 : Nat) : Int) := by omega
    have hm : m + 1 ≤ 30 := by omega
    have hok2 : okRg ((m + 1 : Nat) : Int) = true := okRg_nat (by omega)
    generalize hmm : m + 1 = n at em hm hok2
    have n1 : 1 ≤ n := by omega
    simp! [em, ↓W_range1, hok2, wipeE]
    refine mono_wp (lc_map (b := 0) (UW.upTo n) goodOf (by rw [upTo_len]; simp only [maxTurns]; omega) (fun i z' hi f => wkg_get) (fun z' d hd f => ?_)) (fun rs z4 q => ?_) fun _ _ _ q => q
    · obtain ⟨j, hj⟩ := List.getElem?_of_mem hd
      obtain ⟨_, rfl⟩ := upTo_inv hj
      simp! []
      exact ⟨rfl, Fr.rfl⟩
    obtain ⟨rfl, f4⟩ := q
    have gL : (z4.new (.lst ((UW.upTo n).map goodOf))).get z4.n = some (.lst ((UW.upTo n).map goodOf)) := get_new_eq
    have s4 := s3.fr (f4.trans (Fr.new (o := .lst ((UW.upTo n).map goodOf))))
    have b4 := (s3.fr f4).le
    have lL : ((UW.upTo n).map goodOf).length = n := by rw [List.length_map, upTo_len]
    have aL : ∀ j, j < ((UW.upTo n).map goodOf).length → ((UW.upTo n).map goodOf)[j]? = some (goodG (j : Int)) := fun j hj => goods_get (by omega)
    have kL : ∀ {z : PH}, ∀ x ∈ (UW.upTo n).map goodOf, KnD z 4 x := fun x hx => goods_kn hx
    simp! []
    generalize (UW.upTo n).map goodOf = L at gL s4 lL aL kL ⊢
    generalize z4.new (.lst L) = z5 at gL s4 ⊢
    generalize z4.n = rL at gL b4 ⊢
    refine mono_wp (draw_st s4 (by omega) (by omega) (by omega)) (fun v z6 q => ?_) fun _ _ _ q => q
    obtain ⟨⟨a, rfl, ha⟩, s6, f6, kk6⟩ := q
    have ha' : a < n := by omega
    replace gL := (f6.2 rL b4 (PH.get_lt gL)).trans gL
    simp! []
    refine br_val (v := .int (loA a)) (fun c => ?_) (fun c => ?_) ?_
    · have c0 : a ≠ 0 := by have := of_decide_eq_true c; omega
      simp! [loA, c0]
    · have c0 : a = 0 := by have := of_decide_eq_false c; omega
      simp! [loA, c0]
    simp! []
    refine mono_wp (spoilt_st s6 (by omega) (a := a) rfl) (fun x z7 q => ?_) fun _ _ _ q => q
    obtain ⟨hx, kx, s7, f7, kk7⟩ := q
    replace gL := (f7.2 rL b4 (PH.get_lt gL)).trans gL
    have lr := PH.get_lt gL
    have gP : (z7.put rL (.lst (L.set a x)) [x]).get rL = some (.lst (L.set a x)) := get_put_eq lr
    have hal : a < L.length := by omega
    simp! []
    have kx' : KnD (z7.put rL (.lst (L.set a x)) [x]) 4 x := kx.map (kk_put lr)
    have kd : KnD (z7.put rL (.lst (L.set a x)) [x]) 5 (.tup (L.set a x)) := KnD.tup (by rw [List.length_set]; omega) fun y hy => by
      rcases List.mem_or_eq_of_mem_set hy with hy | rfl
      · exact kL y hy
      · exact kx'
    refine mono_wp (refusedS_ok kd (run_spoilt (by omega) hal aL hx) (Pn.int (by omega))) (fun v z8 q => ?_) fun _ _ _ q => q
    obtain ⟨rfl, f8⟩ := q
    simp! []
    exact ⟨by omega, ⟨_, _, _, _, _, _, _, _, _, _, rfl⟩, ((s7.put b4 lr).fr f8).mono (by omega)⟩
  · obtain ⟨_, ⟨a2, a3, a4, a5, a6, a7, a8, a9, a10, a11, rfl⟩, h1⟩ := q
    simp! [↓W_mulRepT]
    generalize hza : z'.new (.lst []) = za
    generalize hzb : za.new (.dct []) = zb
    generalize hzc : zb.new (.lst [gD]) = zc
    generalize hzd : zc.new (.lst [.non, .tup [], .ref z'.n, .ref za.n, .str "script", .int 0, .ref zb.n, .tup (reps 61 gD)]) = zd
    have k1 : zd.get z'.n = some (.lst []) := by subst hzd hzc hzb hza; and_intros
    have k2 : zd.get za.n = some (.dct []) := by subst hzd hzc hzb hza; and_intros
    have k3 : zd.get zb.n = some (.lst [gD]) := by subst hzd hzc hzb hza; and_intros
    have kO : zd.get zc.n = some (.lst [.non, .tup [], .ref z'.n, .ref za.n, .str "script", .int 0, .ref zb.n, .tup (reps 61 gD)]) := by rw [← hzd]; exact get_new_eq
    clear hza hzb hzc hzd
    generalize zc.n = rO at *
    generalize z'.n = r1 at *
    generalize za.n = r2 at *
    generalize zb.n = r3 at *
    have rf : ∀ {r : Nat} {o : PO}, zd.get r = some o → ((∃ xs, o = .lst xs) ∨ ∃ kvs, o = .dct kvs) → KnD zd 5 (.ref r) := fun {r o} e h => KnD.no (d := .ref r) ⟨o, e, h⟩ (fun _ => nofun) 5
    have all : ∀ x ∈ ([.non, .tup [], .ref r1, .ref r2, .str "script", .int 0, .ref r3, .tup (reps 61 gD)] : List D), KnD zd 5 x ∧ scriptRun x = .error .non := by
      refine List.forall_mem_cons.mpr ⟨⟨knB_ok rfl, rfl⟩, ?_⟩
      refine List.forall_mem_cons.mpr ⟨⟨knB_ok rfl, rfl⟩, ?_⟩
      refine List.forall_mem_cons.mpr ⟨⟨rf k1 (.inl ⟨_, rfl⟩), rfl⟩, ?_⟩
      refine List.forall_mem_cons.mpr ⟨⟨rf k2 (.inr ⟨_, rfl⟩), rfl⟩, ?_⟩
      refine List.forall_mem_cons.mpr ⟨⟨knB_ok (by decide +kernel), rfl⟩, ?_⟩
      refine List.forall_mem_cons.mpr ⟨⟨knB_ok rfl, rfl⟩, ?_⟩
      refine List.forall_mem_cons.mpr ⟨⟨rf k3 (.inl ⟨_, rfl⟩), rfl⟩, ?_⟩
      have l61 : (reps 61 gD).length = 61 := by rw [reps, List.length_replicate]; rfl
      refine List.forall_mem_cons.mpr ⟨⟨KnD.tup (by omega) fun x hx => ?_, ?_⟩, List.forall_mem_nil _⟩
      · rw [reps] at hx
        rw [(List.mem_replicate.mp hx).2]
        exact knB_ok rfl
      · have : ¬ (1 ≤ (reps 61 gD).length ∧ (reps 61 gD).length ≤ 60) := by omega
        simp only [scriptRun, this, if_false]
    generalize hL : ([.non, .tup [], .ref r1, .ref r2, .str "script", .int 0, .ref r3, .tup (reps 61 gD)] : List D) = L at kO all
    have lL : L.length = 8 := by rw [← hL]; rfl
    clear hL k1 k2 k3 rf h1
    refine sat_loopF 8 L (fun i ρ z => i ≤ 8 ∧ (∃ a3, ρ = [some (.klst (ns.map D.int)), some (.ref s), a2, a3, a4, a5, a6, a7, a8, a9, a10, a11]) ∧ Fr 0 zd z) lL (fun i ρ z q => wkr_get ((q.2.2.2 _ (Nat.zero_le _) (PH.get_lt kO)).trans kO) i) (fun i ρ z d hd q => ?_) (fun ρ z q => ?_) maxTurns 0 _ zd ⟨Nat.zero_le _, ⟨_, rfl⟩, Fr.rfl⟩ (Nat.zero_le _) (by simp only [maxTurns]; omega)
    · obtain ⟨q1, ⟨a3, rfl⟩, q2⟩ := q
      have hi : i < 8 := by rw [← lL]; exact (List.getElem?_eq_some_iff.mp hd).1
      obtain ⟨h1, h2⟩ := all d (List.mem_of_getElem? hd)
      simp! []
      refine mono_wp (refusedS_ok (h1.fr q2) h2 (Pn.non.mono (by decide) (by decide))) (fun v z2 q => ?_) fun _ _ _ q => q
      obtain ⟨rfl, f1⟩ := q
      simp! []
      exact ⟨by omega, ⟨_, rfl⟩, q2.trans f1⟩
    obtain ⟨q1, ⟨a3, rfl⟩, q2⟩ := q
    clear q1 q2 kO all lL
    simp! []
    have g4 : (z.new (.lst four1)).get z.n = some (.lst four1) := get_new_eq
    rw [show ([.tup [gD, aD, .non], .tup [gD, .non, aD], .tup [gD, bD, .non], .tup [gD, .non, bD]] : List D) = four1 from rfl]
    generalize z.new (.lst four1) = zd at g4 ⊢
    generalize z.n = rO at g4 ⊢
    refine sat_loopF 4 four1 (fun i ρ z => i ≤ 4 ∧ (∃ a4, ρ = [some (.klst (ns.map D.int)), some (.ref s), a2, a3, a4, a5, a6, a7, some gD, some aD, some bD, a11]) ∧ Fr 0 zd z) rfl (fun i ρ z q => wkr_get ((q.2.2.2 _ (Nat.zero_le _) (PH.get_lt g4)).trans g4) i) (fun i ρ z d hd q => ?_) (fun ρ z q => ?_) maxTurns 0 _ zd ⟨Nat.zero_le _, ⟨_, rfl⟩, Fr.rfl⟩ (Nat.zero_le _) (by simp only [maxTurns]; omega)
    · obtain ⟨q1, ⟨a4, rfl⟩, q2⟩ := q
      have hi : i < 4 := (List.getElem?_eq_some_iff.mp hd).1
      obtain ⟨h1, h2⟩ := four1_ok (z := z) d (List.mem_of_getElem? hd)
      simp! []
      refine mono_wp (refusedS_ok h1 h2 (Pn.int (by decide))) (fun v z2 q => ?_) fun _ _ _ q => q
      obtain ⟨rfl, f1⟩ := q
      simp! []
      exact ⟨by omega, ⟨_, rfl⟩, q2.trans f1⟩
    obtain ⟨q1, ⟨a4, rfl⟩, q2⟩ := q
    clear q1 q2 g4
    simp! []
    have g5 : (z.new (.lst four0)).get z.n = some (.lst four0) := get_new_eq
    rw [show ([.tup [.int 1, .bl false, .tup [], .int 0], .tup [.int 0, .bl true, .tup [], .int 0], .tup [.bl false, .bl false, .tup [], .int 0], .tup [.int (-1), .bl false, .tup [], .int 0]] : List D) = four0 from rfl]
    generalize z.new (.lst four0) = zd at g5 ⊢
    generalize z.n = rO at g5 ⊢
    refine sat_loopF 4 four0 (fun i ρ z => i ≤ 4 ∧ (∃ a5, ρ = [some (.klst (ns.map D.int)), some (.ref s), a2, a3, a4, a5, a6, a7, some gD, some aD, some bD, a11]) ∧ Fr 0 zd z) rfl (fun i ρ z q => wkr_get ((q.2.2.2 _ (Nat.zero_le _) (PH.get_lt g5)).trans g5) i) (fun i ρ z d hd q => ?_) (fun ρ z q => ?_) maxTurns 0 _ zd ⟨Nat.zero_le _, ⟨_, rfl⟩, Fr.rfl⟩ (Nat.zero_le _) (by simp only [maxTurns]; omega)
    · obtain ⟨q1, ⟨a5, rfl⟩, q2⟩ := q
      have hi : i < 4 := (List.getElem?_eq_some_iff.mp hd).1
      obtain ⟨h1, h2⟩ := four0_ok (z := z) d (List.mem_of_getElem? hd)
      simp! []
      refine mono_wp (refusedS_ok h1 h2 (Pn.int (by decide))) (fun v z2 q => ?_) fun _ _ _ q => q
      obtain ⟨rfl, f1⟩ := q
      simp! []
      exact ⟨by omega, ⟨_, rfl⟩, q2.trans f1⟩
    obtain ⟨q1, ⟨a5, rfl⟩, q2⟩ := q
    simp! []
end
theorem law_true (ns : List Int) (hl : ns.length ≤ 63) (hb : ∀ z ∈ ns, Builtin.Int.intBits z ≤ 1048576) : ∃ z', d_law [.klst (ns.map D.int)] .nil = .ok (.bl true) z' := wp_out (law_wp ns hl)
end Law

/-! H25 -/
namespace Law
open PySem PySem.Spec PyProof.Rows L2 UW
theorem ao_is_between : ArgsOk "is_between" "is_between" s_is_between ["thing", "least", "most"] := fun _ _ _ _ _ _ us hl => match us, hl with | [_, _, _], _ => rfl
theorem ao_is_basis : ArgsOk "is_basis" "is_basis" s_is_basis ["thing"] := fun _ _ _ _ _ _ us hl => match us, hl with | [_], _ => rfl
theorem ao_are_wheres : ArgsOk "are_wheres" "are_wheres" s_are_wheres ["things"] := fun _ _ _ _ _ _ us hl => match us, hl with | [_], _ => rfl
theorem ao__are_sets : ArgsOk "_are_sets" "_are_sets" s__are_sets ["thing"] := fun _ _ _ _ _ _ us hl => match us, hl with | [_], _ => rfl
theorem ao__replaced : ArgsOk "_replaced" "_replaced" s__replaced ["parts", "sets"] := fun _ _ _ _ _ _ us hl => match us, hl with | [_, _], _ => rfl
theorem ao__law_mixed : ArgsOk "_law_mixed" "_law_mixed" s__law_mixed ["cell", "k"] := fun _ _ _ _ _ _ us hl => match us, hl with | [_, _], _ => rfl
theorem ao__law_begin : ArgsOk "_law_begin" "_law_begin" s__law_begin ["script"] := fun _ _ _ _ _ _ us hl => match us, hl with | [_], _ => rfl
theorem ao__law_raised : ArgsOk "_law_raised" "_law_raised" s__law_raised ["asked"] := fun _ _ _ _ _ _ us hl => match us, hl with | [_], _ => rfl
theorem ao_is_finding : ArgsOk "is_finding" "is_finding" s_is_finding ["thing"] := fun _ _ _ _ _ _ us hl => match us, hl with | [_], _ => rfl
theorem ao__is_group : ArgsOk "_is_group" "_is_group" s__is_group ["thing", "least", "most"] := fun _ _ _ _ _ _ us hl => match us, hl with | [_, _, _], _ => rfl
theorem ao__law_draw : ArgsOk "_law_draw" "_law_draw" s__law_draw ["state", "many"] := fun _ _ _ _ _ _ us hl => match us, hl with | [_, _], _ => rfl
theorem ao_is_rule : ArgsOk "is_rule" "is_rule" s_is_rule ["finding", "sites"] := fun _ _ _ _ _ _ us hl => match us, hl with | [_, _], _ => rfl
theorem ao__law_of : ArgsOk "_law_of" "_law_of" s__law_of ["state", "some"] := fun _ _ _ _ _ _ us hl => match us, hl with | [_, _], _ => rfl
theorem ao__done : ArgsOk "_done" "_done" s__done ["thing"] := fun _ _ _ _ _ _ us hl => match us, hl with | [_], _ => rfl
theorem ao__law_spoilt : ArgsOk "_law_spoilt" "_law_spoilt" s__law_spoilt ["state", "spot", "least"] := fun _ _ _ _ _ _ us hl => match us, hl with | [_, _, _], _ => rfl
theorem ao_need_script : ArgsOk "need_script" "need_script" s_need_script ["thing"] := fun _ _ _ _ _ _ us hl => match us, hl with | [_], _ => rfl
theorem ao_expanded : ArgsOk "expanded" "expanded" s_expanded ["groups"] := fun _ _ _ _ _ _ us hl => match us, hl with | [_], _ => rfl
theorem ao_size_of : ArgsOk "size_of" "size_of" s_size_of ["groups"] := fun _ _ _ _ _ _ us hl => match us, hl with | [_], _ => rfl
theorem ao__law_refused : ArgsOk "_law_refused" "_law_refused" s__law_refused ["groups", "due"] := fun _ _ _ _ _ _ us hl => match us, hl with | [_, _], _ => rfl
theorem ao_law : ArgsOk "law" "law" s_law ["script"] := fun _ _ _ _ _ _ us hl => match us, hl with | [_], _ => rfl
theorem ao_init_BadScript : ArgsOk "__init__" ("BadScript" ++ ".__init__") s_init_BadScript ["self", "index"] := fun _ _ _ _ _ _ us hl => match us, hl with | [_, _], _ => rfl
end Law
open PySem PySem.W PyProof.Rows
set_option maxRecDepth 100000 in
set_option maxHeartbeats 0 in
theorem PySem.Challenge.cw_unwindrows_k25_scripts_refused_holds : PySem.Challenge.rw_unwindrows_k25_scripts_refused.Holds := by
  w_on; o_law; k_head; (case hw => w_witness2)
  k_fill
  refine UW.walk_dF (l := PySem.Challenge.rw_unwindrows_k25_scripts_refused) (n := 63) (k := 10) (gd := false) (x := "script") (cs := [(369, 365)]) Law.d_law [(365, ("_law_refused" : Str) ++ ".<locals>." ++ "<lambda>")] (fun w h Y => ⟨PySem.W.km_in_of Y, fun p hp => PySem.W.km_tabs_of Y p.2 (by rw [List.mem_singleton.mp hp]; exact List.mem_cons_self ..)⟩) rfl UW.le1000 rfl ⟨rfl, by decide, by decide⟩ Law.law_true ?hF_ ?hC_ ?hN_ (fun p hp => by rw [List.mem_singleton.mp hp]; exact ⟨_, List.mem_cons_self ..⟩)
  case hF_ =>
    intro w mg fa h KX G hmg
    refine' UW.with_def Law.ao_is_between KX G ?a_1 ?l_1 ?c_1 ?k_1 ?r_1
    case a_1 => k_is
    case l_1 => k_is
    case c_1 => k_is
    case k_1 => k_is
    intro fd_is_between F_is_between
    refine' UW.with_def Law.ao_is_basis KX G ?a_2 ?l_2 ?c_2 ?k_2 ?r_2
    case a_2 => k_is
    case l_2 => k_is
    case c_2 => k_is
    case k_2 => k_is
    intro fd_is_basis F_is_basis
    refine' UW.with_def Law.ao_are_wheres KX G ?a_3 ?l_3 ?c_3 ?k_3 ?r_3
    case a_3 => k_is
    case l_3 => k_is
    case c_3 => k_is
    case k_3 => k_is
    intro fd_are_wheres F_are_wheres
    refine' UW.with_def Law.ao__are_sets KX G ?a_4 ?l_4 ?c_4 ?k_4 ?r_4
    case a_4 => k_is
    case l_4 => k_is
    case c_4 => k_is
    case k_4 => k_is
    intro fd__are_sets F__are_sets
    refine' UW.with_def Law.ao__replaced KX G ?a_5 ?l_5 ?c_5 ?k_5 ?r_5
    case a_5 => k_is
    case l_5 => k_is
    case c_5 => k_is
    case k_5 => k_is
    intro fd__replaced F__replaced
    refine' UW.with_def Law.ao__law_mixed KX G ?a_6 ?l_6 ?c_6 ?k_6 ?r_6
    case a_6 => k_is
    case l_6 => k_is
    case c_6 => k_is
    case k_6 => k_is
    intro fd__law_mixed F__law_mixed
    refine' UW.with_def Law.ao__law_begin KX G ?a_7 ?l_7 ?c_7 ?k_7 ?r_7
    case a_7 => k_is
    case l_7 => k_is
    case c_7 => k_is
    case k_7 => k_is
    intro fd__law_begin F__law_begin
    refine' UW.with_def Law.ao__law_raised KX G ?a_8 ?l_8 ?c_8 ?k_8 ?r_8
    case a_8 => k_is
    case l_8 => k_is
    case c_8 => k_is
    case k_8 => k_is
    intro fd__law_raised F__law_raised
    refine' UW.with_def Law.ao_is_finding KX G ?a_9 ?l_9 ?c_9 ?k_9 ?r_9
    case a_9 => k_is
    case l_9 => k_is
    case c_9 => k_is
    case k_9 => k_is
    intro fd_is_finding F_is_finding
    refine' UW.with_def Law.ao__is_group KX G ?a_10 ?l_10 ?c_10 ?k_10 ?r_10
    case a_10 => k_is
    case l_10 => k_is
    case c_10 => k_is
    case k_10 => k_is
    intro fd__is_group F__is_group
    refine' UW.with_def Law.ao__law_draw KX G ?a_11 ?l_11 ?c_11 ?k_11 ?r_11
    case a_11 => k_is
    case l_11 => k_is
    case c_11 => k_is
    case k_11 => k_is
    intro fd__law_draw F__law_draw
    refine' UW.with_def Law.ao_is_rule KX G ?a_12 ?l_12 ?c_12 ?k_12 ?r_12
    case a_12 => k_is
    case l_12 => k_is
    case c_12 => k_is
    case k_12 => k_is
    intro fd_is_rule F_is_rule
    refine' UW.with_def Law.ao__law_of KX G ?a_13 ?l_13 ?c_13 ?k_13 ?r_13
    case a_13 => k_is
    case l_13 => k_is
    case c_13 => k_is
    case k_13 => k_is
    intro fd__law_of F__law_of
    refine' UW.with_def Law.ao__done KX G ?a_14 ?l_14 ?c_14 ?k_14 ?r_14
    case a_14 => k_is
    case l_14 => k_is
    case c_14 => k_is
    case k_14 => k_is
    intro fd__done F__done
    refine' UW.with_def Law.ao__law_spoilt KX G ?a_15 ?l_15 ?c_15 ?k_15 ?r_15
    case a_15 => k_is
    case l_15 => k_is
    case c_15 => k_is
    case k_15 => k_is
    intro fd__law_spoilt F__law_spoilt
    refine' UW.with_def Law.ao_need_script KX G ?a_16 ?l_16 ?c_16 ?k_16 ?r_16
    case a_16 => k_is
    case l_16 => k_is
    case c_16 => k_is
    case k_16 => k_is
    intro fd_need_script F_need_script
    refine' UW.with_def Law.ao_expanded KX G ?a_17 ?l_17 ?c_17 ?k_17 ?r_17
    case a_17 => k_is
    case l_17 => k_is
    case c_17 => k_is
    case k_17 => k_is
    intro fd_expanded F_expanded
    refine' UW.with_def Law.ao_size_of KX G ?a_18 ?l_18 ?c_18 ?k_18 ?r_18
    case a_18 => k_is
    case l_18 => k_is
    case c_18 => k_is
    case k_18 => k_is
    intro fd_size_of F_size_of
    refine' UW.with_defL Law.ao__law_refused KX G ?a_19 ?l_19 ?c_19 ?k_19 ?r_19
    case a_19 => k_is
    case l_19 => k_is
    case c_19 => k_is
    case k_19 => k_is
    intro fd__law_refused F__law_refused
    refine' UW.with_defE Law.ao_law KX G ?a_20 ?l_20 ?c_20 ?k_20 ?r_20
    case a_20 => k_is
    case l_20 => k_is
    case c_20 => k_is
    case k_20 => k_is
    intro fd_law F_law E_law
    refine' UW.with_none (x := "isinstance") KX G ?a_21 ?r_21
    case a_21 => k_is
    intro b_isinstance
    refine' UW.with_none (x := "int") KX G ?a_22 ?r_22
    case a_22 => k_is
    intro b_int
    refine' UW.with_none (x := "bool") KX G ?a_23 ?r_23
    case a_23 => k_is
    intro b_bool
    refine' UW.with_none (x := "str") KX G ?a_24 ?r_24
    case a_24 => k_is
    intro b_str
    refine' UW.with_none (x := "tuple") KX G ?a_25 ?r_25
    case a_25 => k_is
    intro b_tuple
    refine' UW.with_none (x := "len") KX G ?a_26 ?r_26
    case a_26 => k_is
    intro b_len
    refine' UW.with_none (x := "list") KX G ?a_27 ?r_27
    case a_27 => k_is
    intro b_list
    refine' UW.with_none (x := "dict") KX G ?a_28 ?r_28
    case a_28 => k_is
    intro b_dict
    refine' UW.with_none (x := "zip") KX G ?a_29 ?r_29
    case a_29 => k_is
    intro b_zip
    refine' UW.with_none (x := "any") KX G ?a_30 ?r_30
    case a_30 => k_is
    intro b_any
    refine' UW.with_none (x := "enumerate") KX G ?a_31 ?r_31
    case a_31 => k_is
    intro b_enumerate
    refine' UW.with_none (x := "sum") KX G ?a_32 ?r_32
    case a_32 => k_is
    intro b_sum
    refine' UW.with_none (x := "range") KX G ?a_33 ?r_33
    case a_33 => k_is
    intro b_range
    refine' UW.with_none (x := "min") KX G ?a_34 ?r_34
    case a_34 => k_is
    intro b_min
    refine' UW.with_tup (T := [(365, ("_law_refused" : Str) ++ ".<locals>." ++ "<lambda>")]) (ww := w) (x := "REGISTERS") (ds := _) KX G ?a_35 ?l_35 ?c_35 ?z_35 ?p_35 ?r_35
    case a_35 => k_is
    case l_35 => k_is
    case c_35 => rfl
    case z_35 => rfl
    case p_35 => exact (.str (.str (.str (.str (.str (.str .nil))))))
    intro c_REGISTERS
    refine' UW.with_int (T := [(365, ("_law_refused" : Str) ++ ".<locals>." ++ "<lambda>")]) (ww := w) (x := "MOST_CODE") KX G ?a_36 ?r_36
    case a_36 => k_is
    intro u_MOST_CODE c_MOST_CODE
    refine' UW.with_int (T := [(365, ("_law_refused" : Str) ++ ".<locals>." ++ "<lambda>")]) (ww := w) (x := "MOST_WORDS") KX G ?a_37 ?r_37
    case a_37 => k_is
    intro u_MOST_WORDS c_MOST_WORDS
    refine' UW.with_tup (T := [(365, ("_law_refused" : Str) ++ ".<locals>." ++ "<lambda>")]) (ww := w) (x := "ITEMS") (ds := _) KX G ?a_38 ?l_38 ?c_38 ?z_38 ?p_38 ?r_38
    case a_38 => k_is
    case l_38 => k_is
    case c_38 => rfl
    case z_38 => rfl
    case p_38 => exact (.str (.str (.str (.str (.str .nil)))))
    intro c_ITEMS
    refine' UW.with_tupN (T := [(365, ("_law_refused" : Str) ++ ".<locals>." ++ "<lambda>")]) (ww := w) (x := "ENTRY") (ds := [(.tup [(.str "sp"), (.int 0)]), (.tup [(.tup [(.str "word"), (.int 0)]), (.tup [(.str "in"), (.str "p")]), (.tup [(.str "in"), (.str "q")]), (.tup [(.str "in"), (.str "r")]), (.tup [(.str "in"), (.str "s")])])]) KX G ?a_39 ?l_39 ?c_39 ?z_39 ?p_39 ?r_39
    case a_39 => k_is
    case l_39 => k_is
    case c_39 => rfl
    case z_39 => rfl
    case p_39 => refine' UW.PlainN.tup ?tl17_ ?tc17_ ?tz17_ ?tp17_ ?tr17_; (case tl17_ => k_is); (case tc17_ => rfl); (case tz17_ => rfl); (case tp17_ => (refine' UW.PlainN.str ?tr19_; (case tr19_ => (refine' UW.PlainN.int ?tr18_; (case tr18_ => (exact UW.PlainN.nil)))))); (case tr17_ => (refine' UW.PlainN.tup ?tl1_ ?tc1_ ?tz1_ ?tp1_ ?tr1_; (case tl1_ => k_is); (case tc1_ => rfl); (case tz1_ => rfl); (case tp1_ => (refine' UW.PlainN.tup ?tl14_ ?tc14_ ?tz14_ ?tp14_ ?tr14_; (case tl14_ => k_is); (case tc14_ => rfl); (case tz14_ => rfl); (case tp14_ => (refine' UW.PlainN.str ?tr16_; (case tr16_ => (refine' UW.PlainN.int ?tr15_; (case tr15_ => (exact UW.PlainN.nil)))))); (case tr14_ => (refine' UW.PlainN.tup ?tl11_ ?tc11_ ?tz11_ ?tp11_ ?tr11_; (case tl11_ => k_is); (case tc11_ => rfl); (case tz11_ => rfl); (case tp11_ => (refine' UW.PlainN.str ?tr13_; (case tr13_ => (refine' UW.PlainN.str ?tr12_; (case tr12_ => (exact UW.PlainN.nil)))))); (case tr11_ => (refine' UW.PlainN.tup ?tl8_ ?tc8_ ?tz8_ ?tp8_ ?tr8_; (case tl8_ => k_is); (case tc8_ => rfl); (case tz8_ => rfl); (case tp8_ => (refine' UW.PlainN.str ?tr10_; (case tr10_ => (refine' UW.PlainN.str ?tr9_; (case tr9_ => (exact UW.PlainN.nil)))))); (case tr8_ => (refine' UW.PlainN.tup ?tl5_ ?tc5_ ?tz5_ ?tp5_ ?tr5_; (case tl5_ => k_is); (case tc5_ => rfl); (case tz5_ => rfl); (case tp5_ => (refine' UW.PlainN.str ?tr7_; (case tr7_ => (refine' UW.PlainN.str ?tr6_; (case tr6_ => (exact UW.PlainN.nil)))))); (case tr5_ => (refine' UW.PlainN.tup ?tl2_ ?tc2_ ?tz2_ ?tp2_ ?tr2_; (case tl2_ => k_is); (case tc2_ => rfl); (case tz2_ => rfl); (case tp2_ => (refine' UW.PlainN.str ?tr4_; (case tr4_ => (refine' UW.PlainN.str ?tr3_; (case tr3_ => (exact UW.PlainN.nil)))))); (case tr2_ => (exact UW.PlainN.nil)))))))))))); (case tr1_ => (exact UW.PlainN.nil))))
    intro c_ENTRY
    refine' UW.with_tup (T := [(365, ("_law_refused" : Str) ++ ".<locals>." ++ "<lambda>")]) (ww := w) (x := "PARTS") (ds := _) KX G ?a_40 ?l_40 ?c_40 ?z_40 ?p_40 ?r_40
    case a_40 => k_is
    case l_40 => k_is
    case c_40 => rfl
    case z_40 => rfl
    case p_40 => exact (.str (.str (.str (.str (.str (.str .nil))))))
    intro c_PARTS
    refine' UW.with_int (T := [(365, ("_law_refused" : Str) ++ ".<locals>." ++ "<lambda>")]) (ww := w) (x := "MOST_FINDING") KX G ?a_41 ?r_41
    case a_41 => k_is
    intro u_MOST_FINDING c_MOST_FINDING
    refine' UW.with_int (T := [(365, ("_law_refused" : Str) ++ ".<locals>." ++ "<lambda>")]) (ww := w) (x := "MOST_KEEPS") KX G ?a_42 ?r_42
    case a_42 => k_is
    intro u_MOST_KEEPS c_MOST_KEEPS
    refine' UW.with_name (x := "BadScript") KX G ?a_43 ?r_43
    case a_43 => k_is
    intro mC_BadScript
    refine' UW.with_name (x := "BadCode") KX G ?a_44 ?r_44
    case a_44 => k_is
    intro mC_BadCode
    refine' UW.with_name (x := "BadPath") KX G ?a_45 ?r_45
    case a_45 => k_is
    intro mC_BadPath
    refine' UW.with_name (x := "BadPlace") KX G ?a_46 ?r_46
    case a_46 => k_is
    intro mC_BadPlace
    refine' UW.with_name (x := "BadItem") KX G ?a_47 ?r_47
    case a_47 => k_is
    intro mC_BadItem
    refine' UW.with_name (x := "BadTable") KX G ?a_48 ?r_48
    case a_48 => k_is
    intro mC_BadTable
    refine' UW.with_name (x := "BadPaper") KX G ?a_49 ?r_49
    case a_49 => k_is
    intro mC_BadPaper
    refine' UW.with_name (x := "BadHouse") KX G ?a_50 ?r_50
    case a_50 => k_is
    intro mC_BadHouse
    refine' UW.with_name (x := "BadText") KX G ?a_51 ?r_51
    case a_51 => k_is
    intro mC_BadText
    refine' UW.with_name (x := "TooMany") KX G ?a_52 ?r_52
    case a_52 => k_is
    intro mC_TooMany
    refine' UW.with_name (x := "NeverThere") KX G ?a_53 ?r_53
    case a_53 => k_is
    intro mC_NeverThere
    refine' UW.with_name (x := "UnwindError") KX G ?a_54 ?r_54
    case a_54 => k_is
    intro mC_UnwindError
    refine' UW.with_xc (T := [(365, ("_law_refused" : Str) ++ ".<locals>." ++ "<lambda>")]) (ww := w) (fs := ["index"]) Law.ao_init_BadScript KX mC_BadScript ?l_55 ?bm_55 ?sa_55 ?ex_55 ?ty_55 ?kc_55 ?ga_55 ?gg_55 ?hd_55 ?ha_55 ?hn_55 ?ht_55 ?hm_55 ?ic_55 ?ti_55 ?no_55 ?li_55 ?ci_55 ?ki_55 ?r_55
    case l_55 => k_is
    case bm_55 => rfl
    case sa_55 => k_is
    case ex_55 => k_is
    case ty_55 => k_is
    case kc_55 => k_is
    case ga_55 => k_is
    case gg_55 => k_is
    case hd_55 => k_is
    case ha_55 => k_is
    case hn_55 => k_is
    case ht_55 => k_is
    case hm_55 => k_is
    case ic_55 => k_is
    case ti_55 => k_is
    case no_55 => exact UW.no_one (by k_is)
    case li_55 => k_is
    case ci_55 => k_is
    case ki_55 => k_is
    intro fdI_BadScript X_BadScript
    refine' UW.with_kit0 KX mC_BadScript mC_BadCode rfl ?p_56 ?q_56 ?s_56 ?r_56
    case p_56 => k_is
    case q_56 => k_is
    case s_56 => k_is
    intro ik_BadCode_BadScript
    refine' UW.with_kit0 KX mC_BadScript mC_BadPath rfl ?p_57 ?q_57 ?s_57 ?r_57
    case p_57 => k_is
    case q_57 => k_is
    case s_57 => k_is
    intro ik_BadPath_BadScript
    refine' UW.with_kit0 KX mC_BadScript mC_BadPlace rfl ?p_58 ?q_58 ?s_58 ?r_58
    case p_58 => k_is
    case q_58 => k_is
    case s_58 => k_is
    intro ik_BadPlace_BadScript
    refine' UW.with_kit0 KX mC_BadScript mC_BadItem rfl ?p_59 ?q_59 ?s_59 ?r_59
    case p_59 => k_is
    case q_59 => k_is
    case s_59 => k_is
    intro ik_BadItem_BadScript
    refine' UW.with_kit0 KX mC_BadScript mC_BadTable rfl ?p_60 ?q_60 ?s_60 ?r_60
    case p_60 => k_is
    case q_60 => k_is
    case s_60 => k_is
    intro ik_BadTable_BadScript
    refine' UW.with_kit0 KX mC_BadScript mC_BadPaper rfl ?p_61 ?q_61 ?s_61 ?r_61
    case p_61 => k_is
    case q_61 => k_is
    case s_61 => k_is
    intro ik_BadPaper_BadScript
    refine' UW.with_kit1 KX mC_BadScript mC_BadScript ?p_62 ?q_62 ?s_62 ?r_62
    case p_62 => k_is
    case q_62 => k_is
    case s_62 => k_is
    intro ik_BadScript_BadScript
    refine' UW.with_kit0 KX mC_BadScript mC_BadHouse rfl ?p_63 ?q_63 ?s_63 ?r_63
    case p_63 => k_is
    case q_63 => k_is
    case s_63 => k_is
    intro ik_BadHouse_BadScript
    refine' UW.with_kit0 KX mC_BadScript mC_BadText rfl ?p_64 ?q_64 ?s_64 ?r_64
    case p_64 => k_is
    case q_64 => k_is
    case s_64 => k_is
    intro ik_BadText_BadScript
    refine' UW.with_kit0 KX mC_BadScript mC_TooMany rfl ?p_65 ?q_65 ?s_65 ?r_65
    case p_65 => k_is
    case q_65 => k_is
    case s_65 => k_is
    intro ik_TooMany_BadScript
    refine' UW.with_kit0 KX mC_BadScript mC_NeverThere rfl ?p_66 ?q_66 ?s_66 ?r_66
    case p_66 => k_is
    case q_66 => k_is
    case s_66 => k_is
    intro ik_NeverThere_BadScript
    refine' UW.with_exm (b := true) KX mC_BadScript mC_UnwindError ?p_67 ?q_67 ?s_67 ?u_67 ?r_67
    case p_67 => k_is
    case q_67 => k_is
    case s_67 => k_is
    case u_67 => k_is
    intro xk_UnwindError_BadScript
    exact UW.fin_lawM Law.ao_law F_law.mg hmg (fun base TB => Law.ok_law (g := ⟨_, mg, [(365, ("_law_refused" : Str) ++ ".<locals>." ++ "<lambda>")], w⟩) (w := w) ⟨_, _, F_is_between,
      _, _, F_is_basis,
      _, _, F_are_wheres,
      _, _, F__are_sets,
      _, _, F__replaced,
      _, _, F__law_mixed,
      _, _, F__law_begin,
      _, _, F__law_raised,
      _, _, F_is_finding,
      _, _, F__is_group,
      _, _, F__law_draw,
      _, _, F_is_rule,
      _, _, F__law_of,
      _, _, F__done,
      _, _, F__law_spoilt,
      _, _, F_need_script,
      _, _, F_expanded,
      _, _, F_size_of,
      _, _, _, _, F__law_refused,
      _, _, F_law,
      rfl,
      b_isinstance,
      b_int,
      b_bool,
      b_str,
      b_tuple,
      b_len,
      b_list,
      b_dict,
      b_zip,
      b_any,
      b_enumerate,
      b_sum,
      b_range,
      b_min,
      _, _, c_REGISTERS,
      _, _, c_MOST_CODE,
      _, _, c_MOST_WORDS,
      _, _, c_ITEMS,
      _, _, c_ENTRY,
      _, _, c_PARTS,
      _, _, c_MOST_FINDING,
      _, _, c_MOST_KEEPS,
      _, mC_BadScript,
      _, mC_BadCode,
      _, mC_BadPath,
      _, mC_BadPlace,
      _, mC_BadItem,
      _, mC_BadTable,
      _, mC_BadPaper,
      _, mC_BadHouse,
      _, mC_BadText,
      _, mC_TooMany,
      _, mC_NeverThere,
      _, mC_UnwindError,
      _, _, X_BadScript,
      ik_BadCode_BadScript,
      ik_BadPath_BadScript,
      ik_BadPlace_BadScript,
      ik_BadItem_BadScript,
      ik_BadTable_BadScript,
      ik_BadPaper_BadScript,
      ik_BadScript_BadScript,
      ik_BadHouse_BadScript,
      ik_BadText_BadScript,
      ik_TooMany_BadScript,
      ik_NeverThere_BadScript,
      xk_UnwindError_BadScript⟩ (TB _ (List.mem_cons_self ..))) E_law
  case hC_ => exact fun w p hp => by rw [List.mem_singleton.mp hp]; rfl
  case hN_ => exact fun w p hp => by rw [List.mem_singleton.mp hp]; rfl

