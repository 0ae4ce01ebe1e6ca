/- A supervisor as plain data: its children, its notes, what is under way; what each call turns and says. -/
import Derived.WalkKit
namespace Go.Proofs.Ytbdogiblndlimaa
set_option linter.unusedVariables false

/-- what a supervisor knows of a child: Restart, Timeout, whether it is up -/
structure Kd where
  r : Int
  t : Int
  u : Bool
/-- a supervisor -/
structure Su where
  sg : Int
  cs : List Kd
  m : Nat
  tt : Nat
  ts : List Nat
  st : Nat
  fr : Nat
  to : Nat
  th : Nat
  hl : Nat
  si : Nat
  kd : Bool
abbrev Acts := List (Int × Int)

def upAt (cs : List Kd) (i : Nat) : Bool := match cs[i]? with | some k => k.u | none => false
def tAt (cs : List Kd) (i : Nat) : Int := match cs[i]? with | some k => k.t | none => 0
def rAt (cs : List Kd) (i : Nat) : Int := match cs[i]? with | some k => k.r | none => 2
def setU (cs : List Kd) (i : Nat) (b : Bool) : List Kd := cs.modify i fun k => ⟨k.r, k.t, b⟩
/-- those that are chosen are up -/
def lift (p : Nat → Kd → Bool) (cs : List Kd) : List Kd := cs.mapIdx fun i k => if p i k then ⟨k.r, k.t, true⟩ else k
def upTo (cs : List Kd) (n : Nat) : List Kd := lift (fun i _ => decide (i < n)) cs
def raise (cs : List Kd) (a b : Nat) : List Kd := lift (fun i k => decide (a ≤ i ∧ i < b ∧ k.r ≠ 2)) cs
/-- the last one that is up, of those from one to below another -/
def lastUp (cs : List Kd) (a : Nat) : Nat → Option Nat
  | 0 => none
  | n + 1 => if n < a then none else if upAt cs n then some n else lastUp cs a n
def starts (l : List Nat) : Acts := l.map fun i => (1, ((i : Nat) : Int))
def startsOf (cs : List Kd) (a b : Nat) : List Nat := (List.range b).filter fun i => decide (a ≤ i ∧ rAt cs i ≠ 2)

def haltS (S : Su) (c now : Nat) : Su := { S with st := 2, hl := c, si := now, kd := decide (tAt S.cs c = -1) }
def haltA (S : Su) (c : Nat) : Acts := [(if tAt S.cs c = -1 then 3 else 2, ((c : Nat) : Int))]
def thenS (S : Su) : Su := if S.th = 1 then { S with st := 1, cs := raise S.cs S.fr S.to } else { S with st := 3 }
def thenA (S : Su) : Acts := if S.th = 1 then starts (startsOf S.cs S.fr S.to) else [(4, 0)]
def turnS (S : Su) (now : Nat) : Su := match lastUp S.cs S.fr S.to with | some c => haltS S c now | none => thenS S
def turnA (S : Su) : Acts := match lastUp S.cs S.fr S.to with | some c => haltA S c | none => thenA S
def endS (S : Su) : Su := { S with fr := 0, to := S.cs.length, th := 2 }
def againS (S : Su) (c : Nat) : Su := { S with fr := if S.sg = 1 ∨ S.sg = 3 then c else 0, to := if S.sg = 1 then c + 1 else S.cs.length, th := 1 }
def noteTs (m tt : Nat) (ts : List Nat) (now : Nat) : List Nat := if ts.length < m then ts ++ [now] else if now - (ts ++ [now]).headD 0 < tt then ts ++ [now] else (ts ++ [now]).tail
def noteB (m tt : Nat) (ts : List Nat) (now : Nat) : Bool := decide (m ≤ ts.length ∧ now - (ts ++ [now]).headD 0 < tt)
/-- is a child that has ended to be started again? -/
def againB (r : Int) (normal : Bool) : Bool := decide (r = 0) || (decide (r = 1) && !normal)
def downOf (S : Su) (c : Nat) : Su := { S with cs := setU S.cs c false }
/-- a restart: the plan is made -/
def planS (S : Su) (c now : Nat) : Su :=
  let S2 : Su := { S with ts := noteTs S.m S.tt S.ts now }
  let S3 : Su := if noteB S.m S.tt S.ts now then endS S2 else againS S2 c
  { S3 with hl := c }
def downS (S : Su) (c : Nat) (normal : Bool) (now : Nat) : Su :=
  if S.st = 1 then (if againB (rAt S.cs c) normal then turnS (planS (downOf S c) c now) now else downOf S c)
  else if S.st = 2 ∧ c = S.hl then turnS (downOf S c) now else downOf S c
def downA (S : Su) (c : Nat) (normal : Bool) (now : Nat) : Acts :=
  if S.st = 1 then (if againB (rAt S.cs c) normal then turnA (planS (downOf S c) c now) else [])
  else if S.st = 2 ∧ c = S.hl then turnA (downOf S c) else []
def lateB (S : Su) (now : Nat) : Bool := decide (S.st = 2) && !S.kd && decide (tAt S.cs S.hl < ((now - S.si : Nat) : Int))
def tickS (S : Su) (now : Nat) : Su := if lateB S now then { S with kd := true } else S
def tickA (S : Su) (now : Nat) : Acts := if lateB S now then [(3, ((S.hl : Nat) : Int))] else []
def stopS (S : Su) (now : Nat) : Su := if S.st = 0 ∨ S.st = 1 then turnS (endS S) now else if S.st = 2 then endS S else S
def stopA (S : Su) : Acts := if S.st = 0 ∨ S.st = 1 then turnA (endS S) else []
def beginS (S : Su) : Su := if S.st = 0 then { S with st := 1, cs := upTo S.cs S.cs.length } else S
def beginA (S : Su) : Acts := if S.st = 0 then starts (List.range S.cs.length) else []
def upsOf (cs : List Kd) : List Nat := (List.range cs.length).filter fun i => upAt cs i

section
variable {cs : List Kd} {k : Kd} {i j a b n : Nat} {u : Bool} {p q : Nat → Kd → Bool} {S : Su} {now : Nat}
theorem setU_get : (setU cs i u)[j]? = cs[j]?.map fun k => if i = j then ⟨k.r, k.t, u⟩ else k := by
  unfold setU
  rw [List.getElem?_modify]
  cases cs[j]? with
  | none => rfl
  | some x => by_cases e : i = j <;> simp [e]
theorem setU_len : (setU cs i u).length = cs.length := by simp [setU]
theorem setU_set (h : cs[i]? = some k) : setU cs i u = cs.set i ⟨k.r, k.t, u⟩ := by
  apply List.ext_getElem?
  intro j
  rw [setU_get]
  by_cases e : i = j
  · subst e
    have := (List.getElem?_eq_some_iff.1 h).1
    rw [List.getElem?_set_self this, h]
    simp
  · rw [List.getElem?_set_ne e]
    cases cs[j]? with
    | none => rfl
    | some x => simp [e]
theorem lift_get : (lift p cs)[j]? = cs[j]?.map fun k => if p j k then ⟨k.r, k.t, true⟩ else k := by
  unfold lift
  rw [List.getElem?_mapIdx]
theorem lift_len : (lift p cs).length = cs.length := by simp [lift]
theorem lift_same (h : ∀ j k, cs[j]? = some k → p j k = q j k) : lift p cs = lift q cs := by
  apply List.ext_getElem?
  intro j
  rw [lift_get, lift_get]
  cases hj : cs[j]? with
  | none => rfl
  | some x => simp [h j x hj]
theorem lift_none (h : ∀ j k, cs[j]? = some k → p j k = false) : lift p cs = cs := by
  apply List.ext_getElem?
  intro j
  rw [lift_get]
  cases hj : cs[j]? with
  | none => rfl
  | some x => simp [h j x hj]
theorem lift_more (hi : cs[i]? = some k) (hp : p i k = true) (h : ∀ j k, j ≠ i → cs[j]? = some k → p j k = q j k) : lift p cs = setU (lift q cs) i true := by
  apply List.ext_getElem?
  intro j
  rw [setU_get, lift_get, lift_get]
  by_cases e : i = j
  · subst e
    rw [hi]
    simp [hp]
    split <;> exact ⟨rfl, rfl⟩
  · cases hj : cs[j]? with
    | none => rfl
    | some x => simp [h j x (fun e' => e e'.symm) hj, e]
theorem upTo_zero : upTo cs 0 = cs := lift_none fun j k h => by simp
theorem upTo_len : (upTo cs n).length = cs.length := lift_len
theorem upTo_succ (h : i < cs.length) : upTo cs (i + 1) = setU (upTo cs i) i true := by
  obtain ⟨k, hk⟩ : ∃ k, cs[i]? = some k := ⟨_, List.getElem?_eq_getElem h⟩
  refine lift_more hk (by simp) fun j k hj _ => ?_
  have : j < i + 1 ↔ j < i := by omega
  simp [this]
theorem raise_len : (raise cs a b).length = cs.length := lift_len
theorem raise_same (h : b ≤ a) : raise cs a b = cs := lift_none fun j k _ => by simp; omega
theorem raise_succ (hk : cs[i]? = some k) (ha : a ≤ i) (hr : k.r ≠ 2) : raise cs a (i + 1) = setU (raise cs a i) i true := by
  refine lift_more hk (by simp [ha, hr]) fun j k2 hj _ => ?_
  have : j < i + 1 ↔ j < i := by omega
  simp [this]
theorem raise_skip (hk : cs[i]? = some k) (hr : k.r = 2) : raise cs a (i + 1) = raise cs a i := by
  refine lift_same fun j k2 hj => ?_
  by_cases e : j = i
  · subst e
    rw [hk] at hj
    obtain rfl := Option.some.inj hj
    simp [hr]
  · have : j < i + 1 ↔ j < i := by omega
    simp [this]
theorem rAt_of (h : cs[i]? = some k) : rAt cs i = k.r := by simp [rAt, h]
theorem tAt_of (h : cs[i]? = some k) : tAt cs i = k.t := by simp [tAt, h]
theorem upAt_of (h : cs[i]? = some k) : upAt cs i = k.u := by simp [upAt, h]
theorem upAt_out (h : cs.length ≤ i) : upAt cs i = false := by simp [upAt, List.getElem?_eq_none h]
theorem upAt_lt (h : upAt cs i = true) : i < cs.length := by
  rcases Nat.lt_or_ge i cs.length with h2 | h2
  · exact h2
  · rw [upAt_out h2] at h; cases h
theorem lift_r (h : cs[i]? = some k) : ∃ k', (lift p cs)[i]? = some k' ∧ k'.r = k.r ∧ k'.t = k.t ∧ (k.u = true → k'.u = true) := by
  rw [lift_get, h]
  refine ⟨_, rfl, ?_⟩
  by_cases e : p i k = true <;> simp [e]
theorem setU_r (h : cs[i]? = some k) : ∃ k', (setU cs j u)[i]? = some k' ∧ k'.r = k.r ∧ k'.t = k.t := by
  rw [setU_get, h]
  refine ⟨_, rfl, ?_⟩
  by_cases e : j = i <;> simp [e]
theorem setU_rAt : rAt (setU cs j u) i = rAt cs i := by
  unfold rAt
  rw [setU_get]
  cases cs[i]? with
  | none => rfl
  | some x => by_cases e : j = i <;> simp [e]
theorem setU_tAt : tAt (setU cs j u) i = tAt cs i := by
  unfold tAt
  rw [setU_get]
  cases cs[i]? with
  | none => rfl
  | some x => by_cases e : j = i <;> simp [e]
theorem lift_tAt : tAt (lift p cs) i = tAt cs i := by
  unfold tAt
  rw [lift_get]
  cases cs[i]? with
  | none => rfl
  | some x => by_cases e : p i x = true <;> simp [e]
theorem lift_rAt : rAt (lift p cs) i = rAt cs i := by
  unfold rAt
  rw [lift_get]
  cases cs[i]? with
  | none => rfl
  | some x => by_cases e : p i x = true <;> simp [e]
theorem lastUp_some : ∀ {n : Nat}, lastUp cs a n = some i → i < n ∧ a ≤ i ∧ upAt cs i = true
  | 0, h => by simp [lastUp] at h
  | n + 1, h => by
    unfold lastUp at h
    split at h
    · cases h
    · split at h
      · rename_i h1 h2
        obtain rfl := Option.some.inj h
        exact ⟨by omega, by omega, h2⟩
      · have := lastUp_some h
        exact ⟨by omega, this.2⟩
theorem startsOf_zero (h : b ≤ a) : startsOf cs a b = [] := by
  unfold startsOf
  rw [List.filter_eq_nil_iff]
  intro x hx
  have := List.mem_range.1 hx
  simp
  omega
theorem startsOf_succ (ha : a ≤ i) (hk : cs[i]? = some k) : startsOf cs a (i + 1) = startsOf cs a i ++ (if k.r ≠ 2 then [i] else []) := by
  unfold startsOf
  rw [List.range_succ, List.filter_append, List.filter_cons, rAt_of hk]
  congr 1
  by_cases e : k.r = 2 <;> simp [e, ha]
theorem startsOf_len : (startsOf cs a b).length ≤ b := by
  have := List.length_filter_le (fun i => decide (a ≤ i ∧ rAt cs i ≠ 2)) (List.range b)
  rw [List.length_range] at this
  exact this
theorem starts_len (l : List Nat) : (starts l).length = l.length := by simp [starts]
theorem starts_app (l m : List Nat) : starts (l ++ m) = starts l ++ starts m := by simp [starts]
end
end Go.Proofs.Ytbdogiblndlimaa
