/- A table of processes as plain data: the slots that were given, the names in order. -/
import Derived.Test.YtdcmdidikengbaaFrame
namespace Go.Proofs.Ytdcmdidikengbaa

/-- a slot that was given: the number that was given last, and whether it lives -/
structure Sg where
  pid : Nat
  on : Bool
/-- a name, and whose it is -/
structure Nm where
  txt : ByteArray
  pid : Nat

/-- the slot of a number -/
def slotAt (p : Int) : Int := if p < 0 then 0 else p % 64
/-- what is wrong with a number: 0 if it lives, else the kind -/
def kindAt (sl : List Sg) (p : Int) : Int :=
  if p < 0 then 3 else match sl[(p % 64).toNat]? with
    | none => 3
    | some s => if (s.pid : Int) < p then 3 else if p < s.pid ∨ s.on = false then 4 else 0

/-- the slots stand as they may -/
structure SlOk (B : Nat) (sl : List Sg) : Prop where
  at_ : ∀ k s, sl[k]? = some s → s.pid % 64 = k
  le : ∀ s ∈ sl, s.pid ≤ B

theorem slotAt_nat (p : Nat) : slotAt (p : Nat) = ((p % 64 : Nat) : Int) := by
  unfold slotAt
  rw [if_neg (by omega)]
  omega
theorem slotAt_range (p : Int) : 0 ≤ slotAt p ∧ slotAt p < 64 := by
  unfold slotAt
  split <;> omega
theorem slotAt_toNat {p : Int} (h : ¬ p < 0) : (p % 64).toNat = (slotAt p).toNat := by
  unfold slotAt
  rw [if_neg h]
theorem kindAt_cases (sl : List Sg) (p : Int) : kindAt sl p = 0 ∨ kindAt sl p = 3 ∨ kindAt sl p = 4 := by
  unfold kindAt
  split
  · exact .inr (.inl rfl)
  · split
    · exact .inr (.inl rfl)
    · split
      · exact .inr (.inl rfl)
      · split
        · exact .inr (.inr rfl)
        · exact .inl rfl
theorem kindAt_neg (sl : List Sg) {p : Int} (h : p < 0) : kindAt sl p = 3 := by unfold kindAt; rw [if_pos h]
theorem kindAt_out (sl : List Sg) {p : Int} (h : (sl.length : Int) ≤ slotAt p) : kindAt sl p = 3 := by
  by_cases hp : p < 0
  · exact kindAt_neg sl hp
  · unfold kindAt
    have h0 := slotAt_range p
    rw [if_neg hp, slotAt_toNat hp, List.getElem?_eq_none (by omega)]
theorem kindAt_in {sl : List Sg} {p : Int} {s : Sg} (hp : ¬ p < 0) (hs : sl[(slotAt p).toNat]? = some s) :
    kindAt sl p = if (s.pid : Int) < p then 3 else if p < s.pid ∨ s.on = false then 4 else 0 := by
  unfold kindAt
  rw [if_neg hp, slotAt_toNat hp, hs]
/-- of one that lives -/
theorem kindAt_live {sl : List Sg} {p : Int} : kindAt sl p = 0 ↔ ∃ s, 0 ≤ p ∧ sl[(slotAt p).toNat]? = some s ∧ (s.pid : Int) = p ∧ s.on = true := by
  constructor
  · intro h
    by_cases hp : p < 0
    · rw [kindAt_neg sl hp] at h; cases h
    · by_cases hl : (sl.length : Int) ≤ slotAt p
      · rw [kindAt_out sl hl] at h; cases h
      · have h0 := slotAt_range p
        have hlt : (slotAt p).toNat < sl.length := by omega
        rw [kindAt_in hp (List.getElem?_eq_getElem hlt)] at h
        refine ⟨_, by omega, List.getElem?_eq_getElem hlt, ?_⟩
        split at h
        · cases h
        · split at h
          · cases h
          · rename_i h1 h2
            have h3 : ¬ p < (sl[(slotAt p).toNat].pid : Int) ∧ sl[(slotAt p).toNat].on = true := by
              constructor
              · exact fun e => h2 (.inl e)
              · cases e : sl[(slotAt p).toNat].on
                · exact (h2 (.inr e)).elim
                · rfl
            exact ⟨by omega, h3.2⟩
  · rintro ⟨s, h0, hs, he, ho⟩
    rw [kindAt_in (by omega) hs, if_neg (by omega), if_neg]
    rintro (e | e)
    · omega
    · rw [ho] at e; cases e

/-- the first free slot -/
def freeAt (sl : List Sg) : Nat := sl.findIdx (fun s => !s.on)
theorem freeAt_le (sl : List Sg) : freeAt sl ≤ sl.length := List.findIdx_le_length
/-- what Add makes -/
def addTo (sl : List Sg) : List Sg :=
  match sl[freeAt sl]? with
  | some s => sl.set (freeAt sl) ⟨s.pid + 64, true⟩
  | none => sl ++ [⟨sl.length, true⟩]
/-- the number that Add gives -/
def addPid (sl : List Sg) : Nat :=
  match sl[freeAt sl]? with
  | some s => s.pid + 64
  | none => sl.length
theorem freeAt_off {sl : List Sg} {s : Sg} (h : sl[freeAt sl]? = some s) : s.on = false := by
  obtain ⟨hlt, e⟩ := List.getElem?_eq_some_iff.1 h
  have : (!sl[freeAt sl].on) = true := List.findIdx_getElem (p := fun s : Sg => !s.on) (xs := sl) (w := hlt)
  rw [← e]
  simpa using this
theorem freeAt_before {sl : List Sg} {k : Nat} {s : Sg} (hk : k < freeAt sl) (h : sl[k]? = some s) : s.on = true := by
  obtain ⟨hlt, e⟩ := List.getElem?_eq_some_iff.1 h
  have := List.not_of_lt_findIdx (p := fun s : Sg => !s.on) (xs := sl) hk
  subst e
  simpa using this
/-- what Drop makes of a slot -/
def dropAt (sl : List Sg) (k : Nat) : List Sg :=
  match sl[k]? with
  | some s => sl.set k ⟨s.pid, false⟩
  | none => sl

/-- names in the order of their bytes -/
def NmLt (a b : Nm) : Prop := a.txt.data.toList < b.txt.data.toList
/-- a name stands ahead of x -/
def befo (x n : Nm) : Bool := decide (n.txt.data.toList < x.txt.data.toList)
theorem befo_iff {x n : Nm} : befo x n = true ↔ NmLt n x := by unfold befo NmLt; exact decide_eq_true_iff
/-- whose name it is -/
def whose (ns : List Nm) (s : ByteArray) : Option Nat := (ns.find? (fun n => decide (n.txt = s))).map Nm.pid
/-- a name more, where it belongs -/
def putNm (ns : List Nm) (x : Nm) : List Nm := ns.takeWhile (befo x) ++ x :: ns.dropWhile (befo x)
/-- the names but for one's -/
def without (ns : List Nm) (p : Nat) : List Nm := ns.filter (fun n => !decide (n.pid = p))
/-- the names but for one -/
def butFor (ns : List Nm) (s : ByteArray) : List Nm := ns.filter (fun n => !decide (n.txt = s))
/-- one's names -/
def ofPid (ns : List Nm) (p : Nat) : List Nm := ns.filter (fun n => decide (n.pid = p))

theorem txt_ext {s t : ByteArray} (h : s.data.toList = t.data.toList) : s = t := ByteArray.ext (Array.toList_inj.1 h)
theorem NmLt.ne {a b : Nm} (h : NmLt a b) : a.txt ≠ b.txt := fun e => by
  unfold NmLt at h
  rw [e] at h
  exact List.lt_irrefl _ h
theorem NmLt.trans {a b c : Nm} (h : NmLt a b) (k : NmLt b c) : NmLt a c := List.lt_trans h k
theorem whose_some {ns : List Nm} {s : ByteArray} {p : Nat} (h : whose ns s = some p) : (⟨s, p⟩ : Nm) ∈ ns := by
  unfold whose at h
  obtain ⟨n, hn, rfl⟩ := Option.map_eq_some_iff.1 h
  have h1 := List.mem_of_find?_eq_some hn
  have h2 := List.find?_some hn
  have h3 : n.txt = s := by simpa using h2
  subst h3
  exact h1
theorem whose_none {ns : List Nm} {s : ByteArray} (h : whose ns s = none) : ∀ n ∈ ns, n.txt ≠ s := by
  unfold whose at h
  rw [Option.map_eq_none_iff, List.find?_eq_none] at h
  intro n hn e
  have := h n hn
  simp [e] at this
theorem whose_mem {ns : List Nm} (ho : ns.Pairwise NmLt) {n : Nm} (hn : n ∈ ns) : whose ns n.txt = some n.pid := by
  cases h : whose ns n.txt with
  | none => exact absurd rfl (whose_none h n hn)
  | some p =>
    have h1 := whose_some h
    by_cases e : (⟨n.txt, p⟩ : Nm) = n
    · rw [← e]
    · exfalso
      obtain ⟨i, hi, e1⟩ := List.getElem_of_mem hn
      obtain ⟨j, hj, e2⟩ := List.getElem_of_mem h1
      rw [List.pairwise_iff_getElem] at ho
      rcases Nat.lt_trichotomy i j with hlt | hlt | hlt
      · have := (ho i j hi hj hlt).ne
        rw [e1, e2] at this
        exact this rfl
      · subst hlt
        rw [e1] at e2
        exact e e2.symm
      · have := (ho j i hj hi hlt).ne
        rw [e1, e2] at this
        exact this rfl
theorem ord_filter {ns : List Nm} (ho : ns.Pairwise NmLt) (f : Nm → Bool) : (ns.filter f).Pairwise NmLt := ho.filter _
theorem nm_not_lt {a b : Nm} (h : ¬ NmLt a b) (hne : a.txt ≠ b.txt) : NmLt b a := by
  unfold NmLt at *
  rcases List.le_iff_lt_or_eq.1 (List.not_lt.1 h) with e | e
  · exact e
  · exact absurd (txt_ext e.symm) hne
theorem putNm_mem {ns : List Nm} {x y : Nm} : y ∈ putNm ns x ↔ y = x ∨ y ∈ ns := by
  unfold putNm
  rw [List.mem_append, List.mem_cons]
  have h := List.takeWhile_append_dropWhile (p := befo x) (l := ns)
  constructor
  · rintro (h1 | h1 | h1)
    · exact .inr (by rw [← h]; exact List.mem_append_left _ h1)
    · exact .inl h1
    · exact .inr (by rw [← h]; exact List.mem_append_right _ h1)
  · rintro (h1 | h1)
    · exact .inr (.inl h1)
    · rw [← h] at h1
      rcases List.mem_append.1 h1 with h2 | h2
      · exact .inl h2
      · exact .inr (.inr h2)
theorem putNm_len (ns : List Nm) (x : Nm) : (putNm ns x).length = ns.length + 1 := by
  unfold putNm
  have h := congrArg List.length (List.takeWhile_append_dropWhile (p := befo x) (l := ns))
  rw [List.length_append] at h ⊢
  rw [List.length_cons]
  omega
theorem dropWhile_ge : ∀ {ns : List Nm} {x : Nm}, ns.Pairwise NmLt → (∀ n ∈ ns, n.txt ≠ x.txt) → ∀ n ∈ ns.dropWhile (befo x), NmLt x n
  | [], _, _, _, n, hn => by simp at hn
  | a :: l, x, ho, hne, n, hn => by
    rw [List.pairwise_cons] at ho
    by_cases h : NmLt a x
    · rw [List.dropWhile_cons_of_pos (befo_iff.2 h)] at hn
      exact dropWhile_ge ho.2 (fun m hm => hne m (by simp [hm])) n hn
    · rw [List.dropWhile_cons_of_neg (fun e => h (befo_iff.1 e))] at hn
      have h1 : NmLt x a := nm_not_lt h (hne a (by simp))
      rcases List.mem_cons.1 hn with e | h2
      · rw [e]; exact h1
      · exact h1.trans (ho.1 n h2)
theorem putNm_ord {ns : List Nm} {x : Nm} (ho : ns.Pairwise NmLt) (hne : ∀ n ∈ ns, n.txt ≠ x.txt) : (putNm ns x).Pairwise NmLt := by
  have hd := dropWhile_ge ho hne
  have h := List.takeWhile_append_dropWhile (p := befo x) (l := ns)
  have ho2 := ho
  rw [← h, List.pairwise_append] at ho2
  unfold putNm
  refine List.pairwise_append.2 ⟨ho2.1, List.pairwise_cons.2 ⟨hd, ho2.2.1⟩, fun a ha c hc => ?_⟩
  rcases List.mem_cons.1 hc with e | h2
  · rw [e]
    have := List.all_takeWhile (p := befo x) (l := ns)
    have h3 := List.all_eq_true.1 this a ha
    exact befo_iff.1 h3
  · exact ho2.2.2 a ha c h2
end Go.Proofs.Ytdcmdidikengbaa
