/- Rows of acts, of children that come in, of children as they are kept. -/
import Derived.Test.YtbdogiblndlimaaWideS
import Derived.Test.YtbdogiblndlimaaSuPure
import Derived.Test.YtbdogiblndlimaaProg
import Derived.Lib.Hide
namespace Go.Proofs.Ytbdogiblndlimaa
open Go.RowKit
set_option linter.unusedVariables false

def acC (l : List (Int × Int)) : List Value := l.flatMap fun p => [.int .i64 p.1, .int .i64 p.2]
theorem acC_len (l : List (Int × Int)) : (acC l).length = l.length * 2 := by
  induction l with
  | nil => rfl
  | cons a l ih => simp [acC] at ih ⊢; omega
theorem acC_app (l m : List (Int × Int)) : acC (l ++ m) = acC l ++ acC m := by simp [acC]
theorem acC_one (l : List (Int × Int)) : ∀ u ∈ acC l, u.oneCell' = true := by
  intro u hu
  unfold acC at hu
  obtain ⟨t, _, ht⟩ := List.mem_flatMap.1 hu
  simp at ht
  rcases ht with rfl | rfl <;> rfl
theorem acC_get : ∀ (l : List (Int × Int)) (i j : Nat) (p : (Int × Int)) (u : Value), l[i]? = some p → ([.int .i64 p.1, .int .i64 p.2] : List Value)[j]? = some u → (acC l)[i * 2 + j]? = some u
  | [], i, j, p, u, h, hu => by simp at h
  | a :: l, 0, j, p, u, h, hu => by
    obtain rfl : a = p := by simpa using h
    rw [Nat.zero_mul, Nat.zero_add]
    show (([.int .i64 a.1, .int .i64 a.2] : List Value) ++ acC l)[j]? = some u
    rw [List.getElem?_append_left (List.getElem?_eq_some_iff.1 hu).1]
    exact hu
  | a :: l, i + 1, j, p, u, h, hu => by
    have h1 := acC_get l i j p u (by simpa using h) hu
    show (([.int .i64 a.1, .int .i64 a.2] : List Value) ++ acC l)[(i + 1) * 2 + j]? = some u
    rw [List.getElem?_append_right (by simp; omega)]
    rw [← h1]
    congr 1
    simp
    omega
theorem acC_take (l : List (Int × Int)) (j : Nat) : (acC l).take (j * 2) = acC (l.take j) := by
  rcases Nat.lt_or_ge l.length j with h | h
  · rw [List.take_of_length_le (by rw [acC_len]; omega), List.take_of_length_le (by omega)]
  · have h1 : acC l = acC (l.take j) ++ acC (l.drop j) := by rw [← acC_app, List.take_append_drop]
    have h2 : (acC (l.take j)).length = j * 2 := by rw [acC_len, List.length_take]; omega
    rw [h1]
    exact List.take_left' h2
theorem acC_drop (l : List (Int × Int)) (j : Nat) : (acC l).drop (j * 2) = acC (l.drop j) := by
  rcases Nat.lt_or_ge l.length j with h | h
  · rw [List.drop_eq_nil_of_le (by rw [acC_len]; omega), List.drop_eq_nil_of_le (by omega)]
    rfl
  · have h1 : acC l = acC (l.take j) ++ acC (l.drop j) := by rw [← acC_app, List.take_append_drop]
    have h2 : (acC (l.take j)).length = j * 2 := by rw [acC_len, List.length_take]; omega
    rw [h1]
    exact List.drop_left' h2
theorem Try.infoacC : (Try.prog.info? 40).map (fun i => (i.zero, i.size, i.bytes)) = some (some (.agg #[.int .i64 0, .int .i64 0]), 2, 16) := by kernel_rfl
section
variable {w w' : World} {v : Value} {l m : List (Int × Int)}
/-- several more -/
theorem acC_append (ho : w.ownsS 40 2 v l.length (acC l)) (po : Option Addr) (c : Nat) (m : List (Int × Int)) (hsrc : 0 < m.length → ∃ ad, po = some ad ∧ ∀ j u, (acC m)[j]? = some u → w.cell? (ad.add j) = some u) (hlen : l.length + m.length ≤ 8796093022208) :
    ∃ v' w', (Builtin.append_ #[34, 34] 34 #[v, .slice po m.length c]).run Try.prog w = .ok v' w' ∧ w'.ownsS 40 2 v' (l ++ m).length (acC (l ++ m)) ∧ Kp (fun q => v.ownBlock = some q) w w' ∧ ∀ g, v'.ownBlock = some g → v.ownBlock = some g ∨ w.heap.size ≤ g := by
  obtain ⟨i0, hi, hz0, hz1, hz2⟩ := info_parts Try.infoacC
  obtain ⟨v', w', e1, e2, e3, e4⟩ := run_append_s (P := Try.prog) w 34 34 40 i0 _ 2 16 Try.underlying34 hi hz0 hz1 hz2 rfl v l.length (acC l) ho po m.length c (acC m) (acC_len m) hsrc (acC_one m) (by unfold maxLen; omega) (by omega)
  refine ⟨v', w', e1, ?_, ((Kp.refl (fun q => v.ownBlock = some q) w).grown e3 (fun q hq => .inl hq)), e4⟩
  rw [List.length_append, acC_app]
  exact e2
/-- one more -/
theorem acC_push (ho : w.ownsS 40 2 v l.length (acC l)) (p : (Int × Int)) {g : Nat} (hg : w.heap[g]? = some (.cells #[.int .i64 p.1, .int .i64 p.2] 40 (0, 0))) (hlen : l.length + 1 ≤ 8796093022208) :
    ∃ v' w', (Builtin.append_ #[34, 34] 34 #[v, .slice (some ⟨g, 0, none⟩) 1 1]).run Try.prog w = .ok v' w' ∧ w'.ownsS 40 2 v' (l ++ [p]).length (acC (l ++ [p])) ∧ Kp (fun q => v.ownBlock = some q) w w' ∧ ∀ g, v'.ownBlock = some g → v.ownBlock = some g ∨ w.heap.size ≤ g := by
  refine acC_append ho (some ⟨g, 0, none⟩) 1 [p] (fun _ => ⟨⟨g, 0, none⟩, rfl, fun j u hj => ?_⟩) hlen
  have hadd : (⟨g, 0, none⟩ : Addr).add j = ⟨g, j, none⟩ := by rw [Go.WideShapes.add_plain, Nat.zero_add]
  rw [hadd, cell_of_row w g j _ _ _ hg, ← hj]
  simp [acC]
theorem acC_cell (ho : w.ownsS 40 2 v l.length (acC l)) {i j : Nat} {p : (Int × Int)} {u : Value} (hi : l[i]? = some p) (hu : ([.int .i64 p.1, .int .i64 p.2] : List Value)[j]? = some u) : ∃ g cap, v = .slice (some ⟨g, 0, none⟩) l.length cap ∧ l.length ≤ cap ∧ cap ≤ 9223372036854775807 ∧ w.cell? ⟨g, i * 2 + j, none⟩ = some u :=
  ownsS_get ho _ _ (acC_get l i j p u hi hu)
/-- one is cut out -/
theorem acC_cut {n cap i g : Nat} (ho : w.ownsS 40 2 (.slice (some ⟨g, 0, none⟩) n cap) l.length (acC l)) (hn : l.length = n) (hi : i < n) (hlen : n ≤ 8796093022208) :
    ∃ v' w', (Builtin.append_ #[34, 34] 34 #[.slice (some ⟨g, 0, none⟩) i i, .slice (if cap = i + 1 then some ⟨g, 0, none⟩ else some ⟨g, (i + 1) * 2, none⟩) (n - (i + 1)) (cap - (i + 1))]).run Try.prog w = .ok v' w' ∧
      w'.ownsS 40 2 v' (l.take i ++ l.drop (i + 1)).length (acC (l.take i ++ l.drop (i + 1))) ∧ Kp (fun q => q = g) w w' ∧ ∀ q, v'.ownBlock = some q → q = g ∨ w.heap.size ≤ q := by
  subst hn
  have hil : (l.take i).length = i := by rw [List.length_take]; omega
  have hcap : l.length ≤ cap := by
    obtain ⟨po, c, e, h1, -⟩ := ownsS_form ho
    injection e with _ _ e
    omega
  have hoc : w.ownsS 40 2 (.slice (some ⟨g, 0, none⟩) i i) (l.take i).length (acC (l.take i)) := by
    rw [hil, ← acC_take]
    exact ownsS_cut ho (j := i) (by omega)
  obtain ⟨v', w', hr, h1, h2, h3⟩ := acC_append hoc (if cap = i + 1 then some ⟨g, 0, none⟩ else some ⟨g, (i + 1) * 2, none⟩) (cap - (i + 1)) (l.drop (i + 1)) (fun hp => by
    rw [List.length_drop] at hp
    rw [if_neg (by omega)]
    refine ⟨_, rfl, fun j u hu => ?_⟩
    rw [← acC_drop, List.getElem?_drop] at hu
    obtain ⟨g', cap', e, -, -, hc⟩ := ownsS_get ho _ _ hu
    injection e with e
    injection e with e
    injection e with e
    rw [Go.WideShapes.add_plain, e]
    exact hc) (by rw [List.length_take, List.length_drop]; omega)
  rw [List.length_drop] at hr
  exact ⟨v', w', hr, h1, h2.mono fun q _ e => (Option.some.inj (show some g = some q from e)).symm, fun q hq => (h3 q hq).imp (fun e => (Option.some.inj (show some g = some q from e)).symm) id⟩
end

def chC (l : List (ByteArray × Int × Int)) : List Value := l.flatMap fun p => [.string p.1, .int .i64 p.2.1, .int .i64 p.2.2]
theorem chC_len (l : List (ByteArray × Int × Int)) : (chC l).length = l.length * 3 := by
  induction l with
  | nil => rfl
  | cons a l ih => simp [chC] at ih ⊢; omega
theorem chC_app (l m : List (ByteArray × Int × Int)) : chC (l ++ m) = chC l ++ chC m := by simp [chC]
theorem chC_one (l : List (ByteArray × Int × Int)) : ∀ u ∈ chC l, u.oneCell' = true := by
  intro u hu
  unfold chC at hu
  obtain ⟨t, _, ht⟩ := List.mem_flatMap.1 hu
  simp at ht
  rcases ht with rfl | rfl | rfl <;> rfl
theorem chC_get : ∀ (l : List (ByteArray × Int × Int)) (i j : Nat) (p : (ByteArray × Int × Int)) (u : Value), l[i]? = some p → ([.string p.1, .int .i64 p.2.1, .int .i64 p.2.2] : List Value)[j]? = some u → (chC l)[i * 3 + j]? = some u
  | [], i, j, p, u, h, hu => by simp at h
  | a :: l, 0, j, p, u, h, hu => by
    obtain rfl : a = p := by simpa using h
    rw [Nat.zero_mul, Nat.zero_add]
    show (([.string a.1, .int .i64 a.2.1, .int .i64 a.2.2] : List Value) ++ chC l)[j]? = some u
    rw [List.getElem?_append_left (List.getElem?_eq_some_iff.1 hu).1]
    exact hu
  | a :: l, i + 1, j, p, u, h, hu => by
    have h1 := chC_get l i j p u (by simpa using h) hu
    show (([.string a.1, .int .i64 a.2.1, .int .i64 a.2.2] : List Value) ++ chC l)[(i + 1) * 3 + j]? = some u
    rw [List.getElem?_append_right (by simp; omega)]
    rw [← h1]
    congr 1
    simp
    omega
theorem chC_take (l : List (ByteArray × Int × Int)) (j : Nat) : (chC l).take (j * 3) = chC (l.take j) := by
  rcases Nat.lt_or_ge l.length j with h | h
  · rw [List.take_of_length_le (by rw [chC_len]; omega), List.take_of_length_le (by omega)]
  · have h1 : chC l = chC (l.take j) ++ chC (l.drop j) := by rw [← chC_app, List.take_append_drop]
    have h2 : (chC (l.take j)).length = j * 3 := by rw [chC_len, List.length_take]; omega
    rw [h1]
    exact List.take_left' h2
theorem chC_drop (l : List (ByteArray × Int × Int)) (j : Nat) : (chC l).drop (j * 3) = chC (l.drop j) := by
  rcases Nat.lt_or_ge l.length j with h | h
  · rw [List.drop_eq_nil_of_le (by rw [chC_len]; omega), List.drop_eq_nil_of_le (by omega)]
    rfl
  · have h1 : chC l = chC (l.take j) ++ chC (l.drop j) := by rw [← chC_app, List.take_append_drop]
    have h2 : (chC (l.take j)).length = j * 3 := by rw [chC_len, List.length_take]; omega
    rw [h1]
    exact List.drop_left' h2
theorem Try.infochC : (Try.prog.info? 29).map (fun i => (i.zero, i.size, i.bytes)) = some (some (.agg #[.string ByteArray.empty, .int .i64 0, .int .i64 0]), 3, 32) := by kernel_rfl
section
variable {w w' : World} {v : Value} {l m : List (ByteArray × Int × Int)}
/-- several more -/
theorem chC_append (ho : w.ownsS 29 3 v l.length (chC l)) (po : Option Addr) (c : Nat) (m : List (ByteArray × Int × Int)) (hsrc : 0 < m.length → ∃ ad, po = some ad ∧ ∀ j u, (chC m)[j]? = some u → w.cell? (ad.add j) = some u) (hlen : l.length + m.length ≤ 4398046511104) :
    ∃ v' w', (Builtin.append_ #[31, 31] 31 #[v, .slice po m.length c]).run Try.prog w = .ok v' w' ∧ w'.ownsS 29 3 v' (l ++ m).length (chC (l ++ m)) ∧ Kp (fun q => v.ownBlock = some q) w w' ∧ ∀ g, v'.ownBlock = some g → v.ownBlock = some g ∨ w.heap.size ≤ g := by
  obtain ⟨i0, hi, hz0, hz1, hz2⟩ := info_parts Try.infochC
  obtain ⟨v', w', e1, e2, e3, e4⟩ := run_append_s (P := Try.prog) w 31 31 29 i0 _ 3 32 Try.underlying31 hi hz0 hz1 hz2 rfl v l.length (chC l) ho po m.length c (chC m) (chC_len m) hsrc (chC_one m) (by unfold maxLen; omega) (by omega)
  refine ⟨v', w', e1, ?_, ((Kp.refl (fun q => v.ownBlock = some q) w).grown e3 (fun q hq => .inl hq)), e4⟩
  rw [List.length_append, chC_app]
  exact e2
/-- one more -/
theorem chC_push (ho : w.ownsS 29 3 v l.length (chC l)) (p : (ByteArray × Int × Int)) {g : Nat} (hg : w.heap[g]? = some (.cells #[.string p.1, .int .i64 p.2.1, .int .i64 p.2.2] 29 (0, 0))) (hlen : l.length + 1 ≤ 4398046511104) :
    ∃ v' w', (Builtin.append_ #[31, 31] 31 #[v, .slice (some ⟨g, 0, none⟩) 1 1]).run Try.prog w = .ok v' w' ∧ w'.ownsS 29 3 v' (l ++ [p]).length (chC (l ++ [p])) ∧ Kp (fun q => v.ownBlock = some q) w w' ∧ ∀ g, v'.ownBlock = some g → v.ownBlock = some g ∨ w.heap.size ≤ g := by
  refine chC_append ho (some ⟨g, 0, none⟩) 1 [p] (fun _ => ⟨⟨g, 0, none⟩, rfl, fun j u hj => ?_⟩) hlen
  have hadd : (⟨g, 0, none⟩ : Addr).add j = ⟨g, j, none⟩ := by rw [Go.WideShapes.add_plain, Nat.zero_add]
  rw [hadd, cell_of_row w g j _ _ _ hg, ← hj]
  simp [chC]
theorem chC_cell (ho : w.ownsS 29 3 v l.length (chC l)) {i j : Nat} {p : (ByteArray × Int × Int)} {u : Value} (hi : l[i]? = some p) (hu : ([.string p.1, .int .i64 p.2.1, .int .i64 p.2.2] : List Value)[j]? = some u) : ∃ g cap, v = .slice (some ⟨g, 0, none⟩) l.length cap ∧ l.length ≤ cap ∧ cap ≤ 9223372036854775807 ∧ w.cell? ⟨g, i * 3 + j, none⟩ = some u :=
  ownsS_get ho _ _ (chC_get l i j p u hi hu)
/-- one is cut out -/
theorem chC_cut {n cap i g : Nat} (ho : w.ownsS 29 3 (.slice (some ⟨g, 0, none⟩) n cap) l.length (chC l)) (hn : l.length = n) (hi : i < n) (hlen : n ≤ 4398046511104) :
    ∃ v' w', (Builtin.append_ #[31, 31] 31 #[.slice (some ⟨g, 0, none⟩) i i, .slice (if cap = i + 1 then some ⟨g, 0, none⟩ else some ⟨g, (i + 1) * 3, none⟩) (n - (i + 1)) (cap - (i + 1))]).run Try.prog w = .ok v' w' ∧
      w'.ownsS 29 3 v' (l.take i ++ l.drop (i + 1)).length (chC (l.take i ++ l.drop (i + 1))) ∧ Kp (fun q => q = g) w w' ∧ ∀ q, v'.ownBlock = some q → q = g ∨ w.heap.size ≤ q := by
  subst hn
  have hil : (l.take i).length = i := by rw [List.length_take]; omega
  have hcap : l.length ≤ cap := by
    obtain ⟨po, c, e, h1, -⟩ := ownsS_form ho
    injection e with _ _ e
    omega
  have hoc : w.ownsS 29 3 (.slice (some ⟨g, 0, none⟩) i i) (l.take i).length (chC (l.take i)) := by
    rw [hil, ← chC_take]
    exact ownsS_cut ho (j := i) (by omega)
  obtain ⟨v', w', hr, h1, h2, h3⟩ := chC_append hoc (if cap = i + 1 then some ⟨g, 0, none⟩ else some ⟨g, (i + 1) * 3, none⟩) (cap - (i + 1)) (l.drop (i + 1)) (fun hp => by
    rw [List.length_drop] at hp
    rw [if_neg (by omega)]
    refine ⟨_, rfl, fun j u hu => ?_⟩
    rw [← chC_drop, List.getElem?_drop] at hu
    obtain ⟨g', cap', e, -, -, hc⟩ := ownsS_get ho _ _ hu
    injection e with e
    injection e with e
    injection e with e
    rw [Go.WideShapes.add_plain, e]
    exact hc) (by rw [List.length_take, List.length_drop]; omega)
  rw [List.length_drop] at hr
  exact ⟨v', w', hr, h1, h2.mono fun q _ e => (Option.some.inj (show some g = some q from e)).symm, fun q hq => (h3 q hq).imp (fun e => (Option.some.inj (show some g = some q from e)).symm) id⟩
end

def kdC (l : List Kd) : List Value := l.flatMap fun p => [.int .i64 p.r, .int .i64 p.t, .bool p.u]
theorem kdC_len (l : List Kd) : (kdC l).length = l.length * 3 := by
  induction l with
  | nil => rfl
  | cons a l ih => simp [kdC] at ih ⊢; omega
theorem kdC_app (l m : List Kd) : kdC (l ++ m) = kdC l ++ kdC m := by simp [kdC]
theorem kdC_one (l : List Kd) : ∀ u ∈ kdC l, u.oneCell' = true := by
  intro u hu
  unfold kdC at hu
  obtain ⟨t, _, ht⟩ := List.mem_flatMap.1 hu
  simp at ht
  rcases ht with rfl | rfl | rfl <;> rfl
theorem kdC_get : ∀ (l : List Kd) (i j : Nat) (p : Kd) (u : Value), l[i]? = some p → ([.int .i64 p.r, .int .i64 p.t, .bool p.u] : List Value)[j]? = some u → (kdC l)[i * 3 + j]? = some u
  | [], i, j, p, u, h, hu => by simp at h
  | a :: l, 0, j, p, u, h, hu => by
    obtain rfl : a = p := by simpa using h
    rw [Nat.zero_mul, Nat.zero_add]
    show (([.int .i64 a.r, .int .i64 a.t, .bool a.u] : List Value) ++ kdC l)[j]? = some u
    rw [List.getElem?_append_left (List.getElem?_eq_some_iff.1 hu).1]
    exact hu
  | a :: l, i + 1, j, p, u, h, hu => by
    have h1 := kdC_get l i j p u (by simpa using h) hu
    show (([.int .i64 a.r, .int .i64 a.t, .bool a.u] : List Value) ++ kdC l)[(i + 1) * 3 + j]? = some u
    rw [List.getElem?_append_right (by simp; omega)]
    rw [← h1]
    congr 1
    simp
    omega
theorem kdC_take (l : List Kd) (j : Nat) : (kdC l).take (j * 3) = kdC (l.take j) := by
  rcases Nat.lt_or_ge l.length j with h | h
  · rw [List.take_of_length_le (by rw [kdC_len]; omega), List.take_of_length_le (by omega)]
  · have h1 : kdC l = kdC (l.take j) ++ kdC (l.drop j) := by rw [← kdC_app, List.take_append_drop]
    have h2 : (kdC (l.take j)).length = j * 3 := by rw [kdC_len, List.length_take]; omega
    rw [h1]
    exact List.take_left' h2
theorem kdC_drop (l : List Kd) (j : Nat) : (kdC l).drop (j * 3) = kdC (l.drop j) := by
  rcases Nat.lt_or_ge l.length j with h | h
  · rw [List.drop_eq_nil_of_le (by rw [kdC_len]; omega), List.drop_eq_nil_of_le (by omega)]
    rfl
  · have h1 : kdC l = kdC (l.take j) ++ kdC (l.drop j) := by rw [← kdC_app, List.take_append_drop]
    have h2 : (kdC (l.take j)).length = j * 3 := by rw [kdC_len, List.length_take]; omega
    rw [h1]
    exact List.drop_left' h2
theorem Try.infokdC : (Try.prog.info? 67).map (fun i => (i.zero, i.size, i.bytes)) = some (some (.agg #[.int .i64 0, .int .i64 0, .bool false]), 3, 24) := by kernel_rfl
section
variable {w w' : World} {v : Value} {l m : List Kd}
/-- several more -/
theorem kdC_append (ho : w.ownsS 67 3 v l.length (kdC l)) (po : Option Addr) (c : Nat) (m : List Kd) (hsrc : 0 < m.length → ∃ ad, po = some ad ∧ ∀ j u, (kdC m)[j]? = some u → w.cell? (ad.add j) = some u) (hlen : l.length + m.length ≤ 5864062014805) :
    ∃ v' w', (Builtin.append_ #[65, 65] 65 #[v, .slice po m.length c]).run Try.prog w = .ok v' w' ∧ w'.ownsS 67 3 v' (l ++ m).length (kdC (l ++ m)) ∧ Kp (fun q => v.ownBlock = some q) w w' ∧ ∀ g, v'.ownBlock = some g → v.ownBlock = some g ∨ w.heap.size ≤ g := by
  obtain ⟨i0, hi, hz0, hz1, hz2⟩ := info_parts Try.infokdC
  obtain ⟨v', w', e1, e2, e3, e4⟩ := run_append_s (P := Try.prog) w 65 65 67 i0 _ 3 24 Try.underlying65 hi hz0 hz1 hz2 rfl v l.length (kdC l) ho po m.length c (kdC m) (kdC_len m) hsrc (kdC_one m) (by unfold maxLen; omega) (by omega)
  refine ⟨v', w', e1, ?_, ((Kp.refl (fun q => v.ownBlock = some q) w).grown e3 (fun q hq => .inl hq)), e4⟩
  rw [List.length_append, kdC_app]
  exact e2
/-- one more -/
theorem kdC_push (ho : w.ownsS 67 3 v l.length (kdC l)) (p : Kd) {g : Nat} (hg : w.heap[g]? = some (.cells #[.int .i64 p.r, .int .i64 p.t, .bool p.u] 67 (0, 0))) (hlen : l.length + 1 ≤ 5864062014805) :
    ∃ v' w', (Builtin.append_ #[65, 65] 65 #[v, .slice (some ⟨g, 0, none⟩) 1 1]).run Try.prog w = .ok v' w' ∧ w'.ownsS 67 3 v' (l ++ [p]).length (kdC (l ++ [p])) ∧ Kp (fun q => v.ownBlock = some q) w w' ∧ ∀ g, v'.ownBlock = some g → v.ownBlock = some g ∨ w.heap.size ≤ g := by
  refine kdC_append ho (some ⟨g, 0, none⟩) 1 [p] (fun _ => ⟨⟨g, 0, none⟩, rfl, fun j u hj => ?_⟩) hlen
  have hadd : (⟨g, 0, none⟩ : Addr).add j = ⟨g, j, none⟩ := by rw [Go.WideShapes.add_plain, Nat.zero_add]
  rw [hadd, cell_of_row w g j _ _ _ hg, ← hj]
  simp [kdC]
theorem kdC_cell (ho : w.ownsS 67 3 v l.length (kdC l)) {i j : Nat} {p : Kd} {u : Value} (hi : l[i]? = some p) (hu : ([.int .i64 p.r, .int .i64 p.t, .bool p.u] : List Value)[j]? = some u) : ∃ g cap, v = .slice (some ⟨g, 0, none⟩) l.length cap ∧ l.length ≤ cap ∧ cap ≤ 9223372036854775807 ∧ w.cell? ⟨g, i * 3 + j, none⟩ = some u :=
  ownsS_get ho _ _ (kdC_get l i j p u hi hu)
/-- one is cut out -/
theorem kdC_cut {n cap i g : Nat} (ho : w.ownsS 67 3 (.slice (some ⟨g, 0, none⟩) n cap) l.length (kdC l)) (hn : l.length = n) (hi : i < n) (hlen : n ≤ 5864062014805) :
    ∃ v' w', (Builtin.append_ #[65, 65] 65 #[.slice (some ⟨g, 0, none⟩) i i, .slice (if cap = i + 1 then some ⟨g, 0, none⟩ else some ⟨g, (i + 1) * 3, none⟩) (n - (i + 1)) (cap - (i + 1))]).run Try.prog w = .ok v' w' ∧
      w'.ownsS 67 3 v' (l.take i ++ l.drop (i + 1)).length (kdC (l.take i ++ l.drop (i + 1))) ∧ Kp (fun q => q = g) w w' ∧ ∀ q, v'.ownBlock = some q → q = g ∨ w.heap.size ≤ q := by
  subst hn
  have hil : (l.take i).length = i := by rw [List.length_take]; omega
  have hcap : l.length ≤ cap := by
    obtain ⟨po, c, e, h1, -⟩ := ownsS_form ho
    injection e with _ _ e
    omega
  have hoc : w.ownsS 67 3 (.slice (some ⟨g, 0, none⟩) i i) (l.take i).length (kdC (l.take i)) := by
    rw [hil, ← kdC_take]
    exact ownsS_cut ho (j := i) (by omega)
  obtain ⟨v', w', hr, h1, h2, h3⟩ := kdC_append hoc (if cap = i + 1 then some ⟨g, 0, none⟩ else some ⟨g, (i + 1) * 3, none⟩) (cap - (i + 1)) (l.drop (i + 1)) (fun hp => by
    rw [List.length_drop] at hp
    rw [if_neg (by omega)]
    refine ⟨_, rfl, fun j u hu => ?_⟩
    rw [← kdC_drop, List.getElem?_drop] at hu
    obtain ⟨g', cap', e, -, -, hc⟩ := ownsS_get ho _ _ hu
    injection e with e
    injection e with e
    injection e with e
    rw [Go.WideShapes.add_plain, e]
    exact hc) (by rw [List.length_take, List.length_drop]; omega)
  rw [List.length_drop] at hr
  exact ⟨v', w', hr, h1, h2.mono fun q _ e => (Option.some.inj (show some g = some q from e)).symm, fun q hq => (h3 q hq).imp (fun e => (Option.some.inj (show some g = some q from e)).symm) id⟩
end

def inC (l : List Int) : List Value := l.flatMap fun p => [.int .i64 p]
theorem inC_len (l : List Int) : (inC l).length = l.length * 1 := by
  induction l with
  | nil => rfl
  | cons a l ih => simp [inC] at ih ⊢; omega
theorem inC_app (l m : List Int) : inC (l ++ m) = inC l ++ inC m := by simp [inC]
theorem inC_one (l : List Int) : ∀ u ∈ inC l, u.oneCell' = true := by
  intro u hu
  unfold inC at hu
  obtain ⟨t, _, ht⟩ := List.mem_flatMap.1 hu
  simp at ht
  subst ht; rfl
theorem inC_get : ∀ (l : List Int) (i j : Nat) (p : Int) (u : Value), l[i]? = some p → ([.int .i64 p] : List Value)[j]? = some u → (inC l)[i * 1 + j]? = some u
  | [], i, j, p, u, h, hu => by simp at h
  | a :: l, 0, j, p, u, h, hu => by
    obtain rfl : a = p := by simpa using h
    rw [Nat.zero_mul, Nat.zero_add]
    show (([.int .i64 a] : List Value) ++ inC l)[j]? = some u
    rw [List.getElem?_append_left (List.getElem?_eq_some_iff.1 hu).1]
    exact hu
  | a :: l, i + 1, j, p, u, h, hu => by
    have h1 := inC_get l i j p u (by simpa using h) hu
    show (([.int .i64 a] : List Value) ++ inC l)[(i + 1) * 1 + j]? = some u
    rw [List.getElem?_append_right (by simp; omega)]
    rw [← h1]
    congr 1
    simp
theorem inC_take (l : List Int) (j : Nat) : (inC l).take (j * 1) = inC (l.take j) := by
  rcases Nat.lt_or_ge l.length j with h | h
  · rw [List.take_of_length_le (by rw [inC_len]; omega), List.take_of_length_le (by omega)]
  · have h1 : inC l = inC (l.take j) ++ inC (l.drop j) := by rw [← inC_app, List.take_append_drop]
    have h2 : (inC (l.take j)).length = j * 1 := by rw [inC_len, List.length_take]; omega
    rw [h1]
    exact List.take_left' h2
theorem inC_drop (l : List Int) (j : Nat) : (inC l).drop (j * 1) = inC (l.drop j) := by
  rcases Nat.lt_or_ge l.length j with h | h
  · rw [List.drop_eq_nil_of_le (by rw [inC_len]; omega), List.drop_eq_nil_of_le (by omega)]
    rfl
  · have h1 : inC l = inC (l.take j) ++ inC (l.drop j) := by rw [← inC_app, List.take_append_drop]
    have h2 : (inC (l.take j)).length = j * 1 := by rw [inC_len, List.length_take]; omega
    rw [h1]
    exact List.drop_left' h2
theorem Try.infoinC : (Try.prog.info? 3).map (fun i => (i.zero, i.size, i.bytes)) = some (some (.int .i64 0), 1, 8) := by kernel_rfl
section
variable {w w' : World} {v : Value} {l m : List Int}
/-- several more -/
theorem inC_append (ho : w.ownsS 3 1 v l.length (inC l)) (po : Option Addr) (c : Nat) (m : List Int) (hsrc : 0 < m.length → ∃ ad, po = some ad ∧ ∀ j u, (inC m)[j]? = some u → w.cell? (ad.add j) = some u) (hlen : l.length + m.length ≤ 17592186044416) :
    ∃ v' w', (Builtin.append_ #[43, 43] 43 #[v, .slice po m.length c]).run Try.prog w = .ok v' w' ∧ w'.ownsS 3 1 v' (l ++ m).length (inC (l ++ m)) ∧ Kp (fun q => v.ownBlock = some q) w w' ∧ ∀ g, v'.ownBlock = some g → v.ownBlock = some g ∨ w.heap.size ≤ g := by
  obtain ⟨i0, hi, hz0, hz1, hz2⟩ := info_parts Try.infoinC
  obtain ⟨v', w', e1, e2, e3, e4⟩ := run_append_s (P := Try.prog) w 43 43 3 i0 _ 1 8 Try.underlying43 hi hz0 hz1 hz2 rfl v l.length (inC l) ho po m.length c (inC m) (inC_len m) hsrc (inC_one m) (by unfold maxLen; omega) (by omega)
  refine ⟨v', w', e1, ?_, ((Kp.refl (fun q => v.ownBlock = some q) w).grown e3 (fun q hq => .inl hq)), e4⟩
  rw [List.length_append, inC_app]
  exact e2
/-- one more -/
theorem inC_push (ho : w.ownsS 3 1 v l.length (inC l)) (p : Int) {g : Nat} (hg : w.heap[g]? = some (.cells #[.int .i64 p] 3 (0, 0))) (hlen : l.length + 1 ≤ 17592186044416) :
    ∃ v' w', (Builtin.append_ #[43, 43] 43 #[v, .slice (some ⟨g, 0, none⟩) 1 1]).run Try.prog w = .ok v' w' ∧ w'.ownsS 3 1 v' (l ++ [p]).length (inC (l ++ [p])) ∧ Kp (fun q => v.ownBlock = some q) w w' ∧ ∀ g, v'.ownBlock = some g → v.ownBlock = some g ∨ w.heap.size ≤ g := by
  refine inC_append ho (some ⟨g, 0, none⟩) 1 [p] (fun _ => ⟨⟨g, 0, none⟩, rfl, fun j u hj => ?_⟩) hlen
  have hadd : (⟨g, 0, none⟩ : Addr).add j = ⟨g, j, none⟩ := by rw [Go.WideShapes.add_plain, Nat.zero_add]
  rw [hadd, cell_of_row w g j _ _ _ hg, ← hj]
  simp [inC]
theorem inC_cell (ho : w.ownsS 3 1 v l.length (inC l)) {i j : Nat} {p : Int} {u : Value} (hi : l[i]? = some p) (hu : ([.int .i64 p] : List Value)[j]? = some u) : ∃ g cap, v = .slice (some ⟨g, 0, none⟩) l.length cap ∧ l.length ≤ cap ∧ cap ≤ 9223372036854775807 ∧ w.cell? ⟨g, i * 1 + j, none⟩ = some u :=
  ownsS_get ho _ _ (inC_get l i j p u hi hu)
/-- one is cut out -/
theorem inC_cut {n cap i g : Nat} (ho : w.ownsS 3 1 (.slice (some ⟨g, 0, none⟩) n cap) l.length (inC l)) (hn : l.length = n) (hi : i < n) (hlen : n ≤ 17592186044416) :
    ∃ v' w', (Builtin.append_ #[43, 43] 43 #[.slice (some ⟨g, 0, none⟩) i i, .slice (if cap = i + 1 then some ⟨g, 0, none⟩ else some ⟨g, (i + 1) * 1, none⟩) (n - (i + 1)) (cap - (i + 1))]).run Try.prog w = .ok v' w' ∧
      w'.ownsS 3 1 v' (l.take i ++ l.drop (i + 1)).length (inC (l.take i ++ l.drop (i + 1))) ∧ Kp (fun q => q = g) w w' ∧ ∀ q, v'.ownBlock = some q → q = g ∨ w.heap.size ≤ q := by
  subst hn
  have hil : (l.take i).length = i := by rw [List.length_take]; omega
  have hcap : l.length ≤ cap := by
    obtain ⟨po, c, e, h1, -⟩ := ownsS_form ho
    injection e with _ _ e
    omega
  have hoc : w.ownsS 3 1 (.slice (some ⟨g, 0, none⟩) i i) (l.take i).length (inC (l.take i)) := by
    rw [hil, ← inC_take]
    exact ownsS_cut ho (j := i) (by omega)
  obtain ⟨v', w', hr, h1, h2, h3⟩ := inC_append hoc (if cap = i + 1 then some ⟨g, 0, none⟩ else some ⟨g, (i + 1) * 1, none⟩) (cap - (i + 1)) (l.drop (i + 1)) (fun hp => by
    rw [List.length_drop] at hp
    rw [if_neg (by omega)]
    refine ⟨_, rfl, fun j u hu => ?_⟩
    rw [← inC_drop, List.getElem?_drop] at hu
    obtain ⟨g', cap', e, -, -, hc⟩ := ownsS_get ho _ _ hu
    injection e with e
    injection e with e
    injection e with e
    rw [Go.WideShapes.add_plain, e]
    exact hc) (by rw [List.length_take, List.length_drop]; omega)
  rw [List.length_drop] at hr
  exact ⟨v', w', hr, h1, h2.mono fun q _ e => (Option.some.inj (show some g = some q from e)).symm, fun q hq => (h3 q hq).imp (fun e => (Option.some.inj (show some g = some q from e)).symm) id⟩
end

def boC (l : List Bool) : List Value := l.flatMap fun p => [.bool p]
theorem boC_len (l : List Bool) : (boC l).length = l.length * 1 := by
  induction l with
  | nil => rfl
  | cons a l ih => simp [boC] at ih ⊢; omega
theorem boC_app (l m : List Bool) : boC (l ++ m) = boC l ++ boC m := by simp [boC]
theorem boC_one (l : List Bool) : ∀ u ∈ boC l, u.oneCell' = true := by
  intro u hu
  unfold boC at hu
  obtain ⟨t, _, ht⟩ := List.mem_flatMap.1 hu
  simp at ht
  subst ht; rfl
theorem boC_get : ∀ (l : List Bool) (i j : Nat) (p : Bool) (u : Value), l[i]? = some p → ([.bool p] : List Value)[j]? = some u → (boC l)[i * 1 + j]? = some u
  | [], i, j, p, u, h, hu => by simp at h
  | a :: l, 0, j, p, u, h, hu => by
    obtain rfl : a = p := by simpa using h
    rw [Nat.zero_mul, Nat.zero_add]
    show (([.bool a] : List Value) ++ boC l)[j]? = some u
    rw [List.getElem?_append_left (List.getElem?_eq_some_iff.1 hu).1]
    exact hu
  | a :: l, i + 1, j, p, u, h, hu => by
    have h1 := boC_get l i j p u (by simpa using h) hu
    show (([.bool a] : List Value) ++ boC l)[(i + 1) * 1 + j]? = some u
    rw [List.getElem?_append_right (by simp; omega)]
    rw [← h1]
    congr 1
    simp
theorem boC_take (l : List Bool) (j : Nat) : (boC l).take (j * 1) = boC (l.take j) := by
  rcases Nat.lt_or_ge l.length j with h | h
  · rw [List.take_of_length_le (by rw [boC_len]; omega), List.take_of_length_le (by omega)]
  · have h1 : boC l = boC (l.take j) ++ boC (l.drop j) := by rw [← boC_app, List.take_append_drop]
    have h2 : (boC (l.take j)).length = j * 1 := by rw [boC_len, List.length_take]; omega
    rw [h1]
    exact List.take_left' h2
theorem boC_drop (l : List Bool) (j : Nat) : (boC l).drop (j * 1) = boC (l.drop j) := by
  rcases Nat.lt_or_ge l.length j with h | h
  · rw [List.drop_eq_nil_of_le (by rw [boC_len]; omega), List.drop_eq_nil_of_le (by omega)]
    rfl
  · have h1 : boC l = boC (l.take j) ++ boC (l.drop j) := by rw [← boC_app, List.take_append_drop]
    have h2 : (boC (l.take j)).length = j * 1 := by rw [boC_len, List.length_take]; omega
    rw [h1]
    exact List.drop_left' h2
theorem Try.infoboC : (Try.prog.info? 4).map (fun i => (i.zero, i.size, i.bytes)) = some (some (.bool false), 1, 1) := by kernel_rfl
section
variable {w w' : World} {v : Value} {l m : List Bool}
/-- several more -/
theorem boC_append (ho : w.ownsS 4 1 v l.length (boC l)) (po : Option Addr) (c : Nat) (m : List Bool) (hsrc : 0 < m.length → ∃ ad, po = some ad ∧ ∀ j u, (boC m)[j]? = some u → w.cell? (ad.add j) = some u) (hlen : l.length + m.length ≤ 140737488355328) :
    ∃ v' w', (Builtin.append_ #[46, 46] 46 #[v, .slice po m.length c]).run Try.prog w = .ok v' w' ∧ w'.ownsS 4 1 v' (l ++ m).length (boC (l ++ m)) ∧ Kp (fun q => v.ownBlock = some q) w w' ∧ ∀ g, v'.ownBlock = some g → v.ownBlock = some g ∨ w.heap.size ≤ g := by
  obtain ⟨i0, hi, hz0, hz1, hz2⟩ := info_parts Try.infoboC
  obtain ⟨v', w', e1, e2, e3, e4⟩ := run_append_s (P := Try.prog) w 46 46 4 i0 _ 1 1 Try.underlying46 hi hz0 hz1 hz2 rfl v l.length (boC l) ho po m.length c (boC m) (boC_len m) hsrc (boC_one m) (by unfold maxLen; omega) (by omega)
  refine ⟨v', w', e1, ?_, ((Kp.refl (fun q => v.ownBlock = some q) w).grown e3 (fun q hq => .inl hq)), e4⟩
  rw [List.length_append, boC_app]
  exact e2
/-- one more -/
theorem boC_push (ho : w.ownsS 4 1 v l.length (boC l)) (p : Bool) {g : Nat} (hg : w.heap[g]? = some (.cells #[.bool p] 4 (0, 0))) (hlen : l.length + 1 ≤ 140737488355328) :
    ∃ v' w', (Builtin.append_ #[46, 46] 46 #[v, .slice (some ⟨g, 0, none⟩) 1 1]).run Try.prog w = .ok v' w' ∧ w'.ownsS 4 1 v' (l ++ [p]).length (boC (l ++ [p])) ∧ Kp (fun q => v.ownBlock = some q) w w' ∧ ∀ g, v'.ownBlock = some g → v.ownBlock = some g ∨ w.heap.size ≤ g := by
  refine boC_append ho (some ⟨g, 0, none⟩) 1 [p] (fun _ => ⟨⟨g, 0, none⟩, rfl, fun j u hj => ?_⟩) hlen
  have hadd : (⟨g, 0, none⟩ : Addr).add j = ⟨g, j, none⟩ := by rw [Go.WideShapes.add_plain, Nat.zero_add]
  rw [hadd, cell_of_row w g j _ _ _ hg, ← hj]
  simp [boC]
theorem boC_cell (ho : w.ownsS 4 1 v l.length (boC l)) {i j : Nat} {p : Bool} {u : Value} (hi : l[i]? = some p) (hu : ([.bool p] : List Value)[j]? = some u) : ∃ g cap, v = .slice (some ⟨g, 0, none⟩) l.length cap ∧ l.length ≤ cap ∧ cap ≤ 9223372036854775807 ∧ w.cell? ⟨g, i * 1 + j, none⟩ = some u :=
  ownsS_get ho _ _ (boC_get l i j p u hi hu)
/-- one is cut out -/
theorem boC_cut {n cap i g : Nat} (ho : w.ownsS 4 1 (.slice (some ⟨g, 0, none⟩) n cap) l.length (boC l)) (hn : l.length = n) (hi : i < n) (hlen : n ≤ 140737488355328) :
    ∃ v' w', (Builtin.append_ #[46, 46] 46 #[.slice (some ⟨g, 0, none⟩) i i, .slice (if cap = i + 1 then some ⟨g, 0, none⟩ else some ⟨g, (i + 1) * 1, none⟩) (n - (i + 1)) (cap - (i + 1))]).run Try.prog w = .ok v' w' ∧
      w'.ownsS 4 1 v' (l.take i ++ l.drop (i + 1)).length (boC (l.take i ++ l.drop (i + 1))) ∧ Kp (fun q => q = g) w w' ∧ ∀ q, v'.ownBlock = some q → q = g ∨ w.heap.size ≤ q := by
  subst hn
  have hil : (l.take i).length = i := by rw [List.length_take]; omega
  have hcap : l.length ≤ cap := by
    obtain ⟨po, c, e, h1, -⟩ := ownsS_form ho
    injection e with _ _ e
    omega
  have hoc : w.ownsS 4 1 (.slice (some ⟨g, 0, none⟩) i i) (l.take i).length (boC (l.take i)) := by
    rw [hil, ← boC_take]
    exact ownsS_cut ho (j := i) (by omega)
  obtain ⟨v', w', hr, h1, h2, h3⟩ := boC_append hoc (if cap = i + 1 then some ⟨g, 0, none⟩ else some ⟨g, (i + 1) * 1, none⟩) (cap - (i + 1)) (l.drop (i + 1)) (fun hp => by
    rw [List.length_drop] at hp
    rw [if_neg (by omega)]
    refine ⟨_, rfl, fun j u hu => ?_⟩
    rw [← boC_drop, List.getElem?_drop] at hu
    obtain ⟨g', cap', e, -, -, hc⟩ := ownsS_get ho _ _ hu
    injection e with e
    injection e with e
    injection e with e
    rw [Go.WideShapes.add_plain, e]
    exact hc) (by rw [List.length_take, List.length_drop]; omega)
  rw [List.length_drop] at hr
  exact ⟨v', w', hr, h1, h2.mono fun q _ e => (Option.some.inj (show some g = some q from e)).symm, fun q hq => (h3 q hq).imp (fun e => (Option.some.inj (show some g = some q from e)).symm) id⟩
end
end Go.Proofs.Ytbdogiblndlimaa
