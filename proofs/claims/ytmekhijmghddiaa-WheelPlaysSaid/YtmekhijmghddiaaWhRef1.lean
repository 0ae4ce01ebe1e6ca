/- The document's own wheel: how it lies in memory; New, find, Get, low. -/
import Derived.Test.YtmekhijmghddiaaWideS
import Derived.Test.YtmekhijmghddiaaWhAwake
import Derived.Test.YtmekhijmghddiaaEBad
namespace Go.Proofs.Ytmekhijmghddiaa
open Go.RowKit

def qcells (ts : List Tm) : List Value := ts.flatMap fun t => [.int .i64 (t.id : Nat), .int .i64 (t.due : Nat), .int .i64 t.wht]
theorem qcells_len (ts : List Tm) : (qcells ts).length = ts.length * 3 := by
  induction ts with
  | nil => rfl
  | cons a l ih => simp [qcells] at ih ⊢; omega
theorem qcells_app (l m : List Tm) : qcells (l ++ m) = qcells l ++ qcells m := by simp [qcells]
theorem qcells_one (ts : List Tm) : ∀ u ∈ qcells ts, u.oneCell' = true := by
  intro u hu
  unfold qcells at hu
  obtain ⟨t, _, ht⟩ := List.mem_flatMap.1 hu
  simp at ht
  rcases ht with rfl | rfl | rfl <;> rfl
theorem qcells_get : ∀ (ts : List Tm) (i : Nat) (t : Tm), ts[i]? = some t → (qcells ts)[i * 3]? = some (.int .i64 (t.id : Nat)) ∧ (qcells ts)[i * 3 + 1]? = some (.int .i64 (t.due : Nat)) ∧ (qcells ts)[i * 3 + 2]? = some (.int .i64 t.wht)
  | [], i, t, h => by simp at h
  | a :: l, 0, t, h => by
    obtain rfl : a = t := by simpa using h
    exact ⟨rfl, rfl, rfl⟩
  | a :: l, i + 1, t, h => by
    have h1 := qcells_get l i t (by simpa using h)
    have e : ∀ k, (qcells (a :: l))[(i + 1) * 3 + k]? = (qcells l)[i * 3 + k]? := by
      intro k
      show ([Value.int .i64 (a.id : Nat), .int .i64 (a.due : Nat), .int .i64 a.wht] ++ qcells l)[(i + 1) * 3 + k]? = _
      rw [List.getElem?_append_right (by simp; omega)]
      congr 1
      simp
      omega
    have e0 := e 0
    simp only [Nat.add_zero] at e0
    rw [e0, e 1, e 2]
    exact h1
theorem qcells_take (ts : List Tm) (j : Nat) : (qcells ts).take (j * 3) = qcells (ts.take j) := by
  rcases Nat.lt_or_ge ts.length j with h | h
  · rw [List.take_of_length_le (by rw [qcells_len]; omega), List.take_of_length_le (by omega)]
  · have h1 : qcells ts = qcells (ts.take j) ++ qcells (ts.drop j) := by rw [← qcells_app, List.take_append_drop]
    rw [h1, List.take_append_of_le_length (by rw [qcells_len, List.length_take]; omega), List.take_of_length_le (by rw [qcells_len, List.length_take]; omega)]

/-- the document's wheel at block b, in the blocks G -/
def RW (w : World) (G : Nat → Prop) (b most now fresh : Nat) (ts : List Tm) : Prop :=
  ∃ v, w.heap[b]? = some (.cells #[.int .i64 (most : Nat), .int .i64 (now : Nat), .int .i64 (fresh : Nat), v] 51 (0, 0)) ∧ w.ownsS 46 3 v ts.length (qcells ts) ∧ G b ∧ (∀ g, v.ownBlock = some g → G g) ∧ ∀ q, G q → q < w.heap.size

section
variable {F G H : Nat → Prop} {w w' : World} {b most now fresh : Nat} {ts : List Tm} {id : Int} {t : Tm}
theorem RW.kp (h : RW w G b most now fresh ts) (hk : Kp H w w') (hd : ∀ q, G q → ¬ H q) : RW w' G b most now fresh ts := by
  obtain ⟨v, h1, h2, h3, h4, h5⟩ := h
  exact ⟨v, (hk.block b (h5 b h3) (hd b h3)).trans h1, hk.rowS h2 (fun g hg => hd g (h4 g hg)), h3, h4, fun q hq => Nat.lt_of_lt_of_le (h5 q hq) hk.size⟩
theorem RW.same (h : RW w G b most now fresh ts) (hk : Kp (fun _ => False) w w') : RW w' G b most now fresh ts := h.kp hk (fun _ _ e => e)
theorem RW.lt (h : RW w G b most now fresh ts) : ∀ q, G q → q < w.heap.size := by obtain ⟨v, h1, h2, h3, h4, h5⟩ := h; exact h5
theorem rw_facts {v : Value} (h : w.heap[b]? = some (.cells #[.int .i64 (most : Nat), .int .i64 (now : Nat), .int .i64 (fresh : Nat), v] 51 (0, 0))) :
    w.cell? ⟨b, 0, none⟩ = some (.int .i64 (most : Nat)) ∧ w.cell? ⟨b, 1, none⟩ = some (.int .i64 (now : Nat)) ∧ w.cell? ⟨b, 2, none⟩ = some (.int .i64 (fresh : Nat)) ∧ w.cell? ⟨b, 3, none⟩ = some v ∧ (∀ o, w.frozen? ⟨b, o, none⟩ = false) := by
  refine ⟨?_, ?_, ?_, ?_, fun o => by simp [World.frozen?, h]⟩ <;> (rw [cell_of_row w b _ _ _ _ h]; rfl)
theorem rw_ne {v : Value} {n : Nat} {xs : List Value} {s : Nat} (h : w.heap[b]? = some (.cells #[.int .i64 (most : Nat), .int .i64 (now : Nat), .int .i64 (fresh : Nat), v] 51 (0, 0))) {u : Value} (ho : w.ownsS 46 s u n xs) : u.ownBlock ≠ some b := by
  intro e
  rcases ho.2 with ⟨rfl, _⟩ | ⟨g, cap, cur, rfl, hg, _⟩
  · cases e
  · injection e with e
    subst e
    rw [h] at hg
    injection hg with hg
    injection hg with _ hg
    exact absurd hg (by decide)

theorem f13_any (op : ByteArray) (n : Int) (po : Option Addr) (w : World) :
    Calls Try.prog 28 #[.string op, .int .i64 n, .pointer po] w fun e' w' => e' = .returned (.pointer (some ⟨w.heap.size, 0, none⟩)) ∧ w' = w.alloc (.cells #[.string op, .int .i64 n, .pointer po, .int .i64 0] 108) := by
  go_enter Try.func28, Try.ntmps28
  go_wp2_with fail
  go_ret
  exact ⟨rfl, rfl⟩
set_option maxHeartbeats 400000 in
theorem xnew_ok (m : Nat) (h1 : 1 ≤ m) (h2 : m ≤ 4096) (w : World) :
    Calls Try.prog 10 #[.int .i64 (m : Nat)] w fun e w' => e = .returned (.tuple #[.pointer (some ⟨w.heap.size, 0, none⟩), .pointer none]) ∧ Kp (fun _ => False) w w' ∧ RW w' (fun q => q = w.heap.size) w.heap.size m 0 0 [] := by
  have n1 : ¬ (m : Int) < 1 := by omega
  have n2 : ¬ 4096 < (m : Int) := by omega
  go_enter Try.func10, Try.ntmps10
  go_wp2
  go_ret2
  exact ⟨rfl, (Kp.refl _ w).alloc _, .slice none 0 0, heap_alloc_new w _, ownsS_nil _ _ _, rfl, (fun g hg => by cases hg), fun q hq => by rw [hq]; simp⟩
set_option maxHeartbeats 1000000 in
theorem xnew_bad (m : Int) (w : World) (h : m < 1 ∨ 4096 < m) :
    Calls Try.prog 10 #[.int .i64 m] w (XBad w (fun v => .tuple #[.pointer none, v]) [Lk.fault ⟨#[119, 104, 101, 101, 108]⟩ m, Lk.kind 1]) := by
  have HB := Lib.hid (xbad1 w (fun v => .tuple #[.pointer none, v]) ⟨#[119, 104, 101, 101, 108]⟩ m 1 0)
  rcases h with h | h
  · go_enter Try.func10, Try.ntmps10
    go_wp2_with (first | (go_at_call 29; refine (k_any _ _).mono ?_; rintro e w1 ⟨rfl, rfl⟩) | (go_at_call 28; refine (f13_any _ _ _ _).mono ?_; rintro e w1 ⟨rfl, rfl⟩))
    go_ret2
    exact HB.out
  · have h2 : ¬ m < 1 := by omega
    go_enter Try.func10, Try.ntmps10
    go_wp2_with (first | (go_at_call 29; refine (k_any _ _).mono ?_; rintro e w1 ⟨rfl, rfl⟩) | (go_at_call 28; refine (f13_any _ _ _ _).mono ?_; rintro e w1 ⟨rfl, rfl⟩))
    go_ret2
    exact HB.out
set_option maxHeartbeats 400000 in
theorem low_any (w : World) (id : Int) : Calls Try.prog 38 #[.int .i64 id] w fun e w' => e = .returned (.int .i64 (id % 2147483648)) ∧ w = w' := by
  have h1 : IntKind.u64.wrap id = id % 18446744073709551616 := by rw [IntKind.wrap_u64]
  obtain ⟨U, hU⟩ : ∃ U, id % 18446744073709551616 = U := ⟨_, rfl⟩
  rw [hU] at h1
  have hU0 : 0 ≤ U := by omega
  have hUm : U ≤ 18446744073709551615 := by omega
  obtain ⟨R, hR⟩ : ∃ R, id % 2147483648 = R := ⟨_, rfl⟩
  have h2 : U % 2147483648 = R := by omega
  have h3 : U.tmod 2147483648 = R := by rw [Int.tmod_eq_emod_of_nonneg hU0]; exact h2
  have h4 : IntKind.i64.wrap R = R := IntWalk.i64_in _ (by omega)
  have hR0 : 0 ≤ R := by omega
  have hR1 : R < 2147483648 := by omega
  rw [hR]
  clear hU hR hUm
  go_enter Try.func38, Try.ntmps38
  go_wp2_with fail
  go_ret
  exact ⟨by first | rfl | (rw [h2]) | (rw [h3]), rfl⟩
end
end Go.Proofs.Ytmekhijmghddiaa
