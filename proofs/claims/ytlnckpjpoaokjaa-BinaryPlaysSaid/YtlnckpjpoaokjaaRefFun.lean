/- The document's own heap of binaries: New, Used, find, Keep, Get, Part, Handles. -/
import Derived.Test.YtlnckpjpoaokjaaRefBin
namespace Go.Proofs.Ytlnckpjpoaokjaa
open Go.RowKit
section
variable {F : Nat → Prop} {w w3 : World} {b : Nat} {a : Bn} {ss fs : Value} {ps : List (Value × Value × Value)} {N : Nat}

set_option maxHeartbeats 400000 in
theorem xnew_ok (m r : Nat) (h1 : 1 ≤ m) (h2 : m ≤ 4096) (h3 : r ≤ 1048576) (w : World) :
    Calls Try.prog 7 #[.int .i64 m, .int .i64 r] w fun e w' => e = .returned (.tuple #[.pointer (some ⟨w.heap.size, 0, none⟩), .pointer none]) ∧ Kp (fun _ => False) w w' ∧ XAt (fun q => q = w.heap.size) w' w.heap.size (aNew m r) := by
  go_enter Try.func7, Try.ntmps7
  go_wp2
  go_ret2
  refine ⟨rfl, (Kp.refl _ w).alloc _, .slice none 0 0, .slice none 0 0, [], ?_⟩
  exact ⟨rfl, fun k e => by subst e; simp, heap_alloc_new w _, World.ownsRow_nil _ _ _ _, World.ownsRow_nil _ _ _ _, fun g hg => by simp [Value.ownBlock] at hg, fun g hg => by simp [Value.ownBlock] at hg, fun i s hs => by simp [aNew] at hs⟩

def binsS : ByteArray := ⟨#[98, 105, 110, 97, 114, 105, 101, 115]⟩
/-- no heap of this size: N is what is wrong -/
def badNew (m r n : Int) : Prop := ((m < 1 ∨ 4096 < m) ∧ n = m) ∨ (1 ≤ m ∧ m ≤ 4096 ∧ (r < 0 ∨ 1048576 < r) ∧ n = r)

set_option maxHeartbeats 1000000 in
theorem xnew_bad (m r n : Int) (w : World) (h : badNew m r n) :
    Calls Try.prog 7 #[.int .i64 m, .int .i64 r] w (XBad w (fun v => .tuple #[.pointer none, v]) [Lk.fault binsS n, Lk.kind 1]) := by
  rcases h with ⟨h1, rfl⟩ | ⟨h1, h2, h3, rfl⟩
  · by_cases h : n < 1
    · clear h1
      go_enter Try.func7, Try.ntmps7
      go_wp2_with (first | (go_at_call 41; refine (k_any _ _).mono ?_; rintro e w1 ⟨rfl, rfl⟩) | (go_at_call 40; refine (f_any _ _ _ _).mono ?_; rintro e w1 ⟨rfl, rfl⟩))
      go_ret2
      exact xbad1 w (fun v => .tuple #[.pointer none, v]) _ n 1 0
    · have h' : 4096 < n := by omega
      clear h1
      go_enter Try.func7, Try.ntmps7
      go_wp2_with (first | (go_at_call 41; refine (k_any _ _).mono ?_; rintro e w1 ⟨rfl, rfl⟩) | (go_at_call 40; refine (f_any _ _ _ _).mono ?_; rintro e w1 ⟨rfl, rfl⟩))
      go_ret2
      exact xbad1 w (fun v => .tuple #[.pointer none, v]) _ n 1 0
  · by_cases h : n < 0
    · clear h3
      go_enter Try.func7, Try.ntmps7
      go_wp2_with (first | (go_at_call 41; refine (k_any _ _).mono ?_; rintro e w1 ⟨rfl, rfl⟩) | (go_at_call 40; refine (f_any _ _ _ _).mono ?_; rintro e w1 ⟨rfl, rfl⟩))
      go_ret2
      exact xbad1 w (fun v => .tuple #[.pointer none, v]) _ n 1 0
    · have h' : 1048576 < n := by omega
      clear h3
      go_enter Try.func7, Try.ntmps7
      go_wp2_with (first | (go_at_call 41; refine (k_any _ _).mono ?_; rintro e w1 ⟨rfl, rfl⟩) | (go_at_call 40; refine (f_any _ _ _ _).mono ?_; rintro e w1 ⟨rfl, rfl⟩))
      go_ret2
      exact xbad1 w (fun v => .tuple #[.pointer none, v]) _ n 1 0

set_option maxHeartbeats 1000000 in
theorem new_bad (m r n : Int) (w : World) (h : badNew m r n) :
    Calls Try.prog 6 #[.int .i64 m, .int .i64 r] w (EBad w (fun v => .tuple #[.pointer none, v]) [Lk.fault binsS n, Lk.kind 1]) := by
  rcases h with ⟨h1, rfl⟩ | ⟨h1, h2, h3, rfl⟩
  · by_cases h : n < 1
    · clear h1
      go_enter Try.func6, Try.ntmps6
      go_wp2_with (go_at_call 39; refine (at_any _ _ _ _ _).mono ?_; rintro e w' ⟨rfl, rfl⟩)
      go_ret2
      exact ebad1 w (fun v => .tuple #[.pointer none, v]) _ _ _ (by decide) 0
    · have h' : 4096 < n := by omega
      clear h1
      go_enter Try.func6, Try.ntmps6
      go_wp2_with (go_at_call 39; refine (at_any _ _ _ _ _).mono ?_; rintro e w' ⟨rfl, rfl⟩)
      go_ret2
      exact ebad1 w (fun v => .tuple #[.pointer none, v]) _ _ _ (by decide) 0
  · by_cases h : n < 0
    · clear h3
      go_enter Try.func6, Try.ntmps6
      go_wp2_with (go_at_call 39; refine (at_any _ _ _ _ _).mono ?_; rintro e w' ⟨rfl, rfl⟩)
      go_ret2
      exact ebad1 w (fun v => .tuple #[.pointer none, v]) _ _ _ (by decide) 0
    · have h' : 1048576 < n := by omega
      clear h3
      go_enter Try.func6, Try.ntmps6
      go_wp2_with (go_at_call 39; refine (at_any _ _ _ _ _).mono ?_; rintro e w' ⟨rfl, rfl⟩)
      go_ret2
      exact ebad1 w (fun v => .tuple #[.pointer none, v]) _ _ _ (by decide) 0

theorem sumL_take {l : List Sl} {k : Nat} {s : Sl} (hs : l[k]? = some s) : sumL (l.take (k + 1)) = sumL (l.take k) + s.bs.length := by
  rw [List.take_add_one, hs]
  exact sumL_snoc _ _
theorem sumL_take_le (l : List Sl) (k : Nat) : sumL (l.take k) ≤ sumL l := by
  have : sumL l = sumL (l.take k) + sumL (l.drop k) := by
    unfold sumL
    rw [← List.sum_append, ← List.map_append, List.take_append_drop]
  omega

set_option maxHeartbeats 400000 in
theorem xused_any (h : XRep F w b a ss fs ps) (hI : BInv N a) :
    Calls Try.prog 24 #[.pointer (some ⟨b, 0, none⟩)] w fun e w' => e = .returned (.int .i64 a.used) ∧ w = w' := by
  obtain ⟨_, _, c2, _, _⟩ := h.cells
  obtain ⟨pS, capS, hS⟩ := slice_form h.rs
  have hm := hI.most
  have hl := hI.len
  obtain ⟨L, hLe, hL1⟩ : ∃ L, a.slots.length = L ∧ L ≤ 4096 := ⟨_, rfl, by omega⟩
  rw [hS, hLe] at c2
  have H := Lib.hid (And.intro h (And.intro hI hLe))
  clear h hI hLe hS hm hl
  go_enter Try.func24, Try.ntmps24
  go_wp2_with fail
  go_loopg [3, 4] L (fun gk u i wr => ∃ (k : Nat), k ≤ L ∧ gk = L - k ∧ i = Value.int .i64 k ∧ u = Value.int .i64 (sumL (a.slots.take k) : Nat) ∧ w = wr)
  case atStart => exact ⟨0, by omega, rfl, rfl, rfl, rfl⟩
  case round =>
    obtain ⟨k, hk, rfl, rfl, rfl, rfl⟩ := hrel
    by_cases hlt : k < L
    · obtain ⟨s, hs⟩ : ∃ s, a.slots[k]? = some s := ⟨_, List.getElem?_eq_getElem (by have := H.out.2.2; omega)⟩
      obtain ⟨g, cap, v, hv, _, hby, d0, d1, d2, _, _, _⟩ := H.out.1.slot hs
      have hsum := sumL_take hs
      have hle := sumL_take_le a.slots (k + 1)
      have h1 := H.out.2.1.sum
      have h2 := H.out.2.1.le
      have h3 := H.out.2.1.room
      obtain ⟨u, hu⟩ : ∃ u, sumL (a.slots.take k) = u := ⟨_, rfl⟩
      obtain ⟨p, c, hvv⟩ := hby.form' (m := s.bs.length) rfl
      obtain ⟨q, hq⟩ : ∃ q, s.bs.length = q := ⟨_, rfl⟩
      rw [hvv, hq] at d2
      rw [hu, hq] at hsum
      rw [hu]
      have hb : u + q ≤ 1048576 := by omega
      have c2' : w.cell? ⟨b, 2, none⟩ = some (.slice (some ⟨g, 0, none⟩) L cap) := by
        obtain ⟨_, _, c2', _, _⟩ := H.out.1.cells
        rw [c2', hv, H.out.2.2]
      have hli : (k : Int) < L := by omega
      have Hs := Lib.hid hsum
      clear c2 hs hv hby d0 d1 hsum hle h1 h2 h3 hu hvv hq
      go_wp2_with fail
      go_roundg (L - (k + 1))
      case measure => omega
      case rel => exact ⟨k + 1, by omega, rfl, by go_num, by rw [Hs.out]; rfl, rfl⟩
    · obtain rfl : L = k := by omega
      go_wp2_with fail
      go_ret
      exact ⟨ret_int (by rw [List.take_of_length_le (by have := H.out.2.2; omega), H.out.2.1.sum]), rfl⟩

set_option maxHeartbeats 1000000 in
theorem xfind_ok (h : XRep F w b a ss fs ps) (hL : a.slots.length ≤ 4096) {n : Int} {i : Nat} {s : Sl} (hf : FOk a n i s) (hnM : n ≤ 9223372036854775807) (hg : s.gen ≤ 1000000000000000) :
    Calls Try.prog 49 #[.pointer (some ⟨b, 0, none⟩), .int .i64 n] w fun e w' => e = .returned (.tuple #[.int .i64 i, .int .i64 0]) ∧ Kp (fun _ => False) w w' := by
  obtain ⟨_, _, c2, _, _⟩ := h.cells
  obtain ⟨g, cap, v, hv, _, hby, d0, d1, d2, _, _, _⟩ := h.slot hf.slot
  obtain ⟨p, c, rfl⟩ := hby.form' (m := s.bs.length) rfl
  have hil := (List.getElem?_eq_some_iff.1 hf.slot).1
  obtain ⟨L, hLe, hL1, hL2⟩ : ∃ L, a.slots.length = L ∧ L ≤ 4096 ∧ i < L := ⟨_, rfl, hL, hil⟩
  obtain ⟨q, hq, hq2⟩ : ∃ q, s.gen = q ∧ q ≤ 1000000000000000 := ⟨_, rfl, hg⟩
  obtain ⟨k, hk, hk2⟩ : ∃ k, s.count = k ∧ 0 < k := ⟨_, rfl, hf.held⟩
  have hgiv : s.given = q + 1 := by unfold Sl.given; rw [if_neg (by omega), hq]
  rw [hv, hLe] at c2
  rw [hgiv] at d0
  rw [hk] at d1
  have d0' : w.cell? ⟨g, i * 3, none⟩ = some (.int .i64 ((q : Int) + 1)) := d0
  have e1 := hf.at'
  have e2 := hf.gen
  have hn := hf.lo
  rw [hq] at e2
  have hk3 : ((k : Int) == 0) = false := by simp; omega
  clear hL hil hLe h hq hk hf hby hgiv d0 hg hv
  go_enter Try.func49, Try.ntmps49
  go_wp2
  go_ret2
  exact ⟨rfl, (Kp.refl _ w).alloc _⟩
end
end Go.Proofs.Ytlnckpjpoaokjaa
