/- What the arena's methods find, Get, Set, Len, Used and Top do. -/
import Derived.Test.YthilajdjkglkkaaFree
namespace Go.Proofs.Ythilajdjkglkkaa
open Go.RowKit

/-- block q + 1 is taken for n words -/
def Ar.block (A : Ar) (q n : Nat) : Prop := A.taken[q]? = some true ∧ A.places[q]? = some (n : Int) ∧ n ≤ 1048576

theorem holds_block {A : Ar} {q n : Nat} (h : A.block q n) : A.holds ((q : Int) + 1) = true := by
  have hqt : q < A.taken.length := (List.getElem?_eq_some_iff.1 h.1).1
  unfold Ar.holds
  rw [if_pos (by omega)]
  simp [List.getD_eq_getElem?_getD, h.1]

set_option maxHeartbeats 400000 in
theorem find_ok {w : World} {F : Nat → Prop} {b : Nat} {A : Ar} (h : Rep w F b A) (ht : A.taken.length ≤ 1048576) (hp : A.places.length ≤ 1048576) (q n i : Nat) (hb : A.block q n) (hi : i < n) :
    Calls Try.prog 27 #[.pointer (some ⟨b, 0, none⟩), .int .i64 (q + 1), .int .i64 i] w fun e w' => e = .returned (.tuple #[.int .i64 (q + 1 + i), .nilIface]) ∧ w = w' := by
  have Hh := Lib.hid (holds_block hb)
  have hqt : q < A.places.length := (List.getElem?_eq_some_iff.1 hb.2.1).1
  have hn := hb.2.2
  have Hb := Lib.hid hb
  clear hb
  go_enter Try.func27, Try.ntmps27
  go_wp2_with (first | (go_at_call 28; refine (holds_any h ht _).mono ?_; rintro e w' ⟨rfl, rfl⟩; rw [Hh.out]) | (go_at_call 29; refine (words_any h hp q n Hb.out.2.1 (by omega) (by omega)).mono ?_; rintro e w' ⟨rfl, rfl⟩))
  go_ret2
  exact ⟨rfl, rfl⟩

set_option maxHeartbeats 400000 in
theorem find_none {w : World} {F : Nat → Prop} {b : Nat} {A : Ar} (h : Rep w F b A) (ht : A.taken.length ≤ 1048576) (p i : Int) (hh : A.holds p = false) :
    Calls Try.prog 27 #[.pointer (some ⟨b, 0, none⟩), .int .i64 p, .int .i64 i] w fun e w' => e = .returned (.tuple #[.int .i64 0, .iface 47 (.int .i64 3)]) ∧ w = w' := by
  have Hh := Lib.hid hh
  clear hh
  go_enter Try.func27, Try.ntmps27
  go_wp2_with (first | (go_at_call 28; refine (holds_any h ht _).mono ?_; rintro e w' ⟨rfl, rfl⟩; rw [Hh.out]))
  go_ret2
  exact ⟨rfl, rfl⟩

set_option maxHeartbeats 400000 in
theorem find_index {w : World} {F : Nat → Prop} {b : Nat} {A : Ar} (h : Rep w F b A) (ht : A.taken.length ≤ 1048576) (hp : A.places.length ≤ 1048576) (q n : Nat) (i : Int) (hb : A.block q n) (hi : i < 0 ∨ (n : Int) ≤ i) :
    Calls Try.prog 27 #[.pointer (some ⟨b, 0, none⟩), .int .i64 (q + 1), .int .i64 i] w fun e w' => e = .returned (.tuple #[.int .i64 0, .iface 46 (.pointer (some ⟨w.heap.size, 0, none⟩))]) ∧
      w' = w.alloc (.cells #[.string ⟨#[105, 110, 100, 101, 120]⟩, .int .i64 i, .iface 47 (.int .i64 12)] 49) := by
  have Hh := Lib.hid (holds_block hb)
  have hqt : q < A.places.length := (List.getElem?_eq_some_iff.1 hb.2.1).1
  have hn := hb.2.2
  have Hb := Lib.hid hb
  clear hb
  rcases hi with hi | hi
  · go_enter Try.func27, Try.ntmps27
    go_wp2_with (first | (go_at_call 28; refine (holds_any h ht _).mono ?_; rintro e w' ⟨rfl, rfl⟩; rw [Hh.out]) | (go_at_call 29; refine (words_any h hp q n Hb.out.2.1 (by omega) (by omega)).mono ?_; rintro e w' ⟨rfl, rfl⟩) | (go_at_call 24; refine (at_any _ _ _ _ _).mono ?_; rintro e w' ⟨rfl, rfl⟩))
    go_ret2
    exact ⟨rfl, rfl⟩
  · have hi0 : ¬ i < 0 := by omega
    go_enter Try.func27, Try.ntmps27
    go_wp2_with (first | (go_at_call 28; refine (holds_any h ht _).mono ?_; rintro e w' ⟨rfl, rfl⟩; rw [Hh.out]) | (go_at_call 29; refine (words_any h hp q n Hb.out.2.1 (by omega) (by omega)).mono ?_; rintro e w' ⟨rfl, rfl⟩) | (go_at_call 24; refine (at_any _ _ _ _ _).mono ?_; rintro e w' ⟨rfl, rfl⟩))
    go_ret2
    exact ⟨rfl, rfl⟩

/-- it ended in a Fault around a Fault, and nothing has turned -/
def EndsBad2 (F : Nat → Prop) (w : World) (b : Nat) (A : Ar) (mk : Value → Value) (op : ByteArray) (n : Int) (op1 : ByteArray) (n1 : Int) (inner : Value) (e : Ending) (w' : World) : Prop :=
  ∃ v v1, e = .returned (mk v) ∧ Faulty w.heap.size op n v1 v w' ∧ Faulty w.heap.size op1 n1 inner v1 w' ∧ Rep w' F b A ∧ Kp F w w' ∧ Kp (fun _ => False) w w'

theorem endsBad2 {F : Nat → Prop} {w : World} {b : Nat} {A : Ar} {mk : Value → Value} {op op1 : ByteArray} {n n1 : Int} {inner : Value} (h : Rep w F b A) :
    EndsBad2 F w b A mk op n op1 n1 inner (.returned (mk (.iface 46 (.pointer (some ⟨w.heap.size + 1, 0, none⟩)))))
      ((w.alloc (.cells #[.string op1, .int .i64 n1, inner] 49)).alloc (.cells #[.string op, .int .i64 n, .iface 46 (.pointer (some ⟨w.heap.size, 0, none⟩))] 49)) := by
  have hk : Kp (fun _ => False) w ((w.alloc (.cells #[.string op1, .int .i64 n1, inner] 49)).alloc (.cells #[.string op, .int .i64 n, .iface 46 (.pointer (some ⟨w.heap.size, 0, none⟩))] 49)) := ((Kp.refl _ w).alloc _).alloc _
  refine ⟨_, .iface 46 (.pointer (some ⟨w.heap.size, 0, none⟩)), rfl, ⟨w.heap.size + 1, by omega, rfl, ?_⟩, ⟨w.heap.size, Nat.le_refl _, rfl, ?_⟩, h.kp hk, hk.mono (fun _ _ e => e.elim), hk⟩
  · have := heap_alloc_new (w.alloc (.cells #[.string op1, .int .i64 n1, inner] 49)) (.cells #[.string op, .int .i64 n, .iface 46 (.pointer (some ⟨w.heap.size, 0, none⟩))] 49)
    rw [World.size_alloc] at this
    exact this
  · rw [Below.heap_alloc _ _ _ (by simp)]
    exact heap_alloc_new _ _

set_option maxHeartbeats 400000 in
theorem get_ok {w : World} {F : Nat → Prop} {b : Nat} {A : Ar} (h : Rep w F b A) (ht : A.taken.length ≤ 1048576) (hp : A.places.length ≤ 1048576) (q n i : Nat) (x : Int) (hb : A.block q n) (hi : i < n) (hx : A.places[q + 1 + i]? = some x) :
    Calls Try.prog 12 #[.pointer (some ⟨b, 0, none⟩), .int .i64 (q + 1), .int .i64 i] w fun e w' => e = .returned (.tuple #[.int .u64 x, .nilIface]) ∧ w = w' := by
  obtain ⟨g, cap, h3, hc⟩ := words_cells h (q + 1 + i) x hx
  have hlt : (q : Int) + 1 + i < A.places.length := by have := (List.getElem?_eq_some_iff.1 hx).1; omega
  have Hb := Lib.hid hb
  clear hb hx
  go_enter Try.func12, Try.ntmps12
  go_wp2_with (first | (go_at_call 27; refine (find_ok h ht hp q n i Hb.out hi).mono ?_; rintro e w' ⟨rfl, rfl⟩))
  go_ret2
  exact ⟨rfl, rfl⟩

set_option maxHeartbeats 400000 in
theorem get_none {w : World} {F : Nat → Prop} {b : Nat} {A : Ar} (h : Rep w F b A) (ht : A.taken.length ≤ 1048576) (p i : Int) (hh : A.holds p = false) :
    Calls Try.prog 12 #[.pointer (some ⟨b, 0, none⟩), .int .i64 p, .int .i64 i] w (EndsBad F w b A (fun v => .tuple #[.int .u64 0, v]) ⟨#[103, 101, 116]⟩ p (.iface 47 (.int .i64 3))) := by
  have Hh := Lib.hid hh
  clear hh
  go_enter Try.func12, Try.ntmps12
  go_wp2_with (first | (go_at_call 27; refine (find_none h ht p i Hh.out).mono ?_; rintro e w' ⟨rfl, rfl⟩) | (go_at_call 24; refine (at_any _ _ _ _ _).mono ?_; rintro e w' ⟨rfl, rfl⟩))
  go_ret2
  exact endsBad h 0

set_option maxHeartbeats 400000 in
theorem get_index {w : World} {F : Nat → Prop} {b : Nat} {A : Ar} (h : Rep w F b A) (ht : A.taken.length ≤ 1048576) (hp : A.places.length ≤ 1048576) (q n : Nat) (i : Int) (hb : A.block q n) (hi : i < 0 ∨ (n : Int) ≤ i) :
    Calls Try.prog 12 #[.pointer (some ⟨b, 0, none⟩), .int .i64 (q + 1), .int .i64 i] w (EndsBad2 F w b A (fun v => .tuple #[.int .u64 0, v]) ⟨#[103, 101, 116]⟩ (q + 1) ⟨#[105, 110, 100, 101, 120]⟩ i (.iface 47 (.int .i64 12))) := by
  have Hb := Lib.hid hb
  clear hb
  go_enter Try.func12, Try.ntmps12
  go_wp2_with (first | (go_at_call 27; refine (find_index h ht hp q n i Hb.out hi).mono ?_; rintro e w' ⟨rfl, rfl⟩) | (go_at_call 24; refine (at_any _ _ _ _ _).mono ?_; rintro e w' ⟨rfl, rfl⟩))
  go_ret2
  exact endsBad2 h

def Ar.put (A : Ar) (j : Nat) (x : Int) : Ar := { A with places := A.places.set j x }

theorem put_rep {w : World} {F : Nat → Prop} {b : Nat} {A : Ar} (h : Rep w F b A) (j : Nat) (hj : j < A.places.length) :
    ∃ g cap v, w.cell? ⟨b, 3, none⟩ = some (.slice (some ⟨g, 0, none⟩) A.places.length cap) ∧ w.cell? ⟨g, j, none⟩ = some v ∧ w.frozen? ⟨g, j, none⟩ = false ∧
      ∀ x : Int, Rep (w.setCell ⟨g, j, none⟩ (.int .u64 x)) F b (A.put j x) ∧ Kp F w (w.setCell ⟨g, j, none⟩ (.int .u64 x)) := by
  obtain ⟨g, cap, h3, hc⟩ := words_cells h j A.places[j] (by simp [hj])
  obtain ⟨sl, hR⟩ := h
  have hce := hR.cell 0 (by omega)
  rw [show A.hd.length + 0 = 3 from rfl, h3] at hce
  have e3 : sl 0 = .slice (some ⟨g, 0, none⟩) A.places.length cap := (Option.some.inj hce).symm
  have ho := hR.own 0 (by omega)
  rw [show A.rows 0 = A.places.map (Value.int .u64) from rfl, List.length_map, e3] at ho
  refine ⟨g, cap, _, h3, hc, ho.frozenAt j, fun x => ?_⟩
  have hs := hR.store 0 (by omega) g _ cap e3 j (.int .u64 x)
  have erows : upd A.rows 0 ((A.rows 0).set j (.int .u64 x)) = (A.put j x).rows := by
    funext k
    unfold upd Ar.rows Ar.put
    by_cases h1 : k = 0
    · subst h1; simp
    · rw [if_neg h1, if_neg h1, if_neg h1]
  rw [erows] at hs
  exact ⟨⟨sl, hs.1⟩, hs.2⟩

set_option maxHeartbeats 400000 in
theorem set_ok {w : World} {F : Nat → Prop} {b : Nat} {A : Ar} (h : Rep w F b A) (ht : A.taken.length ≤ 1048576) (hp : A.places.length ≤ 1048576) (q n i : Nat) (x : Int) (hb : A.block q n) (hi : i < n) (hx : q + 1 + i < A.places.length) :
    Calls Try.prog 13 #[.pointer (some ⟨b, 0, none⟩), .int .i64 (q + 1), .int .i64 i, .int .u64 x] w fun e w' => e = .returned .nilIface ∧ Rep w' F b (A.put (q + 1 + i) x) ∧ Kp F w w' ∧ w'.heap.size = w.heap.size := by
  obtain ⟨g, cap, v, h3, hc, hf, hput⟩ := put_rep h (q + 1 + i) hx
  have hlt : (q : Int) + 1 + i < A.places.length := by omega
  have Hb := Lib.hid (And.intro hb (hput x))
  clear hb hput
  go_enter Try.func13, Try.ntmps13
  go_wp2_with (first | (go_at_call 27; refine (find_ok h ht hp q n i Hb.out.1 hi).mono ?_; rintro e w' ⟨rfl, rfl⟩))
  go_ret
  exact ⟨rfl, Hb.out.2.1, Hb.out.2.2, by simp [World.setCell]⟩

set_option maxHeartbeats 400000 in
theorem set_none {w : World} {F : Nat → Prop} {b : Nat} {A : Ar} (h : Rep w F b A) (ht : A.taken.length ≤ 1048576) (p i x : Int) (hh : A.holds p = false) :
    Calls Try.prog 13 #[.pointer (some ⟨b, 0, none⟩), .int .i64 p, .int .i64 i, .int .u64 x] w (EndsBad F w b A id ⟨#[115, 101, 116]⟩ p (.iface 47 (.int .i64 3))) := by
  have Hh := Lib.hid hh
  clear hh
  go_enter Try.func13, Try.ntmps13
  go_wp2_with (first | (go_at_call 27; refine (find_none h ht p i Hh.out).mono ?_; rintro e w' ⟨rfl, rfl⟩) | (go_at_call 24; refine (at_any _ _ _ _ _).mono ?_; rintro e w' ⟨rfl, rfl⟩))
  go_ret
  exact endsBad h 0

set_option maxHeartbeats 400000 in
theorem set_index {w : World} {F : Nat → Prop} {b : Nat} {A : Ar} (h : Rep w F b A) (ht : A.taken.length ≤ 1048576) (hp : A.places.length ≤ 1048576) (q n : Nat) (i x : Int) (hb : A.block q n) (hi : i < 0 ∨ (n : Int) ≤ i) :
    Calls Try.prog 13 #[.pointer (some ⟨b, 0, none⟩), .int .i64 (q + 1), .int .i64 i, .int .u64 x] w (EndsBad2 F w b A id ⟨#[115, 101, 116]⟩ (q + 1) ⟨#[105, 110, 100, 101, 120]⟩ i (.iface 47 (.int .i64 12))) := by
  have Hb := Lib.hid hb
  clear hb
  go_enter Try.func13, Try.ntmps13
  go_wp2_with (first | (go_at_call 27; refine (find_index h ht hp q n i Hb.out hi).mono ?_; rintro e w' ⟨rfl, rfl⟩) | (go_at_call 24; refine (at_any _ _ _ _ _).mono ?_; rintro e w' ⟨rfl, rfl⟩))
  go_ret
  exact endsBad2 h

set_option maxHeartbeats 400000 in
theorem len_ok {w : World} {F : Nat → Prop} {b : Nat} {A : Ar} (h : Rep w F b A) (ht : A.taken.length ≤ 1048576) (hp : A.places.length ≤ 1048576) (q n : Nat) (hb : A.block q n) :
    Calls Try.prog 19 #[.pointer (some ⟨b, 0, none⟩), .int .i64 (q + 1)] w fun e w' => e = .returned (.tuple #[.int .i64 n, .nilIface]) ∧ w = w' := by
  have Hh := Lib.hid (holds_block hb)
  have hn := hb.2.2
  have Hb := Lib.hid hb
  clear hb
  go_enter Try.func19, Try.ntmps19
  go_wp2_with (first | (go_at_call 28; refine (holds_any h ht _).mono ?_; rintro e w' ⟨rfl, rfl⟩; rw [Hh.out]) | (go_at_call 29; refine (words_any h hp q n Hb.out.2.1 (by omega) (by omega)).mono ?_; rintro e w' ⟨rfl, rfl⟩))
  go_ret2
  exact ⟨rfl, rfl⟩

set_option maxHeartbeats 400000 in
theorem len_none {w : World} {F : Nat → Prop} {b : Nat} {A : Ar} (h : Rep w F b A) (ht : A.taken.length ≤ 1048576) (p : Int) (hh : A.holds p = false) :
    Calls Try.prog 19 #[.pointer (some ⟨b, 0, none⟩), .int .i64 p] w (EndsBad F w b A (fun v => .tuple #[.int .i64 0, v]) ⟨#[108, 101, 110]⟩ p (.iface 47 (.int .i64 3))) := by
  have Hh := Lib.hid hh
  clear hh
  go_enter Try.func19, Try.ntmps19
  go_wp2_with (first | (go_at_call 28; refine (holds_any h ht _).mono ?_; rintro e w' ⟨rfl, rfl⟩; rw [Hh.out]) | (go_at_call 24; refine (at_any _ _ _ _ _).mono ?_; rintro e w' ⟨rfl, rfl⟩))
  go_ret2
  exact endsBad h 0

set_option maxHeartbeats 400000 in
theorem used_any {w : World} {F : Nat → Prop} {b : Nat} {A : Ar} (h : Rep w F b A) :
    Calls Try.prog 17 #[.pointer (some ⟨b, 0, none⟩)] w fun e w' => e = .returned (.int .i64 A.used) ∧ w = w' := by
  obtain ⟨sl, hR⟩ := h
  have huc := hR.head 2 _ rfl
  go_enter Try.func17, Try.ntmps17
  go_wp2
  go_ret
  exact ⟨rfl, rfl⟩

set_option maxHeartbeats 400000 in
theorem top_any {w : World} {F : Nat → Prop} {b : Nat} {A : Ar} (h : Rep w F b A) :
    Calls Try.prog 16 #[.pointer (some ⟨b, 0, none⟩)] w fun e w' => e = .returned (.int .i64 A.places.length) ∧ w = w' := by
  obtain ⟨sl, hR⟩ := h
  have c3 := hR.cell 0 (by omega)
  have ho := hR.own 0 (by omega)
  obtain ⟨po, cap, hv⟩ := row_form ho
  rw [show A.hd.length + 0 = 3 from rfl, hv, show A.rows 0 = A.places.map (Value.int .u64) from rfl, List.length_map] at c3
  clear hv ho
  go_enter Try.func16, Try.ntmps16
  go_wp2
  go_ret
  exact ⟨rfl, rfl⟩
end Go.Proofs.Ythilajdjkglkkaa
