/- What the arena's methods words and Free do. What the arena's methods find, Get, Set, Len, Used and Top do. Place: a number as one from 0 to below n. -/
import Derived.Test.YtkcmfldcdokobaaGreatDoorProg
import Derived.Test.YtkcmfldcdokobaaGreatDoorM02
import Derived.Test.YtkcmfldcdokobaaGreatDoorM05
import Derived.WalkSpells
import Derived.WalkLawsBesides
import Derived.Lib.Hide
/- What the arena's methods words and Free do. -/
namespace Go.Proofs.YtkcmfldcdokobaaGreatDoor
open Go.RowKit

theorem words_cells {w : World} {F : Nat → Prop} {b : Nat} {A : Ar} (h : Rep w F b A) (q : Nat) (x : Int) (hq : A.places[q]? = some x) :
    ∃ g cap, w.cell? ⟨b, 3, none⟩ = some (.slice (some ⟨g, 0, none⟩) A.places.length cap) ∧ w.cell? ⟨g, q, none⟩ = some (.int .u64 x) := by
  obtain ⟨sl, hR⟩ := h
  have hlt : q < A.places.length := (List.getElem?_eq_some_iff.1 hq).1
  have ho := hR.own 0 (by omega)
  have hce := hR.cell 0 (by omega)
  rw [show A.rows 0 = A.places.map (Value.int .u64) from rfl, List.length_map] at ho
  obtain ⟨g, cap, hv, _, _⟩ := row_cons ho (by omega)
  rw [show A.hd.length + 0 = 3 from rfl, hv] at hce
  refine ⟨g, cap, hce, ?_⟩
  rw [hv] at ho
  rw [ho.cellAt q (by omega), List.getElem?_map, hq]
  rfl

set_option maxHeartbeats 400000 in
theorem words_any {w : World} {F : Nat → Prop} {b : Nat} {A : Ar} (h : Rep w F b A) (hp : A.places.length ≤ 1048576) (q : Nat) (x : Int) (hq : A.places[q]? = some x) (hx0 : 0 ≤ x) (hx : x ≤ 1048576) :
    Calls Tryz.prog 117 #[.pointer (some ⟨b, 0, none⟩), .int .i64 (q + 1)] w fun e w' => e = .returned (.int .i64 x) ∧ w = w' := by
  obtain ⟨g, cap, h3, hc⟩ := words_cells h q x hq
  have hlt : (q : Int) < A.places.length := by have := (List.getElem?_eq_some_iff.1 hq).1; omega
  clear hq
  go_enter Tryz.func117, Tryz.ntmps117
  go_wp2
  go_ret
  exact ⟨rfl, rfl⟩

def Ar.freed (A : Ar) (q c : Nat) : Ar := { A with used := A.used - 2 ^ c, taken := A.taken.set q false, free := upd A.free c (A.free c ++ [q]) }

set_option maxHeartbeats 400000 in
theorem free_bad {w : World} {F : Nat → Prop} {b : Nat} {A : Ar} (h : Rep w F b A) (ht : A.taken.length ≤ 1048576) (p : Int) (hh : A.holds p = false) :
    Calls Tryz.prog 91 #[.pointer (some ⟨b, 0, none⟩), .int .i64 p] w (EndsBad F w b A id ⟨#[102, 114, 101, 101]⟩ p (.iface 67 (.int .i64 3))) := by
  have Hh := Lib.hid hh
  clear hh
  go_enter Tryz.func91, Tryz.ntmps91
  go_wp2_with (first | (go_at_call 116; refine (holds_any h ht p).mono ?_; rintro e w' ⟨rfl, rfl⟩; rw [Hh.out]) | (go_at_call 49; refine (at_any _ _ _ _ _).mono ?_; rintro e w' ⟨rfl, rfl⟩))
  go_ret
  exact endsBad h 0

theorem freed_rep {A : Ar} {F : Nat → Prop} {w w2 : World} {b g4 cap4 g cap c q m : Nat} {sl : Nat → Value} {v : Value} {o : Obj} (hc2 : c < 21)
    (hR : Reps ety w F b A.hd 23 A.rows sl) (e4 : sl 1 = .slice (some ⟨g4, 0, none⟩) A.taken.length cap4) (ev : sl (2 + c) = v) (hm : 2 ^ c = m) (hmu : m ≤ A.used)
    (hown : w2.ownsRow 0 3 1 (.slice (some ⟨g, 0, none⟩) ((A.free c).length + 1) cap) ((A.free c).length + 1) ((A.free c).map (fun (x : Nat) => Value.int .i64 x) ++ [Value.int .i64 q]))
    (hgrow : ((((w.setCell ⟨g4, q, none⟩ (.bool false)).setCell ⟨b, 2, none⟩ (.int .i64 (A.used - m))).drew).alloc o).drew.grownBy w2 v.ownBlock) (hat : v.ownBlock = some g ∨ g = w.heap.size + 1) (hlt : g < w2.heap.size) :
    Rep (w2.setCell ⟨b, 5 + c, none⟩ (.slice (some ⟨g, 0, none⟩) ((A.free c).length + 1) cap)) (Ext F w (w2.setCell ⟨b, 5 + c, none⟩ (.slice (some ⟨g, 0, none⟩) ((A.free c).length + 1) cap))) b (A.freed q c) ∧
      Kp F w (w2.setCell ⟨b, 5 + c, none⟩ (.slice (some ⟨g, 0, none⟩) ((A.free c).length + 1) cap)) := by
  subst ev
  have s1 := hR.store 1 (by omega) g4 _ cap4 e4 q (.bool false)
  have s2 := s1.1.setHead 2 (.int .i64 (A.used - m)) (by simp [Ar.hd])
  have s3 := s2.1.heap (w' := ((w.setCell ⟨g4, q, none⟩ (.bool false)).setCell ⟨b, 2, none⟩ (.int .i64 (A.used - m))).drew) rfl
  have hz : (((w.setCell ⟨g4, q, none⟩ (.bool false)).setCell ⟨b, 2, none⟩ (.int .i64 (A.used - m))).drew).heap.size = w.heap.size := by
    show ((w.setCell _ _).setCell _ _).heap.size = _
    simp [World.setCell]
  have e1 : (A.free c).map (fun (x : Nat) => Value.int .i64 x) ++ [Value.int .i64 q] = (A.free c ++ [q]).map (fun (x : Nat) => Value.int .i64 x) := by simp
  rw [e1] at hown
  have hp := s3.push (2 + c) (by omega) o (by rw [ety_free]; exact hown) hgrow (by rw [hz]; exact hat) hlt
  have e0 : (A.hd.set 2 (.int .i64 (A.used - m))).length + (2 + c) = 5 + c := by simp [Ar.hd]; omega
  have ehd : A.hd.set 2 (.int .i64 (A.used - m)) = (A.freed q c).hd := by
    unfold Ar.hd Ar.freed
    rw [hm]
    simp
    omega
  have erows : upd (upd A.rows 1 ((A.rows 1).set q (.bool false))) (2 + c) ((A.free c ++ [q]).map fun (x : Nat) => Value.int .i64 x) = (A.freed q c).rows := by
    have : upd A.rows 1 ((A.rows 1).set q (.bool false)) = ({ A with taken := A.taken.set q false, used := A.used - 2 ^ c } : Ar).rows := by
      funext k
      unfold upd Ar.rows
      by_cases h1 : k = 1
      · subst h1; simp
      · rw [if_neg h1, if_neg h1, if_neg h1]
    rw [this, upd_free]
    rfl
  rw [e0, erows, ehd] at hp
  have hk : Kp F w (((w.setCell ⟨g4, q, none⟩ (.bool false)).setCell ⟨b, 2, none⟩ (.int .i64 (A.used - m))).drew) := (s1.2.trans' s2.2).drew
  refine ⟨hp.1 |> fun h => ⟨_, h.more ?_ ?_⟩, hk.trans' hp.2⟩
  · intro x hx
    rcases hx with hx | hx
    · exact .inl hx
    · refine .inr ⟨by rw [hz] at hx; exact hx.1, by have := hx.2; simpa [World.setCell] using this⟩
  · intro x hx
    rcases hx with hx | hx
    · exact hp.1.lt x (.inl hx)
    · exact hx.2

set_option maxHeartbeats 1000000 in
set_option maxRecDepth 100000 in
theorem free_ok {w : World} {F : Nat → Prop} {b : Nat} {A : Ar} (h : Rep w F b A) (ht : A.taken.length ≤ 1048576) (hte : A.taken.length = A.places.length) (q n c : Nat) (hh : A.taken[q]? = some true) (hq : A.places[q]? = some (n : Int)) (hn : n ≤ 1048576) (hc : cls n = c) (hc2 : c < 21)
    (hu : A.used ≤ 1048576) (hmu : 2 ^ c ≤ A.used) (hfl : (A.free c).length ≤ 1048576) :
    Calls Tryz.prog 91 #[.pointer (some ⟨b, 0, none⟩), .int .i64 (q + 1)] w (Ends F w b .nilIface (A.freed q c)) := by
  have hqt : q < A.taken.length := (List.getElem?_eq_some_iff.1 hh).1
  have hhold : A.holds ((q : Int) + 1) = true := by
    unfold Ar.holds
    rw [if_pos (by omega)]
    simp [List.getD_eq_getElem?_getD, hh]
  have hpl : A.places.length ≤ 1048576 := by omega
  have h' := h
  obtain ⟨sl, hR⟩ := h
  have huc := hR.head 2 _ rfl
  have hf2 := hR.fz 2
  have hb1 := pow_bd c (by omega)
  have hmI : ((2 ^ c : Nat) : Int) = 2 ^ c := by simp
  obtain ⟨m, hm⟩ : ∃ m : Nat, 2 ^ c = m := ⟨_, rfl⟩
  rw [hm] at hmu hmI
  rw [← hmI] at hb1
  have hw1 : IntKind.i64.wrap (2 ^ c) = (m : Int) := by rw [← hmI]; exact IntWalk.i64_in _ (by omega)
  have hw2 : IntKind.i64.wrap ((A.used : Int) - m) = (A.used : Int) - m := IntWalk.i64_in _ (by omega)
  have c4 := hR.cell 1 (by omega)
  obtain ⟨g4, cap4, cur4, e4, r4, hl4, hm4, hs4, ht4⟩ := hR.row 1 (by omega) (by rw [show A.rows 1 = A.taken.map Value.bool from rfl, List.length_map]; omega)
  have n4 := (hR.inn 1 g4 (by omega) (by rw [e4]; rfl)).2
  have l4 : (A.rows 1).length = A.taken.length := by rw [show A.rows 1 = A.taken.map Value.bool from rfl, List.length_map]
  rw [show A.hd.length + 1 = 4 from rfl, e4, l4] at c4
  rw [l4] at e4 hl4
  obtain ⟨v4, x4⟩ : ∃ v, w.cell? ⟨g4, q, none⟩ = some v := ⟨cur4[q]'(by omega), by rw [cell_of_row w g4 q cur4 _ (0, 0) r4]; simp⟩
  have f4 := frozen_of_row w g4 q cur4 _ r4
  have ho := hR.own (2 + c) (by omega)
  have hce := hR.cell (2 + c) (by omega)
  have hf := hR.fz (5 + c)
  have hbs := hR.lt b hR.inF
  have hg4s := hR.lt g4 (hR.inn 1 g4 (by omega) (by rw [e4]; rfl)).1
  rw [rows_free, ety_free] at ho
  rw [show A.hd.length + (2 + c) = 5 + c from by simp [Ar.hd]; omega] at hce
  have hne : some b ≠ (sl (2 + c)).ownBlock := fun e => (hR.inn (2 + c) b (by omega) e.symm).2 rfl
  have hne4 : (sl (2 + c)).ownBlock ≠ some g4 := fun e => by have := hR.apart 1 (2 + c) g4 (by omega) (by omega) (by rw [e4]; rfl) e; omega
  obtain ⟨v, hv⟩ : ∃ v, sl (2 + c) = v := ⟨_, rfl⟩
  rw [hv] at ho hce hne hne4
  have Hfin := Lib.hid (And.intro hR (And.intro e4 (And.intro hv hm)))
  have Hc := Lib.hid (And.intro hhold (And.intro hq hc))
  clear hm hmI hR e4 hv r4 ht4 hs4 hhold hq hc hh hte l4 hm4
  obtain ⟨xs, hxs⟩ : ∃ xs, A.free c = xs := ⟨_, rfl⟩
  rw [hxs] at ho hfl
  have Hxs := Lib.hid hxs
  clear hxs
  have n4' := n4.symm
  have hlt : (c : Int) < 21 := by omega
  have hqi : (q : Int) < A.taken.length := by omega
  have hoA : ∀ o, ((((w.setCell ⟨g4, q, none⟩ (.bool false)).setCell ⟨b, 2, none⟩ (.int .i64 (A.used - m))).alloc o).drew).drew.ownsRow 0 3 1 v xs.length (xs.map fun (x : Nat) => Value.int .i64 x) := by
    intro o
    have h1 : ((w.setCell ⟨g4, q, none⟩ (.bool false)).setCell ⟨b, 2, none⟩ (.int .i64 (A.used - m))).ownsRow 0 3 1 v xs.length (xs.map fun (x : Nat) => Value.int .i64 x) := by
      refine Kp.row (F := fun k => k = b ∨ k = g4) (((Kp.refl _ w).setCell _ _ (.inl (.inr rfl))).setCell _ _ (.inl (.inl rfl))) (by simpa using ho) ?_
      rintro g hg (e | e)
      · exact hne (by rw [hg, e])
      · exact hne4 (by rw [hg, e])
    exact ownsRow_of_heap (w := (((w.setCell ⟨g4, q, none⟩ (.bool false)).setCell ⟨b, 2, none⟩ (.int .i64 (A.used - m))).alloc o)) rfl (h1.alloc o)
  go_enter Tryz.func91, Tryz.ntmps91
  go_wp2_with (first | (go_at_call 116; refine (holds_any h' ht _).mono ?_; rintro e w' ⟨rfl, rfl⟩; rw [Hc.out.1]) | (go_at_call 117; refine (words_any h' hpl q n Hc.out.2.1 (by omega) (by omega)).mono ?_; rintro e w' ⟨rfl, rfl⟩) | (go_at_call 136; refine (class_any n _ hn).mono ?_; rintro e w' ⟨rfl, rfl⟩; rw [Hc.out.2.2]))
  go_region
  go_wp2_with fail
  obtain ⟨i0, hi, hz0, hz1, hz2⟩ := info_parts Tryz.infoIntA
  have hnA : ∀ j u, [Value.int .i64 q][j]? = some u → (((((w.setCell ⟨g4, q, none⟩ (.bool false)).setCell ⟨b, 2, none⟩ (.int .i64 (A.used - m))).alloc (.cells #[.int .i64 q] 3)).drew).drew).cell? ((⟨w.heap.size, 0, none⟩ : Addr).add j) = some u := by
    refine World.news_of_block (cs := #[.int .i64 q]) (t := 3) (fr := (0, 0)) ?_
    have hz : ((w.setCell ⟨g4, q, none⟩ (.bool false)).setCell ⟨b, 2, none⟩ (.int .i64 (A.used - m))).heap.size = w.heap.size := by simp [World.setCell]
    show (((w.setCell ⟨g4, q, none⟩ (.bool false)).setCell ⟨b, 2, none⟩ (.int .i64 (A.used - m))).alloc (.cells #[.int .i64 q] 3)).heap[w.heap.size]? = _
    rw [← hz]
    exact heap_alloc_new _ _
  have hone : ∀ u ∈ [Value.int .i64 q], u.oneCell' = true := by intro u hu; simp at hu; subst hu; rfl
  have hcap1 : xs.length + 1 ≤ maxLen := by unfold maxLen; omega
  have hcap2 : (xs.length + 1) * 8 ≤ 140737488355328 := by omega
  have Hs := Lib.hid (And.intro hw1 (And.intro hcap1 (And.intro hcap2 hfl)))
  clear hcap1 hcap2
  go_region_law (((refine step_append_lies _ (by rfl) _ _ 22 (by rfl) 0 3 i0 (.int .i64 0) 1 8 Tryz.underlying22 hi hz0 hz1 hz2 (by rfl) (by omega) v xs.length _ (by rfl) (hoA _) ⟨w.heap.size, 0, none⟩ 1 1 [.int .i64 q] (by rfl) (by rfl) hnA hone (by omega) Hs.out.2.1 Hs.out.2.2.1 (by omega) (w.heap.size + 1) (by simp [World.setCell]) ?_); intro g cap w2 hown hgrow hat hlt2; obtain ⟨k0, k1⟩ := keepd hgrow (by simp [World.setCell]; omega) hne (5 + c)))
  all_goals go_wp2_with fail
  all_goals go_ret
  all_goals
    have hx := Hxs.out
    subst hx
    exact ⟨rfl, freed_rep hc2 Hfin.out.1 Hfin.out.2.1 Hfin.out.2.2.1 Hfin.out.2.2.2 hmu hown hgrow hat hlt2⟩
end Go.Proofs.YtkcmfldcdokobaaGreatDoor

/- What the arena's methods find, Get, Set, Len, Used and Top do. -/
namespace Go.Proofs.YtkcmfldcdokobaaGreatDoor
open Go.RowKit

/-- block q + 1 is taken for n words -/
def Ar.block (A : Ar) (q n : Nat) : Prop := A.taken[q]? = some true ∧ A.places[q]? = some (n : Int) ∧ n ≤ 1048576

theorem holds_block {A : Ar} {q n : Nat} (h : A.block q n) : A.holds ((q : Int) + 1) = true := by
  have hqt : q < A.taken.length := (List.getElem?_eq_some_iff.1 h.1).1
  unfold Ar.holds
  rw [if_pos (by omega)]
  simp [List.getD_eq_getElem?_getD, h.1]

set_option maxHeartbeats 400000 in
theorem arFind_ok {w : World} {F : Nat → Prop} {b : Nat} {A : Ar} (h : Rep w F b A) (ht : A.taken.length ≤ 1048576) (hp : A.places.length ≤ 1048576) (q n i : Nat) (hb : A.block q n) (hi : i < n) :
    Calls Tryz.prog 77 #[.pointer (some ⟨b, 0, none⟩), .int .i64 (q + 1), .int .i64 i] w fun e w' => e = .returned (.tuple #[.int .i64 (q + 1 + i), .nilIface]) ∧ w = w' := by
  have Hh := Lib.hid (holds_block hb)
  have hqt : q < A.places.length := (List.getElem?_eq_some_iff.1 hb.2.1).1
  have hn := hb.2.2
  have Hb := Lib.hid hb
  clear hb
  go_enter Tryz.func77, Tryz.ntmps77
  go_wp2_with (first | (go_at_call 116; refine (holds_any h ht _).mono ?_; rintro e w' ⟨rfl, rfl⟩; rw [Hh.out]) | (go_at_call 117; refine (words_any h hp q n Hb.out.2.1 (by omega) (by omega)).mono ?_; rintro e w' ⟨rfl, rfl⟩))
  go_ret2
  exact ⟨rfl, rfl⟩

set_option maxHeartbeats 400000 in
theorem find_none {w : World} {F : Nat → Prop} {b : Nat} {A : Ar} (h : Rep w F b A) (ht : A.taken.length ≤ 1048576) (p i : Int) (hh : A.holds p = false) :
    Calls Tryz.prog 77 #[.pointer (some ⟨b, 0, none⟩), .int .i64 p, .int .i64 i] w fun e w' => e = .returned (.tuple #[.int .i64 0, .iface 67 (.int .i64 3)]) ∧ w = w' := by
  have Hh := Lib.hid hh
  clear hh
  go_enter Tryz.func77, Tryz.ntmps77
  go_wp2_with (first | (go_at_call 116; refine (holds_any h ht _).mono ?_; rintro e w' ⟨rfl, rfl⟩; rw [Hh.out]))
  go_ret2
  exact ⟨rfl, rfl⟩

set_option maxHeartbeats 400000 in
theorem find_index {w : World} {F : Nat → Prop} {b : Nat} {A : Ar} (h : Rep w F b A) (ht : A.taken.length ≤ 1048576) (hp : A.places.length ≤ 1048576) (q n : Nat) (i : Int) (hb : A.block q n) (hi : i < 0 ∨ (n : Int) ≤ i) :
    Calls Tryz.prog 77 #[.pointer (some ⟨b, 0, none⟩), .int .i64 (q + 1), .int .i64 i] w fun e w' => e = .returned (.tuple #[.int .i64 0, .iface 95 (.pointer (some ⟨w.heap.size, 0, none⟩))]) ∧
      w' = w.alloc (.cells #[.string ⟨#[105, 110, 100, 101, 120]⟩, .int .i64 i, .iface 67 (.int .i64 12)] 181) := by
  have Hh := Lib.hid (holds_block hb)
  have hqt : q < A.places.length := (List.getElem?_eq_some_iff.1 hb.2.1).1
  have hn := hb.2.2
  have Hb := Lib.hid hb
  clear hb
  rcases hi with hi | hi
  · go_enter Tryz.func77, Tryz.ntmps77
    go_wp2_with (first | (go_at_call 116; refine (holds_any h ht _).mono ?_; rintro e w' ⟨rfl, rfl⟩; rw [Hh.out]) | (go_at_call 117; refine (words_any h hp q n Hb.out.2.1 (by omega) (by omega)).mono ?_; rintro e w' ⟨rfl, rfl⟩) | (go_at_call 49; refine (at_any _ _ _ _ _).mono ?_; rintro e w' ⟨rfl, rfl⟩))
    go_ret2
    exact ⟨rfl, rfl⟩
  · have hi0 : ¬ i < 0 := by omega
    go_enter Tryz.func77, Tryz.ntmps77
    go_wp2_with (first | (go_at_call 116; refine (holds_any h ht _).mono ?_; rintro e w' ⟨rfl, rfl⟩; rw [Hh.out]) | (go_at_call 117; refine (words_any h hp q n Hb.out.2.1 (by omega) (by omega)).mono ?_; rintro e w' ⟨rfl, rfl⟩) | (go_at_call 49; refine (at_any _ _ _ _ _).mono ?_; rintro e w' ⟨rfl, rfl⟩))
    go_ret2
    exact ⟨rfl, rfl⟩

/-- it ended in a Fault around a Fault, and nothing has turned -/
def EndsBad2 (F : Nat → Prop) (w : World) (b : Nat) (A : Ar) (mk : Value → Value) (op : ByteArray) (n : Int) (op1 : ByteArray) (n1 : Int) (inner : Value) (e : Ending) (w' : World) : Prop :=
  ∃ v v1, e = .returned (mk v) ∧ Faulty w.heap.size op n v1 v w' ∧ Faulty w.heap.size op1 n1 inner v1 w' ∧ Rep w' F b A ∧ Kp F w w' ∧ Kp (fun _ => False) w w'

theorem endsBad2 {F : Nat → Prop} {w : World} {b : Nat} {A : Ar} {mk : Value → Value} {op op1 : ByteArray} {n n1 : Int} {inner : Value} (h : Rep w F b A) :
    EndsBad2 F w b A mk op n op1 n1 inner (.returned (mk (.iface 95 (.pointer (some ⟨w.heap.size + 1, 0, none⟩)))))
      ((w.alloc (.cells #[.string op1, .int .i64 n1, inner] 181)).alloc (.cells #[.string op, .int .i64 n, .iface 95 (.pointer (some ⟨w.heap.size, 0, none⟩))] 181)) := by
  have hk : Kp (fun _ => False) w ((w.alloc (.cells #[.string op1, .int .i64 n1, inner] 181)).alloc (.cells #[.string op, .int .i64 n, .iface 95 (.pointer (some ⟨w.heap.size, 0, none⟩))] 181)) := ((Kp.refl _ w).alloc _).alloc _
  refine ⟨_, .iface 95 (.pointer (some ⟨w.heap.size, 0, none⟩)), rfl, ⟨w.heap.size + 1, by omega, rfl, ?_⟩, ⟨w.heap.size, Nat.le_refl _, rfl, ?_⟩, h.kp hk, hk.mono (fun _ _ e => e.elim), hk⟩
  · have := heap_alloc_new (w.alloc (.cells #[.string op1, .int .i64 n1, inner] 181)) (.cells #[.string op, .int .i64 n, .iface 95 (.pointer (some ⟨w.heap.size, 0, none⟩))] 181)
    rw [World.size_alloc] at this
    exact this
  · rw [Below.heap_alloc _ _ _ (by simp)]
    exact heap_alloc_new _ _

set_option maxHeartbeats 400000 in
theorem get_ok {w : World} {F : Nat → Prop} {b : Nat} {A : Ar} (h : Rep w F b A) (ht : A.taken.length ≤ 1048576) (hp : A.places.length ≤ 1048576) (q n i : Nat) (x : Int) (hb : A.block q n) (hi : i < n) (hx : A.places[q + 1 + i]? = some x) :
    Calls Tryz.prog 38 #[.pointer (some ⟨b, 0, none⟩), .int .i64 (q + 1), .int .i64 i] w fun e w' => e = .returned (.tuple #[.int .u64 x, .nilIface]) ∧ w = w' := by
  obtain ⟨g, cap, h3, hc⟩ := words_cells h (q + 1 + i) x hx
  have hlt : (q : Int) + 1 + i < A.places.length := by have := (List.getElem?_eq_some_iff.1 hx).1; omega
  have Hb := Lib.hid hb
  clear hb hx
  go_enter Tryz.func38, Tryz.ntmps38
  go_wp2_with (first | (go_at_call 77; refine (arFind_ok h ht hp q n i Hb.out hi).mono ?_; rintro e w' ⟨rfl, rfl⟩))
  go_ret2
  exact ⟨rfl, rfl⟩

set_option maxHeartbeats 400000 in
theorem get_none {w : World} {F : Nat → Prop} {b : Nat} {A : Ar} (h : Rep w F b A) (ht : A.taken.length ≤ 1048576) (p i : Int) (hh : A.holds p = false) :
    Calls Tryz.prog 38 #[.pointer (some ⟨b, 0, none⟩), .int .i64 p, .int .i64 i] w (EndsBad F w b A (fun v => .tuple #[.int .u64 0, v]) ⟨#[103, 101, 116]⟩ p (.iface 67 (.int .i64 3))) := by
  have Hh := Lib.hid hh
  clear hh
  go_enter Tryz.func38, Tryz.ntmps38
  go_wp2_with (first | (go_at_call 77; refine (find_none h ht p i Hh.out).mono ?_; rintro e w' ⟨rfl, rfl⟩) | (go_at_call 49; refine (at_any _ _ _ _ _).mono ?_; rintro e w' ⟨rfl, rfl⟩))
  go_ret2
  exact endsBad h 0

set_option maxHeartbeats 400000 in
theorem get_index {w : World} {F : Nat → Prop} {b : Nat} {A : Ar} (h : Rep w F b A) (ht : A.taken.length ≤ 1048576) (hp : A.places.length ≤ 1048576) (q n : Nat) (i : Int) (hb : A.block q n) (hi : i < 0 ∨ (n : Int) ≤ i) :
    Calls Tryz.prog 38 #[.pointer (some ⟨b, 0, none⟩), .int .i64 (q + 1), .int .i64 i] w (EndsBad2 F w b A (fun v => .tuple #[.int .u64 0, v]) ⟨#[103, 101, 116]⟩ (q + 1) ⟨#[105, 110, 100, 101, 120]⟩ i (.iface 67 (.int .i64 12))) := by
  have Hb := Lib.hid hb
  clear hb
  go_enter Tryz.func38, Tryz.ntmps38
  go_wp2_with (first | (go_at_call 77; refine (find_index h ht hp q n i Hb.out hi).mono ?_; rintro e w' ⟨rfl, rfl⟩) | (go_at_call 49; refine (at_any _ _ _ _ _).mono ?_; rintro e w' ⟨rfl, rfl⟩))
  go_ret2
  exact endsBad2 h

def Ar.put (A : Ar) (j : Nat) (x : Int) : Ar := { A with places := A.places.set j x }

theorem put_rep {w : World} {F : Nat → Prop} {b : Nat} {A : Ar} (h : Rep w F b A) (j : Nat) (hj : j < A.places.length) :
    ∃ g cap v, w.cell? ⟨b, 3, none⟩ = some (.slice (some ⟨g, 0, none⟩) A.places.length cap) ∧ w.cell? ⟨g, j, none⟩ = some v ∧ w.frozen? ⟨g, j, none⟩ = false ∧
      ∀ x : Int, Rep (w.setCell ⟨g, j, none⟩ (.int .u64 x)) F b (A.put j x) ∧ Kp F w (w.setCell ⟨g, j, none⟩ (.int .u64 x)) := by
  obtain ⟨g, cap, h3, hc⟩ := words_cells h j A.places[j] (by simp [hj])
  obtain ⟨sl, hR⟩ := h
  have hce := hR.cell 0 (by omega)
  rw [show A.hd.length + 0 = 3 from rfl, h3] at hce
  have e3 : sl 0 = .slice (some ⟨g, 0, none⟩) A.places.length cap := (Option.some.inj hce).symm
  have ho := hR.own 0 (by omega)
  rw [show A.rows 0 = A.places.map (Value.int .u64) from rfl, List.length_map, e3] at ho
  refine ⟨g, cap, _, h3, hc, ho.frozenAt j, fun x => ?_⟩
  have hs := hR.store 0 (by omega) g _ cap e3 j (.int .u64 x)
  have erows : upd A.rows 0 ((A.rows 0).set j (.int .u64 x)) = (A.put j x).rows := by
    funext k
    unfold upd Ar.rows Ar.put
    by_cases h1 : k = 0
    · subst h1; simp
    · rw [if_neg h1, if_neg h1, if_neg h1]
  rw [erows] at hs
  exact ⟨⟨sl, hs.1⟩, hs.2⟩

set_option maxHeartbeats 400000 in
theorem set_ok {w : World} {F : Nat → Prop} {b : Nat} {A : Ar} (h : Rep w F b A) (ht : A.taken.length ≤ 1048576) (hp : A.places.length ≤ 1048576) (q n i : Nat) (x : Int) (hb : A.block q n) (hi : i < n) (hx : q + 1 + i < A.places.length) :
    Calls Tryz.prog 97 #[.pointer (some ⟨b, 0, none⟩), .int .i64 (q + 1), .int .i64 i, .int .u64 x] w fun e w' => e = .returned .nilIface ∧ Rep w' F b (A.put (q + 1 + i) x) ∧ Kp F w w' ∧ w'.heap.size = w.heap.size := by
  obtain ⟨g, cap, v, h3, hc, hf, hput⟩ := put_rep h (q + 1 + i) hx
  have hlt : (q : Int) + 1 + i < A.places.length := by omega
  have Hb := Lib.hid (And.intro hb (hput x))
  clear hb hput
  go_enter Tryz.func97, Tryz.ntmps97
  go_wp2_with (first | (go_at_call 77; refine (arFind_ok h ht hp q n i Hb.out.1 hi).mono ?_; rintro e w' ⟨rfl, rfl⟩))
  go_ret
  exact ⟨rfl, Hb.out.2.1, Hb.out.2.2, by simp [World.setCell]⟩

set_option maxHeartbeats 400000 in
theorem set_none {w : World} {F : Nat → Prop} {b : Nat} {A : Ar} (h : Rep w F b A) (ht : A.taken.length ≤ 1048576) (p i x : Int) (hh : A.holds p = false) :
    Calls Tryz.prog 97 #[.pointer (some ⟨b, 0, none⟩), .int .i64 p, .int .i64 i, .int .u64 x] w (EndsBad F w b A id ⟨#[115, 101, 116]⟩ p (.iface 67 (.int .i64 3))) := by
  have Hh := Lib.hid hh
  clear hh
  go_enter Tryz.func97, Tryz.ntmps97
  go_wp2_with (first | (go_at_call 77; refine (find_none h ht p i Hh.out).mono ?_; rintro e w' ⟨rfl, rfl⟩) | (go_at_call 49; refine (at_any _ _ _ _ _).mono ?_; rintro e w' ⟨rfl, rfl⟩))
  go_ret
  exact endsBad h 0

set_option maxHeartbeats 400000 in
theorem set_index {w : World} {F : Nat → Prop} {b : Nat} {A : Ar} (h : Rep w F b A) (ht : A.taken.length ≤ 1048576) (hp : A.places.length ≤ 1048576) (q n : Nat) (i x : Int) (hb : A.block q n) (hi : i < 0 ∨ (n : Int) ≤ i) :
    Calls Tryz.prog 97 #[.pointer (some ⟨b, 0, none⟩), .int .i64 (q + 1), .int .i64 i, .int .u64 x] w (EndsBad2 F w b A id ⟨#[115, 101, 116]⟩ (q + 1) ⟨#[105, 110, 100, 101, 120]⟩ i (.iface 67 (.int .i64 12))) := by
  have Hb := Lib.hid hb
  clear hb
  go_enter Tryz.func97, Tryz.ntmps97
  go_wp2_with (first | (go_at_call 77; refine (find_index h ht hp q n i Hb.out hi).mono ?_; rintro e w' ⟨rfl, rfl⟩) | (go_at_call 49; refine (at_any _ _ _ _ _).mono ?_; rintro e w' ⟨rfl, rfl⟩))
  go_ret
  exact endsBad2 h

set_option maxHeartbeats 400000 in
theorem len_ok {w : World} {F : Nat → Prop} {b : Nat} {A : Ar} (h : Rep w F b A) (ht : A.taken.length ≤ 1048576) (hp : A.places.length ≤ 1048576) (q n : Nat) (hb : A.block q n) :
    Calls Tryz.prog 75 #[.pointer (some ⟨b, 0, none⟩), .int .i64 (q + 1)] w fun e w' => e = .returned (.tuple #[.int .i64 n, .nilIface]) ∧ w = w' := by
  have Hh := Lib.hid (holds_block hb)
  have hn := hb.2.2
  have Hb := Lib.hid hb
  clear hb
  go_enter Tryz.func75, Tryz.ntmps75
  go_wp2_with (first | (go_at_call 116; refine (holds_any h ht _).mono ?_; rintro e w' ⟨rfl, rfl⟩; rw [Hh.out]) | (go_at_call 117; refine (words_any h hp q n Hb.out.2.1 (by omega) (by omega)).mono ?_; rintro e w' ⟨rfl, rfl⟩))
  go_ret2
  exact ⟨rfl, rfl⟩

set_option maxHeartbeats 400000 in
theorem len_none {w : World} {F : Nat → Prop} {b : Nat} {A : Ar} (h : Rep w F b A) (ht : A.taken.length ≤ 1048576) (p : Int) (hh : A.holds p = false) :
    Calls Tryz.prog 75 #[.pointer (some ⟨b, 0, none⟩), .int .i64 p] w (EndsBad F w b A (fun v => .tuple #[.int .i64 0, v]) ⟨#[108, 101, 110]⟩ p (.iface 67 (.int .i64 3))) := by
  have Hh := Lib.hid hh
  clear hh
  go_enter Tryz.func75, Tryz.ntmps75
  go_wp2_with (first | (go_at_call 116; refine (holds_any h ht _).mono ?_; rintro e w' ⟨rfl, rfl⟩; rw [Hh.out]) | (go_at_call 49; refine (at_any _ _ _ _ _).mono ?_; rintro e w' ⟨rfl, rfl⟩))
  go_ret2
  exact endsBad h 0

set_option maxHeartbeats 400000 in
theorem arUsed_any {w : World} {F : Nat → Prop} {b : Nat} {A : Ar} (h : Rep w F b A) :
    Calls Tryz.prog 27 #[.pointer (some ⟨b, 0, none⟩)] w fun e w' => e = .returned (.int .i64 A.used) ∧ w = w' := by
  obtain ⟨sl, hR⟩ := h
  have huc := hR.head 2 _ rfl
  go_enter Tryz.func27, Tryz.ntmps27
  go_wp2
  go_ret
  exact ⟨rfl, rfl⟩

end Go.Proofs.YtkcmfldcdokobaaGreatDoor

/- Place: a number as one from 0 to below n. -/
namespace Go.Proofs.YtkcmfldcdokobaaGreatDoor
open Go.RowKit

theorem place_emod (v n : Int) (hn : 0 < n) : (v.tmod n < 0 → v.tmod n + n = v % n) ∧ (0 ≤ v.tmod n → v.tmod n = v % n) := by
  have h1 := Int.tmod_eq_emod (a := v) (b := n)
  have h2 := Int.emod_nonneg v (b := n) (by omega)
  have h3 := Int.emod_lt_of_pos v hn
  split at h1
  · omega
  · omega

set_option maxHeartbeats 400000 in
theorem place_any (w : World) (v n : Int) (_h1 : -9223372036854775808 ≤ v) (_h2 : v ≤ 9223372036854775807) (hn : 0 < n) (hn2 : n ≤ 1048576) :
    Calls Tryz.prog 16 #[.int .i64 v, .int .i64 n] w fun e w' => e = .returned (.int .i64 (v % n)) ∧ w = w' := by
  have HE := Lib.hid (place_emod v n hn)
  have h3 := Int.lt_tmod_of_pos v hn
  have h4 := Int.tmod_lt_of_pos v hn
  by_cases hneg : v.tmod n < 0
  · go_enter Tryz.func16, Tryz.ntmps16
    go_wp2_with fail
    go_ret
    exact ⟨by rw [HE.out.1 hneg]; rfl, rfl⟩
  · go_enter Tryz.func16, Tryz.ntmps16
    go_wp2_with fail
    go_ret
    exact ⟨by rw [HE.out.2 (by omega)]; rfl, rfl⟩
end Go.Proofs.YtkcmfldcdokobaaGreatDoor
