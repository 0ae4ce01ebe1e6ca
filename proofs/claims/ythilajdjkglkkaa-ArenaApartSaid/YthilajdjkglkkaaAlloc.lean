/- What the arena's method Alloc does where a block was found. -/
import Derived.Test.YthilajdjkglkkaaOps
namespace Go.Proofs.Ythilajdjkglkkaa
open Go.RowKit

def zeroed (l : List Int) (p n : Nat) : List Int := l.take p ++ List.replicate n 0 ++ l.drop (p + n)
/-- block own of class c is taken for n words -/
def Ar.took (A : Ar) (own c n : Nat) : Ar := { A with used := A.used + 2 ^ c, taken := A.taken.set own true, places := zeroed (A.places.set own n) (own + 1) n }

theorem ext2 {w w1 w5 : World} {F : Nat → Prop} {b : Nat} {A : Ar} (hk : Kp F w w1) (h : Rep w5 (Ext F w w1) b A ∧ Kp (Ext F w w1) w1 w5) : Rep w5 (Ext F w w5) b A ∧ Kp F w w5 := by
  have h1 := hk.size
  have h2 := h.2.size
  refine ⟨h.1.more' ?_ ?_, hk.trans h.2⟩
  · intro q hq
    rcases hq with hq | hq
    · exact .inl hq
    · exact .inr ⟨hq.1, by omega⟩
  · intro q hq
    rcases hq with hq | hq
    · exact h.1.ltF q (.inl hq)
    · exact hq.2

theorem row_set3 {w : World} {g3 g4 b : Nat} {cur : Array Value} {t : TypeId} {v1 v2 v3 : Value} (h : w.heap[g3]? = some (.cells cur t (0, 0))) (h1 : g3 ≠ b) (h2 : g3 ≠ g4) (o1 o2 o3 : Nat) :
    (((w.setCell ⟨b, o1, none⟩ v1).setCell ⟨g4, o2, none⟩ v2).setCell ⟨g3, o3, none⟩ v3).drew.heap[g3]? = some (.cells (cur.setIfInBounds o3 v3) t (0, 0)) := by
  refine heap_setCell_same _ g3 o3 cur t v3 ?_
  rw [Below.heap_setCell _ _ _ _ h2, Below.heap_setCell _ _ _ _ h1]
  exact h

theorem take_splice {α : Type} (X rep : List α) (p n pl : Nat) (hr : rep.length = n) (h : p + n ≤ pl) (hl : pl ≤ X.length) :
    (X.take p ++ rep ++ X.drop (p + n)).take pl = (X.take pl).take p ++ rep ++ (X.take pl).drop (p + n) := by
  apply List.ext_getElem?
  intro i
  subst hr
  simp only [List.getElem?_take, List.getElem?_append, List.getElem?_drop, List.length_append, List.length_take]
  repeat' split
  all_goals first
    | rfl
    | omega
    | (congr 1; omega)

theorem took_rows (A1 : Ar) (own c n : Nat) (cur : List Value) (hr : cur.take A1.places.length = A1.places.map (Value.int .u64)) (hl : A1.places.length ≤ cur.length) (h : own + 1 + n ≤ A1.places.length) :
    upd (upd (upd A1.rows 1 ((A1.rows 1).set own (.bool true))) 0 ((upd A1.rows 1 ((A1.rows 1).set own (.bool true)) 0).set own (.int .u64 n))) 0
      ((((cur.set own (.int .u64 n)).take (own + 1) ++ List.replicate n (Value.int .u64 0) ++ (cur.set own (.int .u64 n)).drop (own + 1 + n))).take A1.places.length) = (A1.took own c n).rows := by
  rw [take_splice _ _ (own + 1) n _ (by simp) h (by simpa using hl), List.take_set, hr]
  funext k
  unfold upd Ar.rows Ar.took zeroed
  by_cases h0 : k = 0
  · rw [if_pos h0, if_pos h0]
    simp
  · rw [if_neg h0, if_neg h0, if_neg h0]
    by_cases h1 : k = 1
    · subst h1
      simp
    · rw [if_neg h1, if_neg h0, if_neg h1, if_neg h1]

theorem took_rep {A1 A : Ar} {F : Nat → Prop} {w : World} {b g3 g4 cap3 cap4 c m : Nat} {cur : Array Value} {sl : Nat → Value}
    (hR : Reps ety w F b A1.hd 23 A1.rows sl) (e3 : sl 0 = .slice (some ⟨g3, 0, none⟩) A1.places.length cap3) (e4 : sl 1 = .slice (some ⟨g4, 0, none⟩) A1.places.length cap4)
    (r3 : w.heap[g3]? = some (.cells cur (ety 0) (0, 0))) (hs : cur.size = cap3) (ht : cur.toList.take (A1.rows 0).length = A1.rows 0) (hm : 2 ^ c = m) (hu : A1.used = A.used) (own n : Nat) (hpl : own + 1 + n ≤ A1.places.length) (hcp : A1.places.length ≤ cap3) :
    Rep ((((w.setCell ⟨b, 2, none⟩ (.int .i64 (A.used + m))).setCell ⟨g4, own, none⟩ (.bool true)).setCell ⟨g3, own, none⟩ (.int .u64 n)).drew.setRow g3
      ((cur.setIfInBounds own (.int .u64 n)).toList.take (own + 1) ++ List.replicate n (Value.int .u64 0) ++ (cur.setIfInBounds own (.int .u64 n)).toList.drop (own + 1 + n)).toArray) F b (A1.took own c n) ∧
    Kp F w ((((w.setCell ⟨b, 2, none⟩ (.int .i64 (A.used + m))).setCell ⟨g4, own, none⟩ (.bool true)).setCell ⟨g3, own, none⟩ (.int .u64 n)).drew.setRow g3
      ((cur.setIfInBounds own (.int .u64 n)).toList.take (own + 1) ++ List.replicate n (Value.int .u64 0) ++ (cur.setIfInBounds own (.int .u64 n)).toList.drop (own + 1 + n)).toArray) := by
  have n3 := hR.inn 0 g3 (by omega) (by rw [e3]; rfl)
  have n34 : g3 ≠ g4 := fun e => by have := hR.apart 0 1 g3 (by omega) (by omega) (by rw [e3]; rfl) (by rw [e4, e]; rfl); omega
  have s1 := hR.setHead 2 (.int .i64 (A.used + m)) (by simp [Ar.hd])
  have s2 := s1.1.store 1 (by omega) g4 _ cap4 e4 own (.bool true)
  have s3 := s2.1.store 0 (by omega) g3 _ cap3 e3 own (.int .u64 n)
  have s3' := s3.1.heap (w' := (((w.setCell ⟨b, 2, none⟩ (.int .i64 (A.used + m))).setCell ⟨g4, own, none⟩ (.bool true)).setCell ⟨g3, own, none⟩ (.int .u64 n)).drew) rfl
  have hrow := row_set3 (v1 := .int .i64 (A.used + m)) (v2 := .bool true) (v3 := .int .u64 n) r3 n3.2 n34 2 own own
  have s4 := s3'.setRow 0 (by omega) g3 _ cap3 e3 _ ((cur.setIfInBounds own (.int .u64 n)).toList.take (own + 1) ++ List.replicate n (Value.int .u64 0) ++ (cur.setIfInBounds own (.int .u64 n)).toList.drop (own + 1 + n)).toArray hrow
    (by simp; omega)
  have hhd : A1.hd.set 2 (.int .i64 (A.used + m)) = (A1.took own c n).hd := by
    unfold Ar.hd Ar.took
    rw [hm, hu]
    simp
  have hrows := took_rows A1 own c n cur.toList (by simpa [Ar.rows] using ht) (by simpa [hs] using hcp) hpl
  simp only [Array.toList_setIfInBounds] at s4 ⊢
  rw [hhd, hrows] at s4
  refine ⟨⟨sl, s4.1⟩, ?_⟩
  exact (((s1.2.trans' s2.2).trans' s3.2).drew).trans' s4.2

set_option maxHeartbeats 1000000 in
set_option maxRecDepth 100000 in
theorem alloc_ok {w : World} {F : Nat → Prop} {b : Nat} {A A1 : Ar} (n c own : Nat) (h : Rep w F b A) (hn : n ≤ 1048576) (hc : cls n = c) (hc1 : 1 ≤ c) (hc2 : c < 21) (hnc : n + 1 ≤ 2 ^ c) (hq : A.used + 2 ^ c ≤ A.quota) (hqs : A.quota ≤ 1048576)
    (htake : ∀ w, Rep w F b A → Calls Try.prog 26 #[.pointer (some ⟨b, 0, none⟩), .int .i64 c] w (Ends F w b (.tuple #[.int .i64 own, .bool true]) A1))
    (hu : A1.used = A.used) (hown : own + 2 ^ c ≤ A1.places.length) (hte : A1.taken.length = A1.places.length) (hpl : A1.places.length ≤ 1048576) :
    Calls Try.prog 11 #[.pointer (some ⟨b, 0, none⟩), .int .i64 n] w (Ends F w b (.tuple #[.int .i64 (own + 1), .nilIface]) (A1.took own c n)) := by
  have h' := h
  obtain ⟨sl, hR⟩ := h
  have hqc := hR.head 1 _ rfl
  have huc := hR.head 2 _ rfl
  have hb1 := pow_bd c (by omega)
  have hmI : ((2 ^ c : Nat) : Int) = 2 ^ c := by simp
  have hm2 : 2 ≤ 2 ^ c := Nat.pow_le_pow_right (n := 2) (by omega) hc1
  obtain ⟨m, hm⟩ : ∃ m : Nat, 2 ^ c = m := ⟨_, rfl⟩
  rw [hm] at hm2 hnc hq hown hmI
  have hw1 : IntKind.i64.wrap (2 ^ c) = (m : Int) := by rw [← hmI]; exact IntWalk.i64_in _ (by omega)
  have Hm := Lib.hid (And.intro hm hc)
  clear hm hmI hb1 hR hc
  have hw2 : IntKind.i64.wrap ((A.used : Int) + m) = (A.used : Int) + m := IntWalk.i64_in _ (by omega)
  have hle : ¬ ((A.quota : Int) < (A.used : Int) + m) := by omega
  have Hx := Lib.hid (And.intro hu hte)
  have Ht := Lib.hid htake
  clear hu hte htake
  go_enter Try.func11, Try.ntmps11
  go_wp2_with (go_at_call 25; refine (class_any n _ hn).mono ?_; rintro e w' ⟨rfl, rfl⟩; rw [Hm.out.2])
  go_region
  go_wp2_with fail
  rw [show (some { block := b, off := 0 } : Option Addr) = some ⟨b, 0, none⟩ from rfl]
  refine (Ht.out w.drew h'.drew).mono ?_
  rintro e w1 ⟨rfl, hr1, hk1⟩
  have hk : Kp F w w1 := ⟨hk1.os, hk1.tape, hk1.output, hk1.size, hk1.block⟩
  have hr2 : Rep w1 (Ext F w w1) b A1 := hr1
  clear hr1 hk1 hqc huc
  obtain ⟨sl1, hR1⟩ := hr2
  have huc := hR1.head 2 _ rfl
  have hf2 := hR1.fz 2
  have c3 := hR1.cell 0 (by omega)
  have c4 := hR1.cell 1 (by omega)
  obtain ⟨g3, cap3, cur3, e3, r3, hl3, hm3, hs3, ht3⟩ := hR1.row 0 (by omega) (by rw [show A1.rows 0 = A1.places.map (Value.int .u64) from rfl, List.length_map]; omega)
  obtain ⟨g4, cap4, cur4, e4, r4, hl4, hm4, hs4, ht4⟩ := hR1.row 1 (by omega) (by rw [show A1.rows 1 = A1.taken.map Value.bool from rfl, List.length_map, Hx.out.2]; omega)
  have n3 := hR1.inn 0 g3 (by omega) (by rw [e3]; rfl)
  have n4 := hR1.inn 1 g4 (by omega) (by rw [e4]; rfl)
  have n34 : g3 ≠ g4 := fun e => by have := hR1.apart 0 1 g3 (by omega) (by omega) (by rw [e3]; rfl) (by rw [e4, e]; rfl); omega
  have l3 : (A1.rows 0).length = A1.places.length := by rw [show A1.rows 0 = A1.places.map (Value.int .u64) from rfl, List.length_map]
  have l4 : (A1.rows 1).length = A1.places.length := by rw [show A1.rows 1 = A1.taken.map Value.bool from rfl, List.length_map, Hx.out.2]
  rw [show A1.hd.length + 0 = 3 from rfl, e3, l3] at c3
  rw [show A1.hd.length + 1 = 4 from rfl, e4, l4] at c4
  rw [l3] at hl3 e3
  rw [l4] at hl4 e4
  rw [Hx.out.1] at huc
  obtain ⟨v3, x3⟩ : ∃ v, w1.cell? ⟨g3, own, none⟩ = some v := ⟨cur3[own]'(by omega), by rw [cell_of_row w1 g3 own cur3 _ (0, 0) r3]; simp⟩
  obtain ⟨v4, x4⟩ : ∃ v, w1.cell? ⟨g4, own, none⟩ = some v := ⟨cur4[own]'(by omega), by rw [cell_of_row w1 g4 own cur4 _ (0, 0) r4]; simp⟩
  have f3 := frozen_of_row w1 g3 own cur3 _ r3
  have f4 := frozen_of_row w1 g4 own cur4 _ r4
  have Hfin := Lib.hid (And.intro hR1 (And.intro e3 (And.intro e4 (And.intro r3 (And.intro hs3 ht3)))))
  clear hR1 e3 e4 r4 hs4 ht4 ht3 l3 l4
  obtain ⟨pl, hpl'⟩ : ∃ pl, A1.places.length = pl := ⟨_, rfl⟩
  rw [hpl'] at c3 c4 hl3 hl4 hown hpl
  have Hpl := Lib.hid hpl'
  clear hpl'
  have n3' := n3.2
  have n4' := n4.2
  have n3'' := n3'.symm
  have n4'' := n4'.symm
  have n34' := n34.symm
  have hi1 : (own : Int) < pl := by omega
  have hi2 : (own : Int) + 1 + n ≤ pl := by omega
  have hi3 : own + 1 < cap3 := by omega
  go_wp2_with fail
  go_region
  go_wp2_with fail
  obtain ⟨i0, hi, hz0, hz1, hz2⟩ := info_parts Try.info31
  have hrow := row_set3 (v1 := .int .i64 (A.used + m)) (v2 := .bool true) (v3 := .int .u64 n) r3 n3' n34 2 own own
  have hfit : own + 1 + n ≤ (cur3.setIfInBounds own (.int .u64 n)).size := by rw [Array.size_setIfInBounds]; omega
  rw [run_clear_row (P := Try.prog) _ 42 0 31 i0 (.int .u64 0) Try.underlying42 hi hz0 rfl rfl g3 (own + 1) n (cap3 - (own + 1)) (cur3.setIfInBounds own (.int .u64 n)) hrow hfit]
  have htk := took_rep (m := m) Hfin.out.1 Hfin.out.2.1 Hfin.out.2.2.1 Hfin.out.2.2.2.1 Hfin.out.2.2.2.2.1 Hfin.out.2.2.2.2.2 Hm.out.1 Hx.out.1 own n (by rw [Hpl.out]; omega) (by rw [Hpl.out]; exact hl3)
  clear hrow hfit
  generalize (World.setRow _ g3 _) = w5 at *
  go_wp2_with fail
  go_ret2
  exact ⟨rfl, ext2 hk htk⟩
end Go.Proofs.Ythilajdjkglkkaa
