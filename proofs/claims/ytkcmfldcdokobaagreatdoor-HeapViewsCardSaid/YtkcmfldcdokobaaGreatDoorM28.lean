/- word.Small of any term. -/
import Derived.Test.YtkcmfldcdokobaaGreatDoorM27
/- word.Small of any term. -/
namespace Go.Proofs.YtkcmfldcdokobaaGreatDoor
open Go.RowKit

def smallS : ByteArray := ⟨#[115, 109, 97, 108, 108]⟩
/-- it tells an error that is not nil -/
def SBad (w : World) (e : Ending) (w' : World) : Prop := ∃ v n kk, e = .returned (.tuple #[.int .u64 0, .bool false, v]) ∧ ChainB w.heap.size w' v [Lk.fault smallS 0, Lk.fault termS n, Lk.kind kk]

set_option maxHeartbeats 400000 in
theorem small_num {F : Nat → Prop} {w : World} {h : Nat} {T : Tm} {n : Int} {s : ByteArray} {a a2 a3 : Option Addr} {l c l2 d l3 e : Nat} (hT : TermAt F w h T [.int .i64 1, .int .i64 n, .string s, .slice a l c, .slice a2 l2 d, .slice a3 l3 e]) (t : Value) (h1 : -1152921504606846976 ≤ n) (h2 : n ≤ 1152921504606846975) :
    Calls Tryz.prog 131 #[.agg #[.int .i64 1, .int .i64 n, .string s, .slice a l c, .slice a2 l2 d, .slice a3 l3 e], t] w fun e w' => ((e = .returned (.tuple #[.int .u64 (n * 8 % 18446744073709551616 + 0), .bool true, .nilIface]) ∧ fitsB T = true) ∨ SBad w e w') ∧ Kp (fun _ => False) w w' := by
  obtain ⟨w1, hw1⟩ : ∃ w1, (w.alloc (.cells #[.int .i64 1, .int .i64 n, .string s, .slice a l c, .slice a2 l2 d, .slice a3 l3 e] 41)) = w1 := ⟨_, rfl⟩
  have hk : Kp (fun _ => False) w w1 := by rw [← hw1]; exact ((Kp.refl _ w).alloc _)
  have hg : w1.heap[w.heap.size]? = some (.cells #[.int .i64 1, .int .i64 n, .string s, .slice a l c, .slice a2 l2 d, .slice a3 l3 e] 41 (0, 0)) := by
    rw [← hw1]
    exact heap_alloc_new w _
  have hr := tright_any (hT.kp hk (fun _ _ e => e))
  have Hw := Lib.hid (And.intro hw1 hr)
  clear hw1 hr
  go_enter Tryz.func131, Tryz.ntmps131
  go_wp2_with fail
  rw [Hw.out.1]
  refine Hw.out.2.mono ?_
  rintro e w3 ⟨⟨rfl, hf⟩ | ⟨v, m, kk, rfl, hch⟩, hk3⟩
  · have hg3 := (hk3.block _ (Array.getElem?_eq_some_iff.1 hg).1 (fun e => e)).trans hg
    have c0 : w3.cell? ⟨w.heap.size, 0, none⟩ = some (.int .i64 1) := by rw [cell_of_row w3 _ 0 _ _ _ hg3]; rfl
    have c1 : w3.cell? ⟨w.heap.size, 1, none⟩ = some (.int .i64 n) := by rw [cell_of_row w3 _ 1 _ _ _ hg3]; rfl
    have Hh := Lib.hid (And.intro hg3 (And.intro hk (And.intro hk3 hf)))
    clear hg hg3 hk hk3 hf
    go_wp2_with fail
    go_region
    go_wp2_with fail
    refine bodyPost_ret (v := .tuple #[.int .u64 (bits BinOp.or IntKind.u64 (IntKind.u64.wrap (IntKind.u64.wrap n * 8)) 0), .bool true, .nilIface]) (by simp [results, Tryz.results131, go_sem]) rfl ⟨.inl ⟨?_, Hh.out.2.2.2⟩, ?_⟩
    · rw [tagged n 0 (by omega) (by omega)]
    · exact (Hh.out.2.1.trans' Hh.out.2.2.1).drew
  · obtain ⟨gv, rfl⟩ := Chain.form (ChainB.out hch)
    have H3 := Lib.hid (And.intro (ChainB.le hk.size hch) (hk.trans' hk3))
    clear hch hk3 hk hg
    go_wp2_with (go_at_call 49; refine (at_any _ _ _ _ _).mono ?_; rintro e w' ⟨rfl, rfl⟩)
    go_ret3
    exact ⟨.inr ⟨_, _, _, rfl, (ChainB.cons smallS 0 (ChainB.kp ((Kp.refl (fun _ => False) w3).alloc _) (fun _ e => e.elim) H3.out.1) H3.out.2.size (heap_alloc_new w3 _))⟩, H3.out.2.alloc _⟩

set_option maxHeartbeats 400000 in
theorem small_less {F : Nat → Prop} {w : World} {h : Nat} {T : Tm} {n : Int} {s : ByteArray} {a a2 a3 : Option Addr} {l c l2 d l3 e : Nat} (hT : TermAt F w h T [.int .i64 1, .int .i64 n, .string s, .slice a l c, .slice a2 l2 d, .slice a3 l3 e]) (t : Value) (h1 : n < -1152921504606846976) :
    Calls Tryz.prog 131 #[.agg #[.int .i64 1, .int .i64 n, .string s, .slice a l c, .slice a2 l2 d, .slice a3 l3 e], t] w fun e w' => ((e = .returned (.tuple #[.int .u64 0, .bool false, .nilIface]) ∧ fitsB T = true) ∨ SBad w e w') ∧ Kp (fun _ => False) w w' := by
  obtain ⟨w1, hw1⟩ : ∃ w1, (w.alloc (.cells #[.int .i64 1, .int .i64 n, .string s, .slice a l c, .slice a2 l2 d, .slice a3 l3 e] 41)) = w1 := ⟨_, rfl⟩
  have hk : Kp (fun _ => False) w w1 := by rw [← hw1]; exact ((Kp.refl _ w).alloc _)
  have hg : w1.heap[w.heap.size]? = some (.cells #[.int .i64 1, .int .i64 n, .string s, .slice a l c, .slice a2 l2 d, .slice a3 l3 e] 41 (0, 0)) := by
    rw [← hw1]
    exact heap_alloc_new w _
  have hr := tright_any (hT.kp hk (fun _ _ e => e))
  have Hw := Lib.hid (And.intro hw1 hr)
  clear hw1 hr
  go_enter Tryz.func131, Tryz.ntmps131
  go_wp2_with fail
  rw [Hw.out.1]
  refine Hw.out.2.mono ?_
  rintro e w3 ⟨⟨rfl, hf⟩ | ⟨v, m, kk, rfl, hch⟩, hk3⟩
  · have hg3 := (hk3.block _ (Array.getElem?_eq_some_iff.1 hg).1 (fun e => e)).trans hg
    have c0 : w3.cell? ⟨w.heap.size, 0, none⟩ = some (.int .i64 1) := by rw [cell_of_row w3 _ 0 _ _ _ hg3]; rfl
    have c1 : w3.cell? ⟨w.heap.size, 1, none⟩ = some (.int .i64 n) := by rw [cell_of_row w3 _ 1 _ _ _ hg3]; rfl
    have Hh := Lib.hid (And.intro hg3 (And.intro hk (And.intro hk3 hf)))
    clear hg hg3 hk hk3 hf
    go_wp2_with fail
    go_region
    go_wp2_with fail
    go_ret3
    exact ⟨.inl ⟨rfl, Hh.out.2.2.2⟩, (Hh.out.2.1.trans' Hh.out.2.2.1).drew⟩
  · obtain ⟨gv, rfl⟩ := Chain.form (ChainB.out hch)
    have H3 := Lib.hid (And.intro (ChainB.le hk.size hch) (hk.trans' hk3))
    clear hch hk3 hk hg
    go_wp2_with (go_at_call 49; refine (at_any _ _ _ _ _).mono ?_; rintro e w' ⟨rfl, rfl⟩)
    go_ret3
    exact ⟨.inr ⟨_, _, _, rfl, (ChainB.cons smallS 0 (ChainB.kp ((Kp.refl (fun _ => False) w3).alloc _) (fun _ e => e.elim) H3.out.1) H3.out.2.size (heap_alloc_new w3 _))⟩, H3.out.2.alloc _⟩

set_option maxHeartbeats 400000 in
theorem small_more {F : Nat → Prop} {w : World} {h : Nat} {T : Tm} {n : Int} {s : ByteArray} {a a2 a3 : Option Addr} {l c l2 d l3 e : Nat} (hT : TermAt F w h T [.int .i64 1, .int .i64 n, .string s, .slice a l c, .slice a2 l2 d, .slice a3 l3 e]) (t : Value) (h1 : 1152921504606846975 < n) :
    Calls Tryz.prog 131 #[.agg #[.int .i64 1, .int .i64 n, .string s, .slice a l c, .slice a2 l2 d, .slice a3 l3 e], t] w fun e w' => ((e = .returned (.tuple #[.int .u64 0, .bool false, .nilIface]) ∧ fitsB T = true) ∨ SBad w e w') ∧ Kp (fun _ => False) w w' := by
  obtain ⟨w1, hw1⟩ : ∃ w1, (w.alloc (.cells #[.int .i64 1, .int .i64 n, .string s, .slice a l c, .slice a2 l2 d, .slice a3 l3 e] 41)) = w1 := ⟨_, rfl⟩
  have hk : Kp (fun _ => False) w w1 := by rw [← hw1]; exact ((Kp.refl _ w).alloc _)
  have hg : w1.heap[w.heap.size]? = some (.cells #[.int .i64 1, .int .i64 n, .string s, .slice a l c, .slice a2 l2 d, .slice a3 l3 e] 41 (0, 0)) := by
    rw [← hw1]
    exact heap_alloc_new w _
  have hr := tright_any (hT.kp hk (fun _ _ e => e))
  have Hw := Lib.hid (And.intro hw1 hr)
  clear hw1 hr
  go_enter Tryz.func131, Tryz.ntmps131
  go_wp2_with fail
  rw [Hw.out.1]
  refine Hw.out.2.mono ?_
  rintro e w3 ⟨⟨rfl, hf⟩ | ⟨v, m, kk, rfl, hch⟩, hk3⟩
  · have hg3 := (hk3.block _ (Array.getElem?_eq_some_iff.1 hg).1 (fun e => e)).trans hg
    have c0 : w3.cell? ⟨w.heap.size, 0, none⟩ = some (.int .i64 1) := by rw [cell_of_row w3 _ 0 _ _ _ hg3]; rfl
    have c1 : w3.cell? ⟨w.heap.size, 1, none⟩ = some (.int .i64 n) := by rw [cell_of_row w3 _ 1 _ _ _ hg3]; rfl
    have Hh := Lib.hid (And.intro hg3 (And.intro hk (And.intro hk3 hf)))
    clear hg hg3 hk hk3 hf
    go_wp2_with fail
    go_region
    go_wp2_with fail
    go_ret3
    exact ⟨.inl ⟨rfl, Hh.out.2.2.2⟩, (Hh.out.2.1.trans' Hh.out.2.2.1).drew⟩
  · obtain ⟨gv, rfl⟩ := Chain.form (ChainB.out hch)
    have H3 := Lib.hid (And.intro (ChainB.le hk.size hch) (hk.trans' hk3))
    clear hch hk3 hk hg
    go_wp2_with (go_at_call 49; refine (at_any _ _ _ _ _).mono ?_; rintro e w' ⟨rfl, rfl⟩)
    go_ret3
    exact ⟨.inr ⟨_, _, _, rfl, (ChainB.cons smallS 0 (ChainB.kp ((Kp.refl (fun _ => False) w3).alloc _) (fun _ e => e.elim) H3.out.1) H3.out.2.size (heap_alloc_new w3 _))⟩, H3.out.2.alloc _⟩

set_option maxHeartbeats 400000 in
theorem small_ref {F : Nat → Prop} {w : World} {h : Nat} {T : Tm} {n : Int} {s : ByteArray} {a a2 a3 : Option Addr} {l c l2 d l3 e : Nat} (hT : TermAt F w h T [.int .i64 3, .int .i64 n, .string s, .slice a l c, .slice a2 l2 d, .slice a3 l3 e]) (t : Value) :
    Calls Tryz.prog 131 #[.agg #[.int .i64 3, .int .i64 n, .string s, .slice a l c, .slice a2 l2 d, .slice a3 l3 e], t] w fun e w' => ((e = .returned (.tuple #[.int .u64 (n * 8 % 18446744073709551616 + 3), .bool true, .nilIface]) ∧ fitsB T = true) ∨ SBad w e w') ∧ Kp (fun _ => False) w w' := by
  obtain ⟨w1, hw1⟩ : ∃ w1, (w.alloc (.cells #[.int .i64 3, .int .i64 n, .string s, .slice a l c, .slice a2 l2 d, .slice a3 l3 e] 41)) = w1 := ⟨_, rfl⟩
  have hk : Kp (fun _ => False) w w1 := by rw [← hw1]; exact ((Kp.refl _ w).alloc _)
  have hg : w1.heap[w.heap.size]? = some (.cells #[.int .i64 3, .int .i64 n, .string s, .slice a l c, .slice a2 l2 d, .slice a3 l3 e] 41 (0, 0)) := by
    rw [← hw1]
    exact heap_alloc_new w _
  have hr := tright_any (hT.kp hk (fun _ _ e => e))
  have Hw := Lib.hid (And.intro hw1 hr)
  clear hw1 hr
  go_enter Tryz.func131, Tryz.ntmps131
  go_wp2_with fail
  rw [Hw.out.1]
  refine Hw.out.2.mono ?_
  rintro e w3 ⟨⟨rfl, hf⟩ | ⟨v, m, kk, rfl, hch⟩, hk3⟩
  · have hg3 := (hk3.block _ (Array.getElem?_eq_some_iff.1 hg).1 (fun e => e)).trans hg
    have c0 : w3.cell? ⟨w.heap.size, 0, none⟩ = some (.int .i64 3) := by rw [cell_of_row w3 _ 0 _ _ _ hg3]; rfl
    have c1 : w3.cell? ⟨w.heap.size, 1, none⟩ = some (.int .i64 n) := by rw [cell_of_row w3 _ 1 _ _ _ hg3]; rfl
    have Hh := Lib.hid (And.intro hg3 (And.intro hk (And.intro hk3 hf)))
    clear hg hg3 hk hk3 hf
    go_wp2_with fail
    go_region
    go_wp2_with fail
    refine bodyPost_ret (v := .tuple #[.int .u64 (bits BinOp.or IntKind.u64 (IntKind.u64.wrap (IntKind.u64.wrap n * 8)) 3), .bool true, .nilIface]) (by simp [results, Tryz.results131, go_sem]) rfl ⟨.inl ⟨?_, Hh.out.2.2.2⟩, ?_⟩
    · rw [tagged n 3 (by omega) (by omega)]
    · exact (Hh.out.2.1.trans' Hh.out.2.2.1).drew
  · obtain ⟨gv, rfl⟩ := Chain.form (ChainB.out hch)
    have H3 := Lib.hid (And.intro (ChainB.le hk.size hch) (hk.trans' hk3))
    clear hch hk3 hk hg
    go_wp2_with (go_at_call 49; refine (at_any _ _ _ _ _).mono ?_; rintro e w' ⟨rfl, rfl⟩)
    go_ret3
    exact ⟨.inr ⟨_, _, _, rfl, (ChainB.cons smallS 0 (ChainB.kp ((Kp.refl (fun _ => False) w3).alloc _) (fun _ e => e.elim) H3.out.1) H3.out.2.size (heap_alloc_new w3 _))⟩, H3.out.2.alloc _⟩

set_option maxHeartbeats 400000 in
theorem small_pid {F : Nat → Prop} {w : World} {h : Nat} {T : Tm} {n : Int} {s : ByteArray} {a a2 a3 : Option Addr} {l c l2 d l3 e : Nat} (hT : TermAt F w h T [.int .i64 4, .int .i64 n, .string s, .slice a l c, .slice a2 l2 d, .slice a3 l3 e]) (t : Value) :
    Calls Tryz.prog 131 #[.agg #[.int .i64 4, .int .i64 n, .string s, .slice a l c, .slice a2 l2 d, .slice a3 l3 e], t] w fun e w' => ((e = .returned (.tuple #[.int .u64 (n * 8 % 18446744073709551616 + 2), .bool true, .nilIface]) ∧ fitsB T = true) ∨ SBad w e w') ∧ Kp (fun _ => False) w w' := by
  obtain ⟨w1, hw1⟩ : ∃ w1, (w.alloc (.cells #[.int .i64 4, .int .i64 n, .string s, .slice a l c, .slice a2 l2 d, .slice a3 l3 e] 41)) = w1 := ⟨_, rfl⟩
  have hk : Kp (fun _ => False) w w1 := by rw [← hw1]; exact ((Kp.refl _ w).alloc _)
  have hg : w1.heap[w.heap.size]? = some (.cells #[.int .i64 4, .int .i64 n, .string s, .slice a l c, .slice a2 l2 d, .slice a3 l3 e] 41 (0, 0)) := by
    rw [← hw1]
    exact heap_alloc_new w _
  have hr := tright_any (hT.kp hk (fun _ _ e => e))
  have Hw := Lib.hid (And.intro hw1 hr)
  clear hw1 hr
  go_enter Tryz.func131, Tryz.ntmps131
  go_wp2_with fail
  rw [Hw.out.1]
  refine Hw.out.2.mono ?_
  rintro e w3 ⟨⟨rfl, hf⟩ | ⟨v, m, kk, rfl, hch⟩, hk3⟩
  · have hg3 := (hk3.block _ (Array.getElem?_eq_some_iff.1 hg).1 (fun e => e)).trans hg
    have c0 : w3.cell? ⟨w.heap.size, 0, none⟩ = some (.int .i64 4) := by rw [cell_of_row w3 _ 0 _ _ _ hg3]; rfl
    have c1 : w3.cell? ⟨w.heap.size, 1, none⟩ = some (.int .i64 n) := by rw [cell_of_row w3 _ 1 _ _ _ hg3]; rfl
    have Hh := Lib.hid (And.intro hg3 (And.intro hk (And.intro hk3 hf)))
    clear hg hg3 hk hk3 hf
    go_wp2_with fail
    go_region
    go_wp2_with fail
    refine bodyPost_ret (v := .tuple #[.int .u64 (bits BinOp.or IntKind.u64 (IntKind.u64.wrap (IntKind.u64.wrap n * 8)) 2), .bool true, .nilIface]) (by simp [results, Tryz.results131, go_sem]) rfl ⟨.inl ⟨?_, Hh.out.2.2.2⟩, ?_⟩
    · rw [tagged n 2 (by omega) (by omega)]
    · exact (Hh.out.2.1.trans' Hh.out.2.2.1).drew
  · obtain ⟨gv, rfl⟩ := Chain.form (ChainB.out hch)
    have H3 := Lib.hid (And.intro (ChainB.le hk.size hch) (hk.trans' hk3))
    clear hch hk3 hk hg
    go_wp2_with (go_at_call 49; refine (at_any _ _ _ _ _).mono ?_; rintro e w' ⟨rfl, rfl⟩)
    go_ret3
    exact ⟨.inr ⟨_, _, _, rfl, (ChainB.cons smallS 0 (ChainB.kp ((Kp.refl (fun _ => False) w3).alloc _) (fun _ e => e.elim) H3.out.1) H3.out.2.size (heap_alloc_new w3 _))⟩, H3.out.2.alloc _⟩

set_option maxHeartbeats 400000 in
theorem small_nil {F : Nat → Prop} {w : World} {h : Nat} {T : Tm} {n : Int} {s : ByteArray} {a a2 a3 : Option Addr} {l c l2 d l3 e : Nat} (hT : TermAt F w h T [.int .i64 6, .int .i64 n, .string s, .slice a l c, .slice a2 l2 d, .slice a3 l3 e]) (t : Value) :
    Calls Tryz.prog 131 #[.agg #[.int .i64 6, .int .i64 n, .string s, .slice a l c, .slice a2 l2 d, .slice a3 l3 e], t] w fun e w' => ((e = .returned (.tuple #[.int .u64 (n * 8 % 18446744073709551616 + 4), .bool true, .nilIface]) ∧ fitsB T = true) ∨ SBad w e w') ∧ Kp (fun _ => False) w w' := by
  obtain ⟨w1, hw1⟩ : ∃ w1, (w.alloc (.cells #[.int .i64 6, .int .i64 n, .string s, .slice a l c, .slice a2 l2 d, .slice a3 l3 e] 41)) = w1 := ⟨_, rfl⟩
  have hk : Kp (fun _ => False) w w1 := by rw [← hw1]; exact ((Kp.refl _ w).alloc _)
  have hg : w1.heap[w.heap.size]? = some (.cells #[.int .i64 6, .int .i64 n, .string s, .slice a l c, .slice a2 l2 d, .slice a3 l3 e] 41 (0, 0)) := by
    rw [← hw1]
    exact heap_alloc_new w _
  have hr := tright_any (hT.kp hk (fun _ _ e => e))
  have Hw := Lib.hid (And.intro hw1 hr)
  clear hw1 hr
  go_enter Tryz.func131, Tryz.ntmps131
  go_wp2_with fail
  rw [Hw.out.1]
  refine Hw.out.2.mono ?_
  rintro e w3 ⟨⟨rfl, hf⟩ | ⟨v, m, kk, rfl, hch⟩, hk3⟩
  · have hg3 := (hk3.block _ (Array.getElem?_eq_some_iff.1 hg).1 (fun e => e)).trans hg
    have c0 : w3.cell? ⟨w.heap.size, 0, none⟩ = some (.int .i64 6) := by rw [cell_of_row w3 _ 0 _ _ _ hg3]; rfl
    have c1 : w3.cell? ⟨w.heap.size, 1, none⟩ = some (.int .i64 n) := by rw [cell_of_row w3 _ 1 _ _ _ hg3]; rfl
    have Hh := Lib.hid (And.intro hg3 (And.intro hk (And.intro hk3 hf)))
    clear hg hg3 hk hk3 hf
    go_wp2_with fail
    go_region
    go_wp2_with fail
    refine bodyPost_ret (v := .tuple #[.int .u64 (bits BinOp.or IntKind.u64 (IntKind.u64.wrap (IntKind.u64.wrap n * 8)) 4), .bool true, .nilIface]) (by simp [results, Tryz.results131, go_sem]) rfl ⟨.inl ⟨?_, Hh.out.2.2.2⟩, ?_⟩
    · rw [tagged n 4 (by omega) (by omega)]
    · exact (Hh.out.2.1.trans' Hh.out.2.2.1).drew
  · obtain ⟨gv, rfl⟩ := Chain.form (ChainB.out hch)
    have H3 := Lib.hid (And.intro (ChainB.le hk.size hch) (hk.trans' hk3))
    clear hch hk3 hk hg
    go_wp2_with (go_at_call 49; refine (at_any _ _ _ _ _).mono ?_; rintro e w' ⟨rfl, rfl⟩)
    go_ret3
    exact ⟨.inr ⟨_, _, _, rfl, (ChainB.cons smallS 0 (ChainB.kp ((Kp.refl (fun _ => False) w3).alloc _) (fun _ e => e.elim) H3.out.1) H3.out.2.size (heap_alloc_new w3 _))⟩, H3.out.2.alloc _⟩

set_option maxHeartbeats 400000 in
theorem small_kind5 {F : Nat → Prop} {w : World} {h : Nat} {T : Tm} {n : Int} {s : ByteArray} {a a2 a3 : Option Addr} {l c l2 d l3 e : Nat} (hT : TermAt F w h T [.int .i64 5, .int .i64 n, .string s, .slice a l c, .slice a2 l2 d, .slice a3 l3 e]) (t : Value) :
    Calls Tryz.prog 131 #[.agg #[.int .i64 5, .int .i64 n, .string s, .slice a l c, .slice a2 l2 d, .slice a3 l3 e], t] w fun e w' => ((e = .returned (.tuple #[.int .u64 0, .bool false, .nilIface]) ∧ fitsB T = true) ∨ SBad w e w') ∧ Kp (fun _ => False) w w' := by
  obtain ⟨w1, hw1⟩ : ∃ w1, (w.alloc (.cells #[.int .i64 5, .int .i64 n, .string s, .slice a l c, .slice a2 l2 d, .slice a3 l3 e] 41)) = w1 := ⟨_, rfl⟩
  have hk : Kp (fun _ => False) w w1 := by rw [← hw1]; exact ((Kp.refl _ w).alloc _)
  have hg : w1.heap[w.heap.size]? = some (.cells #[.int .i64 5, .int .i64 n, .string s, .slice a l c, .slice a2 l2 d, .slice a3 l3 e] 41 (0, 0)) := by
    rw [← hw1]
    exact heap_alloc_new w _
  have hr := tright_any (hT.kp hk (fun _ _ e => e))
  have Hw := Lib.hid (And.intro hw1 hr)
  clear hw1 hr
  go_enter Tryz.func131, Tryz.ntmps131
  go_wp2_with fail
  rw [Hw.out.1]
  refine Hw.out.2.mono ?_
  rintro e w3 ⟨⟨rfl, hf⟩ | ⟨v, m, kk, rfl, hch⟩, hk3⟩
  · have hg3 := (hk3.block _ (Array.getElem?_eq_some_iff.1 hg).1 (fun e => e)).trans hg
    have c0 : w3.cell? ⟨w.heap.size, 0, none⟩ = some (.int .i64 5) := by rw [cell_of_row w3 _ 0 _ _ _ hg3]; rfl
    have c1 : w3.cell? ⟨w.heap.size, 1, none⟩ = some (.int .i64 n) := by rw [cell_of_row w3 _ 1 _ _ _ hg3]; rfl
    have Hh := Lib.hid (And.intro hg3 (And.intro hk (And.intro hk3 hf)))
    clear hg hg3 hk hk3 hf
    go_wp2_with fail
    go_region
    go_wp2_with fail
    go_ret3
    exact ⟨.inl ⟨rfl, Hh.out.2.2.2⟩, (Hh.out.2.1.trans' Hh.out.2.2.1).drew⟩
  · obtain ⟨gv, rfl⟩ := Chain.form (ChainB.out hch)
    have H3 := Lib.hid (And.intro (ChainB.le hk.size hch) (hk.trans' hk3))
    clear hch hk3 hk hg
    go_wp2_with (go_at_call 49; refine (at_any _ _ _ _ _).mono ?_; rintro e w' ⟨rfl, rfl⟩)
    go_ret3
    exact ⟨.inr ⟨_, _, _, rfl, (ChainB.cons smallS 0 (ChainB.kp ((Kp.refl (fun _ => False) w3).alloc _) (fun _ e => e.elim) H3.out.1) H3.out.2.size (heap_alloc_new w3 _))⟩, H3.out.2.alloc _⟩

set_option maxHeartbeats 400000 in
theorem small_kind7 {F : Nat → Prop} {w : World} {h : Nat} {T : Tm} {n : Int} {s : ByteArray} {a a2 a3 : Option Addr} {l c l2 d l3 e : Nat} (hT : TermAt F w h T [.int .i64 7, .int .i64 n, .string s, .slice a l c, .slice a2 l2 d, .slice a3 l3 e]) (t : Value) :
    Calls Tryz.prog 131 #[.agg #[.int .i64 7, .int .i64 n, .string s, .slice a l c, .slice a2 l2 d, .slice a3 l3 e], t] w fun e w' => ((e = .returned (.tuple #[.int .u64 0, .bool false, .nilIface]) ∧ fitsB T = true) ∨ SBad w e w') ∧ Kp (fun _ => False) w w' := by
  obtain ⟨w1, hw1⟩ : ∃ w1, (w.alloc (.cells #[.int .i64 7, .int .i64 n, .string s, .slice a l c, .slice a2 l2 d, .slice a3 l3 e] 41)) = w1 := ⟨_, rfl⟩
  have hk : Kp (fun _ => False) w w1 := by rw [← hw1]; exact ((Kp.refl _ w).alloc _)
  have hg : w1.heap[w.heap.size]? = some (.cells #[.int .i64 7, .int .i64 n, .string s, .slice a l c, .slice a2 l2 d, .slice a3 l3 e] 41 (0, 0)) := by
    rw [← hw1]
    exact heap_alloc_new w _
  have hr := tright_any (hT.kp hk (fun _ _ e => e))
  have Hw := Lib.hid (And.intro hw1 hr)
  clear hw1 hr
  go_enter Tryz.func131, Tryz.ntmps131
  go_wp2_with fail
  rw [Hw.out.1]
  refine Hw.out.2.mono ?_
  rintro e w3 ⟨⟨rfl, hf⟩ | ⟨v, m, kk, rfl, hch⟩, hk3⟩
  · have hg3 := (hk3.block _ (Array.getElem?_eq_some_iff.1 hg).1 (fun e => e)).trans hg
    have c0 : w3.cell? ⟨w.heap.size, 0, none⟩ = some (.int .i64 7) := by rw [cell_of_row w3 _ 0 _ _ _ hg3]; rfl
    have c1 : w3.cell? ⟨w.heap.size, 1, none⟩ = some (.int .i64 n) := by rw [cell_of_row w3 _ 1 _ _ _ hg3]; rfl
    have Hh := Lib.hid (And.intro hg3 (And.intro hk (And.intro hk3 hf)))
    clear hg hg3 hk hk3 hf
    go_wp2_with fail
    go_region
    go_wp2_with fail
    go_ret3
    exact ⟨.inl ⟨rfl, Hh.out.2.2.2⟩, (Hh.out.2.1.trans' Hh.out.2.2.1).drew⟩
  · obtain ⟨gv, rfl⟩ := Chain.form (ChainB.out hch)
    have H3 := Lib.hid (And.intro (ChainB.le hk.size hch) (hk.trans' hk3))
    clear hch hk3 hk hg
    go_wp2_with (go_at_call 49; refine (at_any _ _ _ _ _).mono ?_; rintro e w' ⟨rfl, rfl⟩)
    go_ret3
    exact ⟨.inr ⟨_, _, _, rfl, (ChainB.cons smallS 0 (ChainB.kp ((Kp.refl (fun _ => False) w3).alloc _) (fun _ e => e.elim) H3.out.1) H3.out.2.size (heap_alloc_new w3 _))⟩, H3.out.2.alloc _⟩

set_option maxHeartbeats 400000 in
theorem small_kind8 {F : Nat → Prop} {w : World} {h : Nat} {T : Tm} {n : Int} {s : ByteArray} {a a2 a3 : Option Addr} {l c l2 d l3 e : Nat} (hT : TermAt F w h T [.int .i64 8, .int .i64 n, .string s, .slice a l c, .slice a2 l2 d, .slice a3 l3 e]) (t : Value) :
    Calls Tryz.prog 131 #[.agg #[.int .i64 8, .int .i64 n, .string s, .slice a l c, .slice a2 l2 d, .slice a3 l3 e], t] w fun e w' => ((e = .returned (.tuple #[.int .u64 0, .bool false, .nilIface]) ∧ fitsB T = true) ∨ SBad w e w') ∧ Kp (fun _ => False) w w' := by
  obtain ⟨w1, hw1⟩ : ∃ w1, (w.alloc (.cells #[.int .i64 8, .int .i64 n, .string s, .slice a l c, .slice a2 l2 d, .slice a3 l3 e] 41)) = w1 := ⟨_, rfl⟩
  have hk : Kp (fun _ => False) w w1 := by rw [← hw1]; exact ((Kp.refl _ w).alloc _)
  have hg : w1.heap[w.heap.size]? = some (.cells #[.int .i64 8, .int .i64 n, .string s, .slice a l c, .slice a2 l2 d, .slice a3 l3 e] 41 (0, 0)) := by
    rw [← hw1]
    exact heap_alloc_new w _
  have hr := tright_any (hT.kp hk (fun _ _ e => e))
  have Hw := Lib.hid (And.intro hw1 hr)
  clear hw1 hr
  go_enter Tryz.func131, Tryz.ntmps131
  go_wp2_with fail
  rw [Hw.out.1]
  refine Hw.out.2.mono ?_
  rintro e w3 ⟨⟨rfl, hf⟩ | ⟨v, m, kk, rfl, hch⟩, hk3⟩
  · have hg3 := (hk3.block _ (Array.getElem?_eq_some_iff.1 hg).1 (fun e => e)).trans hg
    have c0 : w3.cell? ⟨w.heap.size, 0, none⟩ = some (.int .i64 8) := by rw [cell_of_row w3 _ 0 _ _ _ hg3]; rfl
    have c1 : w3.cell? ⟨w.heap.size, 1, none⟩ = some (.int .i64 n) := by rw [cell_of_row w3 _ 1 _ _ _ hg3]; rfl
    have Hh := Lib.hid (And.intro hg3 (And.intro hk (And.intro hk3 hf)))
    clear hg hg3 hk hk3 hf
    go_wp2_with fail
    go_region
    go_wp2_with fail
    go_ret3
    exact ⟨.inl ⟨rfl, Hh.out.2.2.2⟩, (Hh.out.2.1.trans' Hh.out.2.2.1).drew⟩
  · obtain ⟨gv, rfl⟩ := Chain.form (ChainB.out hch)
    have H3 := Lib.hid (And.intro (ChainB.le hk.size hch) (hk.trans' hk3))
    clear hch hk3 hk hg
    go_wp2_with (go_at_call 49; refine (at_any _ _ _ _ _).mono ?_; rintro e w' ⟨rfl, rfl⟩)
    go_ret3
    exact ⟨.inr ⟨_, _, _, rfl, (ChainB.cons smallS 0 (ChainB.kp ((Kp.refl (fun _ => False) w3).alloc _) (fun _ e => e.elim) H3.out.1) H3.out.2.size (heap_alloc_new w3 _))⟩, H3.out.2.alloc _⟩

end Go.Proofs.YtkcmfldcdokobaaGreatDoor
