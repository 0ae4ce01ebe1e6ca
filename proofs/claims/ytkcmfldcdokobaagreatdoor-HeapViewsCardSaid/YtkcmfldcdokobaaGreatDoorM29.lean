/- word.Small of a term that may be. A term that is laid, as plain data; a Store under way in memory; how its methods end. -/
import Derived.Test.YtkcmfldcdokobaaGreatDoorM25
import Derived.Test.YtkcmfldcdokobaaGreatDoorM28
/- word.Small of a term that may be. -/
namespace Go.Proofs.YtkcmfldcdokobaaGreatDoor
open Go.RowKit

set_option maxHeartbeats 400000 in
theorem smallok_num {F : Nat → Prop} {w : World} {h : Nat} {T : Tm} {n : Int} {s : ByteArray} {a a2 a3 : Option Addr} {l c l2 d l3 e : Nat} (hT : TermAt F w h T [.int .i64 1, .int .i64 n, .string s, .slice a l c, .slice a2 l2 d, .slice a3 l3 e]) (t : Value) (h1 : -1152921504606846976 ≤ n) (h2 : n ≤ 1152921504606846975) (hok : tok 200 T ∧ tsz h T ≤ 65536) :
    Calls Tryz.prog 131 #[.agg #[.int .i64 1, .int .i64 n, .string s, .slice a l c, .slice a2 l2 d, .slice a3 l3 e], t] w fun e w' => (e = .returned (.tuple #[.int .u64 (n * 8 % 18446744073709551616 + 0), .bool true, .nilIface])) ∧ Kp (fun _ => False) w w' := by
  obtain ⟨w1, hw1⟩ : ∃ w1, (w.alloc (.cells #[.int .i64 1, .int .i64 n, .string s, .slice a l c, .slice a2 l2 d, .slice a3 l3 e] 41)) = w1 := ⟨_, rfl⟩
  have hk : Kp (fun _ => False) w w1 := by rw [← hw1]; exact ((Kp.refl _ w).alloc _)
  have hg : w1.heap[w.heap.size]? = some (.cells #[.int .i64 1, .int .i64 n, .string s, .slice a l c, .slice a2 l2 d, .slice a3 l3 e] 41 (0, 0)) := by
    rw [← hw1]
    exact heap_alloc_new w _
  have hr := tright_deep (hT.kp hk (fun _ _ e => e))
  have Hw := Lib.hid (And.intro hw1 hr)
  clear hw1 hr
  go_enter Tryz.func131, Tryz.ntmps131
  go_wp2_with fail
  rw [Hw.out.1]
  refine Hw.out.2.mono ?_
  rintro e w3 ⟨⟨rfl, hf⟩ | ⟨_, hno⟩, hk3⟩
  · have hg3 := (hk3.block _ (Array.getElem?_eq_some_iff.1 hg).1 (fun e => e)).trans hg
    have c0 : w3.cell? ⟨w.heap.size, 0, none⟩ = some (.int .i64 1) := by rw [cell_of_row w3 _ 0 _ _ _ hg3]; rfl
    have c1 : w3.cell? ⟨w.heap.size, 1, none⟩ = some (.int .i64 n) := by rw [cell_of_row w3 _ 1 _ _ _ hg3]; rfl
    have Hh := Lib.hid (And.intro hg3 (And.intro hk (And.intro hk3 hf)))
    clear hg hg3 hk hk3 hf
    go_wp2_with fail
    go_region
    go_wp2_with fail
    refine bodyPost_ret (v := .tuple #[.int .u64 (bits BinOp.or IntKind.u64 (IntKind.u64.wrap (IntKind.u64.wrap n * 8)) 0), .bool true, .nilIface]) (by simp [results, Tryz.results131, go_sem]) rfl ⟨?_, ?_⟩
    · rw [tagged n 0 (by omega) (by omega)]
    · exact (Hh.out.2.1.trans' Hh.out.2.2.1).drew
  · exact absurd hok hno

set_option maxHeartbeats 400000 in
theorem smallok_less {F : Nat → Prop} {w : World} {h : Nat} {T : Tm} {n : Int} {s : ByteArray} {a a2 a3 : Option Addr} {l c l2 d l3 e : Nat} (hT : TermAt F w h T [.int .i64 1, .int .i64 n, .string s, .slice a l c, .slice a2 l2 d, .slice a3 l3 e]) (t : Value) (h1 : n < -1152921504606846976) (hok : tok 200 T ∧ tsz h T ≤ 65536) :
    Calls Tryz.prog 131 #[.agg #[.int .i64 1, .int .i64 n, .string s, .slice a l c, .slice a2 l2 d, .slice a3 l3 e], t] w fun e w' => (e = .returned (.tuple #[.int .u64 0, .bool false, .nilIface])) ∧ Kp (fun _ => False) w w' := by
  obtain ⟨w1, hw1⟩ : ∃ w1, (w.alloc (.cells #[.int .i64 1, .int .i64 n, .string s, .slice a l c, .slice a2 l2 d, .slice a3 l3 e] 41)) = w1 := ⟨_, rfl⟩
  have hk : Kp (fun _ => False) w w1 := by rw [← hw1]; exact ((Kp.refl _ w).alloc _)
  have hg : w1.heap[w.heap.size]? = some (.cells #[.int .i64 1, .int .i64 n, .string s, .slice a l c, .slice a2 l2 d, .slice a3 l3 e] 41 (0, 0)) := by
    rw [← hw1]
    exact heap_alloc_new w _
  have hr := tright_deep (hT.kp hk (fun _ _ e => e))
  have Hw := Lib.hid (And.intro hw1 hr)
  clear hw1 hr
  go_enter Tryz.func131, Tryz.ntmps131
  go_wp2_with fail
  rw [Hw.out.1]
  refine Hw.out.2.mono ?_
  rintro e w3 ⟨⟨rfl, hf⟩ | ⟨_, hno⟩, hk3⟩
  · have hg3 := (hk3.block _ (Array.getElem?_eq_some_iff.1 hg).1 (fun e => e)).trans hg
    have c0 : w3.cell? ⟨w.heap.size, 0, none⟩ = some (.int .i64 1) := by rw [cell_of_row w3 _ 0 _ _ _ hg3]; rfl
    have c1 : w3.cell? ⟨w.heap.size, 1, none⟩ = some (.int .i64 n) := by rw [cell_of_row w3 _ 1 _ _ _ hg3]; rfl
    have Hh := Lib.hid (And.intro hg3 (And.intro hk (And.intro hk3 hf)))
    clear hg hg3 hk hk3 hf
    go_wp2_with fail
    go_region
    go_wp2_with fail
    go_ret3
    exact ⟨rfl, (Hh.out.2.1.trans' Hh.out.2.2.1).drew⟩
  · exact absurd hok hno

set_option maxHeartbeats 400000 in
theorem smallok_more {F : Nat → Prop} {w : World} {h : Nat} {T : Tm} {n : Int} {s : ByteArray} {a a2 a3 : Option Addr} {l c l2 d l3 e : Nat} (hT : TermAt F w h T [.int .i64 1, .int .i64 n, .string s, .slice a l c, .slice a2 l2 d, .slice a3 l3 e]) (t : Value) (h1 : 1152921504606846975 < n) (hok : tok 200 T ∧ tsz h T ≤ 65536) :
    Calls Tryz.prog 131 #[.agg #[.int .i64 1, .int .i64 n, .string s, .slice a l c, .slice a2 l2 d, .slice a3 l3 e], t] w fun e w' => (e = .returned (.tuple #[.int .u64 0, .bool false, .nilIface])) ∧ Kp (fun _ => False) w w' := by
  obtain ⟨w1, hw1⟩ : ∃ w1, (w.alloc (.cells #[.int .i64 1, .int .i64 n, .string s, .slice a l c, .slice a2 l2 d, .slice a3 l3 e] 41)) = w1 := ⟨_, rfl⟩
  have hk : Kp (fun _ => False) w w1 := by rw [← hw1]; exact ((Kp.refl _ w).alloc _)
  have hg : w1.heap[w.heap.size]? = some (.cells #[.int .i64 1, .int .i64 n, .string s, .slice a l c, .slice a2 l2 d, .slice a3 l3 e] 41 (0, 0)) := by
    rw [← hw1]
    exact heap_alloc_new w _
  have hr := tright_deep (hT.kp hk (fun _ _ e => e))
  have Hw := Lib.hid (And.intro hw1 hr)
  clear hw1 hr
  go_enter Tryz.func131, Tryz.ntmps131
  go_wp2_with fail
  rw [Hw.out.1]
  refine Hw.out.2.mono ?_
  rintro e w3 ⟨⟨rfl, hf⟩ | ⟨_, hno⟩, hk3⟩
  · have hg3 := (hk3.block _ (Array.getElem?_eq_some_iff.1 hg).1 (fun e => e)).trans hg
    have c0 : w3.cell? ⟨w.heap.size, 0, none⟩ = some (.int .i64 1) := by rw [cell_of_row w3 _ 0 _ _ _ hg3]; rfl
    have c1 : w3.cell? ⟨w.heap.size, 1, none⟩ = some (.int .i64 n) := by rw [cell_of_row w3 _ 1 _ _ _ hg3]; rfl
    have Hh := Lib.hid (And.intro hg3 (And.intro hk (And.intro hk3 hf)))
    clear hg hg3 hk hk3 hf
    go_wp2_with fail
    go_region
    go_wp2_with fail
    go_ret3
    exact ⟨rfl, (Hh.out.2.1.trans' Hh.out.2.2.1).drew⟩
  · exact absurd hok hno

set_option maxHeartbeats 400000 in
theorem smallok_ref {F : Nat → Prop} {w : World} {h : Nat} {T : Tm} {n : Int} {s : ByteArray} {a a2 a3 : Option Addr} {l c l2 d l3 e : Nat} (hT : TermAt F w h T [.int .i64 3, .int .i64 n, .string s, .slice a l c, .slice a2 l2 d, .slice a3 l3 e]) (t : Value) (hok : tok 200 T ∧ tsz h T ≤ 65536) :
    Calls Tryz.prog 131 #[.agg #[.int .i64 3, .int .i64 n, .string s, .slice a l c, .slice a2 l2 d, .slice a3 l3 e], t] w fun e w' => (e = .returned (.tuple #[.int .u64 (n * 8 % 18446744073709551616 + 3), .bool true, .nilIface])) ∧ Kp (fun _ => False) w w' := by
  obtain ⟨w1, hw1⟩ : ∃ w1, (w.alloc (.cells #[.int .i64 3, .int .i64 n, .string s, .slice a l c, .slice a2 l2 d, .slice a3 l3 e] 41)) = w1 := ⟨_, rfl⟩
  have hk : Kp (fun _ => False) w w1 := by rw [← hw1]; exact ((Kp.refl _ w).alloc _)
  have hg : w1.heap[w.heap.size]? = some (.cells #[.int .i64 3, .int .i64 n, .string s, .slice a l c, .slice a2 l2 d, .slice a3 l3 e] 41 (0, 0)) := by
    rw [← hw1]
    exact heap_alloc_new w _
  have hr := tright_deep (hT.kp hk (fun _ _ e => e))
  have Hw := Lib.hid (And.intro hw1 hr)
  clear hw1 hr
  go_enter Tryz.func131, Tryz.ntmps131
  go_wp2_with fail
  rw [Hw.out.1]
  refine Hw.out.2.mono ?_
  rintro e w3 ⟨⟨rfl, hf⟩ | ⟨_, hno⟩, hk3⟩
  · have hg3 := (hk3.block _ (Array.getElem?_eq_some_iff.1 hg).1 (fun e => e)).trans hg
    have c0 : w3.cell? ⟨w.heap.size, 0, none⟩ = some (.int .i64 3) := by rw [cell_of_row w3 _ 0 _ _ _ hg3]; rfl
    have c1 : w3.cell? ⟨w.heap.size, 1, none⟩ = some (.int .i64 n) := by rw [cell_of_row w3 _ 1 _ _ _ hg3]; rfl
    have Hh := Lib.hid (And.intro hg3 (And.intro hk (And.intro hk3 hf)))
    clear hg hg3 hk hk3 hf
    go_wp2_with fail
    go_region
    go_wp2_with fail
    refine bodyPost_ret (v := .tuple #[.int .u64 (bits BinOp.or IntKind.u64 (IntKind.u64.wrap (IntKind.u64.wrap n * 8)) 3), .bool true, .nilIface]) (by simp [results, Tryz.results131, go_sem]) rfl ⟨?_, ?_⟩
    · rw [tagged n 3 (by omega) (by omega)]
    · exact (Hh.out.2.1.trans' Hh.out.2.2.1).drew
  · exact absurd hok hno

set_option maxHeartbeats 400000 in
theorem smallok_pid {F : Nat → Prop} {w : World} {h : Nat} {T : Tm} {n : Int} {s : ByteArray} {a a2 a3 : Option Addr} {l c l2 d l3 e : Nat} (hT : TermAt F w h T [.int .i64 4, .int .i64 n, .string s, .slice a l c, .slice a2 l2 d, .slice a3 l3 e]) (t : Value) (hok : tok 200 T ∧ tsz h T ≤ 65536) :
    Calls Tryz.prog 131 #[.agg #[.int .i64 4, .int .i64 n, .string s, .slice a l c, .slice a2 l2 d, .slice a3 l3 e], t] w fun e w' => (e = .returned (.tuple #[.int .u64 (n * 8 % 18446744073709551616 + 2), .bool true, .nilIface])) ∧ Kp (fun _ => False) w w' := by
  obtain ⟨w1, hw1⟩ : ∃ w1, (w.alloc (.cells #[.int .i64 4, .int .i64 n, .string s, .slice a l c, .slice a2 l2 d, .slice a3 l3 e] 41)) = w1 := ⟨_, rfl⟩
  have hk : Kp (fun _ => False) w w1 := by rw [← hw1]; exact ((Kp.refl _ w).alloc _)
  have hg : w1.heap[w.heap.size]? = some (.cells #[.int .i64 4, .int .i64 n, .string s, .slice a l c, .slice a2 l2 d, .slice a3 l3 e] 41 (0, 0)) := by
    rw [← hw1]
    exact heap_alloc_new w _
  have hr := tright_deep (hT.kp hk (fun _ _ e => e))
  have Hw := Lib.hid (And.intro hw1 hr)
  clear hw1 hr
  go_enter Tryz.func131, Tryz.ntmps131
  go_wp2_with fail
  rw [Hw.out.1]
  refine Hw.out.2.mono ?_
  rintro e w3 ⟨⟨rfl, hf⟩ | ⟨_, hno⟩, hk3⟩
  · have hg3 := (hk3.block _ (Array.getElem?_eq_some_iff.1 hg).1 (fun e => e)).trans hg
    have c0 : w3.cell? ⟨w.heap.size, 0, none⟩ = some (.int .i64 4) := by rw [cell_of_row w3 _ 0 _ _ _ hg3]; rfl
    have c1 : w3.cell? ⟨w.heap.size, 1, none⟩ = some (.int .i64 n) := by rw [cell_of_row w3 _ 1 _ _ _ hg3]; rfl
    have Hh := Lib.hid (And.intro hg3 (And.intro hk (And.intro hk3 hf)))
    clear hg hg3 hk hk3 hf
    go_wp2_with fail
    go_region
    go_wp2_with fail
    refine bodyPost_ret (v := .tuple #[.int .u64 (bits BinOp.or IntKind.u64 (IntKind.u64.wrap (IntKind.u64.wrap n * 8)) 2), .bool true, .nilIface]) (by simp [results, Tryz.results131, go_sem]) rfl ⟨?_, ?_⟩
    · rw [tagged n 2 (by omega) (by omega)]
    · exact (Hh.out.2.1.trans' Hh.out.2.2.1).drew
  · exact absurd hok hno

set_option maxHeartbeats 400000 in
theorem smallok_nil {F : Nat → Prop} {w : World} {h : Nat} {T : Tm} {n : Int} {s : ByteArray} {a a2 a3 : Option Addr} {l c l2 d l3 e : Nat} (hT : TermAt F w h T [.int .i64 6, .int .i64 n, .string s, .slice a l c, .slice a2 l2 d, .slice a3 l3 e]) (t : Value) (hok : tok 200 T ∧ tsz h T ≤ 65536) :
    Calls Tryz.prog 131 #[.agg #[.int .i64 6, .int .i64 n, .string s, .slice a l c, .slice a2 l2 d, .slice a3 l3 e], t] w fun e w' => (e = .returned (.tuple #[.int .u64 (n * 8 % 18446744073709551616 + 4), .bool true, .nilIface])) ∧ Kp (fun _ => False) w w' := by
  obtain ⟨w1, hw1⟩ : ∃ w1, (w.alloc (.cells #[.int .i64 6, .int .i64 n, .string s, .slice a l c, .slice a2 l2 d, .slice a3 l3 e] 41)) = w1 := ⟨_, rfl⟩
  have hk : Kp (fun _ => False) w w1 := by rw [← hw1]; exact ((Kp.refl _ w).alloc _)
  have hg : w1.heap[w.heap.size]? = some (.cells #[.int .i64 6, .int .i64 n, .string s, .slice a l c, .slice a2 l2 d, .slice a3 l3 e] 41 (0, 0)) := by
    rw [← hw1]
    exact heap_alloc_new w _
  have hr := tright_deep (hT.kp hk (fun _ _ e => e))
  have Hw := Lib.hid (And.intro hw1 hr)
  clear hw1 hr
  go_enter Tryz.func131, Tryz.ntmps131
  go_wp2_with fail
  rw [Hw.out.1]
  refine Hw.out.2.mono ?_
  rintro e w3 ⟨⟨rfl, hf⟩ | ⟨_, hno⟩, hk3⟩
  · have hg3 := (hk3.block _ (Array.getElem?_eq_some_iff.1 hg).1 (fun e => e)).trans hg
    have c0 : w3.cell? ⟨w.heap.size, 0, none⟩ = some (.int .i64 6) := by rw [cell_of_row w3 _ 0 _ _ _ hg3]; rfl
    have c1 : w3.cell? ⟨w.heap.size, 1, none⟩ = some (.int .i64 n) := by rw [cell_of_row w3 _ 1 _ _ _ hg3]; rfl
    have Hh := Lib.hid (And.intro hg3 (And.intro hk (And.intro hk3 hf)))
    clear hg hg3 hk hk3 hf
    go_wp2_with fail
    go_region
    go_wp2_with fail
    refine bodyPost_ret (v := .tuple #[.int .u64 (bits BinOp.or IntKind.u64 (IntKind.u64.wrap (IntKind.u64.wrap n * 8)) 4), .bool true, .nilIface]) (by simp [results, Tryz.results131, go_sem]) rfl ⟨?_, ?_⟩
    · rw [tagged n 4 (by omega) (by omega)]
    · exact (Hh.out.2.1.trans' Hh.out.2.2.1).drew
  · exact absurd hok hno

end Go.Proofs.YtkcmfldcdokobaaGreatDoor

/- A term that is laid, as plain data; a Store under way in memory; how its methods end. -/
namespace Go.Proofs.YtkcmfldcdokobaaGreatDoor
open Go.RowKit Go.Maps

/-- an atom's word; a name that is new is noted -/
def AtomS (names : List ByteArray) (S : St) (s : ByteArray) (x : Int) (S' : St) : Prop :=
  ∃ i : Nat, x = (i : Int) * 8 + 1 ∧ i < 1024 ∧ (names ++ S'.fresh)[i]? = some s ∧ (S' = ⟨S.A, S.a, S.K + 1, S.tks, S.fresh⟩ ∨ (s ∉ names ++ S.fresh ∧ S' = ⟨S.A, S.a, S.K + 1, S.tks, S.fresh ++ [s]⟩))
/-- bytes are put, and their block laid -/
def BinS (S : St) (l : List UInt8) (x : Int) (S' : St) : Prop := ∃ m a', PutTo S.a l a' m ∧ BlockS ⟨S.A, a', S.K + 1, S.tks ++ [(m : Int) * 8 + 6], S.fresh⟩ [103, (m : Int) * 8 + 6, 0, (l.length : Nat)] x S'
/-- one behind the other -/
inductive LaysAll (p : St → Tm → Int → St → Prop) (S : St) : List Tm → List Int → St → Prop where
  | nil : LaysAll p S [] [] S
  | snoc {ts ws S1 t w S2} : LaysAll p S ts ws S1 → p S1 t w S2 → LaysAll p S (ts ++ [t]) (ws ++ [w]) S2
/-- a list's items, the last one first, each with its pair; y is what is behind them -/
inductive LaysBack (p : St → Tm → Int → St → Prop) (S : St) (y : Int) : List Tm → Int → St → Prop where
  | nil : LaysBack p S y [] y S
  | cons {ts x1 S1 t w S2 x S3} : LaysBack p S y ts x1 S1 → p S1 t w S2 → BlockS S2 [151, w, x1] x S3 → LaysBack p S y (t :: ts) x S3
/-- the word of a term without parts that fits in one -/
def leafOf (k n : Int) : Int := if k = 1 then n * 8 % 18446744073709551616 + 0 else if k = 3 then n * 8 % 18446744073709551616 + 3 else if k = 4 then n * 8 % 18446744073709551616 + 2 else n * 8 % 18446744073709551616 + 4
/-- a term of a height below h is laid -/
def Lays (names : List ByteArray) : Nat → St → Tm → Int → St → Prop
  | 0, _, _, _, _ => False
  | h + 1, S, .mk k n s it re bys, x, S' =>
    (k = 2 ∧ AtomS names S s x S') ∨
    (k = 5 ∧ ∃ ws S1, LaysAll (Lays names h) S it ws S1 ∧ BlockS S1 ((((it.length : Nat) : Int) * 64 + 15) :: ws) x S') ∨
    (k = 7 ∧ ∃ y S1, ((re = [] ∧ y = 4 ∧ S1 = S) ∨ ∃ t, re = [t] ∧ Lays names h S t y S1) ∧ LaysBack (Lays names h) S1 y it x S') ∨
    (k = 8 ∧ BinS S bys x S') ∨
    ((k = 3 ∨ k = 4 ∨ k = 6 ∨ (k = 1 ∧ -1152921504606846976 ≤ n ∧ n ≤ 1152921504606846975)) ∧ x = leafOf k n ∧ S' = S) ∨
    (k = 1 ∧ (n < -1152921504606846976 ∨ 1152921504606846975 < n) ∧ BlockS S [31, n % 18446744073709551616] x S')

theorem LaysAll.len {p : St → Tm → Int → St → Prop} {S S' : St} {ts : List Tm} {ws : List Int} (h : LaysAll p S ts ws S') : ws.length = ts.length := by
  induction h with
  | nil => rfl
  | snoc _ _ ih => simp [ih]

/-- the map says of the names ks their numbers in the list all -/
def NumD (D : DataW Unit) (ks all : List ByteArray) : Prop :=
  ∀ s : ByteArray, (Maps.has D (.string s.data.toList) = true ↔ s ∈ ks) ∧ (s ∈ ks → ∀ i, all[i]? = some s → ∀ z, D.atKey (.string s.data.toList) z = .lit (.int .i64 (i : Nat)))
theorem NumD.empty (all : List ByteArray) : NumD (.map []) [] all := fun s => ⟨⟨fun h => (by cases h), fun h => (by cases h)⟩, fun h => (by cases h)⟩
theorem nodup_at {α : Type} {l : List α} (h : l.Nodup) {i j : Nat} {x : α} (hi : l[i]? = some x) (hj : l[j]? = some x) : i = j := by
  exact (List.getElem?_inj (List.getElem?_eq_some_iff.1 hi).1 h).1 (hi.trans hj.symm)
theorem NumD.put {D : DataW Unit} {ks all : List ByteArray} (h : NumD D ks all) (hm : Maps.IsMap D) (hn : all.Nodup) {s : ByteArray} {i : Nat} (hs : all[i]? = some s) :
    NumD (D.put (.string s.data.toList) (.lit (.int .i64 (i : Nat)))) (s :: ks) all := by
  intro t
  by_cases e : t = s
  · subst e
    refine ⟨?_, fun _ j hj z => ?_⟩
    · rw [Maps.has_put_same hm (show WideAt.IsKeyLit (.string _) from trivial)]; simp
    · rw [Maps.atKey_put_same hm (show WideAt.IsKeyLit (.string _) from trivial), nodup_at hn hj hs]
  · obtain ⟨h1, h2⟩ := h t
    refine ⟨?_, fun ht j hj z => ?_⟩
    · rw [Maps.has_put_other (lit_ne e), h1]
      simp [e]
    · rw [Maps.atKey_put_other (lit_ne e)]
      exact h2 ((List.mem_cons.1 ht).resolve_left e) j hj z
theorem NumD.more {D : DataW Unit} {ks all : List ByteArray} (h : NumD D ks all) (hk : ∀ s ∈ ks, s ∈ all) {l : List ByteArray} (hn : (all ++ l).Nodup) : NumD D ks (all ++ l) := fun t => by
  refine ⟨(h t).1, fun ht i hi z => ?_⟩
  obtain ⟨j, hj, e⟩ := List.getElem_of_mem (hk t ht)
  have hj' : all[j]? = some t := by rw [List.getElem?_eq_getElem hj, e]
  have : i = j := nodup_at hn hi (by rw [List.getElem?_append_left hj]; exact hj')
  rw [this]
  exact (h t).2 ht j hj' z

/-- which names are known so far -/
structure Known (S : St) (names : List ByteArray) (nn : Nat) (D : DataW Unit) (ks : List ByteArray) : Prop where
  num : NumD D ks (names ++ S.fresh)
  sub : ∀ s ∈ ks, s ∈ names ++ S.fresh
  fresh : ∀ s ∈ S.fresh, s ∈ ks
  many : nn ≤ S.K
  tks : S.tks.length ≤ S.K
  nodup : (names ++ S.fresh).Nodup
  len : (names ++ S.fresh).length ≤ 1024
  short : ∀ s ∈ names ++ S.fresh, s.size ≤ 255

/-- a Store under way in memory -/
def LAt (w0 w : World) (col : Nat → Nat) (lb hb ab tb bb : Nat) (sv : Value) (least : Nat) (sl : List (Int × Bool)) (names : List ByteArray) (N mb : Nat) (S : St) : Prop :=
  ∃ tv fv nn D ks, Hs w0 w col hb ab tb bb sv least sl S.A names (N + S.K) S.a ∧ LOwn (Fi col w 5) w lb hb tv S.tks mb nn D fv S.fresh ∧ Known S names nn D ks

/-- what a Store uses up: places, bytes, slots, names -/
def pot (S : St) (i : Nat) : Nat := if i = 0 then S.A.used else if i = 1 then S.a.used else if i = 2 then S.a.slots.length else S.fresh.length
/-- there is no room, though no more than V was to be used -/
def Stuck (names : List ByteArray) (V : Nat → Nat) (S : St) : Prop :=
  (∃ c, (S.A.quota < S.A.used + 2 ^ c ∨ Nowhere S.A c) ∧ S.A.used + 2 ^ c ≤ V 0) ∨ (∃ l, NoPut S.a l ∧ S.a.used + l ≤ V 1 ∧ S.a.slots.length + 1 ≤ V 2) ∨ ((names ++ S.fresh).length = 1024 ∧ S.fresh.length + 1 ≤ V 3)
theorem Stuck.le {names : List ByteArray} {V W : Nat → Nat} {S : St} (h : Stuck names V S) (hV : ∀ i, V i ≤ W i) : Stuck names W S := by
  rcases h with ⟨c, h1, h2⟩ | ⟨l, h1, h2, h3⟩ | ⟨h1, h2⟩
  · exact .inl ⟨c, h1, Nat.le_trans h2 (hV 0)⟩
  · exact .inr (.inl ⟨l, h1, Nat.le_trans h2 (hV 1), Nat.le_trans h3 (hV 2)⟩)
  · exact .inr (.inr ⟨h1, Nat.le_trans h2 (hV 3)⟩)
/-- what a term's own block wants -/
def ownCost (k : Int) (m b i : Nat) : Nat :=
  if i = 0 then (if k = 5 then 2 ^ cls (m + 1) else if k = 7 then m * 4 else if k = 8 then 8 else 4) else if i = 1 then b else if i = 2 then (if k = 8 then 1 else 0) else if k = 2 then 1 else 0
/-- what a term of a height below h wants -/
def cost : Nat → Tm → Nat → Nat
  | 0, _, _ => 0
  | h + 1, .mk k _ _ it re bys, i => ownCost k it.length bys.length i + (it.map fun t => cost h t i).sum + (re.map fun t => cost h t i).sum
theorem cls_3 : cls 3 = 2 := by decide
theorem cls_2 : cls 2 = 2 := by decide
theorem cls_4 : cls 4 = 3 := by decide

/-- how a method of it ends: a word, or a Fault -/
def LEnds (w0 w : World) (col : Nat → Nat) (lb hb ab tb bb : Nat) (sv : Value) (least : Nat) (sl : List (Int × Bool)) (names : List ByteArray) (N mb : Nat) (S : St) (Q : Int → St → Prop) (B : Nat) (V : Nat → Nat) (e : Ending) (w' : World) : Prop :=
  ∃ S' col', Steps names S S' ∧ S'.K ≤ B ∧ LAt w0 w' col' lb hb ab tb bb sv least sl names N mb S' ∧ Go0 col w col' w' ∧
    ((∃ x, e = .returned (.tuple #[.int .u64 x, .nilIface]) ∧ 0 ≤ x ∧ x ≤ 18446744073709551615 ∧ Q x S' ∧ ∀ i, pot S' i ≤ V i) ∨ ∃ v op n, e = .returned (.tuple #[.int .u64 0, v]) ∧ CBad col' w' op n v ∧ Stuck names V S')

section
variable {w0 w w' : World} {col : Nat → Nat} {lb hb ab tb bb least N mb : Nat} {sv : Value} {sl : List (Int × Bool)} {names : List ByteArray} {S : St}
theorem LAt.same (h : LAt w0 w col lb hb ab tb bb sv least sl names N mb S) (hk : Kp (fun _ => False) w w') : LAt w0 w' (recol col w 0) lb hb ab tb bb sv least sl names N mb S := by
  obtain ⟨tv, fv, nn, D, ks, h1, h2, h3⟩ := h
  exact ⟨tv, fv, nn, D, ks, h1.same hk, h2.same hk, h3⟩
theorem LAt.cells (h : LAt w0 w col lb hb ab tb bb sv least sl names N mb S) : ∃ tv fv, w.cell? ⟨lb, 0, none⟩ = some (.pointer (some ⟨hb, 0, none⟩)) ∧ w.cell? ⟨lb, 1, none⟩ = some tv ∧ w.cell? ⟨lb, 2, none⟩ = some (.map (some mb)) ∧
    w.cell? ⟨lb, 3, none⟩ = some fv ∧ ∀ j, w.frozen? ⟨lb, j, none⟩ = false := by
  obtain ⟨tv, fv, nn, D, ks, _, h2, _⟩ := h
  exact ⟨tv, fv, h2.cells⟩
theorem Laid.room {A A' : Ar} {ws : List Int} {own : Nat} (h : Laid A ws own A') (hI : Inv A []) (hn : ws.length ≤ 1048576) : own ≤ 1048576 := by
  have h1 := (h.to hI hn).inv
  have h2 := h1.block (((h.to hI hn).tk own ws.length).2 (.inl ⟨rfl, rfl⟩))
  have h3 := h1.top
  have h4 := h1.size
  omega

theorem PutTo.slots {a a' : Bn} {l : List UInt8} {m : Nat} (h : PutTo a l a' m) : a'.slots.length ≤ a.slots.length + 1 := by
  rcases h.2 with ⟨_, _, rfl, _⟩ | ⟨_, _, _, _, _, rfl, _⟩
  · simp [pushIn]
  · simp [backIn]

/-- the method block -/
theorem block_ends (h : LAt w0 w col lb hb ab tb bb sv least sl names N mb S) (hK : S.K ≤ 1000000)
    (k m : Int) (hk1 : 1 ≤ k) (hk2 : k ≤ 4) (hm1 : 0 ≤ m) (hm2 : m ≤ 1048576) {l : List Int} {v : Value} {K : Nat → Prop} (hv : WordsAt K w l v) (hC : ∀ q, K q → col q = 0) (hl : l.length ≤ 65536) (hw : ∀ x ∈ l, 0 ≤ x ∧ x ≤ 18446744073709551615) :
    Calls Tryz.prog 132 #[.pointer (some ⟨lb, 0, none⟩), .int .i64 k, .int .i64 m, v] w (LEnds w0 w col lb hb ab tb bb sv least sl names N mb S (fun x S' => BlockS S ((m * 64 + k * 8 + 7) :: l) x S') (S.K + 1) (fun i => pot S i + if i = 0 then 2 ^ cls (l.length + 1) else 0)) := by
  obtain ⟨tv, fv, nn, D, ks, h1, h2, h3⟩ := h
  have ht := h3.tks
  refine (block_any h1 h2 (by omega) k m hk1 hk2 hm1 hm2 hv (fun q hq e => by have := hC q hq; have := e.1; omega) hl hw).mono ?_
  rintro e w' (⟨own, A', tv', col', hla, rfl, hh, hll, hgo⟩ | ⟨hno, v, rfl, hch, hk⟩)
  · have hlen : ((m * 64 + k * 8 + 7) :: l).length ≤ 1048576 := by simp; omega
    have hro := hla.room h1.ar.inv hlen
    have hbs : BlockS S ((m * 64 + k * 8 + 7) :: l) (((own : Nat) + 1 : Int) * 8 + 5) ⟨A', S.a, S.K + 1, S.tks ++ [((own : Nat) + 1 : Int) * 8 + 5], S.fresh⟩ := ⟨own, A', hla, rfl, rfl⟩
    refine ⟨_, col', .block .none hlen hbs, Nat.le_refl _, ⟨tv', fv, nn, D, ks, ⟨hh.hr, hh.ar, hh.at', hh.bn, hh.bi.mono (by simp only; omega), hh.old, hh.kp⟩, hll, ?_⟩, hgo, .inl ⟨_, rfl, by omega, by omega, hbs, fun i => ?_⟩⟩
    rotate_left
    · have hu := (hla.to h1.ar.inv hlen).used
      rw [List.length_cons] at hu
      unfold pot
      by_cases e : i = 0
      · subst e
        simp only [if_pos]
        exact Nat.le_of_eq hu
      · simp only [if_neg e]
        exact Nat.le_add_right _ _
    exact ⟨h3.num, h3.sub, h3.fresh, by have := h3.many; simp only; omega, by simp; omega, h3.nodup, h3.len, h3.short⟩
  · exact ⟨S, _, .none, by omega, ⟨tv, fv, nn, D, ks, h1.same hk, h2.same hk, h3⟩, Go0.same hk, .inr ⟨v, _, _, rfl, hch.full recol_new, .inl ⟨_, hno, by unfold pot; simp⟩⟩⟩

/-- the method binary -/
theorem binary_ends (h : LAt w0 w col lb hb ab tb bb sv least sl names N mb S) (hK : S.K ≤ 1000000) (hN : N ≤ 90000000000000) (hN1 : 1 ≤ N)
    {K : Nat → Prop} {l : List UInt8} {u : Value} (hv : BytesAt K w l u) (hC : ∀ q, K q → col q = 0) (hl : l.length ≤ 65536) :
    Calls Tryz.prog 130 #[.pointer (some ⟨lb, 0, none⟩), u] w (LEnds w0 w col lb hb ab tb bb sv least sl names N mb S (fun x S' => BinS S l x S') (S.K + 2) (fun i => pot S i + ownCost 8 0 l.length i)) := by
  obtain ⟨tv, fv, nn, D, ks, h1, h2, h3⟩ := h
  have ht := h3.tks
  have hm := h3.many
  refine (lbinary_any h1 (by omega) (by omega) h2 (by omega) hv (fun q hq e => by have := hC q hq; have := e.1; omega) hl).mono ?_
  rintro e w' (⟨m, a', own, A', tv', col', hp, hla, rfl, hh, hll, hgo⟩ | ⟨m, a', tv', col', v, hp, hno, rfl, hcb, hh, hll, hgo⟩ | ⟨hno, v, rfl, hch, hk⟩)
  · have hlen : ([103, (m : Int) * 8 + 6, 0, (l.length : Nat)] : List Int).length ≤ 1048576 := by simp
    have hro := hla.room h1.ar.inv hlen
    have hbs : BlockS ⟨S.A, a', S.K + 1, S.tks ++ [(m : Int) * 8 + 6], S.fresh⟩ [103, (m : Int) * 8 + 6, 0, (l.length : Nat)] (((own : Nat) + 1 : Int) * 8 + 5) ⟨A', a', S.K + 1 + 1, S.tks ++ [(m : Int) * 8 + 6] ++ [((own : Nat) + 1 : Int) * 8 + 5], S.fresh⟩ := ⟨own, A', hla, rfl, rfl⟩
    refine ⟨_, col', .block (.put .none hp) hlen hbs, Nat.le_refl _, ⟨tv', fv, nn, D, ks, ⟨hh.hr, hh.ar, hh.at', hh.bn, hh.bi.mono (by simp only; omega), hh.old, hh.kp⟩, hll, ?_⟩, hgo, .inl ⟨_, rfl, by omega, by omega, ⟨m, a', hp, hbs⟩, fun i => ?_⟩⟩
    rotate_left
    · have hu := (hla.to h1.ar.inv hlen).used
      rw [show ([103, (m : Int) * 8 + 6, 0, (l.length : Nat)] : List Int).length = 4 from rfl, cls_4] at hu
      have hs := hp.slots
      obtain ⟨_, _, hpi⟩ := hp.is h1.bi
      have hb := hpi.used
      unfold pot ownCost
      by_cases e : i = 0
      · subst e
        exact Nat.le_of_eq hu
      · by_cases e1 : i = 1
        · subst e1
          exact Nat.le_of_eq hb
        · by_cases e2 : i = 2
          · subst e2
            exact hs
          · simp only [if_neg e, if_neg e1, if_neg e2]
            exact Nat.le_add_right _ _
    exact ⟨h3.num, h3.sub, h3.fresh, by simp only; omega, by simp; omega, h3.nodup, h3.len, h3.short⟩
  · refine ⟨_, col', .put .none hp, by simp only; omega, ⟨tv', fv, nn, D, ks, ⟨hh.hr, hh.ar, hh.at', hh.bn, hh.bi.mono (by simp only; omega), hh.old, hh.kp⟩, hll, ?_⟩, hgo, .inr ⟨v, _, _, rfl, hcb, .inl ⟨_, hno, by rw [cls_4]; exact Nat.le_refl _⟩⟩⟩
    exact ⟨h3.num, h3.sub, h3.fresh, by simp only; omega, by simp; omega, h3.nodup, h3.len, h3.short⟩
  · exact ⟨S, _, .none, by omega, ⟨tv, fv, nn, D, ks, h1.same hk, h2.same hk, h3⟩, Go0.same hk, .inr ⟨v, _, _, rfl, hch.full recol_new, .inr (.inl ⟨_, hno, Nat.le_refl _, Nat.le_refl _⟩)⟩⟩
end
end Go.Proofs.YtkcmfldcdokobaaGreatDoor
