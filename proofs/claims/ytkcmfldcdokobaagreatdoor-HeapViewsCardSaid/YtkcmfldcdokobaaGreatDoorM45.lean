/- Which term a word is: the program's Plain and the document's. -/
import Derived.Test.YtkcmfldcdokobaaGreatDoorM13
import Derived.Test.YtkcmfldcdokobaaGreatDoorM27
import Derived.Lib.BufferRead
/- Which term a word is: the program's Plain and the document's. -/
namespace Go.Proofs.YtkcmfldcdokobaaGreatDoor
open Go.RowKit Go.Maps

/-- a term without parts -/
def termOf (k n : Int) (s : ByteArray) : Value := .agg #[.int .i64 k, .int .i64 n, .string s, .slice none 0 0, .slice none 0 0, .slice none 0 0]
def plainS : ByteArray := ⟨#[112, 108, 97, 105, 110]⟩

/-- what a word is told as, where the table has the names t -/
def PlainIs (x : Int) (t : List ByteArray) (T : Value) (ok : Bool) (l : List Lk) : Prop :=
  (∃ n, x = n * 8 % 18446744073709551616 ∧ -1152921504606846976 ≤ n ∧ n ≤ 1152921504606846975 ∧ T = termOf 1 n ByteArray.empty ∧ ok = true ∧ l = []) ∨
  (∃ (n : Nat) (s : ByteArray), x = n * 8 + 1 ∧ t[n]? = some s ∧ T = termOf 2 0 s ∧ ok = true ∧ l = []) ∨
  (∃ n : Int, x = n * 8 + 1 ∧ (t.length : Int) ≤ n ∧ T = termOf 0 0 ByteArray.empty ∧ ok = false ∧ l = [Lk.fault plainS 1, Lk.kind 3]) ∨
  (∃ n : Int, x = n * 8 + 2 ∧ 0 ≤ n ∧ n ≤ 1152921504606846975 ∧ T = termOf 4 n ByteArray.empty ∧ ok = true ∧ l = []) ∨
  (∃ n : Int, x = n * 8 + 2 ∧ 1152921504606846975 < n ∧ T = termOf 0 0 ByteArray.empty ∧ ok = false ∧ l = [Lk.fault plainS 2, Lk.kind 1]) ∨
  (∃ n : Int, x = n * 8 + 3 ∧ 0 ≤ n ∧ n ≤ 1152921504606846975 ∧ T = termOf 3 n ByteArray.empty ∧ ok = true ∧ l = []) ∨
  (∃ n : Int, x = n * 8 + 3 ∧ 1152921504606846975 < n ∧ T = termOf 0 0 ByteArray.empty ∧ ok = false ∧ l = [Lk.fault plainS 3, Lk.kind 1]) ∨
  (x = 4 ∧ T = termOf 6 0 ByteArray.empty ∧ ok = true ∧ l = []) ∨
  (∃ n : Int, x = n * 8 + 4 ∧ 0 < n ∧ T = termOf 0 0 ByteArray.empty ∧ ok = false ∧ l = [Lk.fault plainS 4, Lk.kind 1]) ∨
  (5 ≤ x % 8 ∧ T = termOf 0 0 ByteArray.empty ∧ ok = false ∧ l = [])

theorem plainIs_any (x : Int) (t : List ByteArray) (h0 : 0 ≤ x) (h1 : x ≤ 18446744073709551615) : ∃ T ok l, PlainIs x t T ok l := by
  by_cases c0 : x % 8 = 0
  · by_cases h : x < 9223372036854775808
    · exact ⟨_, _, _, .inl ⟨x / 8, by omega, by omega, by omega, rfl, rfl, rfl⟩⟩
    · exact ⟨_, _, _, .inl ⟨(x - 18446744073709551616) / 8, by omega, by omega, by omega, rfl, rfl, rfl⟩⟩
  by_cases c1 : x % 8 = 1
  · by_cases h : x / 8 < t.length
    · have hl : (x / 8).toNat < t.length := by omega
      exact ⟨_, _, _, .inr (.inl ⟨(x / 8).toNat, t[(x / 8).toNat], by omega, List.getElem?_eq_getElem hl, rfl, rfl, rfl⟩)⟩
    · exact ⟨_, _, _, .inr (.inr (.inl ⟨x / 8, by omega, by omega, rfl, rfl, rfl⟩))⟩
  by_cases c2 : x % 8 = 2
  · by_cases h : x / 8 ≤ 1152921504606846975
    · exact ⟨_, _, _, .inr (.inr (.inr (.inl ⟨x / 8, by omega, by omega, h, rfl, rfl, rfl⟩)))⟩
    · exact ⟨_, _, _, .inr (.inr (.inr (.inr (.inl ⟨x / 8, by omega, by omega, rfl, rfl, rfl⟩))))⟩
  by_cases c3 : x % 8 = 3
  · by_cases h : x / 8 ≤ 1152921504606846975
    · exact ⟨_, _, _, .inr (.inr (.inr (.inr (.inr (.inl ⟨x / 8, by omega, by omega, h, rfl, rfl, rfl⟩)))))⟩
    · exact ⟨_, _, _, .inr (.inr (.inr (.inr (.inr (.inr (.inl ⟨x / 8, by omega, by omega, rfl, rfl, rfl⟩))))))⟩
  by_cases c4 : x % 8 = 4
  · by_cases h : x = 4
    · exact ⟨_, _, _, .inr (.inr (.inr (.inr (.inr (.inr (.inr (.inl ⟨h, rfl, rfl, rfl⟩)))))))⟩
    · exact ⟨_, _, _, .inr (.inr (.inr (.inr (.inr (.inr (.inr (.inr (.inl ⟨x / 8, by omega, by omega, rfl, rfl, rfl⟩))))))))⟩
  · exact ⟨_, _, _, .inr (.inr (.inr (.inr (.inr (.inr (.inr (.inr (.inr ⟨by omega, rfl, rfl, rfl⟩))))))))⟩

/-- the post of both -/
def Told (w : World) (T : Value) (ok : Bool) (l : List Lk) (e : Ending) (w' : World) : Prop := ∃ v, e = .returned (.tuple #[T, .bool ok, v]) ∧ Chain w' v l ∧ Kp (fun _ => False) w w'
def XTold (w : World) (T : Value) (ok : Bool) (l : List Lk) (e : Ending) (w' : World) : Prop := ∃ v, e = .returned (.tuple #[T, .bool ok, v]) ∧ XCh w' v l ∧ Kp (fun _ => False) w w'

theorem told_bad (w : World) (T : Value) (o : Obj) (n k : Int) (hk : k ≠ 0) (j : Nat) : Told w T false [Lk.fault plainS n, Lk.kind k] (.returned (.tuple #[T, .bool false, .iface 95 (.pointer (some ⟨w.heap.size + 1, 0, none⟩))]))
    (((w.alloc o).alloc (.cells #[.string plainS, .int .i64 n, .iface 67 (.int .i64 k)] 181)).drewN j) := by
  obtain ⟨v, hv, hc, hkp⟩ := ebad1 (w.alloc o) id plainS n k hk j
  have hz : (w.alloc o).heap.size = w.heap.size + 1 := by simp
  rw [hz] at hv
  injection hv with hv
  have e : v = _ := hv.symm
  subst e
  exact ⟨_, rfl, hc.out, ((Kp.refl _ w).alloc o).trans' hkp⟩
/-- a term's cells, written as those of the zero term -/
def zeroT : Array Value := #[.int .i64 0, .int .i64 0, .string ⟨#[]⟩, .slice none 0 0, .slice none 0 0, .slice none 0 0]
def zeroSet (w : World) (B : Nat) : World :=
  (((((w.setCell ⟨B, 0, none⟩ (.int .i64 0)).setCell ⟨B, 1, none⟩ (.int .i64 0)).setCell ⟨B, 2, none⟩ (.string ByteArray.empty)).setCell ⟨B, 3, none⟩ (.slice none 0 0)).setCell ⟨B, 4, none⟩ (.slice none 0 0)).setCell ⟨B, 5, none⟩ (.slice none 0 0)
theorem zeroSet_any {w : World} {B : Nat} (h : w.heap[B]? = some (.cells zeroT 41 (0, 0))) : (zeroSet w B).heap[B]? = some (.cells zeroT 41 (0, 0)) ∧ Kp (fun q => q = B) w (zeroSet w B) := by
  refine ⟨?_, ?_⟩
  · exact heap_set_same (heap_set_same (heap_set_same (heap_set_same (heap_set_same (heap_set_same h _) _) _) _) _) _
  · exact ((((((Kp.refl (fun q => q = B) w).setCell _ _ (.inl rfl)).setCell _ _ (.inl rfl)).setCell _ _ (.inl rfl)).setCell _ _ (.inl rfl)).setCell _ _ (.inl rfl)).setCell _ _ (.inl rfl)

theorem xtold_bad (w : World) (T : Value) (o : Obj) (n k : Int) (j : Nat) : XTold w T false [Lk.fault plainS n, Lk.kind k] (.returned (.tuple #[T, .bool false, .pointer (some ⟨w.heap.size + 1 + 1, 0, none⟩)]))
    ((((w.alloc o).alloc (.cells #[.string ByteArray.empty, .int .i64 0, .pointer none, .int .i64 k] 259)).alloc (.cells #[.string plainS, .int .i64 n, .pointer (some ⟨w.heap.size + 1, 0, none⟩), .int .i64 0] 259)).drewN j) := by
  obtain ⟨v, hv, hc, hkp⟩ := xbad1 (w.alloc o) id plainS n k j
  have hz : (w.alloc o).heap.size = w.heap.size + 1 := by simp
  rw [hz] at hv hc hkp
  injection hv with hv
  have e : v = _ := hv.symm
  subst e
  exact ⟨_, rfl, hc, ((Kp.refl _ w).alloc o).trans' hkp⟩

set_option maxHeartbeats 400000 in
theorem plain_pid (n : Int) (h1 : 0 ≤ n) (h2 : n ≤ 1152921504606846975) (a : Value) (w : World) (x : Int) (hx : x = n * 8 + 2) :
    Calls Tryz.prog 101 #[.int .u64 x, a] w (Told w (termOf 4 n ByteArray.empty) true []) := by
  have x0 : 0 ≤ x := by omega
  have x1 : x ≤ 18446744073709551615 := by omega
  have e1 : bits BinOp.and IntKind.u64 x 7 = 2 := by rw [and_low3 x x0 x1]; omega
  have e2 : x / 8 = n := by omega
  have hn0 : 0 ≤ n := by omega
  have Hx := Lib.hid hx
  clear hx
  go_enter Tryz.func101, Tryz.ntmps101
  go_wp2_with fail
  refine bodyPost_ret (v := .tuple #[termOf 4 n ByteArray.empty, .bool true, .nilIface]) (by simp [results, Tryz.results101, go_sem]; rfl) rfl ⟨_, rfl, rfl, (Kp.refl _ w).alloc _⟩

set_option maxHeartbeats 400000 in
theorem plain_ref (n : Int) (h1 : 0 ≤ n) (h2 : n ≤ 1152921504606846975) (a : Value) (w : World) (x : Int) (hx : x = n * 8 + 3) :
    Calls Tryz.prog 101 #[.int .u64 x, a] w (Told w (termOf 3 n ByteArray.empty) true []) := by
  have x0 : 0 ≤ x := by omega
  have x1 : x ≤ 18446744073709551615 := by omega
  have e1 : bits BinOp.and IntKind.u64 x 7 = 3 := by rw [and_low3 x x0 x1]; omega
  have e2 : x / 8 = n := by omega
  have hn0 : 0 ≤ n := by omega
  have Hx := Lib.hid hx
  clear hx
  go_enter Tryz.func101, Tryz.ntmps101
  go_wp2_with fail
  refine bodyPost_ret (v := .tuple #[termOf 3 n ByteArray.empty, .bool true, .nilIface]) (by simp [results, Tryz.results101, go_sem]; rfl) rfl ⟨_, rfl, rfl, (Kp.refl _ w).alloc _⟩

set_option maxHeartbeats 400000 in
theorem plain_pidbad (n : Int) (h1 : 1152921504606846975 < n) (h2 : n ≤ 2305843009213693951) (a : Value) (w : World) (x : Int) (hx : x = n * 8 + 2) :
    Calls Tryz.prog 101 #[.int .u64 x, a] w (Told w (termOf 0 0 ByteArray.empty) false [Lk.fault plainS 2, Lk.kind 1]) := by
  have x0 : 0 ≤ x := by omega
  have x1 : x ≤ 18446744073709551615 := by omega
  have e1 : bits BinOp.and IntKind.u64 x 7 = 2 := by rw [and_low3 x x0 x1]; omega
  have e2 : x / 8 = n := by omega
  have hn0 : 0 ≤ n := by omega
  have Hx := Lib.hid hx
  clear hx
  go_enter Tryz.func101, Tryz.ntmps101
  go_wp2_with (go_at_call 49; refine (at_any _ _ _ _ _).mono ?_; rintro e w' ⟨rfl, rfl⟩)
  exact bodyPost_ret (v := .tuple #[termOf 0 0 ByteArray.empty, .bool false, .iface 95 (.pointer (some ⟨w.heap.size + 1, 0, none⟩))]) (by simp [results, Tryz.results101, go_sem]; rfl) rfl (told_bad w _ _ 2 1 (by decide) 0)

set_option maxHeartbeats 400000 in
theorem plain_refbad (n : Int) (h1 : 1152921504606846975 < n) (h2 : n ≤ 2305843009213693951) (a : Value) (w : World) (x : Int) (hx : x = n * 8 + 3) :
    Calls Tryz.prog 101 #[.int .u64 x, a] w (Told w (termOf 0 0 ByteArray.empty) false [Lk.fault plainS 3, Lk.kind 1]) := by
  have x0 : 0 ≤ x := by omega
  have x1 : x ≤ 18446744073709551615 := by omega
  have e1 : bits BinOp.and IntKind.u64 x 7 = 3 := by rw [and_low3 x x0 x1]; omega
  have e2 : x / 8 = n := by omega
  have hn0 : 0 ≤ n := by omega
  have Hx := Lib.hid hx
  clear hx
  go_enter Tryz.func101, Tryz.ntmps101
  go_wp2_with (go_at_call 49; refine (at_any _ _ _ _ _).mono ?_; rintro e w' ⟨rfl, rfl⟩)
  exact bodyPost_ret (v := .tuple #[termOf 0 0 ByteArray.empty, .bool false, .iface 95 (.pointer (some ⟨w.heap.size + 1, 0, none⟩))]) (by simp [results, Tryz.results101, go_sem]; rfl) rfl (told_bad w _ _ 3 1 (by decide) 0)

set_option maxHeartbeats 400000 in
theorem plain_nil  (a : Value) (w : World) (x : Int) (hx : x = 4) :
    Calls Tryz.prog 101 #[.int .u64 x, a] w (Told w (termOf 6 0 ByteArray.empty) true []) := by
  have x0 : 0 ≤ x := by omega
  have x1 : x ≤ 18446744073709551615 := by omega
  have e1 : bits BinOp.and IntKind.u64 x 7 = 4 := by rw [and_low3 x x0 x1]; omega
  have e2 : x / 8 = 0 := by omega
  have Hx := Lib.hid hx
  clear hx
  go_enter Tryz.func101, Tryz.ntmps101
  go_wp2_with fail
  refine bodyPost_ret (v := .tuple #[termOf 6 0 ByteArray.empty, .bool true, .nilIface]) (by simp [results, Tryz.results101, go_sem]; rfl) rfl ⟨_, rfl, rfl, (Kp.refl _ w).alloc _⟩

set_option maxHeartbeats 400000 in
theorem plain_nilbad (n : Int) (h1 : 0 < n) (h2 : n ≤ 2305843009213693951) (a : Value) (w : World) (x : Int) (hx : x = n * 8 + 4) :
    Calls Tryz.prog 101 #[.int .u64 x, a] w (Told w (termOf 0 0 ByteArray.empty) false [Lk.fault plainS 4, Lk.kind 1]) := by
  have x0 : 0 ≤ x := by omega
  have x1 : x ≤ 18446744073709551615 := by omega
  have e1 : bits BinOp.and IntKind.u64 x 7 = 4 := by rw [and_low3 x x0 x1]; omega
  have e2 : x / 8 = n := by omega
  have e3 : (n == 0) = false := by rw [beq_eq_false_iff_ne]; omega
  have hn0 : 0 ≤ n := by omega
  have Hx := Lib.hid hx
  clear hx
  go_enter Tryz.func101, Tryz.ntmps101
  go_wp2_with (go_at_call 49; refine (at_any _ _ _ _ _).mono ?_; rintro e w' ⟨rfl, rfl⟩)
  exact bodyPost_ret (v := .tuple #[termOf 0 0 ByteArray.empty, .bool false, .iface 95 (.pointer (some ⟨w.heap.size + 1, 0, none⟩))]) (by simp [results, Tryz.results101, go_sem]; rfl) rfl (told_bad w _ _ 4 1 (by decide) 0)

set_option maxHeartbeats 400000 in
theorem plain_atom {w : World} {F : Nat → Prop} {b : Nat} {t : List ByteArray} (h : AtRep w F b t) (n : Nat) (s : ByteArray) (hs : t[n]? = some s) (x : Int) (hx : x = n * 8 + 1) :
    Calls Tryz.prog 101 #[.int .u64 x, .pointer (some ⟨b, 0, none⟩)] w (Told w (termOf 2 0 s) true []) := by
  have hm := h.many.1
  have hlt := (List.getElem?_eq_some_iff.1 hs).1
  have x0 : 0 ≤ x := by omega
  have x1 : x ≤ 18446744073709551615 := by omega
  have e1 : bits BinOp.and IntKind.u64 x 7 = 1 := by rw [and_low3 x x0 x1]; omega
  have e2 : x / 8 = n := by omega
  have hli : (n : Int) < t.length := by omega
  obtain ⟨po, cap, c4, hat⟩ := h.names_at
  obtain ⟨g, rfl, hc⟩ := hat n s hs
  have hbl := World.block_lt_of_cell? _ _ c4
  have hgl := World.block_lt_of_cell? _ _ hc
  have hk : Kp (fun _ => False) w (w.alloc (.cells #[.int .i64 0, .int .i64 0, .string ⟨#[]⟩, .slice none 0 0, .slice none 0 0, .slice none 0 0] 41)) := (Kp.refl _ w).alloc _
  have h1 := h.kp hk (fun _ _ e => e)
  have c41 := (hk.cell hbl (fun e => e)).trans c4
  have hc1 := (hk.cell hgl (fun e => e)).trans hc
  have Hx := Lib.hid (And.intro hx (And.intro h (And.intro hs h1)))
  clear hx h hs hat h1 hk c4 hc hbl hgl
  go_enter Tryz.func101, Tryz.ntmps101
  go_wp2_with fail
  refine (len_any Hx.out.2.2.2).mono ?_
  rintro e w' ⟨rfl, rfl⟩
  go_wp2_with fail
  refine bodyPost_ret (v := .tuple #[termOf 2 0 s, .bool true, .nilIface]) (by simp [results, Tryz.results101, go_sem]; rfl) rfl ⟨_, rfl, rfl, (Kp.refl _ w).alloc _⟩

set_option maxHeartbeats 400000 in
theorem plain_noatom {w : World} {F : Nat → Prop} {b : Nat} {t : List ByteArray} (h : AtRep w F b t) (n : Int) (h1 : (t.length : Int) ≤ n) (h2 : n ≤ 2305843009213693951) (x : Int) (hx : x = n * 8 + 1) :
    Calls Tryz.prog 101 #[.int .u64 x, .pointer (some ⟨b, 0, none⟩)] w (Told w (termOf 0 0 ByteArray.empty) false [Lk.fault plainS 1, Lk.kind 3]) := by
  have hm := h.many.1
  have x0 : 0 ≤ x := by omega
  have x1 : x ≤ 18446744073709551615 := by omega
  have e1 : bits BinOp.and IntKind.u64 x 7 = 1 := by rw [and_low3 x x0 x1]; omega
  have e2 : x / 8 = n := by omega
  have hn0 : 0 ≤ n := by omega
  have hni : ¬ n < (t.length : Int) := by omega
  have hk : Kp (fun _ => False) w (w.alloc (.cells #[.int .i64 0, .int .i64 0, .string ⟨#[]⟩, .slice none 0 0, .slice none 0 0, .slice none 0 0] 41)) := (Kp.refl _ w).alloc _
  have h1 := h.kp hk (fun _ _ e => e)
  have Hx := Lib.hid (And.intro hx h1)
  clear hx h h1 hk
  go_enter Tryz.func101, Tryz.ntmps101
  go_wp2_with fail
  refine (len_any Hx.out.2).mono ?_
  rintro e w' ⟨rfl, rfl⟩
  go_wp2_with (go_at_call 49; refine (at_any _ _ _ _ _).mono ?_; rintro e w' ⟨rfl, rfl⟩)
  exact bodyPost_ret (v := .tuple #[termOf 0 0 ByteArray.empty, .bool false, .iface 95 (.pointer (some ⟨w.heap.size + 1, 0, none⟩))]) (by simp [results, Tryz.results101, go_sem]; rfl) rfl (told_bad w _ _ 1 3 (by decide) 0)

set_option maxHeartbeats 400000 in
theorem plain_other (x : Int) (a : Value) (w : World) (x0 : 0 ≤ x) (x1 : x ≤ 18446744073709551615) (hx : 5 ≤ x % 8) :
    Calls Tryz.prog 101 #[.int .u64 x, a] w (Told w (termOf 0 0 ByteArray.empty) false []) := by
  by_cases h5 : x % 8 = 5
  · have e1 : bits BinOp.and IntKind.u64 x 7 = 5 := by rw [and_low3 x x0 x1]; exact h5
    clear hx h5
    go_enter Tryz.func101, Tryz.ntmps101
    go_wp2_with fail
    refine bodyPost_ret (v := .tuple #[termOf 0 0 ByteArray.empty, .bool false, .nilIface]) (by simp [results, Tryz.results101, go_sem]; rfl) rfl ⟨_, rfl, rfl, (Kp.refl _ w).alloc _⟩
  · by_cases h6 : x % 8 = 6
    · have e1 : bits BinOp.and IntKind.u64 x 7 = 6 := by rw [and_low3 x x0 x1]; exact h6
      clear hx h5 h6
      go_enter Tryz.func101, Tryz.ntmps101
      go_wp2_with fail
      refine bodyPost_ret (v := .tuple #[termOf 0 0 ByteArray.empty, .bool false, .nilIface]) (by simp [results, Tryz.results101, go_sem]; rfl) rfl ⟨_, rfl, rfl, (Kp.refl _ w).alloc _⟩
    · have e1 : bits BinOp.and IntKind.u64 x 7 = 7 := by rw [and_low3 x x0 x1]; omega
      clear hx h5 h6
      go_enter Tryz.func101, Tryz.ntmps101
      go_wp2_with fail
      refine bodyPost_ret (v := .tuple #[termOf 0 0 ByteArray.empty, .bool false, .nilIface]) (by simp [results, Tryz.results101, go_sem]; rfl) rfl ⟨_, rfl, rfl, (Kp.refl _ w).alloc _⟩

theorem plain_any {w : World} {F : Nat → Prop} {b : Nat} {t : List ByteArray} (h : AtRep w F b t) (x : Int) (x0 : 0 ≤ x) (x1 : x ≤ 18446744073709551615) {T : Value} {ok : Bool} {l : List Lk} (hP : PlainIs x t T ok l) :
    Calls Tryz.prog 101 #[.int .u64 x, .pointer (some ⟨b, 0, none⟩)] w (Told w T ok l) := by
  rcases hP with ⟨n, hx, n0, n1, rfl, rfl, rfl⟩ | ⟨n, s, hx, hs, rfl, rfl, rfl⟩ | ⟨n, hx, hn, rfl, rfl, rfl⟩ | ⟨n, hx, n0, n1, rfl, rfl, rfl⟩ | ⟨n, hx, n0, rfl, rfl, rfl⟩ | ⟨n, hx, n0, n1, rfl, rfl, rfl⟩ | ⟨n, hx, n0, rfl, rfl, rfl⟩ | ⟨hx, rfl, rfl, rfl⟩ | ⟨n, hx, n0, rfl, rfl, rfl⟩ | ⟨hx, rfl, rfl, rfl⟩
  · refine (plain_num x n _ w n0 n1 hx).mono ?_
    rintro e w' ⟨he, hk⟩
    exact ⟨_, he, rfl, hk⟩
  · exact plain_atom h n s hs x hx
  · exact plain_noatom h n hn (by omega) x hx
  · exact plain_pid n n0 n1 _ w x hx
  · exact plain_pidbad n n0 (by omega) _ w x hx
  · exact plain_ref n n0 n1 _ w x hx
  · exact plain_refbad n n0 (by omega) _ w x hx
  · exact plain_nil _ w x hx
  · exact plain_nilbad n n0 (by omega) _ w x hx
  · exact plain_other x _ w x0 x1 hx

theorem PlainIs.short {x : Int} {t : List ByteArray} {T : Value} {ok : Bool} {l : List Lk} (h : PlainIs x t T ok l) : l.length ≤ 9000 ∧ ∃ k n s, T = termOf k n s := by
  rcases h with ⟨n, _, _, _, rfl, rfl, rfl⟩ | ⟨n, s, _, _, rfl, rfl, rfl⟩ | ⟨n, _, _, rfl, rfl, rfl⟩ | ⟨n, _, _, _, rfl, rfl, rfl⟩ | ⟨n, _, _, rfl, rfl, rfl⟩ | ⟨n, _, _, _, rfl, rfl, rfl⟩ | ⟨n, _, _, rfl, rfl, rfl⟩ | ⟨_, rfl, rfl, rfl⟩ | ⟨n, _, _, rfl, rfl, rfl⟩ | ⟨_, rfl, rfl, rfl⟩
  all_goals exact ⟨by simp, _, _, _, rfl⟩

set_option maxRecDepth 100000 in
theorem sameAll_nil (w : World) : Calls Tryz.prog 74 #[.slice none 0 0, .slice none 0 0] w fun e w' => e = .returned (.bool true) ∧ w' = w := by
  go_enter Tryz.func74, Tryz.ntmps74
  go_wp2_with fail
  refine wp_loop_rounds 1 ?_
  rw [rounds_succ]
  go_wp2_with fail
  go_ret
  exact ⟨rfl, rfl⟩

set_option maxRecDepth 100000 in
set_option maxHeartbeats 1000000 in
theorem same_leaf (k n : Int) (s : ByteArray) (w : World) : Calls Tryz.prog 34 #[termOf k n s, termOf k n s] w fun e w' => e = .returned (.bool true) ∧ Kp (fun _ => False) w w' := by
  have hcv := fun (w : World) => Lib.run_convert_nil_bytes (P := Tryz.prog) w 39 9 5 0 Tryz.underlying39 Tryz.underlying5 Tryz.underlying9
  unfold termOf
  go_enter Tryz.func34, Tryz.ntmps34
  go_wp2_with (go_at_call 74; refine (sameAll_nil _).mono ?_; rintro e w' ⟨rfl, rfl⟩)
  go_ret
  exact ⟨rfl, ((Kp.refl _ w).alloc _).alloc _⟩

end Go.Proofs.YtkcmfldcdokobaaGreatDoor
