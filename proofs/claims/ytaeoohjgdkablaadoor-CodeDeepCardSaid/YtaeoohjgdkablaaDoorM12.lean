/- Functions and their instructions: as plain data, in memory, as bytes; within, fits. writeFunction. -/
import Derived.Test.YtaeoohjgdkablaaDoorM11
import Derived.LoopN
/- Functions and their instructions: as plain data, in memory, as bytes; within, fits. -/
namespace Go.Proofs.YtaeoohjgdkablaaDoor
open Go.RowKit

/-- an instruction -/
structure In4 where
  op : Int
  a : Int
  b : Int
  c : Int
/-- a function -/
structure Fn4 where
  name : ByteArray
  args : Int
  slots : Int
  code : List In4
/-- a module -/
structure Md where
  name : ByteArray
  lits : List Tm
  funcs : List Fn4

def isI64 (x : Int) : Prop := -9223372036854775808 ≤ x ∧ x ≤ 9223372036854775807
def In4.wf (x : In4) : Prop := isI64 x.op ∧ isI64 x.a ∧ isI64 x.b ∧ isI64 x.c
/-- a slice of instructions -/
def CodeAt (F : Nat → Prop) (w : World) (l : List In4) (v : Value) : Prop :=
  ∃ po cap, v = .slice po l.length cap ∧ l.length ≤ cap ∧ l.length * 32 ≤ 140737488351232 ∧
    ∀ (i : Nat) (x : In4), l[i]? = some x → ∃ b off, po = some ⟨b, off, none⟩ ∧ F b ∧ w.cell? ⟨b, off + i * 4, none⟩ = some (.int .i64 x.op) ∧ w.cell? ⟨b, off + i * 4 + 1, none⟩ = some (.int .i64 x.a) ∧
      w.cell? ⟨b, off + i * 4 + 2, none⟩ = some (.int .i64 x.b) ∧ w.cell? ⟨b, off + i * 4 + 3, none⟩ = some (.int .i64 x.c) ∧ x.wf
def FnAt (F : Nat → Prop) (w : World) (f : Fn4) (cs : List Value) : Prop :=
  ∃ vc, cs = [.string f.name, .int .i64 f.args, .int .i64 f.slots, vc] ∧ isI64 f.args ∧ isI64 f.slots ∧ f.name.size ≤ maxLen ∧ CodeAt F w f.code vc
/-- a slice of functions -/
def FnsAt (F : Nat → Prop) (w : World) (l : List Fn4) (v : Value) : Prop :=
  ∃ po cap, v = .slice po l.length cap ∧ l.length ≤ cap ∧ l.length * 56 ≤ 140737488351232 ∧
    ∀ (i : Nat) (f : Fn4), l[i]? = some f → ∃ b off c0 c1 c2 c3, po = some ⟨b, off, none⟩ ∧ F b ∧ w.cell? ⟨b, off + i * 4, none⟩ = some c0 ∧ w.cell? ⟨b, off + i * 4 + 1, none⟩ = some c1 ∧
      w.cell? ⟨b, off + i * 4 + 2, none⟩ = some c2 ∧ w.cell? ⟨b, off + i * 4 + 3, none⟩ = some c3 ∧ FnAt F w f [c0, c1, c2, c3]
/-- a module, in three cells: its terms are of a height below h -/
def MdAt (F : Nat → Prop) (w : World) (h : Nat) (m : Md) (cs : List Value) : Prop :=
  ∃ vl vf, cs = [.string m.name, vl, vf] ∧ m.name.size ≤ maxLen ∧ ListAt F w (TermAt F w h) m.lits vl ∧ FnsAt F w m.funcs vf

section
variable {F G : Nat → Prop} {w w' : World}
theorem CodeAt.imp {l : List In4} {v : Value} (h : CodeAt F w l v) (hF : ∀ b, F b → G b) (hc : ∀ b j u, F b → w.cell? ⟨b, j, none⟩ = some u → w'.cell? ⟨b, j, none⟩ = some u) : CodeAt G w' l v := by
  obtain ⟨po, cap, h1, h2, h3, h4⟩ := h
  refine ⟨po, cap, h1, h2, h3, fun i x hi => ?_⟩
  obtain ⟨b, off, e, hb, d0, d1, d2, d3, hw⟩ := h4 i x hi
  exact ⟨b, off, e, hF b hb, hc _ _ _ hb d0, hc _ _ _ hb d1, hc _ _ _ hb d2, hc _ _ _ hb d3, hw⟩
theorem FnAt.imp {f : Fn4} {cs : List Value} (h : FnAt F w f cs) (hF : ∀ b, F b → G b) (hc : ∀ b j u, F b → w.cell? ⟨b, j, none⟩ = some u → w'.cell? ⟨b, j, none⟩ = some u) : FnAt G w' f cs := by
  obtain ⟨vc, e, h1, h2, h3, h4⟩ := h
  exact ⟨vc, e, h1, h2, h3, h4.imp hF hc⟩
theorem FnsAt.imp {l : List Fn4} {v : Value} (h : FnsAt F w l v) (hF : ∀ b, F b → G b) (hc : ∀ b j u, F b → w.cell? ⟨b, j, none⟩ = some u → w'.cell? ⟨b, j, none⟩ = some u) : FnsAt G w' l v := by
  obtain ⟨po, cap, h1, h2, h3, h4⟩ := h
  refine ⟨po, cap, h1, h2, h3, fun i f hi => ?_⟩
  obtain ⟨b, off, c0, c1, c2, c3, e, hb, d0, d1, d2, d3, hf⟩ := h4 i f hi
  exact ⟨b, off, c0, c1, c2, c3, e, hF b hb, hc _ _ _ hb d0, hc _ _ _ hb d1, hc _ _ _ hb d2, hc _ _ _ hb d3, hf.imp hF hc⟩
theorem MdAt.imp {h : Nat} {m : Md} {cs : List Value} (hm : MdAt F w h m cs) (hF : ∀ b, F b → G b) (hc : ∀ b j u, F b → w.cell? ⟨b, j, none⟩ = some u → w'.cell? ⟨b, j, none⟩ = some u) : MdAt G w' h m cs := by
  obtain ⟨vl, vf, e, h0, h1, h2⟩ := hm
  exact ⟨vl, vf, e, h0, h1.imp hF hc (fun t cs e => TermAt.imp hF hc _ t cs e), h2.imp hF hc⟩
theorem CodeAt.form {l : List In4} {v : Value} (h : CodeAt F w l v) : ∃ po n cap, v = .slice po n cap := by
  obtain ⟨po, cap, e, _⟩ := h
  exact ⟨po, _, cap, e⟩
theorem FnsAt.form {l : List Fn4} {v : Value} (h : FnsAt F w l v) : ∃ po n cap, v = .slice po n cap := by
  obtain ⟨po, cap, e, _⟩ := h
  exact ⟨po, _, cap, e⟩
end

/-- an instruction's bytes -/
def encI (x : In4) : List UInt8 := UInt8.ofNat x.op.toNat :: (encNat (zig x.a) ++ (encNat (zig x.b) ++ encNat (zig x.c)))
def encIs (l : List In4) : List UInt8 := l.flatMap encI
/-- a function's bytes -/
def encF (f : Fn4) : List UInt8 := encB f.name.data.toList ++ (encNat f.args.toNat ++ (encNat f.slots.toNat ++ (encNat f.code.length ++ encIs f.code)))
def encFs (l : List Fn4) : List UInt8 := l.flatMap encF
/-- a module's bytes -/
def encM (m : Md) : List UInt8 := [84, 82, 80, 69] ++ (encB m.name.data.toList ++ (encL m.lits ++ (encNat m.funcs.length ++ encFs m.funcs)))

/-- is it from lo to hi? -/
def wi (n lo hi : Int) : Bool := decide (lo ≤ n) && decide (n ≤ hi)
theorem wi_true {n lo hi : Int} : wi n lo hi = true ↔ lo ≤ n ∧ n ≤ hi := by simp [wi]
def fitsI (x : In4) : Bool := wi x.op 0 255 && (wi x.a (-549755813888) 549755813888 && (wi x.b (-549755813888) 549755813888 && wi x.c (-549755813888) 549755813888))
/-- may a function be written? -/
def fitsF (f : Fn4) : Bool := wi f.args 0 1099511627776 && wi f.slots 0 1099511627776 && f.code.all fitsI

theorem within_any (n lo hi : Int) (w : World) : Calls Tryd.prog 35 #[.int .i64 n, .int .i64 lo, .int .i64 hi] w fun e w' => e = .returned (.bool (wi n lo hi)) ∧ w = w' := by
  by_cases h1 : lo ≤ n
  · by_cases h2 : n ≤ hi
    · have h3 : wi n lo hi = true := wi_true.2 ⟨h1, h2⟩
      go_enter Tryd.func35, Tryd.ntmps35
      go_wp2
      go_ret
      exact ⟨by simp [h3], rfl⟩
    · have h3 : wi n lo hi = false := by simp [wi, h2]
      go_enter Tryd.func35, Tryd.ntmps35
      go_wp2
      go_ret
      exact ⟨rfl, rfl⟩
  · have h3 : wi n lo hi = false := by simp [wi, h1]
    have h4 : decide (lo ≤ n) = false := by simpa using h1
    go_enter Tryd.func35, Tryd.ntmps35
    go_wp2
    go_ret
    exact ⟨rfl, rfl⟩

theorem three0 (x y z : Value) (w : World) : (Instr.index 82 (.agg #[x, y, z]) (.int .i64 0)).run Tryd.prog w = .ok x w := by kernel_rfl
theorem three1 (x y z : Value) (w : World) : (Instr.index 82 (.agg #[x, y, z]) (.int .i64 1)).run Tryd.prog w = .ok y w := by kernel_rfl
theorem three2 (x y z : Value) (w : World) : (Instr.index 82 (.agg #[x, y, z]) (.int .i64 2)).run Tryd.prog w = .ok z w := by kernel_rfl

theorem all_take {l : List In4} {p : In4 → Bool} {j : Nat} {x : In4} (h : l[j]? = some x) (hx : p x = false) : l.all p = false := by
  rw [List.all_eq_false]
  exact ⟨x, List.mem_of_getElem? h, by simp [hx]⟩

set_option maxRecDepth 100000 in
set_option maxHeartbeats 2000000 in
theorem cfits_any {F : Nat → Prop} {w : World} {f : Fn4} {cs : List Value} (h : FnAt F w f cs) :
    Calls Tryd.prog 21 #[.agg cs.toArray] w fun e w' => e = .returned (.bool (fitsF f)) ∧ Kp (fun _ => False) w w' := by
  obtain ⟨vc, rfl, ha, hs, hnm, hc⟩ := h
  obtain ⟨name, args, slots, code⟩ := f
  obtain ⟨po, cap, rfl, hc1, hc2, hc3⟩ := hc
  simp only at ha hs hnm hc1 hc2 hc3 ⊢
  by_cases h1 : wi args 0 1099511627776 = true
  · by_cases h2 : wi slots 0 1099511627776 = true
    · have i0 := three0
      have i1 := three1
      have i2 := three2
      have hff : fitsF ⟨name, args, slots, code⟩ = code.all fitsI := by simp [fitsF, h1, h2]
      rw [hff]
      clear hff
      obtain ⟨w1, hw1⟩ : ∃ w1, w.alloc (.cells #[.string name, .int .i64 args, .int .i64 slots, .slice po code.length cap] 30) = w1 := ⟨_, rfl⟩
      have hk1 : Kp (fun _ => False) w w1 := by rw [← hw1]; exact (Kp.refl _ w).alloc _
      have hbx : w1.heap[w.heap.size]? = some (.cells #[.string name, .int .i64 args, .int .i64 slots, .slice po code.length cap] 30 (0, 0)) := by rw [← hw1]; exact heap_alloc_new w _
      have c1 : w1.cell? ⟨w.heap.size, 1, none⟩ = some (.int .i64 args) := by rw [cell_of_row w1 _ 1 _ _ _ hbx]; rfl
      have c2 : w1.cell? ⟨w.heap.size, 2, none⟩ = some (.int .i64 slots) := by rw [cell_of_row w1 _ 2 _ _ _ hbx]; rfl
      have c3 : w1.cell? ⟨w.heap.size, 3, none⟩ = some (.slice po code.length cap) := by rw [cell_of_row w1 _ 3 _ _ _ hbx]; rfl
      have H1 := Lib.hid (And.intro hk1 hc3)
      clear hk1 hbx hc3
      go_enter Tryd.func21, Tryd.ntmps21
      go_wp2_with (go_at_call 35; refine (within_any _ _ _ _).mono ?_; rintro e w' ⟨rfl, rfl⟩)
      clear hw1 c1 c2 c3
      go_loopg [20] code.length (fun gk jj wr => ∃ (j : Nat), j ≤ code.length ∧ gk = code.length - j ∧ jj = .int .i64 j ∧ Kp (fun _ => False) w wr ∧ ∀ (i : Nat) (x : In4), i < j → code[i]? = some x → fitsI x = true)
      case atStart => exact ⟨0, by omega, rfl, rfl, H1.out.1, fun i x h => by omega⟩
      case round =>
        obtain ⟨j, hj, rfl, rfl, hk, hok⟩ := hrel
        by_cases hlt : j < code.length
        · obtain ⟨x, hjx⟩ : ∃ x, code[j]? = some x := ⟨code[j], List.getElem?_eq_getElem hlt⟩
          obtain ⟨b, off, rfl, hF, a0, a1, a2, a3, _⟩ := H1.out.2 j x hjx
          obtain ⟨xo, xa, xb, xc⟩ := x
          simp only at a0 a1 a2 a3
          have x0 := (hk.cell (World.block_lt_of_cell? _ _ a0) (fun e => e)).trans a0
          have x1 := (hk.cell (World.block_lt_of_cell? _ _ a1) (fun e => e)).trans a1
          have x2 := (hk.cell (World.block_lt_of_cell? _ _ a2) (fun e => e)).trans a2
          have x3 := (hk.cell (World.block_lt_of_cell? _ _ a3) (fun e => e)).trans a3
          have hli : (j : Int) < code.length := by omega
          have H := Lib.hid (And.intro hk (And.intro hok hjx))
          clear a0 a1 a2 a3 hk hok hjx
          by_cases g0 : wi xo 0 255 = true
          · by_cases g1 : wi xa (-549755813888) 549755813888 = true
            · by_cases g2 : wi xb (-549755813888) 549755813888 = true
              · by_cases g3 : wi xc (-549755813888) 549755813888 = true
                · go_wp2_with (go_at_call 35; refine (within_any _ _ _ _).mono ?_; rintro e w' ⟨rfl, rfl⟩)
                  refine wp_loop_rounds 4 ?_
                  rw [rounds_succ]
                  go_wp2_with (go_at_call 35; refine (within_any _ _ _ _).mono ?_; rintro e w' ⟨rfl, rfl⟩)
                  rw [rounds_succ]
                  go_wp2_with (go_at_call 35; refine (within_any _ _ _ _).mono ?_; rintro e w' ⟨rfl, rfl⟩)
                  rw [rounds_succ]
                  go_wp2_with (go_at_call 35; refine (within_any _ _ _ _).mono ?_; rintro e w' ⟨rfl, rfl⟩)
                  rw [rounds_succ]
                  go_wp2_with (go_at_call 35; refine (within_any _ _ _ _).mono ?_; rintro e w' ⟨rfl, rfl⟩)
                  go_roundg (code.length - (j + 1))
                  case measure => omega
                  case rel => exact ⟨j + 1, by omega, rfl, by go_num, H.out.1.alloc _, fun i x hi hx => by
                    rcases Nat.lt_or_ge i j with h1 | h1
                    · exact H.out.2.1 i x h1 hx
                    · obtain rfl : i = j := by omega
                      obtain rfl := Option.some.inj (H.out.2.2.symm.trans hx)
                      simp [fitsI, g0, g1, g2, g3]⟩
                · have hx : fitsI ⟨xo, xa, xb, xc⟩ = false := by simp [fitsI, g3]
                  have ha := all_take (p := fitsI) H.out.2.2 hx
                  clear hx
                  go_wp2_with (go_at_call 35; refine (within_any _ _ _ _).mono ?_; rintro e w' ⟨rfl, rfl⟩)
                  refine wp_loop_rounds 4 ?_
                  rw [rounds_succ]
                  go_wp2_with (go_at_call 35; refine (within_any _ _ _ _).mono ?_; rintro e w' ⟨rfl, rfl⟩)
                  rw [rounds_succ]
                  go_wp2_with (go_at_call 35; refine (within_any _ _ _ _).mono ?_; rintro e w' ⟨rfl, rfl⟩)
                  rw [rounds_succ]
                  go_wp2_with (go_at_call 35; refine (within_any _ _ _ _).mono ?_; rintro e w' ⟨rfl, rfl⟩)
                  go_ret
                  exact ⟨by rw [ha]; rfl, H.out.1.alloc _⟩
              · have hx : fitsI ⟨xo, xa, xb, xc⟩ = false := by simp [fitsI, g2]
                have ha := all_take (p := fitsI) H.out.2.2 hx
                clear hx
                go_wp2_with (go_at_call 35; refine (within_any _ _ _ _).mono ?_; rintro e w' ⟨rfl, rfl⟩)
                refine wp_loop_rounds 4 ?_
                rw [rounds_succ]
                go_wp2_with (go_at_call 35; refine (within_any _ _ _ _).mono ?_; rintro e w' ⟨rfl, rfl⟩)
                rw [rounds_succ]
                go_wp2_with (go_at_call 35; refine (within_any _ _ _ _).mono ?_; rintro e w' ⟨rfl, rfl⟩)
                go_ret
                exact ⟨by rw [ha]; rfl, H.out.1.alloc _⟩
            · have hx : fitsI ⟨xo, xa, xb, xc⟩ = false := by simp [fitsI, g1]
              have ha := all_take (p := fitsI) H.out.2.2 hx
              clear hx
              go_wp2_with (go_at_call 35; refine (within_any _ _ _ _).mono ?_; rintro e w' ⟨rfl, rfl⟩)
              refine wp_loop_rounds 4 ?_
              rw [rounds_succ]
              go_wp2_with (go_at_call 35; refine (within_any _ _ _ _).mono ?_; rintro e w' ⟨rfl, rfl⟩)
              go_ret
              exact ⟨by rw [ha]; rfl, H.out.1.alloc _⟩
          · have hx : fitsI ⟨xo, xa, xb, xc⟩ = false := by simp [fitsI, g0]
            have ha := all_take (p := fitsI) H.out.2.2 hx
            clear hx
            go_wp2_with (go_at_call 35; refine (within_any _ _ _ _).mono ?_; rintro e w' ⟨rfl, rfl⟩)
            go_ret
            exact ⟨by rw [ha]; rfl, H.out.1.alloc _⟩
        · obtain rfl : j = code.length := by omega
          have ha : code.all fitsI = true := List.all_eq_true.2 fun x hx => by
            obtain ⟨i, hi, rfl⟩ := List.getElem_of_mem hx
            exact hok i _ hi (List.getElem?_eq_getElem hi)
          have H := Lib.hid hk
          clear hk hok
          go_wp2_with fail
          go_ret
          exact ⟨by rw [ha]; rfl, H.out⟩
    · have hff : fitsF ⟨name, args, slots, code⟩ = false := by simp [fitsF, h2]
      go_enter Tryd.func21, Tryd.ntmps21
      go_wp2_with (go_at_call 35; refine (within_any _ _ _ _).mono ?_; rintro e w' ⟨rfl, rfl⟩)
      go_ret
      exact ⟨by rw [hff]; rfl, (Kp.refl _ w).alloc _⟩
  · have hff : fitsF ⟨name, args, slots, code⟩ = false := by simp [fitsF, h1]
    go_enter Tryd.func21, Tryd.ntmps21
    go_wp2_with (go_at_call 35; refine (within_any _ _ _ _).mono ?_; rintro e w' ⟨rfl, rfl⟩)
    go_ret
    exact ⟨by rw [hff]; rfl, (Kp.refl _ w).alloc _⟩
end Go.Proofs.YtaeoohjgdkablaaDoor

/- writeFunction. -/
namespace Go.Proofs.YtaeoohjgdkablaaDoor
open Go.RowKit

theorem encIs_drop {l : List In4} {j : Nat} {x : In4} (h : l[j]? = some x) : encIs (l.drop j) = encI x ++ encIs (l.drop (j + 1)) := by
  obtain ⟨hl, rfl⟩ := List.getElem?_eq_some_iff.1 h
  unfold encIs
  rw [List.drop_eq_getElem_cons hl, List.flatMap_cons]

set_option maxRecDepth 100000 in
set_option maxHeartbeats 4000000 in
theorem wf_any {B : Nat} {w : World} {v : Value} {l : List UInt8} {f : Fn4} {cs : List Value} (hb : BufAt B w v l) (h : FnAt (fun q => q < B) w f cs) (hf : fitsF f = true) (hl : (l ++ encF f).length + 40 ≤ 70368744177664) :
    Calls Tryd.prog 22 #[v, .agg cs.toArray] w (BufTo B w (l ++ encF f)) := by
  obtain ⟨vc, rfl, ha, hs, hnm, hc⟩ := h
  obtain ⟨name, args, slots, code⟩ := f
  obtain ⟨po, cap, rfl, hc1, hc2, hc3⟩ := hc
  simp only at ha hs hnm hc1 hc2 hc3 ⊢
  simp only [fitsF, Bool.and_eq_true, wi_true] at hf
  obtain ⟨⟨⟨ha0, ha1⟩, hs0, hs1⟩, hall⟩ := hf
  obtain ⟨a, rfl⟩ := Int.eq_ofNat_of_zero_le ha0
  obtain ⟨s, rfl⟩ := Int.eq_ofNat_of_zero_le hs0
  obtain ⟨pv, pc, rfl, _⟩ := hb.form
  have hns : name.data.toList.length = name.size := Array.length_toList
  have Hl : Hid (l.length + (encB name.data.toList).length + (encNat a).length + (encNat s).length + (encNat code.length).length + (encIs code).length + 40 ≤ 70368744177664 ∧ name.size ≤ (encB name.data.toList).length) := Lib.hid (by
    simp only [encF, List.length_append, Int.toNat_natCast] at hl
    refine ⟨by omega, ?_⟩
    simp only [encB, List.length_append, hns]; omega)
  have i0 := three0
  have i1 := three1
  have i2 := three2
  have ew1 : IntKind.u64.wrap (a : Int) = a := u64_in _ (by omega) (by omega)
  have ew2 : IntKind.u64.wrap (s : Int) = s := u64_in _ (by omega) (by omega)
  obtain ⟨w1, hw1⟩ : ∃ w1, w.alloc (.cells #[.string name, .int .i64 a, .int .i64 s, .slice po code.length cap] 30) = w1 := ⟨_, rfl⟩
  have hk1 : Kp (fun _ => False) w w1 := by rw [← hw1]; exact (Kp.refl _ w).alloc _
  have hbx : w1.heap[w.heap.size]? = some (.cells #[.string name, .int .i64 a, .int .i64 s, .slice po code.length cap] 30 (0, 0)) := by rw [← hw1]; exact heap_alloc_new w _
  have c0 : w1.cell? ⟨w.heap.size, 0, none⟩ = some (.string name) := by rw [cell_of_row w1 _ 0 _ _ _ hbx]; rfl
  have H1 := Lib.hid (And.intro (hb.kp hk1) (And.intro (Kb.of (B := B) hk1) (And.intro hbx (And.intro hc3 hall))))
  clear hk1 hbx hc3 hb hl hall hns hnm
  go_enter Tryd.func22, Tryd.ntmps22
  go_wp2_with fail
  clear hw1 c0
  refine (wbytes_string name H1.out.1 (by have := Hl.out; omega)).mono ?_
  rintro e w2 ⟨p2, n2, q2, rfl, hb2, hk2⟩
  have hbx := hk2.heap (by decide) H1.out.2.2.1
  have c1 : w2.cell? ⟨w.heap.size, 1, none⟩ = some (.int .i64 a) := by rw [cell_of_row w2 _ 1 _ _ _ hbx]; rfl
  have H2 := Lib.hid (And.intro hb2 (And.intro (H1.out.2.1.trans hk2) hbx))
  clear hb2 hk2 hbx
  go_wp2_with fail
  clear c1
  refine (wnum_any a H2.out.1 (by omega) (by have := Hl.out; simp only [List.length_append]; omega)).mono ?_
  rintro e w3 ⟨p3, n3, q3, rfl, hb3, hk3⟩
  have hbx := hk3.heap (by decide) H2.out.2.2
  have c2 : w3.cell? ⟨w.heap.size, 2, none⟩ = some (.int .i64 s) := by rw [cell_of_row w3 _ 2 _ _ _ hbx]; rfl
  have H3 := Lib.hid (And.intro hb3 (And.intro (H2.out.2.1.trans hk3) hbx))
  clear hb3 hk3 hbx
  go_wp2_with fail
  clear c2
  refine (wnum_any s H3.out.1 (by omega) (by have := Hl.out; simp only [List.length_append]; omega)).mono ?_
  rintro e w4 ⟨p4, n4, q4, rfl, hb4, hk4⟩
  have hbx := hk4.heap (by decide) H3.out.2.2
  have c3 : w4.cell? ⟨w.heap.size, 3, none⟩ = some (.slice po code.length cap) := by rw [cell_of_row w4 _ 3 _ _ _ hbx]; rfl
  have H4 := Lib.hid (And.intro hb4 (And.intro (H3.out.2.1.trans hk4) hbx))
  clear hb4 hk4 hbx
  go_wp2_with fail
  clear c3
  refine (wcount_any code.length H4.out.1 (by omega) (by have := Hl.out; simp only [List.length_append]; omega)).mono ?_
  rintro e w5 ⟨p5, n5, q5, rfl, hb5, hk5⟩
  have hbx := hk5.heap (by decide) H4.out.2.2
  have c3 : w5.cell? ⟨w.heap.size, 3, none⟩ = some (.slice po code.length cap) := by rw [cell_of_row w5 _ 3 _ _ _ hbx]; rfl
  have H5 := Lib.hid (And.intro hb5 (And.intro (H4.out.2.1.trans hk5) hbx))
  clear hb5 hk5 hbx H2 H3 H4
  go_wp2_with fail
  clear c3
  go_loopg [0, 31] code.length (fun gk vv jj wr => ∃ (j : Nat) (cur : List UInt8), j ≤ code.length ∧ gk = code.length - j ∧ jj = .int .i64 j ∧ BufAt B wr vv cur ∧ cur ++ encIs (code.drop j) = l ++ encF ⟨name, a, s, code⟩ ∧ Kb B w wr)
  case atStart => exact ⟨0, _, by omega, rfl, rfl, H5.out.1, by simp [encF], H5.out.2.1⟩
  case round =>
    clear H5
    obtain ⟨j, cur, hj, rfl, rfl, hb, he, hk⟩ := hrel
    obtain ⟨pw, pd, rfl, _⟩ := hb.form
    by_cases hlt : j < code.length
    · obtain ⟨x, hjx⟩ : ∃ x, code[j]? = some x := ⟨code[j], List.getElem?_eq_getElem hlt⟩
      obtain ⟨_, _, _, hc3, hall⟩ := H1.out
      obtain ⟨b, off, rfl, hF, a0, a1, a2, a3, hxw⟩ := hc3 j x hjx
      have hfx := List.all_eq_true.1 hall x (List.mem_of_getElem? hjx)
      have hsp := encIs_drop hjx
      obtain ⟨xo, xa, xb, xc⟩ := x
      simp only at a0 a1 a2 a3
      simp only [fitsI, Bool.and_eq_true, wi_true] at hfx
      obtain ⟨⟨ho0, ho1⟩, ⟨hxa0, hxa1⟩, ⟨hxb0, hxb1⟩, hxc0, hxc1⟩ := hfx
      have kc : ∀ i u, w.cell? ⟨b, i, none⟩ = some u → wr.cell? ⟨b, i, none⟩ = some u := fun i u e => cells_kp hk (F := fun q => q < B) (fun q e e2 => by have := e2.1; omega) b i u hF e
      have x0 := kc _ _ a0
      have x1 := kc _ _ a1
      have x2 := kc _ _ a2
      have x3 := kc _ _ a3
      have hli : (j : Int) < code.length := by omega
      have hlen := congrArg List.length he
      rw [hsp] at hlen
      simp only [encI, encF, List.length_append, List.length_cons, Int.toNat_natCast] at hlen
      have hL : cur.length + 1 + (encNat (zig xa)).length + (encNat (zig xb)).length + (encNat (zig xc)).length + 40 ≤ 70368744177664 := by have := Hl.out; omega
      obtain ⟨wq, hwq⟩ : ∃ wq, wr.alloc (.cells #[.int .i64 xo, .int .i64 xa, .int .i64 xb, .int .i64 xc] 27) = wq := ⟨_, rfl⟩
      have hkq : Kp (fun _ => False) wr wq := by rw [← hwq]; exact (Kp.refl _ wr).alloc _
      have hbx : wq.heap[wr.heap.size]? = some (.cells #[.int .i64 xo, .int .i64 xa, .int .i64 xb, .int .i64 xc] 27 (0, 0)) := by rw [← hwq]; exact heap_alloc_new wr _
      have hzq : wq.heap.size = wr.heap.size + 1 := by rw [← hwq]; simp
      obtain ⟨o, rfl⟩ := Int.eq_ofNat_of_zero_le ho0
      obtain ⟨po2, pn, cp, w6, hr, hb6, hk6⟩ := app_one (UInt8.ofNat o) (hb.kp hkq) (by simp; omega)
      rw [u8_of (by omega), hzq] at hr
      have hbx6 := hk6.heap (by decide) hbx
      have y0 : wq.cell? ⟨wr.heap.size, 0, none⟩ = some (.int .i64 o) := by rw [cell_of_row wq _ 0 _ _ _ hbx]; rfl
      have y1 : w6.cell? ⟨wr.heap.size, 1, none⟩ = some (.int .i64 xa) := by rw [cell_of_row w6 _ 1 _ _ _ hbx6]; rfl
      have y2 : w6.cell? ⟨wr.heap.size, 2, none⟩ = some (.int .i64 xb) := by rw [cell_of_row w6 _ 2 _ _ _ hbx6]; rfl
      have y3 : w6.cell? ⟨wr.heap.size, 3, none⟩ = some (.int .i64 xc) := by rw [cell_of_row w6 _ 3 _ _ _ hbx6]; rfl
      have H := Lib.hid (And.intro hr (And.intro hb6 (And.intro ((hk.trans (Kb.of hkq)).trans hk6) (And.intro he (And.intro hsp hL)))))
      clear hr hb6 hk6 hk he hsp hL hlen hkq hbx hbx6 a0 a1 a2 a3 kc hb hc3 hall hjx hxw
      go_wp2_with (at_builtin; refine wpList_run rfl (.tmp 35) (.tmp 39) 23 rfl (.slice pw cur.length pd) (.slice (some ⟨wr.heap.size + 1, 0, none⟩) 1 1) rfl rfl _ _ H.out.1 ?_)
      clear hwq hzq
      refine wp_loop_rounds 4 ?_
      rw [rounds_succ]
      go_wp2_with fail
      refine (wsigned_any xa H.out.2.1 (by omega) (by omega) (by have := H.out.2.2.2.2.2; simp only [List.length_append, List.length_singleton]; omega)).mono ?_
      rintro e w7 ⟨p7, n7, q7, rfl, hb7, hk7⟩
      have H7 := Lib.hid (And.intro hb7 (H.out.2.2.1.trans hk7))
      clear hb7 hk7
      go_wp2_with fail
      rw [rounds_succ]
      go_wp2_with fail
      refine (wsigned_any xb H7.out.1 (by omega) (by omega) (by have := H.out.2.2.2.2.2; simp only [List.length_append, List.length_singleton]; omega)).mono ?_
      rintro e w8 ⟨p8, n8, q8, rfl, hb8, hk8⟩
      have H8 := Lib.hid (And.intro hb8 (H7.out.2.trans hk8))
      clear hb8 hk8
      go_wp2_with fail
      rw [rounds_succ]
      go_wp2_with fail
      refine (wsigned_any xc H8.out.1 (by omega) (by omega) (by have := H.out.2.2.2.2.2; simp only [List.length_append, List.length_singleton]; omega)).mono ?_
      rintro e w9 ⟨p9, n9, q9, rfl, hb9, hk9⟩
      have H9 := Lib.hid (And.intro hb9 (H8.out.2.trans hk9))
      clear hb9 hk9
      go_wp2_with fail
      rw [rounds_succ]
      go_wp2_with fail
      go_roundg (code.length - (j + 1))
      case measure => omega
      case rel => exact ⟨j + 1, _, by omega, rfl, by go_num, H9.out.1, by rw [← H.out.2.2.2.1, H.out.2.2.2.2.1]; simp [encI], H9.out.2⟩
    · obtain rfl : j = code.length := by omega
      have H := Lib.hid (And.intro hb (And.intro he hk))
      clear hb he hk
      go_wp2_with fail
      go_ret
      obtain ⟨q1, q2, q3⟩ := H.out
      rw [List.drop_length, show encIs [] = [] from rfl, List.append_nil] at q2
      rw [← q2]
      exact ⟨_, _, _, rfl, q1, q3⟩
end Go.Proofs.YtaeoohjgdkablaaDoor
