/- The reader of a module's bytes: next, groups, number, count, integer, operand, some. -/
import Derived.Test.YtaeoohjgdkablaaDoorM13
import Derived.WalkLawsBesides
import Derived.Laws.Closers25b
/- The reader of a module's bytes: next, groups, number, count, integer, operand, some. -/
namespace Go.Proofs.YtaeoohjgdkablaaDoor
open Go.RowKit

def readS : ByteArray := ⟨#[114, 101, 97, 100]⟩
/-- the reader: its bytes, and which one is next -/
structure RAt (w : World) (R : Nat) (v : Value) (l : List UInt8) (p : Nat) : Prop where
  cells : w.heap[R]? = some (.cells #[v, .int .i64 p] 69 (0, 0))
  bytes : BytesAt (fun q => q < R) w l v
  le : p ≤ l.length
/-- the reader gave up -/
def RFail (R : Nat) (w : World) (e : Ending) (w' : World) : Prop := ∃ v n ls, e = .panicked [{ v := v, recovered := false }] ∧ ChainB w.heap.size w' v (Lk.fault readS n :: ls) ∧ ls ≠ [] ∧ Kp (fun q => q = R) w w'

theorem bodyPost_panic {P : Program} {fn : Func} {R : Ending → World → Prop} {c : List PanicEntry} {a : Act} {w : World} (hd : a.defers = []) (hR : R (.panicked c) w) : bodyPost P fn R (.panic c) a w := ⟨hd, hR⟩
theorem wrong_any (n : Int) (w : World) : Calls Tryd.prog 38 #[.int .i64 n] w fun e w' => e = .returned (.iface 39 (.pointer (some ⟨w.heap.size, 0, none⟩))) ∧ w' = w.alloc (.cells #[.string readS, .int .i64 n, .iface 40 (.int .i64 10)] 42) := by
  go_enter Tryd.func38, Tryd.ntmps38
  go_wp2_with (go_at_call 19; refine (at_any _ _ _ _ _).mono ?_; rintro e w' ⟨rfl, rfl⟩)
  go_ret
  exact ⟨rfl, rfl⟩

theorem RAt.room {w : World} {R : Nat} {v : Value} {l : List UInt8} {p : Nat} (h : RAt w R v l p) : l.length ≤ 140737488351232 := by
  obtain ⟨_, _, _, _, h3, _⟩ := h.bytes
  exact h3
theorem RAt.kp {w w' : World} {R : Nat} {v : Value} {l : List UInt8} {p : Nat} (h : RAt w R v l p) (hk : Kp (fun _ => False) w w') : RAt w' R v l p :=
  ⟨(hk.block R (Array.getElem?_eq_some_iff.1 h.cells).1 (fun e => e)).trans h.cells, bytes_kp h.bytes hk (fun _ _ e => e), h.le⟩
theorem RAt.step {w : World} {R : Nat} {v : Value} {l : List UInt8} {p : Nat} (h : RAt w R v l p) {p' : Nat} (hp : p' ≤ l.length) :
    RAt (w.setCell ⟨R, 1, none⟩ (.int .i64 p')) R v l p' ∧ Kp (fun q => q = R) w (w.setCell ⟨R, 1, none⟩ (.int .i64 p')) := by
  have hk : Kp (fun q => q = R) w (w.setCell ⟨R, 1, none⟩ (.int .i64 p')) := (Kp.refl (fun q => q = R) w).setCell _ _ (.inl rfl)
  exact ⟨⟨heap_set_same h.cells _, bytes_kp h.bytes hk (fun q e e2 => by omega), hp⟩, hk⟩

theorem _root_.Go.Kp.drewN {F : Nat → Prop} {w w' : World} (h : Kp F w w') (n : Nat) : Kp F w (w'.drewN n) := ⟨h.os, h.tape, h.output, h.size, h.block⟩
theorem RAt.drewN {w : World} {R : Nat} {v : Value} {l : List UInt8} {p : Nat} (h : RAt w R v l p) (n : Nat) : RAt (w.drewN n) R v l p :=
  h.kp ((Kp.refl _ w).drewN n)
theorem next_ok {w : World} {R : Nat} {v : Value} {l : List UInt8} {p : Nat} (h : RAt w R v l p) {c : UInt8} (hc : l[p]? = some c) :
    Calls Tryd.prog 37 #[.pointer (some ⟨R, 0, none⟩)] w fun e w' => e = .returned (.int .u8 c.toNat) ∧ RAt w' R v l (p + 1) ∧ Kp (fun q => q = R) w w' := by
  have hlt := (List.getElem?_eq_some_iff.1 hc).1
  have hroom := h.room
  obtain ⟨po, cap, rfl, h2, h3, h4⟩ := id h.bytes
  obtain ⟨b, off, rfl, hF, hcell⟩ := h4 p c hc
  have c0 : w.cell? ⟨R, 0, none⟩ = some (.slice (some ⟨b, off, none⟩) l.length cap) := by rw [cell_of_row w R 0 _ _ _ h.cells]; rfl
  have c1 : w.cell? ⟨R, 1, none⟩ = some (.int .i64 p) := by rw [cell_of_row w R 1 _ _ _ h.cells]; rfl
  have f1 : w.frozen? ⟨R, 1, none⟩ = false := by simp [World.frozen?, h.cells]
  have hbne : b ≠ R := by omega
  have hpl : (p : Int) < l.length := by omega
  have hpe : ((p : Int) == (l.length : Int)) = false := beq_eq_false_iff_ne.2 (by omega)
  have H := Lib.hid h
  clear h h4 hc
  go_enter Tryd.func37, Tryd.ntmps37
  go_wp2_with fail
  go_quiet (fail)
  go_wp2_with fail
  go_quiet (fail)
  go_wp2_with fail
  go_ret
  exact ⟨rfl, ((H.out.drewN _).step (p' := p + 1) (by omega)).1.drewN _, ((Kp.refl _ w).drewN _).trans' (((H.out.drewN _).step (p' := p + 1) (by omega)).2.drewN _)⟩

theorem next_no {w : World} {R : Nat} {v : Value} {l : List UInt8} {p : Nat} (h : RAt w R v l p) (hp : p = l.length) :
    Calls Tryd.prog 37 #[.pointer (some ⟨R, 0, none⟩)] w (RFail R w) := by
  have hroom := h.room
  obtain ⟨po, cap, rfl, h2, h3, h4⟩ := id h.bytes
  have c0 : w.cell? ⟨R, 0, none⟩ = some (.slice po l.length cap) := by rw [cell_of_row w R 0 _ _ _ h.cells]; rfl
  have c1 : w.cell? ⟨R, 1, none⟩ = some (.int .i64 p) := by rw [cell_of_row w R 1 _ _ _ h.cells]; rfl
  have hpe : ((p : Int) == (l.length : Int)) = true := beq_iff_eq.2 (by omega)
  clear h h4 hp
  go_enter Tryd.func37, Tryd.ntmps37
  go_wp2_with fail
  go_quiet (fail)
  go_wp2_with (go_at_call 38; refine (wrong_any _ _).mono ?_; rintro e w' ⟨rfl, rfl⟩)
  refine bodyPost_panic rfl ?_
  exact ⟨_, p, [Lk.kind 10], rfl, ChainB.cons readS p (ChainB.root _ _ (by decide)) (Nat.le_refl _) (heap_alloc_new (w.drewN _) _), by simp, ((Kp.refl _ w).drewN _).alloc _⟩

/-- the end of a call that gave up, or did not, at where the reader is now -/
theorem RFail.le {R : Nat} {w w1 w' : World} {e : Ending} (h : RFail R w1 e w') (hk : Kp (fun q => q = R) w w1) : RFail R w e w' := by
  obtain ⟨v, n, ls, h1, h2, h3, h4⟩ := h
  exact ⟨v, n, ls, h1, h2.le hk.size, h3, hk.trans' h4⟩

/-- the end of groups -/
def GrpPost (w : World) (R : Nat) (v : Value) (l : List UInt8) (p most : Nat) (e : Ending) (w' : World) : Prop :=
  (∃ n : Nat, e = .returned (.int .u64 n) ∧ n ≤ most ∧ RAt w' R v l (p + (encNat n).length) ∧ l.drop p = encNat n ++ l.drop (p + (encNat n).length) ∧ Kp (fun q => q = R) w w') ∨
  (RFail R w e w' ∧ ∀ n y, n ≤ most → l.drop p ≠ encNat n ++ y)
/-- giving up by wrong -/
theorem rfail_wrong {R : Nat} {w w2 : World} (n : Int) (hk : Kp (fun q => q = R) w w2) :
    RFail R w (.panicked [{ v := .iface 39 (.pointer (some ⟨w2.heap.size, 0, none⟩)), recovered := false }]) (w2.alloc (.cells #[.string readS, .int .i64 n, .iface 40 (.int .i64 10)] 42)) :=
  ⟨_, n, [Lk.kind 10], rfl, ChainB.cons readS n (ChainB.root _ _ (by decide)) hk.size (heap_alloc_new w2 _), by simp, hk.alloc _⟩

set_option maxRecDepth 100000 in
set_option maxHeartbeats 2000000 in
theorem groups_any {w : World} {R : Nat} {v : Value} {l : List UInt8} {p : Nat} (h : RAt w R v l p) (count most : Nat) (hc : count ≤ 10) (hc0 : 0 < count) (hm : most < 18446744073709551616) (hcm : most < 128 ^ count) :
    Calls Tryd.prog 58 #[.pointer (some ⟨R, 0, none⟩), .int .i64 count, .int .u64 most] w (GrpPost w R v l p most) := by
  have c1 : w.cell? ⟨R, 1, none⟩ = some (.int .i64 p) := by rw [cell_of_row w R 1 _ _ _ h.cells]; rfl
  have H := Lib.hid (And.intro h hcm)
  clear h hcm
  go_enter Tryd.func58, Tryd.ntmps58
  go_wp2_with fail
  go_loopg [8, 18] count (fun gk nn ii wr => ∃ (i n : Nat), i ≤ count ∧ gk = count - i ∧ ii = .int .i64 i ∧ nn = .int .u64 n ∧ (i < 10 → n = lowN ((l.drop p).take i)) ∧ p + i ≤ l.length ∧ (∀ b ∈ (l.drop p).take i, 128 ≤ b.toNat) ∧ RAt wr R v l (p + i) ∧ Kp (fun q => q = R) w wr)
  case atStart => exact ⟨0, 0, by omega, rfl, rfl, rfl, fun _ => rfl, H.out.1.le, by simp, H.out.1, Kp.refl _ _⟩
  case round =>
    obtain ⟨i, n, hi, rfl, rfl, rfl, hn, hpl, hbig, hr, hk⟩ := hrel
    by_cases hlt : i < count
    · by_cases hend : p + i = l.length
      · go_wp2_with fail
        refine (next_no hr hend).mono ?_
        rintro e w2 hf0
        obtain ⟨v1, n1, ls, rfl, hf⟩ := hf0.le hk
        have HF := Lib.hid hf
        clear hf hf0
        go_wp2_with fail
        refine bodyPost_panic rfl ?_
        exact .inr ⟨⟨_, _, _, rfl, HF.out⟩, fun n y _ => grp_end hbig (by rw [List.take_of_length_le]; rw [List.length_drop]; omega)⟩
      · obtain ⟨c, hcc⟩ : ∃ c, l[p + i]? = some c := ⟨l[p + i], List.getElem?_eq_getElem (by omega)⟩
        obtain rfl := hn (by omega)
        have hcl := c.toNat_lt
        by_cases hb : 128 ≤ c.toNat
        · have hbi : (128 : Int) ≤ c.toNat := by omega
          obtain ⟨N, hN, hNl⟩ : ∃ N : Nat, bits BinOp.or IntKind.u64 ((lowN ((l.drop p).take i) : Nat) : Int) (IntKind.u64.wrap ((c.toNat : Int) % 128 * 2 ^ (7 * i))) = N ∧ (i + 1 < 10 → N = lowN ((l.drop p).take (i + 1))) := by
            by_cases h9 : i + 1 < 10
            · refine ⟨_, grp_or (grp_len hpl) (by omega) c ?_, fun _ => by rw [grp_take hcc]⟩
              have h1 := Nat.pow_le_pow_right (n := 128) (by omega) (show i ≤ 8 by omega)
              have h2 : (128 : Nat) ^ 8 = 72057594037927936 := by decide
              have h3 : c.toNat % 128 * 128 ^ i ≤ 127 * 128 ^ i := Nat.mul_le_mul_right _ (by omega)
              omega
            · exact ⟨_, (Int.toNat_of_nonneg (bits_lo_u64 _ _ _)).symm, fun h => absurd h h9⟩
          have H5 := Lib.hid (And.intro hNl (And.intro hbig (And.intro hr (And.intro hk hcc))))
          clear hNl hbig hr hk hcc
          go_wp2_with fail
          refine (next_ok H5.out.2.2.1 H5.out.2.2.2.2).mono ?_
          rintro e w2 ⟨rfl, hr2, hk2⟩
          have H6 := Lib.hid (And.intro hr2 hk2)
          clear hr2 hk2
          go_wp2_with fail
          go_roundg (count - (i + 1))
          case measure => omega
          case rel => exact ⟨i + 1, N, by omega, rfl, by go_num, rfl, H5.out.1, by omega, fun b hbm => by
            rw [grp_take H5.out.2.2.2.2] at hbm
            rcases List.mem_append.1 hbm with hbm | hbm
            · exact H5.out.2.1 b hbm
            · rw [List.mem_singleton.1 hbm]; exact hb, H6.out.1, H5.out.2.2.2.1.trans' H6.out.2⟩
        · have hbi : ¬ (128 : Int) ≤ c.toNat := by omega
          have hc128 : c.toNat < 128 := by omega
          have hlen := grp_len hpl
          have hdr := grp_drop hcc
          have hcm : ((c.toNat : Int) % 128) = c.toNat := by omega
          by_cases hz : 0 < i ∧ c.toNat = 0
          · obtain ⟨hz1, hz2⟩ := hz
            have hno : ∀ n y, n ≤ most → l.drop p ≠ encNat n ++ y := fun n y _ e => by
              rcases (grp_val hbig hc128 hdr e).2 with h | h
              · rw [h] at hlen; simp at hlen; omega
              · exact h hz2
            obtain ⟨N, hN⟩ : ∃ N : Nat, bits BinOp.or IntKind.u64 ((lowN ((l.drop p).take i) : Nat) : Int) (IntKind.u64.wrap ((c.toNat : Int) % 128 * 2 ^ (7 * i))) = N := ⟨_, (Int.toNat_of_nonneg (bits_lo_u64 _ _ _)).symm⟩
            have hg0 : ((c.toNat : Int) % 128 == 0) = true := by rw [beq_iff_eq]; omega
            have hi0 : (0 : Int) < i := by omega
            have H5 := Lib.hid (And.intro hr (And.intro hk (And.intro hcc hno)))
            clear hbig hr hk hcc hno hlen hdr hcm hz2 hn
            go_wp2_with fail
            refine (next_ok H5.out.1 H5.out.2.2.1).mono ?_
            rintro e w2 ⟨rfl, hr2, hk2⟩
            have H6 := Lib.hid (And.intro hr2 hk2)
            clear hr2 hk2
            go_wp2_with (go_at_call 38; refine (wrong_any _ _).mono ?_; rintro e w' ⟨rfl, rfl⟩)
            refine bodyPost_panic rfl ?_
            exact .inr ⟨rfail_wrong _ (H5.out.2.1.trans' H6.out.2), H5.out.2.2.2⟩
          · have ediv : ((most / 2 ^ (7 * i) : Nat) : Int) = (most : Int) / 2 ^ (7 * i) := by rw [Int.natCast_ediv, Int.natCast_pow]; rfl
            by_cases hT2 : most / 2 ^ (7 * i) < c.toNat
            · have hno : ∀ n y, n ≤ most → l.drop p ≠ encNat n ++ y := fun n y hnm e => by
                have h1 := (grp_val hbig hc128 hdr e).1
                have h2 := grp_big (h := (l.drop p).take i) hc128 hlen hT2
                omega
              have hT2i : (most : Int) / 2 ^ (7 * i) < (c.toNat : Int) % 128 := by rw [← ediv, hcm]; omega
              obtain ⟨N, hN⟩ : ∃ N : Nat, bits BinOp.or IntKind.u64 ((lowN ((l.drop p).take i) : Nat) : Int) (IntKind.u64.wrap ((c.toNat : Int) % 128 * 2 ^ (7 * i))) = N := ⟨_, (Int.toNat_of_nonneg (bits_lo_u64 _ _ _)).symm⟩
              have H5 := Lib.hid (And.intro hr (And.intro hk (And.intro hcc hno)))
              clear hr hk hcc hno hdr hcm ediv hT2 hbig hlen
              by_cases hi0n : 0 < i
              · have hi0 : (0 : Int) < i := by omega
                have hg0 : ((c.toNat : Int) % 128 == 0) = false := by rw [beq_eq_false_iff_ne]; omega
                clear hz hn 
                go_wp2_with fail
                refine (next_ok H5.out.1 H5.out.2.2.1).mono ?_
                rintro e w2 ⟨rfl, hr2, hk2⟩
                have H6 := Lib.hid (And.intro hr2 hk2)
                clear hr2 hk2
                go_wp2_with (go_at_call 38; refine (wrong_any _ _).mono ?_; rintro e w' ⟨rfl, rfl⟩)
                refine bodyPost_panic rfl ?_
                exact .inr ⟨rfail_wrong _ (H5.out.2.1.trans' H6.out.2), H5.out.2.2.2⟩
              · have hi0 : ¬ (0 : Int) < i := by omega
                clear hz hn 
                go_wp2_with fail
                refine (next_ok H5.out.1 H5.out.2.2.1).mono ?_
                rintro e w2 ⟨rfl, hr2, hk2⟩
                have H6 := Lib.hid (And.intro hr2 hk2)
                clear hr2 hk2
                go_wp2_with (go_at_call 38; refine (wrong_any _ _).mono ?_; rintro e w' ⟨rfl, rfl⟩)
                refine bodyPost_panic rfl ?_
                exact .inr ⟨rfail_wrong _ (H5.out.2.1.trans' H6.out.2), H5.out.2.2.2⟩
            · have hT2i : ¬ (most : Int) / 2 ^ (7 * i) < (c.toNat : Int) % 128 := by rw [← ediv, hcm]; omega
              have hN := grp_or hlen (by omega) c (grp_fit hc128 hm hT2)
              by_cases hT3 : most < lowN ((l.drop p).take i ++ [c])
              · have hno : ∀ n y, n ≤ most → l.drop p ≠ encNat n ++ y := fun n y hnm e => by
                  have h1 := (grp_val hbig hc128 hdr e).1
                  omega
                have hT3i : (most : Int) < ((lowN ((l.drop p).take i ++ [c]) : Nat) : Int) := by omega
                have H5 := Lib.hid (And.intro hr (And.intro hk (And.intro hcc hno)))
                clear hr hk hcc hno hdr hcm ediv hT2 hbig hlen hT3
                by_cases hi0n : 0 < i
                · have hi0 : (0 : Int) < i := by omega
                  have hg0 : ((c.toNat : Int) % 128 == 0) = false := by rw [beq_eq_false_iff_ne]; omega
                  clear hz hn 
                  go_wp2_with fail
                  refine (next_ok H5.out.1 H5.out.2.2.1).mono ?_
                  rintro e w2 ⟨rfl, hr2, hk2⟩
                  have H6 := Lib.hid (And.intro hr2 hk2)
                  clear hr2 hk2
                  go_wp2_with (go_at_call 38; refine (wrong_any _ _).mono ?_; rintro e w' ⟨rfl, rfl⟩)
                  refine bodyPost_panic rfl ?_
                  exact .inr ⟨rfail_wrong _ (H5.out.2.1.trans' H6.out.2), H5.out.2.2.2⟩
                · have hi0 : ¬ (0 : Int) < i := by omega
                  clear hz hn 
                  go_wp2_with fail
                  refine (next_ok H5.out.1 H5.out.2.2.1).mono ?_
                  rintro e w2 ⟨rfl, hr2, hk2⟩
                  have H6 := Lib.hid (And.intro hr2 hk2)
                  clear hr2 hk2
                  go_wp2_with (go_at_call 38; refine (wrong_any _ _).mono ?_; rintro e w' ⟨rfl, rfl⟩)
                  refine bodyPost_panic rfl ?_
                  exact .inr ⟨rfail_wrong _ (H5.out.2.1.trans' H6.out.2), H5.out.2.2.2⟩
              · have hT3i : ¬ (most : Int) < ((lowN ((l.drop p).take i ++ [c]) : Nat) : Int) := by omega
                have henc := encNat_low hbig hc128 (by
                  by_cases h0 : i = 0
                  · exact .inl (List.eq_nil_of_length_eq_zero (by rw [hlen]; exact h0))
                  · exact .inr (fun e => hz ⟨by omega, e⟩))
                have H5 := Lib.hid (And.intro hr (And.intro hk (And.intro hcc (And.intro (show lowN ((l.drop p).take i ++ [c]) ≤ most by omega) (And.intro henc (And.intro hdr (And.intro hlen trivial)))))))
                clear hr hk hcc hdr hcm ediv hT2 hbig hlen hT3 henc
                by_cases hi0n : 0 < i
                · have hi0 : (0 : Int) < i := by omega
                  have hg0 : ((c.toNat : Int) % 128 == 0) = false := by rw [beq_eq_false_iff_ne]; omega
                  clear hz hn 
                  go_wp2_with fail
                  refine (next_ok H5.out.1 H5.out.2.2.1).mono ?_
                  rintro e w2 ⟨rfl, hr2, hk2⟩
                  have H6 := Lib.hid (And.intro hr2 hk2)
                  clear hr2 hk2
                  go_wp2_with fail
                  go_ret
                  obtain ⟨q1, q2, q3, q4, q5⟩ := H5.out.2.2.2
                  refine .inl ⟨lowN ((l.drop p).take i ++ [c]), rfl, q1, ?_, ?_, H5.out.2.1.trans' H6.out.2⟩
                  · rw [q2, List.length_append, q4]; exact H6.out.1
                  · rw [q2, List.length_append, q4, List.append_assoc]; exact q3
                · have hi0 : ¬ (0 : Int) < i := by omega
                  clear hz hn 
                  go_wp2_with fail
                  refine (next_ok H5.out.1 H5.out.2.2.1).mono ?_
                  rintro e w2 ⟨rfl, hr2, hk2⟩
                  have H6 := Lib.hid (And.intro hr2 hk2)
                  clear hr2 hk2
                  go_wp2_with fail
                  go_ret
                  obtain ⟨q1, q2, q3, q4, q5⟩ := H5.out.2.2.2
                  refine .inl ⟨lowN ((l.drop p).take i ++ [c]), rfl, q1, ?_, ?_, H5.out.2.1.trans' H6.out.2⟩
                  · rw [q2, List.length_append, q4]; exact H6.out.1
                  · rw [q2, List.length_append, q4, List.append_assoc]; exact q3
    · obtain rfl : i = count := by omega
      have hno : ∀ n y, n ≤ most → l.drop p ≠ encNat n ++ y := fun n y hnm => grp_long hbig (List.take_append_drop _ _).symm (grp_len hpl) hc0 (Nat.lt_of_le_of_lt hnm H.out.2)
      have H5 := Lib.hid (And.intro hk hno)
      clear hbig hr hk hno hn
      go_wp2_with (go_at_call 38; refine (wrong_any _ _).mono ?_; rintro e w' ⟨rfl, rfl⟩)
      refine bodyPost_panic rfl ?_
      exact .inr ⟨rfail_wrong _ H5.out.1, H5.out.2⟩
end Go.Proofs.YtaeoohjgdkablaaDoor
