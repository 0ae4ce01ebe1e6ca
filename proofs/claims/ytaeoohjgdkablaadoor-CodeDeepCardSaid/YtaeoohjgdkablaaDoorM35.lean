/- Any number in a literal, any operand: written, and read again. -/
import Derived.Test.YtaeoohjgdkablaaDoorM33
import Derived.Test.YtaeoohjgdkablaaDoorM34
/- Any number in a literal, any operand: written, and read again. -/
namespace Go.Proofs.YtaeoohjgdkablaaDoor
open Go.RowKit

def nm (c : UInt8) : ByteArray := ⟨#[c]⟩
def numM (v a b c : Int) : Md := ⟨nm 109, [.mk 1 v ⟨#[]⟩ [] [] []], [⟨nm 102, 0, 0, [⟨7, a, b, c⟩]⟩]⟩
def numW (w : World) (v a b c : Int) : World :=
  (((w.alloc (.cells #[.int .i64 1, .int .i64 v, .string ⟨#[]⟩, .slice none 0 0, .slice none 0 0, .slice none 0 0] 25)).alloc (.cells #[.int .i64 7, .int .i64 a, .int .i64 b, .int .i64 c] 27)).alloc
    (.cells #[.string (nm 102), .int .i64 0, .int .i64 0, .slice (some ⟨w.heap.size + 1, 0, none⟩) 1 1] 30)).alloc (.cells #[.string (nm 109), .slice (some ⟨w.heap.size, 0, none⟩) 1 1, .slice (some ⟨w.heap.size + 1 + 1, 0, none⟩) 1 1] 33)
theorem numW_size (w : World) (v a b c : Int) : (numW w v a b c).heap.size = w.heap.size + 4 := by unfold numW; simp
theorem numW_kp (w : World) (v a b c : Int) : Kp (fun _ => False) w (numW w v a b c) := ((((Kp.refl _ w).alloc _).alloc _).alloc _).alloc _
theorem numW_0 (w : World) (v a b c : Int) : (numW w v a b c).heap[w.heap.size]? = some (.cells #[.int .i64 1, .int .i64 v, .string ⟨#[]⟩, .slice none 0 0, .slice none 0 0, .slice none 0 0] 25 (0, 0)) := by
  unfold numW
  rw [Below.heap_alloc _ _ _ (by simp; omega), Below.heap_alloc _ _ _ (by simp; omega), Below.heap_alloc _ _ _ (by simp)]; exact heap_alloc_new w _
theorem numW_1 (w : World) (v a b c : Int) : (numW w v a b c).heap[w.heap.size + 1]? = some (.cells #[.int .i64 7, .int .i64 a, .int .i64 b, .int .i64 c] 27 (0, 0)) := by
  unfold numW
  rw [Below.heap_alloc _ _ _ (by simp), Below.heap_alloc _ _ _ (by simp)]
  have := heap_alloc_new (w.alloc (.cells #[.int .i64 1, .int .i64 v, .string ⟨#[]⟩, .slice none 0 0, .slice none 0 0, .slice none 0 0] 25)) (.cells #[.int .i64 7, .int .i64 a, .int .i64 b, .int .i64 c] 27)
  simpa using this
theorem numW_2 (w : World) (v a b c : Int) : (numW w v a b c).heap[w.heap.size + 1 + 1]? = some (.cells #[.string (nm 102), .int .i64 0, .int .i64 0, .slice (some ⟨w.heap.size + 1, 0, none⟩) 1 1] 30 (0, 0)) := by
  unfold numW
  rw [Below.heap_alloc _ _ _ (by simp)]
  have := heap_alloc_new ((w.alloc (.cells #[.int .i64 1, .int .i64 v, .string ⟨#[]⟩, .slice none 0 0, .slice none 0 0, .slice none 0 0] 25)).alloc (.cells #[.int .i64 7, .int .i64 a, .int .i64 b, .int .i64 c] 27)) (.cells #[.string (nm 102), .int .i64 0, .int .i64 0, .slice (some ⟨w.heap.size + 1, 0, none⟩) 1 1] 30)
  simpa using this
theorem numW_3 (w : World) (v a b c : Int) : (numW w v a b c).heap[w.heap.size + 1 + 1 + 1]? = some (.cells #[.string (nm 109), .slice (some ⟨w.heap.size, 0, none⟩) 1 1, .slice (some ⟨w.heap.size + 1 + 1, 0, none⟩) 1 1] 33 (0, 0)) := by
  unfold numW
  have := heap_alloc_new (((w.alloc (.cells #[.int .i64 1, .int .i64 v, .string ⟨#[]⟩, .slice none 0 0, .slice none 0 0, .slice none 0 0] 25)).alloc (.cells #[.int .i64 7, .int .i64 a, .int .i64 b, .int .i64 c] 27)).alloc
    (.cells #[.string (nm 102), .int .i64 0, .int .i64 0, .slice (some ⟨w.heap.size + 1, 0, none⟩) 1 1] 30)) (.cells #[.string (nm 109), .slice (some ⟨w.heap.size, 0, none⟩) 1 1, .slice (some ⟨w.heap.size + 1 + 1, 0, none⟩) 1 1] 33)
  simpa using this
theorem nil_list (F : Nat → Prop) (w : World) (h : Nat) : ListAt F w (TermAt F w h) [] (.slice none 0 0) := ⟨none, 0, rfl, by simp, by simp, fun i t h => by simp at h⟩
theorem nil_bytes (F : Nat → Prop) (w : World) : BytesAt F w [] (.slice none 0 0) := ⟨none, 0, rfl, by simp, by simp, fun i t h => by simp at h⟩
theorem num_md (w : World) (v a b c : Int) (hv : isI64 v) (ha : isI64 a) (hb : isI64 b) (hc : isI64 c) :
    MdAt (fun q => q < (numW w v a b c).heap.size) (numW w v a b c) 2 (numM v a b c) [.string (nm 109), .slice (some ⟨w.heap.size, 0, none⟩) 1 1, .slice (some ⟨w.heap.size + 1 + 1, 0, none⟩) 1 1] := by
  have h0 := numW_0 w v a b c
  have h1 := numW_1 w v a b c
  have h2 := numW_2 w v a b c
  have hz := numW_size w v a b c
  refine ⟨_, _, rfl, (show (nm 109).size ≤ maxLen by decide), ⟨some ⟨w.heap.size, 0, none⟩, 1, rfl, by simp [numM], by simp [numM], fun i t hi => ?_⟩, ⟨some ⟨w.heap.size + 1 + 1, 0, none⟩, 1, rfl, by simp [numM], by simp [numM], fun i f hi => ?_⟩⟩
  · obtain ⟨rfl, rfl⟩ : i = 0 ∧ t = .mk 1 v ⟨#[]⟩ [] [] [] := by
      match i, hi with
      | 0, hi => exact ⟨rfl, by simpa [numM] using hi.symm⟩
    refine ⟨w.heap.size, 0, .int .i64 1, .int .i64 v, .string ⟨#[]⟩, .slice none 0 0, .slice none 0 0, .slice none 0 0, rfl, by omega, by rw [cell_of_row _ _ _ _ _ _ h0]; rfl, by rw [cell_of_row _ _ _ _ _ _ h0]; rfl, by rw [cell_of_row _ _ _ _ _ _ h0]; rfl, by rw [cell_of_row _ _ _ _ _ _ h0]; rfl, by rw [cell_of_row _ _ _ _ _ _ h0]; rfl, by rw [cell_of_row _ _ _ _ _ _ h0]; rfl, ?_⟩
    exact ⟨_, _, _, rfl, ⟨by decide, by decide, hv.1, hv.2, by decide⟩, nil_list _ _ _, nil_list _ _ _, nil_bytes _ _⟩
  · obtain ⟨rfl, rfl⟩ : i = 0 ∧ f = ⟨nm 102, 0, 0, [⟨7, a, b, c⟩]⟩ := by
      match i, hi with
      | 0, hi => exact ⟨rfl, by simpa [numM] using hi.symm⟩
    refine ⟨w.heap.size + 1 + 1, 0, .string (nm 102), .int .i64 0, .int .i64 0, .slice (some ⟨w.heap.size + 1, 0, none⟩) 1 1, rfl, by omega, by rw [cell_of_row _ _ _ _ _ _ h2]; rfl, by rw [cell_of_row _ _ _ _ _ _ h2]; rfl, by rw [cell_of_row _ _ _ _ _ _ h2]; rfl, by rw [cell_of_row _ _ _ _ _ _ h2]; rfl, ?_⟩
    refine ⟨_, rfl, by unfold isI64; simp, by unfold isI64; simp, (show (nm 102).size ≤ maxLen by decide), ⟨some ⟨w.heap.size + 1, 0, none⟩, 1, rfl, by simp, by simp, fun i x hi => ?_⟩⟩
    obtain ⟨rfl, rfl⟩ : i = 0 ∧ x = ⟨7, a, b, c⟩ := by
      match i, hi with
      | 0, hi => exact ⟨rfl, by simpa using hi.symm⟩
    exact ⟨w.heap.size + 1, 0, rfl, by omega, by rw [cell_of_row _ _ _ _ _ _ h1]; rfl, by rw [cell_of_row _ _ _ _ _ _ h1]; rfl, by rw [cell_of_row _ _ _ _ _ _ h1]; rfl, by rw [cell_of_row _ _ _ _ _ _ h1]; rfl, ⟨by unfold isI64; simp, ha, hb, hc⟩⟩
theorem encNat_le {n : Nat} (h : n < 18446744073709551616) : (encNat n).length ≤ 10 := encNat_len (k := 10) (by omega) (by omega)
theorem num_len (v a b c : Int) (hv : isI64 v) (ha : isI64 a) (hb : isI64 b) (hc : isI64 c) : (encM (numM v a b c)).length ≤ 100 := by
  have h1 := encNat_le (zig_lt hv.1 hv.2)
  have h2 := encNat_le (zig_lt ha.1 ha.2)
  have h3 := encNat_le (zig_lt hb.1 hb.2)
  have h4 := encNat_le (zig_lt hc.1 hc.2)
  have e0 : encNat 0 = [0] := encNat_small (by omega)
  have e1 : encNat 1 = [1] := encNat_small (by omega)
  simp [encM, numM, encB, encL, encTs, encT, encFs, encF, encIs, encI, e0, e1, nm]
  omega
theorem num_okT (v a b c : Int) : ∀ T ∈ (numM v a b c).lits, okT T := by
  intro T hT
  obtain rfl : T = .mk 1 v ⟨#[]⟩ [] [] [] := by simpa [numM] using hT
  refine ⟨⟨?_, by simp, by simp⟩, by simp [tsize, tsizes]⟩
  show fitsK 1 v ⟨#[]⟩ [] [] [] = true
  simp [fitsK]
theorem num_wfT (v a b c : Int) (hv : isI64 v) : ∀ T ∈ (numM v a b c).lits, wfT T := by
  intro T hT
  obtain rfl : T = .mk 1 v ⟨#[]⟩ [] [] [] := by simpa [numM] using hT
  have hz := zig_lt hv.1 hv.2
  rw [wfT]
  refine ⟨.inl ⟨.inl rfl, by simp only; omega, rfl, rfl, rfl⟩, trivial, trivial, by simp⟩
def inR (a : Int) : Prop := -549755813888 ≤ a ∧ a ≤ 549755813888
theorem num_fits (a b c : Int) : fitsF ⟨nm 102, 0, 0, [⟨7, a, b, c⟩]⟩ = true ↔ inR a ∧ inR b ∧ inR c := by
  simp [fitsF, fitsI, wi, inR, and_assoc]
theorem half_in {a : Int} (h : inR a) : inR (a.tdiv 2) := by
  unfold inR at *
  rcases Int.le_total 0 a with h0 | h0
  · rw [Int.tdiv_eq_ediv_of_nonneg h0]; omega
  · obtain ⟨b, rfl⟩ : ∃ b, a = -b := ⟨-a, by omega⟩
    rw [Int.neg_tdiv, Int.tdiv_eq_ediv_of_nonneg (by omega)]; omega
theorem isI64_wrap (x : Int) : isI64 (wrap64 x) := by unfold isI64 wrap64; omega
def NumbersPost (w : World) (v a b c : Int) (e : Ending) (w' : World) : Prop :=
  (∃ po cap, e = .returned (.tuple #[.slice po (encM (numM v a b c)).length cap, .nilIface]) ∧ BytesAt (fun _ => True) w' (encM (numM v a b c)) (.slice po (encM (numM v a b c)).length cap) ∧ (inR a ∧ inR b ∧ inR c) ∧ Kp (fun _ => False) (numW w v a b c) w') ∨
  (∃ x, e = .returned (.tuple #[.slice none 0 0, x]) ∧ Chain w' x [Lk.fault writeS 0, Lk.kind 1] ∧ ¬ (inR a ∧ inR b ∧ inR c) ∧ Kp (fun _ => False) (numW w v a b c) w')
theorem num_write (w : World) (v a b c : Int) (hv : isI64 v) (ha : isI64 a) (hb : isI64 b) (hc : isI64 c) :
    Calls Tryd.prog 8 #[.agg #[.string (nm 109), .slice (some ⟨w.heap.size, 0, none⟩) 1 1, .slice (some ⟨w.heap.size + 1 + 1, 0, none⟩) 1 1]] (numW w v a b c) (NumbersPost w v a b c) := by
  have hl := num_len v a b c hv ha hb hc
  refine (write_any (Nat.le_refl _) (num_md w v a b c hv ha hb hc) (by omega)).mono ?_
  rintro e w' (⟨⟨po, n, cap, rfl, hB, hk⟩, hok⟩ | ⟨x, rfl, hk, ⟨i, T, _, _, hi, hno, _⟩ | ⟨_, i, f, hi, hf, hch⟩⟩)
  · obtain ⟨po', cap', e, _⟩ := hB.form
    injection e with e1 e2 e3
    subst e1 e2 e3
    exact .inl ⟨po, cap, rfl, (hB.at' (by omega)).imp (fun _ _ => trivial) (fun _ _ _ _ e => e), (num_fits a b c).1 (hok.2 _ (by simp [numM])), kb_new hk⟩
  · exact absurd (num_okT v a b c T (List.mem_of_getElem? hi)) hno
  · obtain ⟨rfl, rfl⟩ : i = 0 ∧ f = ⟨nm 102, 0, 0, [⟨7, a, b, c⟩]⟩ := by
      match i, hi with
      | 0, hi => exact ⟨rfl, by simpa [numM] using hi.symm⟩
    refine .inr ⟨x, rfl, hch.out, fun h => ?_, kb_new hk⟩
    rw [(num_fits a b c).2 h] at hf
    cases hf
theorem MdAt.le {F : Nat → Prop} {w : World} {h h' : Nat} {m : Md} {cs : List Value} (hm : MdAt F w h m cs) (hh : h ≤ h') : MdAt F w h' m cs := by
  obtain ⟨vl, vf, e, h1, h2, h3⟩ := hm
  exact ⟨vl, vf, e, h1, h2.imp (fun _ e => e) (fun _ _ _ _ e => e) (fun _ _ e => TermAt.le e hh), h3⟩
theorem MdAt.kp {F G : Nat → Prop} {w w' : World} {h : Nat} {m : Md} {cs : List Value} (hm : MdAt F w h m cs) (hk : Kp G w w') (hd : ∀ q, F q → ¬ G q) : MdAt F w' h m cs :=
  hm.imp (fun _ e => e) (cells_kp hk hd)

set_option maxRecDepth 100000 in
set_option maxHeartbeats 4000000 in
theorem numbers_walk (v a b : Int) (w : World) (hv : isI64 v) (ha : isI64 a) (hb : isI64 b) :
    Calls Tryd.prog 3 #[.int .i64 v, .int .i64 a, .int .i64 b] w fun e w' => e = .returned (.bool true) ∧ Kp (fun _ => False) w w' := by
  by_cases hok : (-549755813888 ≤ a ∧ a ≤ 549755813888) ∧ -549755813888 ≤ b ∧ b ≤ 549755813888
  · obtain ⟨⟨ha1, ha2⟩, hb1, hb2⟩ := hok
    have hcR : inR (wrap64 (-a.tdiv 2)) := by have := half_in ⟨ha1, ha2⟩; unfold inR at *; unfold wrap64; omega
    have HV := Lib.hid (And.intro hv (And.intro ha (And.intro hb hcR)))
    clear hv ha hb hcR
    go_enter Tryd.func3, Tryd.ntmps3
    go_wp2_with fail
    obtain ⟨c, hc⟩ : ∃ c, wrap64 (-a.tdiv 2) = c := ⟨_, rfl⟩
    have HC : isI64 c ∧ inR c := by rw [← hc]; exact ⟨isI64_wrap _, HV.out.2.2.2⟩
    rw [hc]
    clear hc
    have HC := Lib.hid HC
    refine (num_write w v a b c HV.out.1 HV.out.2.1 HV.out.2.2.1 HC.out.1).mono ?_
    rintro e w2 (⟨po, cap, rfl, hB, -, hk2⟩ | ⟨x, -, -, hno, -⟩)
    · have hl := num_len v a b c HV.out.1 HV.out.2.1 HV.out.2.2.1 HC.out.1
      have hbM := (hk2.block _ (Array.getElem?_eq_some_iff.1 (numW_3 w v a b c)).1 (fun e => e)).trans (numW_3 w v a b c)
      have hMd := ((num_md w v a b c HV.out.1 HV.out.2.1 HV.out.2.2.1 HC.out.1).kp hk2 fun _ _ e => e).imp (G := fun _ => True) (fun _ _ => trivial) (fun _ _ _ _ e => e)
      have H2 := Lib.hid (And.intro hB (And.intro hk2 (And.intro hbM (And.intro hMd hl))))
      clear hB hk2 hbM hMd hl
      go_wp2_with fail
      refine (read_ok H2.out.1 ⟨num_okT v a b c, fun f hf => ?_⟩ (num_wfT v a b c HV.out.1) (show (nm 109).size ≤ _ by decide) (by have := H2.out.2.2.2.2; omega)).mono ?_
      · obtain rfl : f = ⟨nm 102, 0, 0, [⟨7, a, b, c⟩]⟩ := by simpa [numM] using hf
        exact (num_fits a b c).2 ⟨⟨ha1, ha2⟩, ⟨hb1, hb2⟩, HC.out.2⟩
      rintro e w3 ⟨hh, vl, vf, rfl, hM, hk3⟩
      obtain ⟨vl', vf', e', -, hLs, hFs⟩ := id hM
      obtain ⟨rfl, rfl⟩ : vl = vl' ∧ vf = vf' := by simpa using e'
      obtain ⟨p1, n1, c1, rfl⟩ := hLs.form
      obtain ⟨p2, c2, rfl, -⟩ := id hFs
      obtain ⟨w4, hw4⟩ : ∃ w4, w3.alloc (.cells #[.string (numM v a b c).name, .slice p1 n1 c1, .slice p2 (numM v a b c).funcs.length c2] 33) = w4 := ⟨_, rfl⟩
      have hk4 : Kp (fun _ => False) w3 w4 := by rw [← hw4]; exact (Kp.refl _ w3).alloc _
      have hbM := ((hk3.trans' hk4).block _ (Array.getElem?_eq_some_iff.1 H2.out.2.2.1).1 (fun e => e)).trans H2.out.2.2.1
      have hbN : w4.heap[w3.heap.size]? = some (.cells #[.string (numM v a b c).name, .slice p1 n1 c1, .slice p2 (numM v a b c).funcs.length c2] 33 (0, 0)) := by rw [← hw4]; exact heap_alloc_new w3 _
      obtain ⟨x0, x1, x2⟩ := cells3 hbM
      obtain ⟨y0, y1, y2⟩ := cells3 hbN
      have HM1 := (hM.le (Nat.le_max_left hh 2)).kp hk4 fun _ _ e => e
      have HM2 := (H2.out.2.2.2.1.le (Nat.le_max_right hh 2)).kp (hk3.trans' hk4) fun _ _ e => e
      have HS := Lib.hid (sameModule_any HM1 HM2)
      have HW := Lib.hid (((numW_kp w v a b c).trans' H2.out.2.1).trans' (hk3.trans' hk4))
      clear hM hLs hFs e' hk3 hk4 hbM hbN HM1 HM2
      subst hw4
      go_wp2_with fail
      refine HS.out.mono ?_
      rintro e w5 ⟨rfl, hk5⟩
      rw [sameM_true rfl]
      have H5 := Lib.hid (HW.out.trans' hk5)
      clear hk5 x0 x1 x2 y0 y1 y2
      go_wp2_with fail
      refine (cdAwake_any _).mono ?_
      rintro e w6 ⟨rfl, hk6⟩
      have H6 := Lib.hid (H5.out.trans' hk6)
      clear hk6
      go_wp2_with fail
      go_ret
      exact ⟨rfl, H6.out⟩
    · exact absurd ⟨⟨ha1, ha2⟩, ⟨hb1, hb2⟩, HC.out.2⟩ hno
  · have hno : ∀ c, ¬ (inR a ∧ inR b ∧ inR c) := fun c h => hok ⟨h.1, h.2.1⟩
    have h4 : ¬ -549755813888 ≤ a ∨ (-549755813888 ≤ a ∧ ¬ a ≤ 549755813888) ∨ ((-549755813888 ≤ a ∧ a ≤ 549755813888) ∧ ¬ -549755813888 ≤ b) ∨ ((-549755813888 ≤ a ∧ a ≤ 549755813888) ∧ -549755813888 ≤ b ∧ ¬ b ≤ 549755813888) := by omega
    have HV := Lib.hid (And.intro hv (And.intro ha (And.intro hb hno)))
    clear hv ha hb hok hno
    rcases h4 with h1 | ⟨h1, h2⟩ | ⟨⟨h1, h2⟩, h3⟩ | ⟨⟨h1, h2⟩, h3, h4⟩
    all_goals
      try (have hd : decide (b ≤ 549755813888) = false := (by simp; omega))
      go_enter Tryd.func3, Tryd.ntmps3
      go_wp2_with fail
      refine (num_write w v a b _ HV.out.1 HV.out.2.1 HV.out.2.2.1 (isI64_wrap _)).mono ?_
      rintro e w2 (⟨po, cap, -, -, hin, -⟩ | ⟨x, rfl, hch, -, hk2⟩)
      · exact absurd hin (HV.out.2.2.2 _)
      have hch2 : Chain (w2.alloc (.cells #[.string writeS, .int .i64 0, .iface 40 (.int .i64 1)] 42)) (.iface 39 (.pointer (some ⟨w2.heap.size, 0, none⟩))) [Lk.fault writeS 0, Lk.kind 1] :=
        .inr ⟨rfl, _, _, rfl, heap_alloc_new _ _, .inl ⟨rfl, rfl, rfl, rfl, by decide⟩⟩
      have HE := Lib.hid (err_any [Lk.fault writeS 0, Lk.kind 1] x _ _ (by simp) (Chain.kp ((Kp.refl _ w2).alloc _) _ _ hch) hch2)
      have H2 := Lib.hid ((numW_kp w v a b _).trans' (hk2.trans' ((Kp.refl _ w2).alloc (.cells #[.string writeS, .int .i64 0, .iface 40 (.int .i64 1)] 42))))
      clear hch hch2 hk2
      go_wp2_with fail
      refine HE.out.mono ?_
      rintro e w3 ⟨rfl, hk3⟩
      have H3 := Lib.hid (H2.out.trans' hk3)
      clear hk3
      go_wp2_with fail
      refine (cdAwake_any _).mono ?_
      rintro e w6 ⟨rfl, hk6⟩
      have H6 := Lib.hid (H3.out.trans' hk6)
      clear hk6
      go_wp2_with fail
      go_ret
      exact ⟨rfl, H6.out⟩
end Go.Proofs.YtaeoohjgdkablaaDoor
