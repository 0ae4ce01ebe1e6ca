/- Just as many binaries have room as there are slots, and as many bytes as may be: for any two numbers and every slice of sizes. -/
import Derived.Test.YtbenkgpiddlcfaaRows
import Derived.Test.YtbenkgpiddlcfaaLoose
import Derived.Test.YtbenkgpiddlcfaaHandles
import Derived.Test.YtbenkgpiddlcfaaPlace
import Derived.Test.YtbenkgpiddlcfaaIn
import Derived.Deep.LoopGhost
import Derived.WalkKit
import Derived.ProofKit
import Derived.OpenShut
import Derived.ShutString
import Derived.ChangeOld
import Derived.Below
import Derived.Deep.Strs
namespace Go.Proofs.Ytbenkgpiddlcfaa.binarySlots
open Go.ChangeShapes Go.WideShapes Go.ChangeAt Go.RowKit
open Go.ChangeMaps (open_string shut_string)
set_option linter.unusedVariables false

theorem own : ownKnob Try.prog.godebug = none := by kernel_rfl
theorem laidOut : laidOutB Try.prog = true := by kernel_rfl

/-- nothing but binaries that were put, and none that was freed -/
structure Flat (s m : Nat) (a : Bn) : Prop where
  most : a.most = s
  room : a.room = m
  free : a.free = []
  all : ∀ (i : Nat) (t : Sl), a.slots[i]? = some t → t.count = 1 ∧ t.gen = 0
theorem Flat.push {s m : Nat} {a : Bn} (h : Flat s m a) (l : List UInt8) : Flat s m (pushIn a l) := by
  refine ⟨h.most, h.room, h.free, fun i t ht => ?_⟩
  unfold pushIn at ht
  simp only at ht
  by_cases hi : i < a.slots.length
  · rw [List.getElem?_append_left hi] at ht
    exact h.all i t ht
  · have h2 := (List.getElem?_eq_some_iff.1 ht).1
    simp at h2
    obtain rfl : i = a.slots.length := by omega
    simp at ht
    subst ht
    exact ⟨rfl, rfl⟩
theorem heldN_all (l : List Sl) (h : ∀ (i : Nat) (t : Sl), l[i]? = some t → 0 < t.count) : ∀ k, k ≤ l.length → (heldN l k).length = k
  | 0, _ => rfl
  | k + 1, hk => by
    have ih := heldN_all l h k (by omega)
    have hs : l[k]? = some l[k] := List.getElem?_eq_getElem (by omega)
    rw [heldN_some hs (h k _ hs), List.length_append, ih]
    rfl
theorem Flat.held {s m : Nat} {a : Bn} (h : Flat s m a) : a.held.length = a.slots.length :=
  heldN_all _ (fun i t ht => by have := (h.all i t ht).1; omega) _ (Nat.le_refl _)

/-- so many zeroes, as a make lays them -/
theorem zeroes_at {w : World} {base g n cap : Nat} (h : w.ownsRow base 5 1 (.slice (some ⟨g, 0, none⟩) n cap) n (madeCells #[.int .u8 0] (n * 1)).toList) (hn : n ≤ 1048576) (hc : n ≤ cap) :
    BytesAt (fun q => q = g) w (List.replicate n 0) (.slice (some ⟨g, 0, none⟩) n cap) := by
  refine ⟨_, cap, by rw [List.length_replicate], by simpa using hc, by simp; omega, fun i c hi => ⟨g, 0, rfl, rfl, ?_⟩⟩
  have hl := (List.getElem?_eq_some_iff.1 hi).1
  rw [List.length_replicate] at hl
  have hc0 : c = 0 := by
    have := List.getElem?_replicate (a := (0 : UInt8)) (n := n) (i := i)
    rw [hi, if_pos hl] at this
    injection this
  subst hc0
  rw [Nat.zero_add, h.cellAt i (by omega), toList_madeCells_one]
  simp [hl]

set_option maxHeartbeats 4000000 in
set_option maxRecDepth 100000 in
theorem walk (a0 a1 : Int) (a2 : Option Addr) (len2 cap2 : Nat) (z2 : Nat → Int) (w : World) (w0 : (Lit.int .i64 a0).wf = true) (w1 : (Lit.int .i64 a1).wf = true) (h2 : InRow w a2 len2 z2) :
    Calls Try.prog 6 #[.int .i64 a0, .int .i64 a1, .slice a2 len2 cap2] w fun e w' => e = .returned (.bool true) ∧ Below w.heap.size w w' := by
  obtain ⟨b1, b2⟩ := bounds_i64 w0
  obtain ⟨b3, b4⟩ := bounds_i64 w1
  clear w0 w1
  have hlen := h2.1
  obtain ⟨s, hs, hs2⟩ : ∃ s : Nat, a0 % 20 = s ∧ s < 20 := ⟨(a0 % 20).toNat, by omega, by omega⟩
  obtain ⟨m, hm, hm2⟩ : ∃ m : Nat, a1 % 200 = m ∧ m < 200 := ⟨(a1 % 200).toNat, by omega, by omega⟩
  have Hv := Lib.hid (And.intro hs (And.intro hm h2))
  clear hs hm h2
  go_enter Try.func6, Try.ntmps6
  go_wp2_with fail
  refine (place_any _ a0 20 b1 b2 (by omega) (by omega)).mono ?_
  rintro e w' ⟨rfl, rfl⟩
  rw [Hv.out.1]
  go_wp2_with fail
  refine (place_any _ a1 200 b3 b4 (by omega) (by omega)).mono ?_
  rintro e w' ⟨rfl, rfl⟩
  rw [Hv.out.2.1]
  go_wp2_with fail
  have hnew : Calls Try.prog 10 #[.int .i64 (1 + s), .int .i64 m] w fun e w' => e = .returned (.tuple #[.pointer (some ⟨w.heap.size, 0, none⟩), .nilIface]) ∧ Kp (fun _ => False) w w' ∧ BAt (fun q => q = w.heap.size) w' w.heap.size (aNew (1 + s) m) := by
    have := new_ok (1 + s) m (by omega) (by omega) (by omega) w
    rw [show ((1 + s : Nat) : Int) = 1 + s by omega] at this
    exact this
  refine hnew.mono ?_
  rintro e wa ⟨rfl, hk1, hA1⟩
  have hS1 : Solo w wa w.heap.size 1 (aNew (1 + s) m) (fun q => q = w.heap.size) := ⟨hA1, inv_new (1 + s) m (by omega) (by omega) (by omega) 1, fun q e => by omega, hk1⟩
  have H1 := Lib.hid (And.intro hS1 (show Flat (1 + s) m (aNew (1 + s) m) from ⟨rfl, rfl, rfl, fun i t ht => by simp [aNew] at ht⟩))
  clear hk1 hA1 hS1 hnew
  go_wp2_with fail
  go_loopg [11, 12, 13] len2 (fun gk uu cc i wr => ∃ (k : Nat) (A : Bn) (F : Nat → Prop), k ≤ len2 ∧ gk = len2 - k ∧ i = Value.int .i64 k ∧ uu = Value.int .i64 A.used ∧ cc = Value.int .i64 A.slots.length ∧ Flat (1 + s) m A ∧ Solo w wr w.heap.size 1 A F)
  case atStart => exact ⟨0, _, _, by omega, rfl, rfl, rfl, rfl, H1.out.2, H1.out.1⟩
  case round =>
    clear H1
    obtain ⟨k, A, F, hk, rfl, rfl, rfl, rfl, hF, hS⟩ := hrel
    by_cases hlt : k < len2
    · obtain ⟨bx, off, rfl, hcell, hz1, hz2⟩ := Hv.out.2.2.at' hS.kp k hlt
      obtain ⟨n, hn, hn2⟩ : ∃ n : Nat, z2 k % 30 = n ∧ n < 30 := ⟨(z2 k % 30).toNat, by omega, by omega⟩
      obtain ⟨z, hz⟩ : ∃ z, z2 k = z := ⟨_, rfl⟩
      rw [hz] at hcell hz1 hz2 hn
      have hli : (k : Int) < len2 := by omega
      have i1 := hS.inv.most
      have i2 := hS.inv.room
      have i3 := hS.inv.len
      have i4 := hS.inv.le
      have f1 := hF.most
      have f2 := hF.room
      obtain ⟨U, hU⟩ : ∃ U, A.used = U := ⟨_, rfl⟩
      obtain ⟨L, hL⟩ : ∃ L, A.slots.length = L := ⟨_, rfl⟩
      have hU2 : U ≤ m := by omega
      have hL2 : L ≤ 1 + s := by omega
      rw [hU, hL]
      have H3 := Lib.hid (And.intro hS (And.intro hF (And.intro hU (And.intro hL hn))))
      clear hS hF hU hL hz hn i1 i2 i3 i4 f1 f2
      go_wp2_with fail
      refine (place_any _ z 30 hz1 hz2 (by omega) (by omega)).mono ?_
      rintro e w' ⟨rfl, rfl⟩
      rw [H3.out.2.2.2.2]
      obtain ⟨i0, hi, hj0, hj1, hj2⟩ := info_parts Try.infoByte
      have hb1 : i0.bytes * n ≤ 281474976710656 := by rw [hj2]; omega
      have hb2 : n ≤ maxLen := by unfold maxLen; omega
      have Hb := Lib.hid (And.intro hb1 hb2)
      clear hb1 hb2 hcell
      go_wp2_with (at_make; refine wpList_make_full _ rfl _ _ 35 rfl wr.heap.size 5 i0 (.int .u8 0) 1 Try.underlying35 hi hj0 hj1 .i64 .i64 _ _ n rfl rfl rfl rfl Hb.out.1 Hb.out.2 (Nat.le_refl _) ?_; intro wb hown hgrow; have H4 := Lib.hid (And.intro hown hgrow); clear hown hgrow)
      have hk4 : Kp (fun _ => False) wr wb := (Kp.refl (fun _ => False) wr).grown H4.out.2 (fun k e => by cases e)
      have hS4 := H3.out.1.same hk4
      have hby := zeroes_at (base := wr.heap.size) H4.out.1 (by omega) (Nat.le_refl _)
      have hdis : ∀ q, q = wr.heap.size → ¬ F q := fun q e e' => by have := H3.out.1.at'.lt _ e'; omega
      have H5 := Lib.hid (And.intro hS4 (And.intro hby hdis))
      clear hk4 hS4 hby hdis H4
      obtain ⟨ss, fs, ps, hB⟩ := H5.out.1.at'
      have f1 := H3.out.2.1.most
      have f2 := H3.out.2.1.room
      have e1 := H3.out.2.2.1
      have e2 := H3.out.2.2.2.1
      by_cases hok : L < 1 + s ∧ U + n ≤ m
      · obtain ⟨o1, o2⟩ := hok
        have hpf := put_first hB H5.out.1.inv (by omega) H5.out.2.1 H5.out.2.2 H3.out.2.1.free (by omega) (by simp; omega)
        rw [e2] at hpf
        have hinv := inv_push (l := List.replicate n 0) H5.out.1.inv (by omega) H3.out.2.1.free (by omega) (by simp; omega)
        have Hp := Lib.hid (And.intro hpf hinv)
        clear hpf hinv f1 f2 e1 e2 hB
        refine Hp.out.1.mono ?_
        rintro e wc ⟨rfl, hgo⟩
        obtain ⟨F6, hS6⟩ := H5.out.1.step hgo Hp.out.2
        have hl6 : (pushIn A (List.replicate n 0)).slots.length = L + 1 := by simp [pushIn, H3.out.2.2.2.1]
        have hu6 : (pushIn A (List.replicate n 0)).used = U + n := by simp [pushIn, H3.out.2.2.1]
        have hF6 := H3.out.2.1.push (List.replicate n 0)
        have H6 := Lib.hid (And.intro hS6 (And.intro hF6 (And.intro hl6 hu6)))
        have o3 : (L : Int) < 1 + s := by omega
        have o4 : (U : Int) + n ≤ m := by omega
        clear hgo hS6 hl6 hu6 hF6 Hp H5
        go_wp2_with fail
        obtain ⟨ss, fs, ps, hB⟩ := H6.out.1.at'
        have hus : Calls Try.prog 27 #[.pointer (some ⟨w.heap.size, 0, none⟩)] wc fun e w' => e = .returned (.int .i64 (U + n)) ∧ wc = w' := by
          have := used_any hB
          rw [H6.out.2.2.2, show ((U + n : Nat) : Int) = (U : Int) + n by omega] at this
          exact this
        refine hus.mono ?_
        rintro e w' ⟨rfl, rfl⟩
        go_wp2_with fail
        refine (handles_any hB (by have := H6.out.1.inv.len; have := H6.out.1.inv.most; omega) (fun i t ht => by have := (H6.out.2.1.all i t ht).2; omega)).mono ?_
        rintro e wx ⟨v, rfl, hrow, hk7⟩
        rw [H6.out.2.1.held, H6.out.2.2.1] at hrow
        obtain ⟨po, cp, rfl⟩ := slice_form hrow
        have H7 := Lib.hid (H6.out.1.same hk7)
        clear hus hB hrow hk7
        go_wp2_with fail
        go_roundg (len2 - (k + 1))
        case measure => omega
        case rel => exact ⟨k + 1, _, _, by omega, rfl, by go_num, by rw [H6.out.2.2.2] <;> rfl, by rw [H6.out.2.2.1] <;> rfl, H6.out.2.1, H7.out⟩
      · have hfu : (A.slots.length = A.most ∧ A.free = []) ∨ A.room < A.used + n := by
          by_cases o1 : L < 1 + s
          · exact .inr (by omega)
          · exact .inl ⟨by omega, H3.out.2.1.free⟩
        have hpf := put_full hB H5.out.1.inv (some ⟨wr.heap.size, 0, none⟩) n n (by omega) hfu
        have Hp := Lib.hid hpf
        clear hpf hfu f1 f2 e1 e2 hB
        refine Hp.out.mono ?_
        rintro e wc ⟨v, rfl, hch, hk6⟩
        obtain ⟨gv, rfl⟩ := hch.out.form
        have hka : Kp (fun _ => False) wc (wc.alloc (.cells #[.string putS, .int .i64 n, .iface 61 (.int .i64 2)] 63)) := (Kp.refl _ wc).alloc _
        have H6a := Lib.hid (And.intro ((H5.out.1.same hk6).same hka) (And.intro (Chain.kp hka _ _ hch.out) ((ChainB.cons (B := 0) (l := [Lk.kind 2]) putS n (ChainB.root _ _ (by decide)) (Nat.zero_le _) (heap_alloc_new wc _)).out)))
        clear hch hk6 hka Hp H5
        by_cases o3 : (L : Int) < 1 + s
        all_goals
          first
            | have k1 : decide ((L : Int) < 1 + s) = true := by simpa using o3
              have o4 : ¬ (U : Int) + n ≤ m := by omega
              have k2 : decide ((U : Int) + n ≤ m) = false := by simpa using o4
              clear o4
            | have k1 : decide ((L : Int) < 1 + s) = false := by simpa using o3
          clear o3
          go_wp2_with fail
          refine (err_any [Lk.fault putS n, Lk.kind 2] _ _ _ (by simp) H6a.out.2.1 H6a.out.2.2).mono ?_
          rintro e we ⟨rfl, hk7⟩
          have H6 := Lib.hid (And.intro (H6a.out.1.same hk7) (And.intro H3.out.2.1 (And.intro H3.out.2.2.2.1 H3.out.2.2.1)))
          clear hk7 H6a
          go_wp2_with fail
          obtain ⟨ss, fs, ps, hB⟩ := H6.out.1.at'
          have hus : Calls Try.prog 27 #[.pointer (some ⟨w.heap.size, 0, none⟩)] we fun e w' => e = .returned (.int .i64 U) ∧ we = w' := by
            have := used_any hB
            rw [H6.out.2.2.2] at this
            exact this
          refine hus.mono ?_
          rintro e w' ⟨rfl, rfl⟩
          go_wp2_with fail
          refine (handles_any hB (by have := H6.out.1.inv.len; have := H6.out.1.inv.most; omega) (fun i t ht => by have := (H6.out.2.1.all i t ht).2; omega)).mono ?_
          rintro e wx ⟨v, rfl, hrow, hk7⟩
          rw [H6.out.2.1.held, H6.out.2.2.1] at hrow
          obtain ⟨po, cp, rfl⟩ := slice_form hrow
          have H7 := Lib.hid (H6.out.1.same hk7)
          clear hus hB hrow hk7
          go_wp2_with fail
          go_roundg (len2 - (k + 1))
          case measure => omega
          case rel => exact ⟨k + 1, _, _, by omega, rfl, by go_num, by rw [H6.out.2.2.2] <;> rfl, by rw [H6.out.2.2.1] <;> rfl, H6.out.2.1, H7.out⟩
    · obtain rfl : len2 = k := by omega
      have H3 := Lib.hid hS
      clear hS hF
      go_wp2_with (go_at_call 13; refine (awake_any _).mono ?_; rintro e wg ⟨rfl, hk7⟩)
      go_ret
      exact ⟨rfl, (H3.out.same hk7).below⟩

set_option maxRecDepth 100000 in
theorem lifted (os : Os) (started : os.Started) (H : Type) (enc : TypeId × Value → H) :
    ReturnsInHanded {} Try.checked os 6 .any (Rows.binarySlotsSpec.pre6 enc Try.prog Try.f6 Rows.binarySlotsRow.domain false) (Rows.binarySlotsSpec.post enc Try.prog Try.f6 false true false false) := by
  refine returnsInHanded_of_change (C := Try.checked) own started (by kernel_rfl) Try.func6
    (ChangeSpec.witness6 (enc := enc) (C := Try.checked) false ⟨#[], #[.int .i64 0, .int .i64 0, .slice none 0 0], []⟩ 8 (by kernel_rfl) (by kernel_rfl) (by kernel_rfl) (by kernel_rfl)) ?_
  intro W base args ds gs before hval0 hW hcnd _
  have hval : ∀ (j : Nat) t v, Try.f6.params[j]? = some t → args[j]? = some v → Value.okWide Try.prog W .any base t v := hval0
  have hW' := hW
  obtain ⟨p, q, hA0, hV, rfl, hfz, hnd⟩ := hW
  have hA : DataW.TrodAll enc Try.prog W 0 (fun _ => true) true Try.f6.params.toList args.toList ds p := hA0
  rw [Try.params6] at hA hval
  obtain ⟨v0, vs0, d0, ds0, p0, q0, hargs, rfl, rfl, h0, r0⟩ := trodAll_cons hA
  obtain ⟨v1, vs1, d1, ds1, p1, q1, rfl, rfl, rfl, h1, r1⟩ := trodAll_cons r0
  obtain ⟨v2, vs2, d2, ds2, p2, q2, rfl, rfl, rfl, h2, r2⟩ := trodAll_cons r1
  obtain ⟨rfl, rfl, rfl⟩ := trodAll_nil r2
  obtain rfl : args = #[v0, v1, v2] := by cases args; simp_all
  obtain ⟨rfl, rfl⟩ := trodVars_none hV
  obtain ⟨a0, rfl, rfl, rfl, w0⟩ := open_int Try.underlying3 (hval 0 3 v0 rfl rfl) h0
  obtain ⟨a1, rfl, rfl, rfl, w1⟩ := open_int Try.underlying3 (hval 1 3 v1 rfl rfl) h1
  obtain ⟨a2, len2, cap2, rfl⟩ := okWide_slice Try.underlying34 (hval 2 34 v2 rfl rfl)
  have k2 := h2
  have lt2 : ∀ x ∈ p2, x.block < W.heap.size := by obtain ⟨m, hm⟩ := k2; exact DataW.trod_lt m _ _ _ hm
  obtain ⟨z2, w2⟩ : ∃ zs : Nat → Int, InRow W a2 len2 zs := by
    obtain ⟨fuel, hf⟩ := h2
    rcases open_ints Try.underlying34 Try.underlying3 (by kernel_rfl) hf with ⟨hcs, _⟩ | ⟨x, l, c, zs, hcs, _, hl, hm, hz, _, hcell, hwz⟩
    · simp [Value.cells] at hcs
      obtain ⟨rfl, rfl, rfl⟩ := hcs
      exact ⟨fun _ => 0, by unfold InRow; exact ⟨by omega, fun k hk => by omega⟩⟩
    · simp [Value.cells] at hcs
      obtain ⟨rfl, rfl, rfl⟩ := hcs
      exact ⟨_, inRow_of (zs := zs) (.inr ⟨_, rfl, hl, hm, by simpa using hz, hcell, hwz⟩)⟩
  clear hA0 hval0
  simp only [List.nil_append] at hW'
  refine (walk a0 a1 a2 len2 cap2 z2 W w0 w1 w2).mono fun e W' ⟨he, bel⟩ => ?_
  subst he
  exact ⟨_, rfl, _, _, _, [], _, [], hW', trodAll_mk1 (shut_bool Try.underlying4 _), (trodAll_cons_mk (shut_int Try.underlying3 w0) (trodAll_cons_mk (shut_int Try.underlying3 w1) (trodAll_cons_mk (Below.trod laidOut (by kernel_rfl) (of_decide_eq_true (by kernel_rfl)) k2 bel lt2) trodAll_mk0))), rfl, bel.frame _, fun h => by cases h⟩

theorem over : Rows.binarySlotsRow.holds Try.pinned (OpenSpec.ofChange Rows.binarySlotsSpec) :=
  OpenClaim.holds_of_wide 6 Try.f6 rfl rfl rfl rfl rfl rfl rfl ⟨rfl, rfl, rfl, rfl, rfl⟩ rfl rfl rfl rfl rfl (by kernel_rfl) Try.func6 (by kernel_rfl)
    (of_decide_eq_true (by kernel_rfl)) (by unfold Func.isWrapper; first | (rw [if_pos (by decide +kernel)]; kernel_rfl) | (rw [if_neg (by decide +kernel)]; exact ⟨rfl, rfl⟩))
    (fun os started H enc _ => lifted os started H enc)

theorem proved : Rows.BinarySlotsSaid := over
#print axioms proved
end Go.Proofs.Ytbenkgpiddlcfaa.binarySlots
