/- The document's own table: Add, All. -/
import Derived.Test.YtdcmdidikengbaaTbRef3
namespace Go.Proofs.Ytdcmdidikengbaa
open Go.RowKit
set_option linter.unusedVariables false

section
variable {F : Nat → Prop} {w w' : World} {b g1 g2 size B : Nat} {v : Value} {sl : List Sg} {ns : List Nm} {p : Int}
theorem RT.ne (h : RT w b g1 g2 v size sl ns) : g1 ≠ b ∧ g2 ≠ b ∧ g1 ≠ g2 ∧ ∀ g, v.ownBlock = some g → g ≠ b ∧ g ≠ g1 ∧ g ≠ g2 := by
  have hb := h.main
  obtain ⟨c1, e1⟩ : ∃ cur, w.heap[g1]? = some (.cells cur 2 (0, 0)) := by
    rcases h.giv.2 with ⟨e, _⟩ | ⟨g, cap, cur, e, _, hg, _⟩
    · cases e
    · injection e with e
      injection e with e
      injection e with e
      subst e
      exact ⟨cur, hg⟩
  obtain ⟨c2, e2⟩ : ∃ cur, w.heap[g2]? = some (.cells cur 4 (0, 0)) := by
    rcases h.on.2 with ⟨e, _⟩ | ⟨g, cap, cur, e, _, hg, _⟩
    · cases e
    · injection e with e
      injection e with e
      injection e with e
      subst e
      exact ⟨cur, hg⟩
  refine ⟨fun e => ?_, fun e => ?_, fun e => ?_, fun g hg => ?_⟩
  · rw [e, hb] at e1
    injection e1 with e1; injection e1 with _ e1; exact absurd e1 (by decide)
  · rw [e, hb] at e2
    injection e2 with e2; injection e2 with _ e2; exact absurd e2 (by decide)
  · rw [e, e2] at e1
    injection e1 with e1; injection e1 with _ e1; exact absurd e1 (by decide)
  · rcases h.nms.2 with ⟨e, _⟩ | ⟨g', cap, cur, e, hgg, _⟩
    · rw [e] at hg; cases hg
    · rw [e] at hg
      have e3 : g' = g := by injection hg
      subst e3
      refine ⟨fun e => ?_, fun e => ?_, fun e => ?_⟩
      · rw [e, hb] at hgg
        injection hgg with hgg; injection hgg with _ hgg; exact absurd hgg (by decide)
      · rw [e, e1] at hgg
        injection hgg with hgg; injection hgg with _ hgg; exact absurd hgg (by decide)
      · rw [e, e2] at hgg
        injection hgg with hgg; injection hgg with _ hgg; exact absurd hgg (by decide)
theorem RT.fz1 (h : RT w b g1 g2 v size sl ns) (j : Nat) : w.frozen? ⟨g1, j, none⟩ = false := longs_fz h.giv j
theorem RT.fz2 (h : RT w b g1 g2 v size sl ns) (j : Nat) : w.frozen? ⟨g2, j, none⟩ = false := bools_fz h.on j
theorem onL_set {k : Nat} {x : Bool} {sl' : List Sg} (h : ∀ j, j < size → onAt sl' j = if j = k then x else onAt sl j) : (onL size sl).set k x = onL size sl' := by
  unfold onL
  exact range_set _ _ size k _ h
theorem givenL_set {k : Nat} {x : Nat} {sl' : List Sg} (h : ∀ j, j < size → givenAt sl' j = if j = k then x else givenAt sl j) : (givenL size sl).set k (x : Int) = givenL size sl' := by
  unfold givenL
  refine range_set _ _ size k _ fun j hj => ?_
  rw [h j hj]
  split <;> rfl
theorem xadd_turn (h : RT w b g1 g2 v size sl ns) (hok : SlOk B sl) (hf : freeAt sl < 64) :
    RT ((w.setCell ⟨g2, freeAt sl, none⟩ (.bool true)).setCell ⟨g1, freeAt sl, none⟩ (.int .i64 ((givenAt sl (freeAt sl) + 1 : Nat) : Int))) b g1 g2 v size (addTo sl) ns ∧
      Kp (fun q => q = g1 ∨ q = g2) w ((w.setCell ⟨g2, freeAt sl, none⟩ (.bool true)).setCell ⟨g1, freeAt sl, none⟩ (.int .i64 ((givenAt sl (freeAt sl) + 1 : Nat) : Int))) := by
  obtain ⟨n1, n2, n3, n4⟩ := h.ne
  obtain ⟨a1, k1⟩ := bools_set h.on (freeAt sl) true
  have b1 := h.giv.kp k1 (fun g hg e => n3 (by injection hg with hg; exact hg.trans e))
  obtain ⟨a2, k2⟩ := longs_set b1 (freeAt sl) ((givenAt sl (freeAt sl) + 1 : Nat) : Int)
  have kk : Kp (fun q => q = g1 ∨ q = g2) w _ := (k1.mono fun q _ e => .inr e).trans' (k2.mono fun q _ e => .inl e)
  refine ⟨⟨(kk.block b (Array.getElem?_eq_some_iff.1 h.main).1 (fun e => e.elim (fun e => n1 e.symm) (fun e => n2 e.symm))).trans h.main, ?_, ?_, kk.rowS h.nms (fun g hg e => e.elim (n4 g hg).2.1 (n4 g hg).2.2)⟩, kk⟩
  · rw [givenL_set (sl' := addTo sl) (fun j _ => by
      rw [addTo_given hok hf]
      by_cases e : j = freeAt sl
      · rw [if_pos e, if_pos e, e]
      · rw [if_neg e, if_neg e])] at a2
    rw [givenL_len] at a2 ⊢
    exact a2
  · have c1 := k2.roww a1 (fun g hg e => n3 (by injection hg with hg; exact (hg.trans e).symm))
    rw [onL_set (sl' := addTo sl) (fun j _ => addTo_on)] at c1
    rw [onL_len] at c1 ⊢
    exact c1
def XAddTo (b g1 g2 size : Nat) (v : Value) (sl : List Sg) (ns : List Nm) (w : World) (e : Ending) (w' : World) : Prop :=
  e = .returned (.tuple #[.int .i64 (addPid sl : Nat), .pointer none]) ∧ RT w' b g1 g2 v size (addTo sl) ns ∧ Kp (fun q => q = g1 ∨ q = g2) w w'
set_option maxRecDepth 100000 in
set_option maxHeartbeats 4000000 in
theorem xtadd_ok (h : RT w b g1 g2 v size sl ns) (hok : SlOk B sl) (hB : B ≤ 2305843009213693952) (hs64 : size ≤ 64) (hf : freeAt sl < size) :
    Calls Try.prog 26 #[.pointer (some ⟨b, 0, none⟩)] w (XAddTo b g1 g2 size v sl ns w) := by
  obtain ⟨c0, c1, c2, -, -⟩ := h.facts
  obtain ⟨n1, n2, n3, n4⟩ := h.ne
  have hX := xadd_turn h hok (by omega)
  have hpid := addPid_given hok (by omega)
  obtain ⟨f, hff⟩ : ∃ f, freeAt sl = f := ⟨_, rfl⟩
  have hoff : onAt sl f = false := by rw [← hff]; exact onAt_at
  have hon : ∀ k, k < f → onAt sl k = true := fun k hk => onAt_free k (by rw [hff]; exact hk)
  rw [hff] at hX hpid hf
  have hgB : givenAt sl f ≤ 36028797018963969 := by
    unfold givenAt
    cases hs : sl[f]? with
    | none => exact Nat.zero_le _
    | some s => have := hok.le s (List.mem_of_getElem? hs); simp only []; omega
  have HT := Lib.hid h
  have HX := Lib.hid (And.intro hX (And.intro hpid (And.intro hoff hon)))
  clear h hX hpid hoff hon hff hok
  go_enter Try.func26, Try.ntmps26
  go_wp2_with fail
  go_loopg [4] f (fun gk s4 wr => ∃ k : Nat, k ≤ f ∧ gk = f - k ∧ s4 = .int .i64 (k : Nat) ∧ w = wr)
  case atStart => exact ⟨0, by omega, rfl, rfl, rfl⟩
  case round =>
    obtain ⟨k, hk, rfl, rfl, rfl⟩ := hrel
    have hks : (k : Int) < size := by omega
    have hkn : k < size := by omega
    have d_o := HT.out.ocell hkn
    by_cases hlt : k < f
    · rw [HX.out.2.2.2 k hlt] at d_o
      go_wp2_with fail
      go_roundg (f - (k + 1))
      case measure => omega
      case rel => exact ⟨k + 1, by omega, rfl, by go_num, rfl⟩
    · obtain rfl : f = k := by omega
      rw [HX.out.2.2.1] at d_o
      have dg := HT.out.gcell hkn
      have f1 := HT.out.fz1
      have f2 := HT.out.fz2
      obtain ⟨gv, hgv⟩ : ∃ gv, givenAt sl f = gv := ⟨_, rfl⟩
      have hG : Hid (RT ((w.setCell ⟨g2, f, none⟩ (.bool true)).setCell ⟨g1, f, none⟩ (.int .i64 ((gv : Int) + 1))) b g1 g2 v size (addTo sl) ns ∧ Kp (fun q => q = g1 ∨ q = g2) w ((w.setCell ⟨g2, f, none⟩ (.bool true)).setCell ⟨g1, f, none⟩ (.int .i64 ((gv : Int) + 1)))) := by
        have := HX.out.1
        rw [hgv] at this
        exact Lib.hid this
      have HP : Hid ((addPid sl : Int) = (f : Int) + 64 * (gv : Int)) := Lib.hid (by rw [HX.out.2.1, hgv]; omega)
      rw [hgv] at dg hgB
      have n1b : b ≠ g1 := fun e => n1 e.symm
      have n2b : b ≠ g2 := fun e => n2 e.symm
      have n3b : g2 ≠ g1 := fun e => n3 e.symm
      have hgi : (gv : Int) ≤ 36028797018963969 := by omega
      have q1 : (gv : Int) + 1 - 1 = gv := by omega
      clear hgv hlt hk
      go_wp2_with fail
      go_ret2
      exact ⟨ret2 (by rw [HP.out]), hG.out⟩
set_option maxRecDepth 100000 in
set_option maxHeartbeats 4000000 in
theorem xtadd_full (h : RT w b g1 g2 v size sl ns) (hs64 : size ≤ 64) (hf : freeAt sl = size) :
    Calls Try.prog 26 #[.pointer (some ⟨b, 0, none⟩)] w (XBad w (fun v => .tuple #[.int .i64 (-1), v]) [Lk.fault ⟨#[97, 100, 100]⟩ (size : Nat), Lk.kind 2]) := by
  obtain ⟨c0, c1, c2, -, -⟩ := h.facts
  have hon : ∀ k, k < size → onAt sl k = true := fun k hk => onAt_free k (by rw [hf]; exact hk)
  have HT := Lib.hid (And.intro h hon)
  have hbl : b < w.heap.size := (Array.getElem?_eq_some_iff.1 h.main).1
  have c0a : (w.alloc (.cells #[.string ByteArray.empty, .int .i64 0, .pointer none, .int .i64 2] 111)).cell? ⟨b, 0, none⟩ = some (.int .i64 (size : Nat)) := by rw [World.cell?_alloc_past _ _ _ hbl]; exact c0
  have c0b : (w.drew.alloc (.cells #[.string ByteArray.empty, .int .i64 0, .pointer none, .int .i64 2] 111)).cell? ⟨b, 0, none⟩ = some (.int .i64 (size : Nat)) := c0a
  have HB := Lib.hid (fun j => xbad1 w (fun v => .tuple #[.int .i64 (-1), v]) ⟨#[97, 100, 100]⟩ (size : Nat) 2 j)
  clear h hon hf
  go_enter Try.func26, Try.ntmps26
  go_wp2_with fail
  go_loopg [4] size (fun gk s4 wr => ∃ k : Nat, k ≤ size ∧ gk = size - k ∧ s4 = .int .i64 (k : Nat) ∧ w = wr)
  case atStart => exact ⟨0, by omega, rfl, rfl, rfl⟩
  case round =>
    obtain ⟨k, hk, rfl, rfl, rfl⟩ := hrel
    by_cases hlt : k < size
    · have hks : (k : Int) < size := by omega
      have d_o := HT.out.1.ocell hlt
      rw [HT.out.2 k hlt] at d_o
      go_wp2_with fail
      go_roundg (size - (k + 1))
      case measure => omega
      case rel => exact ⟨k + 1, by omega, rfl, by go_num, rfl⟩
    · obtain rfl : size = k := by omega
      go_wp2_with fail
      go_region_with (first | (go_at_call 47; refine (k_any _ _).mono ?_; rintro e w1 ⟨rfl, rfl⟩) | (go_at_call 46; refine (f14_any _ _ _ _).mono ?_; rintro e w1 ⟨rfl, rfl⟩))
      all_goals
        go_wp2_with fail
        go_ret2
        exact HB.out 1
/-! All -/
def xallL (sl : List Sg) (k : Nat) : List Int := ((List.range k).filter (onAt sl)).map fun j : Nat => (j : Int) + 64 * ((givenAt sl j : Int) - 1)
theorem xallL_succ (sl : List Sg) (k : Nat) : xallL sl (k + 1) = if onAt sl k = true then xallL sl k ++ [(k : Int) + 64 * ((givenAt sl k : Int) - 1)] else xallL sl k := by
  unfold xallL
  rw [List.range_succ, List.filter_append, List.map_append]
  cases h : onAt sl k <;> simp [h]
theorem xallL_take (hok : SlOk B sl) : ∀ k, xallL sl k = livesOf (sl.take k)
  | 0 => by simp [xallL, livesOf]
  | k + 1 => by
    rw [xallL_succ, xallL_take hok k]
    cases hs : sl[k]? with
    | some s =>
      have htk : sl.take (k + 1) = sl.take k ++ [s] := by rw [List.take_add_one, hs]; rfl
      have ho : onAt sl k = s.on := by unfold onAt; rw [hs]
      have hg : givenAt sl k = s.pid / 64 + 1 := by unfold givenAt; rw [hs]
      have hm := hok.at_ k s hs
      rw [htk, livesOf_snoc, ho, hg]
      have e : (k : Int) + 64 * (((s.pid / 64 + 1 : Nat) : Int) - 1) = (s.pid : Int) := by omega
      rw [e]
    | none =>
      have h1 := List.getElem?_eq_none_iff.1 hs
      have ho : onAt sl k = false := by unfold onAt; rw [hs]
      rw [ho, if_neg (by decide), List.take_of_length_le (by omega), List.take_of_length_le (by omega)]
theorem xallL_len (sl : List Sg) (k : Nat) : (xallL sl k).length ≤ k := by
  unfold xallL
  rw [List.length_map]
  have := List.length_filter_le (onAt sl) (List.range k)
  simpa using this
set_option maxRecDepth 100000 in
set_option maxHeartbeats 4000000 in
theorem xtall_any (h : RT w b g1 g2 v size sl ns) (hok : SlOk B sl) (hB : B ≤ 2305843009213693952) (hfit : sl.length ≤ size) (hs64 : size ≤ 64) :
    Calls Try.prog 34 #[.pointer (some ⟨b, 0, none⟩)] w (AllTo sl w) := by
  have HT := Lib.hid h
  have HO := Lib.hid (xallL_take hok)
  have HG : Hid (∀ k, givenAt sl k ≤ 36028797018963969) := Lib.hid (fun k => by
    unfold givenAt
    cases hs : sl[k]? with
    | none => exact Nat.zero_le _
    | some s => have := hok.le s (List.mem_of_getElem? hs); simp only []; omega)
  have HL := Lib.hid hfit
  clear h hok hB hfit
  go_enter Try.func34, Try.ntmps34
  go_wp2_with fail
  go_loopg [3, 4] size (fun gk s3 s4 wr => ∃ (k : Nat) (u : Value), k ≤ size ∧ gk = size - k ∧ s3 = u ∧ s4 = .int .i64 (k : Nat) ∧ Hid (Lw wr u (xallL sl k) ∧ (∀ g, u.ownBlock = some g → w.heap.size ≤ g)) ∧ Kp (fun _ => False) w wr)
  case atStart => exact ⟨0, _, by omega, rfl, rfl, rfl, Lib.hid ⟨Lw.nil _, fun g hg => by cases hg⟩, Kp.refl _ w⟩
  case round =>
    obtain ⟨k, u, hk, rfl, hu, rfl, HB, hkp⟩ := hrel
    obtain rfl := hu.symm
    have hT := HT.out.same hkp
    obtain ⟨c0, c1, c2, -, -⟩ := hT.facts
    have HK := Lib.hid hkp
    clear hkp
    by_cases hlt : k < size
    · have hks : (k : Int) < size := by omega
      have d_o := hT.ocell hlt
      have dg := hT.gcell hlt
      have hsn := xallL_succ sl k
      have hgk := HG.out k
      obtain ⟨gv, hgv⟩ : ∃ gv, givenAt sl k = gv := ⟨_, rfl⟩
      rw [hgv] at dg hsn hgk
      have hgi : (gv : Int) ≤ 36028797018963969 := by omega
      clear hT hgv
      by_cases ho : onAt sl k = true
      · have hll := xallL_len sl k
        obtain ⟨g3, cap3, w3, hr3, ho3, hk3, hg3, hl3⟩ := longs_push HB.out.1 (by omega) ((k : Int) + 64 * ((gv : Int) - 1))
        rw [if_pos ho] at hsn
        rw [← hsn] at ho3
        have HG3 : Hid (Lw w3 (.slice (some ⟨g3, 0, none⟩) ((xallL sl k).length + 1) cap3) (xallL sl (k + 1)) ∧ (∀ g, (Value.slice (some ⟨g3, 0, none⟩) ((xallL sl k).length + 1) cap3).ownBlock = some g → w.heap.size ≤ g) ∧ Kp (fun _ => False) w w3) := by
          have hz := HK.out.size
          refine Lib.hid ⟨ho3, fun g hg => ?_, HK.out.trans (hk3.mono fun q hq e => .inr ⟨HB.out.2 q e, hq⟩)⟩
          have e2 : g3 = g := by injection hg
          subst e2
          rcases hg3 with e3 | e3
          · exact HB.out.2 _ e3
          · omega
        have HR := Lib.hid hr3
        obtain ⟨W3, hW3⟩ : ∃ x, Value.slice (some ⟨g3, 0, none⟩) ((xallL sl k).length + 1) cap3 = x := ⟨_, rfl⟩
        rw [hW3] at HG3 HR
        rw [ho] at d_o
        clear ho3 hk3 hg3 hl3 hr3 hsn hll hW3 ho
        go_wp2_with (at_builtin; refine wpList_run rfl _ _ 50 rfl u (.slice (some ⟨wr.heap.size, 0, none⟩) 1 1) rfl rfl _ w3 HR.out ?_)
        go_roundg (size - (k + 1))
        case measure => omega
        case rel => exact ⟨k + 1, _, by omega, rfl, rfl, by go_num, Lib.hid ⟨HG3.out.1, HG3.out.2.1⟩, HG3.out.2.2⟩
      · rw [if_neg ho] at hsn
        have HG3 : Hid (Lw wr u (xallL sl (k + 1))) := Lib.hid (by rw [hsn]; exact HB.out.1)
        have ho2 : onAt sl k = false := by cases h : onAt sl k; rfl; exact absurd h ho
        rw [ho2] at d_o
        clear hsn ho ho2
        go_wp2_with fail
        go_roundg (size - (k + 1))
        case measure => omega
        case rel => exact ⟨k + 1, _, by omega, rfl, rfl, by go_num, Lib.hid ⟨HG3.out, HB.out.2⟩, HK.out⟩
    · obtain rfl : size = k := by omega
      have HE := HB.out
      rw [HO.out, List.take_of_length_le HL.out] at HE
      have HE2 := Lib.hid HE
      clear HE
      go_wp2_with fail
      go_ret
      exact ⟨_, rfl, HE2.out.1, HE2.out.2, HK.out⟩
end
end Go.Proofs.Ytdcmdidikengbaa
