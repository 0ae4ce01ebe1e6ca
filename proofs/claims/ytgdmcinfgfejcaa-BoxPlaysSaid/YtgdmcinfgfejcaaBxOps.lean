/- A box: Peek, Next, First, Push, Words, Swap, leave, tighten, Take. -/
import Derived.Test.YtgdmcinfgfejcaaBxBox
import Derived.StillTailTactics
namespace Go.Proofs.Ytgdmcinfgfejcaa
open Go.RowKit

section
variable {F : Nat → Prop} {w w' : World} {b : Nat} {v v' : Value} {xs ys : List Int} {gone p p' : Nat}
theorem bx_heap_set {w : World} {g i : Nat} {cur : Array Value} {t : TypeId} {f : Nat × Nat} (h0 : w.heap[g]? = some (.cells cur t f)) (x : Value) : (w.setCell ⟨g, i, none⟩ x).heap[g]? = some (.cells (cur.setIfInBounds i x) t f) := by
  rw [setCell_eq_setRow w g i cur t f x h0, setRow_heap w g cur _ t f h0]
theorem kp_setb (w : World) (b i : Nat) (u : Value) : Kp (fun q => q = b) w (w.setCell ⟨b, i, none⟩ u) := (Kp.refl (fun q => q = b) w).setCell ⟨b, i, none⟩ u (.inl rfl)
theorem BxL.setp (h : BxL w b v xs gone p) (p' : Nat) : BxL (w.setCell ⟨b, 2, none⟩ (.int .i64 (p' : Nat))) b v xs gone p' := by
  obtain ⟨-, -, -, -, hb, hne⟩ := h.facts
  exact ⟨(bx_heap_set h.1 _).trans rfl, h.2.1.kp (kp_setb w b _ _) (fun g hg e => hne (by rw [hg, e])), h.2.2⟩
theorem BxL.setg (h : BxL w b v xs gone p) (g' : Nat) (hg : g' ≤ xs.length) : BxL (w.setCell ⟨b, 1, none⟩ (.int .i64 (g' : Nat))) b v xs g' p := by
  obtain ⟨-, -, -, -, hb, hne⟩ := h.facts
  exact ⟨(bx_heap_set h.1 _).trans rfl, h.2.1.kp (kp_setb w b _ _) (fun g hg e => hne (by rw [hg, e])), hg, h.2.2.2⟩
/-- another list is put in -/
theorem bxl_list {c0 : Value} (h : w.heap[b]? = some (.cells #[c0, .int .i64 (gone : Nat), .int .i64 (p : Nat)] 26 (0, 0))) (ho : Wr w v xs) (hne : v.ownBlock ≠ some b) (hg : gone ≤ xs.length) (hm : xs.length ≤ 17592186044416) :
    BxL (w.setCell ⟨b, 0, none⟩ v) b v xs gone p :=
  ⟨(bx_heap_set h _).trans rfl, ho.kp (kp_setb w b _ _) (fun g hg e => hne (by rw [hg, e])), hg, hm⟩

set_option maxHeartbeats 400000 in
theorem peek_some (h : BxL w b v xs gone p) {x : Int} (hx : xs[gone + p]? = some x) : Calls Try.prog 10 #[.pointer (some ⟨b, 0, none⟩)] w fun e w' => e = .returned (.tuple #[.int .u64 x, .bool true]) ∧ ∃ m, w' = w.drewN m := by
  have hlt := (List.getElem?_eq_some_iff.1 hx).1
  have HT := Lib.hid (there_q h)
  have hd : decide (p < xs.length - gone) = true := by simp; omega
  rw [hd] at HT
  have H := Lib.hid h
  have HX := Lib.hid hx
  clear h hx hd
  go_enter Try.func10, Try.ntmps10
  go_wp2_with fail
  refine HT.out.mono ?_
  rintro e w1 ⟨rfl, m1, hm1⟩
  have h1 : BxL w1 b v xs gone p := by rw [hm1]; exact H.out.drewN m1
  obtain ⟨c0, c1, c2, fz, -, -⟩ := h1.facts
  have hm := h1.2.2.2
  obtain ⟨po, hpo, hms⟩ := messages_q h1
  obtain ⟨g, cap, rfl, rfl⟩ := hpo (by omega)
  obtain ⟨g', cap', e, _, _, hc⟩ := h1.2.1.get HX.out
  injection e with e
  injection e with e
  injection e with e
  subst e
  have HM := Lib.hid hms
  obtain ⟨n, hn⟩ : ∃ n, xs.length - gone = n := ⟨_, rfl⟩
  rw [hn] at HM
  have hpn' : (p : Int) < n := by omega
  have hn2 : n ≤ 17592186044416 := by omega
  have HW := Lib.hid hm1
  clear h1 hms hpo hlt hm hn hm1 HT
  go_wp2_with fail
  go_quiet ((go_at_call 22; exact Calls.quiet_of (HM.out _)))
  go_wp2_with fail
  go_ret2
  refine ⟨rfl, m1 + nq, ?_⟩
  rw [HW.out, World.drewN_drewN]
set_option maxHeartbeats 400000 in
theorem peek_none (h : BxL w b v xs gone p) (hx : xs.length ≤ gone + p) : Calls Try.prog 10 #[.pointer (some ⟨b, 0, none⟩)] w fun e w' => e = .returned (.tuple #[.int .u64 0, .bool false]) ∧ ∃ m, w' = w.drewN m := by
  have HT := Lib.hid (there_q h)
  have hd : decide (p < xs.length - gone) = false := by simp; omega
  rw [hd] at HT
  clear h hx
  go_enter Try.func10, Try.ntmps10
  go_wp2_with fail
  refine HT.out.mono ?_
  rintro e w1 ⟨rfl, m1, rfl⟩
  go_wp2_with fail
  go_ret2
  exact ⟨rfl, _, rfl⟩
set_option maxHeartbeats 400000 in
theorem first_any (h : BxL w b v xs gone p) : Calls Try.prog 13 #[.pointer (some ⟨b, 0, none⟩)] w fun e w' => e = .returned (.tuple #[]) ∧ BxL w' b v xs gone 0 ∧ Kp (fun q => q = b) w w' := by
  obtain ⟨c0, c1, c2, fz, -, -⟩ := h.facts
  have H := Lib.hid h
  clear h
  go_enter Try.func13, Try.ntmps13
  go_wp2_with fail
  go_end0
  exact ⟨rfl, H.out.setp 0, kp_setb _ _ _ _⟩
set_option maxHeartbeats 400000 in
theorem at_q (h : BxL w b v xs gone p) : Calls Try.prog 17 #[.pointer (some ⟨b, 0, none⟩)] w fun e w' => e = .returned (.int .i64 p) ∧ ∃ m, w' = w.drewN m := by
  obtain ⟨c0, c1, c2, fz, -, -⟩ := h.facts
  clear h
  go_enter Try.func17, Try.ntmps17
  go_wp2_with fail
  go_ret
  exact ⟨rfl, 0, rfl⟩
set_option maxHeartbeats 400000 in
theorem next_any (h : BxL w b v xs gone p) (hp : p ≤ xs.length - gone) : ∀ p', p' = (if p < xs.length - gone then p + 1 else p) →
    Calls Try.prog 11 #[.pointer (some ⟨b, 0, none⟩)] w fun e w' => e = .returned (.bool (decide (p' < xs.length - gone))) ∧ BxL w' b v xs gone p' ∧ Kp (fun q => q = b) w w' := by
  intro p' hp'
  obtain ⟨c0, c1, c2, fz, -, -⟩ := h.facts
  have hm := h.2.2.2
  by_cases hlt : p < xs.length - gone
  · rw [if_pos hlt] at hp'
    subst hp'
    have hd : decide (p < xs.length - gone) = true := by simpa using hlt
    have HT := Lib.hid (there_q h)
    rw [hd] at HT
    have hw : IntKind.i64.wrap ((p : Int) + 1) = ((p + 1 : Nat) : Int) := by rw [IntWalk.i64_in _ (by omega)]; rfl
    have hpb : (p : Int) ≤ 17592186044416 := by omega
    have H2 := Lib.hid (fun m => (h.drewN m).setp (p + 1))
    have HK := Lib.hid (And.intro hw hm)
    clear h hm hlt hd hw
    go_enter Try.func11, Try.ntmps11
    go_wp2_with fail
    refine HT.out.mono ?_
    rintro e w1 ⟨rfl, m1, rfl⟩
    go_wp2_with fail
    have H3 := Lib.hid (there_q (H2.out m1))
    have e1 : ((p + 1 : Nat) : Int) = (p : Int) + 1 := rfl
    rw [e1] at H3
    clear e1
    refine H3.out.mono ?_
    rintro e w2 ⟨rfl, m2, rfl⟩
    go_wp2_with fail
    go_ret
    exact ⟨rfl, (H2.out m1).drewN m2, kp_drewN ((kp_drewN (Kp.refl (fun q => q = b) w) m1).setCell ⟨b, 2, none⟩ _ (.inl rfl)) m2⟩
  · rw [if_neg hlt] at hp'
    subst hp'
    have hd : decide (p' < xs.length - gone) = false := by simpa using hlt
    have HT := Lib.hid (fun k => there_q (h.drewN k))
    rw [hd] at HT ⊢
    have H := Lib.hid h
    clear h hd hlt hm
    go_enter Try.func11, Try.ntmps11
    go_wp2_with fail
    refine (HT.out 0).mono ?_
    rintro e w1 ⟨rfl, m1, rfl⟩
    go_wp2_with fail
    refine (HT.out _).mono ?_
    rintro e w1 ⟨rfl, m2, rfl⟩
    go_wp2_with fail
    go_ret
    exact ⟨rfl, (H.out.drewN _), kp_drewN (Kp.refl _ w) _⟩
end
end Go.Proofs.Ytgdmcinfgfejcaa
