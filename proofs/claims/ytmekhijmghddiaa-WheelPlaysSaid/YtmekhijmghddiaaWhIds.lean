/- The ids of a row of the document's timers. -/
import Derived.Test.YtmekhijmghddiaaWhRef5
namespace Go.Proofs.Ytmekhijmghddiaa
open Go.RowKit

section
variable {v : Value} {w w' : World} {o : List Tm}
set_option maxRecDepth 100000 in
set_option maxHeartbeats 2000000 in
theorem ids_any (h : w.ownsS 46 3 v o.length (qcells o)) (hlen : o.length ≤ 100000) :
    Calls Try.prog 23 #[v] w (fun e w' => ∃ v', e = .returned v' ∧ Lw w' v' (idsOf o) ∧ (∀ g, v'.ownBlock = some g → w.heap.size ≤ g) ∧ Kp (fun _ => False) w w') := by
  obtain ⟨po, cap, rfl, hcap, hcap2⟩ := ownsS_form h
  obtain ⟨L, hL⟩ : ∃ L, o.length = L := ⟨_, rfl⟩
  have H := Lib.hid (And.intro h hL)
  have hLb : (L : Int) ≤ 100000 := by omega
  rw [hL] at hcap
  rw [hL]
  clear h hL hlen
  go_enter Try.func23, Try.ntmps23
  go_wp2_with fail
  go_loopg [3, 4] L (fun gk s3 s4 wr => ∃ (i : Nat) (m : Value), i ≤ L ∧ gk = L - i ∧ s3 = m ∧ s4 = .int .i64 (i : Nat) ∧ Lw wr m (idsOf (o.take i)) ∧ (∀ g, m.ownBlock = some g → w.heap.size ≤ g) ∧ Kp (fun _ => False) w wr)
  case atStart => exact ⟨0, _, Nat.zero_le _, rfl, rfl, rfl, Lw.nil _, (fun g hg => by simp [Value.ownBlock] at hg), Kp.refl _ w⟩
  case round =>
    obtain ⟨i, m, hi, rfl, hm, rfl, h1, h2, h3⟩ := hrel
    obtain rfl := hm.symm
    by_cases hlt : i < L
    · have hli : (i : Int) < (L : Int) := by omega
      obtain ⟨t, ht⟩ : ∃ t, o[i]? = some t := ⟨o[i]'(by have := H.out.2; omega), List.getElem?_eq_getElem _⟩
      obtain ⟨q0, -, -⟩ := qcells_get o i t ht
      obtain ⟨g, cp, e1, -, -, d0⟩ := ownsS_get (h3.rowS H.out.1 (fun _ _ e => e)) _ _ q0
      obtain ⟨rfl, rfl⟩ : po = some ⟨g, 0, none⟩ ∧ cap = cp := by
        injection e1 with e1 _ e2
        exact ⟨e1, e2⟩
      have hil : (idsOf (o.take i)).length = i := by rw [idsOf_len, List.length_take]; have := H.out.2; omega
      obtain ⟨g2, cap2, w2, hr, hl2, hk2, hat, hlt2⟩ := longs_push h1 (by omega) (t.id : Int)
      obtain ⟨I, hI⟩ : ∃ I, t.id = I := ⟨_, rfl⟩
      have htk : idsOf (o.take (i + 1)) = idsOf (o.take i) ++ [(t.id : Int)] := by
        rw [List.take_add_one, ht]; simp [idsOf]
      rw [hil] at hr hl2
      have hz := h3.size
      have hK : Kp (fun _ => False) w w2 := h3.trans (hk2.mono fun q hq e => .inr ⟨h2 q e, hq⟩)
      have HE := Lib.hid (show Lw w2 (.slice (some ⟨g2, 0, none⟩) (i + 1) cap2) (idsOf (o.take (i + 1))) ∧ (∀ q, (Value.slice (some ⟨g2, 0, none⟩) (i + 1) cap2).ownBlock = some q → w.heap.size ≤ q) ∧ Kp (fun _ => False) w w2 from
        ⟨by rw [htk]; exact hl2, fun q e => by
          have e : g2 = q := Option.some.inj e
          subst e
          rcases hat with e | e
          · exact h2 _ e
          · omega, hK⟩)
      rw [hI] at d0 hr
      have HR := Lib.hid hr
      obtain ⟨pm, cm, e9⟩ := h1.form
      clear hr hl2 hk2 hat h1 h2 h3 htk hK q0 e1 ht hI
      go_wp2_with (at_builtin; refine wpList_run rfl _ _ 54 rfl m (.slice (some ⟨wr.heap.size, 0, none⟩) 1 1) rfl rfl _ w2 HR.out ?_)
      go_roundg (L - (i + 1))
      case measure => omega
      case rel => exact ⟨i + 1, _, by omega, rfl, rfl, by go_num, HE.out⟩
    · obtain rfl : L = i := by omega
      have HX := Lib.hid (And.intro h1 (And.intro h2 h3))
      clear h1 h2 h3
      go_wp2_with fail
      go_ret
      obtain ⟨h1, h2, h3⟩ := HX.out
      rw [← H.out.2, List.take_length] at h1
      exact ⟨_, rfl, h1, h2, h3⟩
end
end Go.Proofs.Ytmekhijmghddiaa
