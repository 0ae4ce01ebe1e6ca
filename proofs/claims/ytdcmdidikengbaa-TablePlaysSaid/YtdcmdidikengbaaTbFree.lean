/- The first free slot of a table. -/
import Derived.Test.YtdcmdidikengbaaTbSlot
namespace Go.Proofs.Ytdcmdidikengbaa
open Go.RowKit

section
variable {F : Nat → Prop} {w w' : World} {b mb size B : Nat} {v : Value} {sl : List Sg} {ns : List Nm}
theorem kind_own (h : SlOk B sl) {i : Nat} {s : Sg} (hs : sl[i]? = some s) : kindAt sl (s.pid : Nat) = if s.on = true then 0 else 4 := by
  have hm := h.at_ i s hs
  have e : (slotAt (s.pid : Nat)).toNat = i := by rw [slotAt_nat]; omega
  rw [kindAt_in (by omega) (by rw [e]; exact hs), if_neg (by omega)]
  cases s.on <;> simp
theorem freeAt_is {i : Nat} {s : Sg} (hs : sl[i]? = some s) (ho : s.on = false) (hb : ∀ j x, j < i → sl[j]? = some x → x.on = true) : freeAt sl = i := by
  obtain ⟨hlt, e⟩ := List.getElem?_eq_some_iff.1 hs
  unfold freeAt
  rw [List.findIdx_eq hlt]
  refine ⟨by rw [e, ho]; rfl, fun j hj => ?_⟩
  have := hb j _ hj (List.getElem?_eq_getElem (by omega))
  rw [this]; rfl
theorem freeAt_end (hb : ∀ j x, j < sl.length → sl[j]? = some x → x.on = true) : freeAt sl = sl.length := by
  unfold freeAt
  rw [List.findIdx_eq_length]
  intro x hx
  obtain ⟨j, hj, e⟩ := List.mem_iff_getElem.1 hx
  have := hb j x hj (by rw [List.getElem?_eq_getElem hj, e])
  rw [this]; rfl
def FreeTo (sl : List Sg) (w : World) (e : Ending) (w' : World) : Prop := e = .returned (.int .i64 (freeAt sl : Nat)) ∧ Kp (fun _ => False) w w'
set_option maxRecDepth 100000 in
set_option maxHeartbeats 4000000 in
theorem free_any (h : Tb w b mb v size B sl ns) : Calls Try.prog 37 #[.pointer (some ⟨b, 0, none⟩)] w (FreeTo sl w) := by
  obtain ⟨-, c1, -, -⟩ := h.facts
  obtain ⟨po, cap, rfl, hcap, hcap2⟩ := ownsS_form h.row
  obtain ⟨n, hn⟩ : ∃ n, sl.length = n := ⟨_, rfl⟩
  have HN := Lib.hid hn
  obtain ⟨V, hV⟩ : ∃ V, Value.slice po sl.length cap = V := ⟨_, rfl⟩
  rw [hV] at h
  have HV := Lib.hid hV
  have HT := Lib.hid h
  rw [hn] at c1 hcap
  have hn64 : n ≤ 64 := by have h1 := h.fit; have h2 := h.size2; omega
  clear h hn hV
  go_enter Try.func37, Try.ntmps37
  go_wp2_with fail
  go_loopg [3, 4, 10] n (fun gk s3 s4 s10 wr => ∃ (i : Nat) (x3 x4 : Value), i ≤ n ∧ gk = n - i ∧ s3 = x3 ∧ s4 = x4 ∧ s10 = .int .i64 (i : Nat) ∧ Hid (∀ j x, j < i → sl[j]? = some x → x.on = true) ∧ Kp (fun _ => False) w wr)
  case atStart => exact ⟨0, _, _, by omega, rfl, rfl, rfl, rfl, Lib.hid (fun j x hj => by omega), Kp.refl _ w⟩
  case round =>
    obtain ⟨i, x3, x4, hi, rfl, rfl, rfl, rfl, HB, hk⟩ := hrel
    have HK := Lib.hid hk
    have hT := HT.out.same hk
    obtain ⟨-, k1, -, -⟩ := hT.facts
    rw [← HV.out, HN.out] at k1
    clear hk
    by_cases hlt : i < n
    · have hli : (i : Int) < n := by omega
      obtain ⟨s, hs⟩ : ∃ s, sl[i]? = some s := ⟨_, List.getElem?_eq_getElem (by rw [HN.out]; exact hlt)⟩
      obtain ⟨g, cp, e1, -, -, d0, d1⟩ := hT.slot hs
      rw [← HV.out] at e1
      obtain ⟨rfl, rfl⟩ : po = some ⟨g, 0, none⟩ ∧ cap = cp := by
        injection e1 with e1 _ e2
        exact ⟨e1, e2⟩
      obtain ⟨w1, hw1⟩ : ∃ w1, wr.alloc (.cells #[.int .i64 (s.pid : Nat), .bool s.on] 82) = w1 := ⟨_, rfl⟩
      have hk1 : Kp (fun _ => False) wr w1 := by rw [← hw1]; exact (Kp.refl _ wr).alloc _
      have b0 : w1.cell? ⟨wr.heap.size, 0, none⟩ = some (.int .i64 (s.pid : Nat)) := by rw [← hw1, cell_of_row _ wr.heap.size 0 _ _ _ (heap_alloc_new wr _)]; rfl
      have HW := Lib.hid (wrong_any (hT.same hk1) (s.pid : Nat))
      rw [kind_own HT.out.ok hs] at HW
      have HK1 := Lib.hid (HK.out.trans' hk1)
      have HS := Lib.hid hs
      have HE1 := Lib.hid hw1
      clear hs hT e1 hk1
      by_cases ho : s.on = true
      · rw [if_pos ho] at HW
        have HO := Lib.hid ho
        obtain ⟨I, hI⟩ : ∃ I, s.pid = I := ⟨_, rfl⟩
        obtain ⟨O, hB⟩ : ∃ O, s.on = O := ⟨_, rfl⟩
        rw [hI] at HW d0 b0
        rw [hI, hB] at hw1
        rw [hB] at d1
        clear hI hB ho
        go_wp2_with fail
        refine HW.out.mono ?_
        rintro e w2 ⟨rfl, rfl⟩
        go_wp2_with (go_at_call 51; refine (is_nil 4 _).mono ?_; rintro e w2 ⟨rfl, rfl⟩)
        go_roundg (n - (i + 1))
        case measure => omega
        case rel =>
          refine ⟨i + 1, _, _, by omega, rfl, rfl, rfl, by go_num, Lib.hid ?_, HK1.out⟩
          intro j x hj hx
          by_cases ej : j = i
          · subst ej
            rw [HS.out] at hx
            obtain rfl := Option.some.inj hx
            exact HO.out
          · exact HB.out j x (by omega) hx
      · rw [if_neg ho] at HW
        have ho2 : s.on = false := by cases h : s.on; rfl; exact absurd h ho
        have HO := Lib.hid ho2
        have hfr := freeAt_is HS.out ho2 HB.out
        obtain ⟨I, hI⟩ : ∃ I, s.pid = I := ⟨_, rfl⟩
        obtain ⟨O, hB⟩ : ∃ O, s.on = O := ⟨_, rfl⟩
        rw [hI] at HW d0 b0
        rw [hI, hB] at hw1
        rw [hB] at d1
        have HF := Lib.hid hfr
        clear hI hB ho ho2 hfr
        go_wp2_with fail
        refine HW.out.mono ?_
        rintro e w2 ⟨rfl, rfl⟩
        go_wp2_with (go_at_call 51; refine (is_kind 4 4 _).mono ?_; rintro e w2 ⟨rfl, rfl⟩)
        go_ret
        exact ⟨congrArg (fun x : Nat => Ending.returned (.int .i64 x)) HF.out.symm, HK1.out⟩
    · obtain rfl : n = i := by omega
      have hfr := freeAt_end (sl := sl) (fun j x hj => HB.out j x (by rw [← HN.out]; exact hj))
      have HF := Lib.hid (hfr.trans HN.out)
      clear hfr
      go_wp2_with fail
      go_ret
      exact ⟨congrArg (fun x : Nat => Ending.returned (.int .i64 x)) HF.out.symm, HK.out⟩
end
end Go.Proofs.Ytdcmdidikengbaa
