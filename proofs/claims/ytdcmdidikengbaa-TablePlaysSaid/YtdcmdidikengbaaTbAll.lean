/- All of a table. -/
import Derived.Test.YtdcmdidikengbaaTbOps
namespace Go.Proofs.Ytdcmdidikengbaa
open Go.RowKit

section
variable {F : Nat → Prop} {w w' : World} {b mb size B : Nat} {v : Value} {sl : List Sg} {ns : List Nm} {p : Int}
/-- the numbers of those that live, by slot -/
def livesOf (sl : List Sg) : List Int := (sl.filter (fun s => s.on)).map (fun s => (s.pid : Int))
theorem livesOf_len (sl : List Sg) : (livesOf sl).length ≤ sl.length := by unfold livesOf; rw [List.length_map]; exact List.length_filter_le _ _
theorem livesOf_snoc (sl : List Sg) (s : Sg) : livesOf (sl ++ [s]) = if s.on = true then livesOf sl ++ [(s.pid : Int)] else livesOf sl := by
  unfold livesOf
  rw [List.filter_append]
  cases h : s.on <;> simp [h]
def AllTo (sl : List Sg) (w : World) (e : Ending) (w' : World) : Prop :=
  ∃ v, e = .returned v ∧ Lw w' v (livesOf sl) ∧ (∀ g, v.ownBlock = some g → w.heap.size ≤ g) ∧ Kp (fun _ => False) w w'
set_option maxRecDepth 100000 in
set_option maxHeartbeats 4000000 in
theorem all_any (h : Tb w b mb v size B sl ns) : Calls Try.prog 23 #[.pointer (some ⟨b, 0, none⟩)] w (AllTo sl w) := by
  obtain ⟨-, c1, -, -⟩ := h.facts
  obtain ⟨po, cap, rfl, hcap, hcap2⟩ := ownsS_form h.row
  obtain ⟨n, hn⟩ : ∃ n, sl.length = n := ⟨_, rfl⟩
  have HN := Lib.hid hn
  obtain ⟨V, hV⟩ : ∃ V, Value.slice po sl.length cap = V := ⟨_, rfl⟩
  rw [hV] at h
  have HV := Lib.hid hV
  have HT := Lib.hid h
  rw [hn] at c1 hcap
  have hn64 : n ≤ 64 := by have h1 := h.fit; have h2 := h.size2; omega
  clear h hn hV
  go_enter Try.func23, Try.ntmps23
  go_wp2_with fail
  go_loopg [3, 5, 11] n (fun gk s3 s5 s11 wr => ∃ (i : Nat) (x5 u : Value), i ≤ n ∧ gk = n - i ∧ s3 = u ∧ s5 = x5 ∧ s11 = .int .i64 (i : Nat) ∧ Hid (Lw wr u (livesOf (sl.take i)) ∧ (∀ g, u.ownBlock = some g → w.heap.size ≤ g)) ∧ Kp (fun _ => False) w wr)
  case atStart => exact ⟨0, _, _, by omega, rfl, rfl, rfl, rfl, Lib.hid ⟨Lw.nil _, fun g hg => by cases hg⟩, Kp.refl _ w⟩
  case round =>
    obtain ⟨i, x5, u, hi, rfl, hu, rfl, rfl, HB, hk⟩ := hrel
    obtain rfl := hu.symm
    have HK := Lib.hid hk
    have hT := HT.out.same hk
    clear hk
    by_cases hlt : i < n
    · have hli : (i : Int) < n := by omega
      obtain ⟨s, hs⟩ : ∃ s, sl[i]? = some s := ⟨_, List.getElem?_eq_getElem (by rw [HN.out]; exact hlt)⟩
      have htk : sl.take (i + 1) = sl.take i ++ [s] := by rw [List.take_add_one, hs]; rfl
      obtain ⟨g, cp, e1, -, -, d0, d1⟩ := hT.slot hs
      rw [← HV.out] at e1
      obtain ⟨rfl, rfl⟩ : po = some ⟨g, 0, none⟩ ∧ cap = cp := by
        injection e1 with e1 _ e2
        exact ⟨e1, e2⟩
      obtain ⟨w1, hw1⟩ : ∃ w1, wr.alloc (.cells #[.int .i64 (s.pid : Nat), .bool s.on] 82) = w1 := ⟨_, rfl⟩
      have hk1 : Kp (fun _ => False) wr w1 := by rw [← hw1]; exact (Kp.refl _ wr).alloc _
      have b0 : w1.cell? ⟨wr.heap.size, 0, none⟩ = some (.int .i64 (s.pid : Nat)) := by rw [← hw1, cell_of_row _ wr.heap.size 0 _ _ _ (heap_alloc_new wr _)]; rfl
      have b1 : w1.cell? ⟨wr.heap.size, 1, none⟩ = some (.bool s.on) := by rw [← hw1, cell_of_row _ wr.heap.size 1 _ _ _ (heap_alloc_new wr _)]; rfl
      have hlw := HB.out.1.same hk1
      have hll : (livesOf (sl.take i)).length + 1 ≤ 17592186044416 := by
        have := livesOf_len (sl.take i)
        rw [List.length_take] at this
        omega
      have HK1 := Lib.hid (HK.out.trans' hk1)
      have HS := Lib.hid (And.intro hs htk)
      have hsn := livesOf_snoc (sl.take i) s
      rw [← htk] at hsn
      clear hs hT e1 hk1 htk
      by_cases ho : s.on = true
      · obtain ⟨g3, cap3, w3, hr3, ho3, hk3, hg3, hl3⟩ := longs_push hlw hll (s.pid : Nat)
        rw [if_pos ho] at hsn
        rw [← hsn] at ho3
        have HG : Hid (Lw w3 (.slice (some ⟨g3, 0, none⟩) ((livesOf (sl.take i)).length + 1) cap3) (livesOf (sl.take (i + 1))) ∧ (∀ g, (Value.slice (some ⟨g3, 0, none⟩) ((livesOf (sl.take i)).length + 1) cap3).ownBlock = some g → w.heap.size ≤ g) ∧ Kp (fun _ => False) w w3) := by
          have hz := HK1.out.size
          refine Lib.hid ⟨ho3, fun g hg => ?_, HK1.out.trans (hk3.mono fun q hq e => .inr ⟨HB.out.2 q e, hq⟩)⟩
          have e2 : g3 = g := by injection hg
          subst e2
          rcases hg3 with e3 | e3
          · exact HB.out.2 _ e3
          · omega
        have HR := Lib.hid hr3
        obtain ⟨W3, hW3⟩ : ∃ x, Value.slice (some ⟨g3, 0, none⟩) ((livesOf (sl.take i)).length + 1) cap3 = x := ⟨_, rfl⟩
        rw [hW3] at HG HR
        obtain ⟨po2, cp2, hu2⟩ := hlw.form
        obtain ⟨I, hI⟩ : ∃ I : Nat, s.pid = I := ⟨_, rfl⟩
        obtain ⟨O, hO⟩ : ∃ O, s.on = O := ⟨_, rfl⟩
        rw [hI] at d0 b0 HR
        rw [hO] at d1 b1
        rw [hI, hO] at hw1
        have hOt : O = true := hO.symm.trans ho
        subst hOt
        clear ho3 hk3 hg3 hl3 hr3 hsn hlw hll hW3 hI hO ho
        go_wp2_with (at_builtin; refine wpList_run rfl _ _ 50 rfl u (.slice (some ⟨w1.heap.size, 0, none⟩) 1 1) rfl rfl _ w3 HR.out ?_)
        go_roundg (n - (i + 1))
        case measure => omega
        case rel => exact ⟨i + 1, _, _, by omega, rfl, rfl, rfl, by go_num, Lib.hid ⟨HG.out.1, HG.out.2.1⟩, HG.out.2.2⟩
      · rw [if_neg ho] at hsn
        rw [← hsn] at hlw
        have HG := Lib.hid hlw
        obtain ⟨I, hI⟩ : ∃ I : Nat, s.pid = I := ⟨_, rfl⟩
        obtain ⟨O, hO⟩ : ∃ O, s.on = O := ⟨_, rfl⟩
        rw [hI] at d0 b0
        rw [hO] at d1 b1
        rw [hI, hO] at hw1
        have hOt : O = false := by cases O; rfl; exact absurd hO ho
        subst hOt
        have HW1 := Lib.hid hw1
        rw [← hw1] at b0 b1
        clear hsn hlw hll hI hO ho hw1
        go_wp2_with fail
        go_roundg (n - (i + 1))
        case measure => omega
        case rel => exact ⟨i + 1, _, _, by omega, rfl, rfl, rfl, by go_num, Lib.hid ⟨by rw [HW1.out]; exact HG.out, HB.out.2⟩, by rw [HW1.out]; exact HK1.out⟩
    · obtain rfl : n = i := by omega
      have HL := HB.out
      rw [List.take_of_length_le (by rw [HN.out]; exact Nat.le_refl _)] at HL
      have HL := Lib.hid HL
      go_wp2_with fail
      go_ret
      exact ⟨_, rfl, HL.out.1, HL.out.2, HK.out⟩
end
end Go.Proofs.Ytdcmdidikengbaa
