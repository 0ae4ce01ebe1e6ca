/- A table's names: Register, Unregister, Whereis, Names. -/
import Derived.Test.YtdcmdidikengbaaTbDrop
import Derived.Laws.Closers25b
namespace Go.Proofs.Ytdcmdidikengbaa
open Go.RowKit
set_option linter.unusedVariables false

section
variable {F : Nat → Prop} {w w' : World} {b mb size B : Nat} {v : Value} {sl : List Sg} {ns : List Nm} {p : Int} {s : ByteArray}
/-- what is wrong with a name for a number -/
def nameKind (sl : List Sg) (ns : List Nm) (s : ByteArray) (p : Int) : Int :=
  if s.size = 0 ∨ 255 < s.size then 1 else if kindAt sl p ≠ 0 then kindAt sl p else if (whose ns s).isSome = true then 5 else if ns.length = 64 then 2 else 0
theorem errV_1 : errV 1 = .iface 39 (.int .i64 1) := rfl
theorem errV_2 : errV 2 = .iface 39 (.int .i64 2) := rfl
theorem errV_5 : errV 5 = .iface 39 (.int .i64 5) := rfl
set_option maxRecDepth 100000 in
set_option maxHeartbeats 4000000 in
theorem mayName_any (h : Tb w b mb v size B sl ns) (s : ByteArray) (hs : s.size ≤ maxLen) (p : Int) : Calls Try.prog 43 #[.pointer (some ⟨b, 0, none⟩), .string s, .int .i64 p] w fun e w' => e = .returned (errV (nameKind sl ns s p)) ∧ w = w' := by
  have HW := wrong_any h p
  obtain ⟨c0, c1, c2, fb⟩ := h.facts
  have hlk := h.mp.look s hs
  have hln := h.mp.len
  unfold nameKind
  by_cases h0 : s.size = 0
  · have he : s = ByteArray.empty := ByteArray.ext (Array.eq_empty_of_size_eq_zero h0)
    rw [if_pos (.inl h0), errV_1]
    subst he
    clear h hlk hln HW h0
    go_enter Try.func43, Try.ntmps43
    go_wp2_with fail
    go_ret
    exact ⟨rfl, rfl⟩
  · have hne : ¬ s.toList = [] := by
      intro e
      rw [toList_nil_iff_emptyBytes] at e
      rw [e] at h0
      exact absurd rfl h0
    have hne2 : s.toList.isEmpty = false := by rw [Bool.eq_false_iff]; exact fun e => hne (List.isEmpty_iff.1 e)
    by_cases h1 : 255 < s.size
    · rw [if_pos (.inr h1), errV_1]
      have h1i : (255 : Int) < s.size := by omega
      clear h hlk hln HW
      go_enter Try.func43, Try.ntmps43
      go_wp2_with fail
      go_ret
      exact ⟨rfl, rfl⟩
    · rw [if_neg (by omega)]
      have h1i : ¬ (255 : Int) < s.size := by omega
      rcases kindAt_cases sl p with hk | hk | hk
      · rw [hk, errV_0] at HW
        rw [if_neg (by rw [hk]; decide)]
        cases hw : whose ns s with
        | some q =>
          rw [hw] at hlk
          rw [show (some q).isSome = true from rfl, if_pos rfl, errV_5]
          have hlk2 : (Instr.lookup 76 (.map (some mb)) (.string s) true).run Try.prog w = .ok (.tuple #[.int .i64 (q : Nat), .bool true]) w := hlk
          clear h hlk hk hw
          go_enter Try.func43, Try.ntmps43
          go_wp2_with (go_at_call 38; refine HW.mono ?_; rintro e w' ⟨rfl, rfl⟩)
          go_ret
          exact ⟨rfl, rfl⟩
        | none =>
          rw [hw] at hlk
          rw [if_neg (by decide)]
          have hlk2 : (Instr.lookup 76 (.map (some mb)) (.string s) true).run Try.prog w = .ok (.tuple #[.int .i64 0, .bool false]) w := hlk
          by_cases h64 : ns.length = 64
          · rw [if_pos h64, errV_2]
            rw [h64] at hln
            clear h hlk hk hw
            go_enter Try.func43, Try.ntmps43
            go_wp2_with (go_at_call 38; refine HW.mono ?_; rintro e w' ⟨rfl, rfl⟩)
            go_ret
            exact ⟨rfl, rfl⟩
          · rw [if_neg h64, errV_0]
            have h64b : ((ns.length : Int) == 64) = false := by rw [beq_eq_false_iff_ne]; omega
            clear h hlk hk hw
            go_enter Try.func43, Try.ntmps43
            go_wp2_with (go_at_call 38; refine HW.mono ?_; rintro e w' ⟨rfl, rfl⟩)
            go_ret
            exact ⟨rfl, rfl⟩
      all_goals
        rw [hk] at HW ⊢
        rw [if_pos (by decide)]
        simp only [errV_3, errV_4] at HW ⊢
        clear h hlk hln hk
        go_enter Try.func43, Try.ntmps43
        go_wp2_with (go_at_call 38; refine HW.mono ?_; rintro e w' ⟨rfl, rfl⟩)
        go_ret
        exact ⟨rfl, rfl⟩
theorem tbclone_any (s : ByteArray) (w : World) (hs : s.size ≤ 255) :
    Calls Try.prog 44 #[.string s] w fun e w' => e = .returned (.string s) ∧ Kp (fun _ => False) w w' := by
  go_enter Try.func44, Try.ntmps44
  go_wp2_with (go_at_call 52; refine (Try.stringslite_Clone s _ (by omega)).mono ?_; rintro e w' ⟨rfl, hb⟩)
  go_ret
  exact ⟨rfl, hb.os, hb.tape, hb.output, hb.size, fun k hk _ => hb.block k hk⟩
set_option maxRecDepth 100000 in
set_option maxHeartbeats 4000000 in
theorem register_bad (h : Tb w b mb v size B sl ns) (s : ByteArray) (hs : s.size ≤ maxLen) (p : Int) (hk : nameKind sl ns s p ≠ 0) : Calls Try.prog 17 #[.pointer (some ⟨b, 0, none⟩), .string s, .int .i64 p] w
    (EBad w (fun v => v) [Lk.fault ⟨#[114, 101, 103, 105, 115, 116, 101, 114]⟩ (s.size : Nat), Lk.kind (nameKind sl ns s p)]) := by
  have HW := mayName_any h s hs p
  have HB := Lib.hid (ebad1 w (fun v => v) ⟨#[114, 101, 103, 105, 115, 116, 101, 114]⟩ (s.size : Nat) (nameKind sl ns s p) hk 0)
  have he : errV (nameKind sl ns s p) = .iface 39 (.int .i64 (nameKind sl ns s p)) := by unfold errV; rw [if_neg hk]
  rw [he] at HW
  clear h hk he
  generalize nameKind sl ns s p = K at HW HB ⊢
  go_enter Try.func17, Try.ntmps17
  go_wp2_with (first | (go_at_call 43; refine HW.mono ?_; rintro e w' ⟨rfl, rfl⟩) | (go_at_call 36; refine (at_any _ _ _ _ _).mono ?_; rintro e w' ⟨rfl, rfl⟩))
  go_ret
  exact HB.out
theorem nameKind_ok {p : Int} (hk : nameKind sl ns s p = 0) : 1 ≤ s.size ∧ s.size ≤ 255 ∧ kindAt sl p = 0 ∧ whose ns s = none ∧ ns.length ≠ 64 := by
  unfold nameKind at hk
  split at hk
  · cases hk
  · split at hk
    · contradiction
    · split at hk
      · cases hk
      · split at hk
        · cases hk
        · rename_i h1 h2 h3 h4
          refine ⟨by omega, by omega, by omega, ?_, h4⟩
          cases hw : whose ns s with
          | none => rfl
          | some q => rw [hw] at h3; exact absurd rfl h3
def RegTo (b mb size B : Nat) (v : Value) (sl : List Sg) (ns : List Nm) (s : ByteArray) (p : Nat) (w : World) (e : Ending) (w' : World) : Prop :=
  e = .returned .nilIface ∧ Tb w' b mb v size B sl (putNm ns ⟨s, p⟩) ∧ Kp (fun q => q = mb) w w'
set_option maxRecDepth 100000 in
set_option maxHeartbeats 4000000 in
theorem register_ok (h : Tb w b mb v size B sl ns) (s : ByteArray) (p : Nat) (hk : nameKind sl ns s (p : Nat) = 0) : Calls Try.prog 17 #[.pointer (some ⟨b, 0, none⟩), .string s, .int .i64 (p : Nat)] w (RegTo b mb size B v sl ns s p w) := by
  obtain ⟨h1, h2, h3, h4, h5⟩ := nameKind_ok hk
  have HW := mayName_any h s (by unfold maxLen; omega) (p : Nat)
  rw [hk, errV_0] at HW
  obtain ⟨c0, c1, c2, fb⟩ := h.facts
  have HT := Lib.hid h
  have HX2 : Hid (s.size ≤ maxLen ∧ ns.length < maxLen) := Lib.hid (by have := h.few; unfold maxLen; omega)
  have HP : Hid (∀ w2, Kp (fun _ => False) w.drew w2 → ∃ w3, (Instr.mapUpdate 76 (.map (some mb)) (.string s) (.int .i64 (p : Nat))).run Try.prog w2 = .ok () w3 ∧ w2.cell? ⟨b, 2, none⟩ = some (.map (some mb)) ∧ Hid (Tb w3 b mb v size B sl (putNm ns ⟨s, p⟩) ∧ Kp (fun q => q = mb) w w3)) := by
    refine Lib.hid fun w2 hk2 => ?_
    have hk0 : Kp (fun _ => False) w w2 := ((Kp.refl (fun _ => False) w).drew).trans' hk2
    have ht := h.same hk0
    obtain ⟨w3, hr3, hm3, hk3, hz3⟩ := ht.mp.put ⟨s, p⟩ HX2.out.1 h4 HX2.out.2
    refine ⟨w3, hr3, ht.facts.2.2.1, Lib.hid ⟨⟨(hk3.block b ht.ltb ht.bne).trans ht.main, hk3.rowS ht.row (fun g hg => (ht.vne g hg).2), hm3, h.ok, h.fit, h.size1, h.size2, by rw [putNm_len]; have := h.few; omega, fun n hn => ?_, fun n hn => ?_⟩, (hk0.mono fun _ _ e => e.elim).trans' hk3⟩⟩
    · rcases putNm_mem.1 hn with rfl | hn
      · exact ⟨h1, h2⟩
      · exact h.lens n hn
    · rcases putNm_mem.1 hn with rfl | hn
      · exact h3
      · exact h.live n hn
  have HC : Hid (∀ n, Calls Try.prog 44 #[.string s] (w.drewN n) fun e w' => e = .returned (.string s) ∧ Kp (fun _ => False) w w') := Lib.hid (fun n => (tbclone_any s _ h2).mono (fun e w' ⟨a, k⟩ => ⟨a, (⟨rfl, rfl, rfl, Nat.le_refl _, fun _ _ _ => rfl⟩ : Kp (fun _ => False) w (w.drewN n)).trans' k⟩))
  have HX := Lib.hid (And.intro h1 (And.intro h2 (And.intro h3 (And.intro h4 h5))))
  clear h hk h1 h2 h3 h4 h5
  go_enter Try.func17, Try.ntmps17
  go_wp2_with (go_at_call 43; refine HW.mono ?_; rintro e w' ⟨rfl, rfl⟩)
  go_region_with (go_at_call 44; refine (tbclone_any s _ HX.out.2.1).mono ?_; rintro e w2 ⟨rfl, hk2⟩; obtain ⟨w3, hr3', e2, HG⟩ := HP.out w2 hk2; have hr3 : (Instr.mapUpdate 76 (.map (some mb)) (.string s) (.int .i64 (p : Nat))).run Try.prog w2 = .ok () w3 := hr3'; clear hr3')
  all_goals
    clear hk2
    go_wp2_with fail
    go_ret
    exact ⟨rfl, HG.out⟩
set_option maxRecDepth 100000 in
set_option maxHeartbeats 4000000 in
theorem whereis_ok (h : Tb w b mb v size B sl ns) {q : Nat} (hs : s.size ≤ maxLen) (hw : whose ns s = some q) : Calls Try.prog 21 #[.pointer (some ⟨b, 0, none⟩), .string s] w
    fun e w' => e = .returned (.tuple #[.int .i64 (q : Nat), .nilIface]) ∧ w = w' := by
  obtain ⟨c0, c1, c2, fb⟩ := h.facts
  have hlk := h.mp.look s hs
  rw [hw] at hlk
  have hlk2 : (Instr.lookup 76 (.map (some mb)) (.string s) true).run Try.prog w = .ok (.tuple #[.int .i64 (q : Nat), .bool true]) w := hlk
  clear h hlk hw
  go_enter Try.func21, Try.ntmps21
  go_wp2_with fail
  go_ret2
  exact ⟨rfl, rfl⟩
set_option maxRecDepth 100000 in
set_option maxHeartbeats 4000000 in
theorem whereis_bad (h : Tb w b mb v size B sl ns) (hs : s.size ≤ maxLen) (hw : whose ns s = none) : Calls Try.prog 21 #[.pointer (some ⟨b, 0, none⟩), .string s] w
    (EBad w (fun v => .tuple #[.int .i64 (-1), v]) [Lk.fault ⟨#[110, 97, 109, 101]⟩ (s.size : Nat), Lk.kind 3]) := by
  obtain ⟨c0, c1, c2, fb⟩ := h.facts
  have hlk := h.mp.look s hs
  rw [hw] at hlk
  have hlk2 : (Instr.lookup 76 (.map (some mb)) (.string s) true).run Try.prog w = .ok (.tuple #[.int .i64 0, .bool false]) w := hlk
  have HB := Lib.hid (ebad1 w (fun v => .tuple #[.int .i64 (-1), v]) ⟨#[110, 97, 109, 101]⟩ (s.size : Nat) 3 (by decide) 0)
  clear h hlk hw
  go_enter Try.func21, Try.ntmps21
  go_wp2_with (go_at_call 36; refine (at_any _ _ _ _ _).mono ?_; rintro e w' ⟨rfl, rfl⟩)
  go_ret2
  exact HB.out
set_option maxRecDepth 100000 in
set_option maxHeartbeats 4000000 in
theorem unregister_bad (h : Tb w b mb v size B sl ns) (hs : s.size ≤ maxLen) (hw : whose ns s = none) : Calls Try.prog 20 #[.pointer (some ⟨b, 0, none⟩), .string s] w
    (EBad w (fun v => v) [Lk.fault ⟨#[110, 97, 109, 101]⟩ (s.size : Nat), Lk.kind 3]) := by
  have HF := Lib.hid (whereis_bad h hs hw)
  clear h hw
  go_enter Try.func20, Try.ntmps20
  go_wp2_with fail
  refine HF.out.mono ?_
  rintro e w1 ⟨u, rfl, hv, hk⟩
  obtain ⟨g, rfl⟩ := hv.out.form
  have H1 := Lib.hid (And.intro hv hk)
  clear hv hk
  go_wp2_with fail
  go_ret
  exact ⟨_, rfl, H1.out⟩
def UnregTo (b mb size B : Nat) (v : Value) (sl : List Sg) (ns : List Nm) (s : ByteArray) (w : World) (e : Ending) (w' : World) : Prop :=
  e = .returned .nilIface ∧ Tb w' b mb v size B sl (butFor ns s) ∧ Kp (fun q => q = mb) w w'
set_option maxRecDepth 100000 in
set_option maxHeartbeats 4000000 in
theorem unregister_ok (h : Tb w b mb v size B sl ns) {q : Nat} (hs : s.size ≤ maxLen) (hw : whose ns s = some q) : Calls Try.prog 20 #[.pointer (some ⟨b, 0, none⟩), .string s] w (UnregTo b mb size B v sl ns s w) := by
  have HF := Lib.hid (whereis_ok h hs hw)
  obtain ⟨c0, c1, c2, fb⟩ := h.facts
  obtain ⟨w2, hr2, hm2, hk2, hz2⟩ := h.mp.del s hs 0
  have HG : Hid (Tb w2 b mb v size B sl (butFor ns s) ∧ Kp (fun q => q = mb) w w2) := by
    have h5 : (butFor ns s).length ≤ ns.length := List.length_filter_le _ _
    exact Lib.hid ⟨⟨(hk2.block b h.ltb h.bne).trans h.main, hk2.rowS h.row (fun g hg => (h.vne g hg).2), hm2, h.ok, h.fit, h.size1, h.size2, by have := h.few; omega, fun n hn => h.lens n (List.mem_filter.1 hn).1, fun n hn => h.live n (List.mem_filter.1 hn).1⟩, hk2⟩
  clear h hw hm2 hk2 hz2
  go_enter Try.func20, Try.ntmps20
  go_wp2_with (go_at_call 21; refine HF.out.mono ?_; rintro e w' ⟨rfl, rfl⟩)
  go_ret
  exact ⟨rfl, HG.out⟩
theorem names_any (h : Tb w b mb v size B sl ns) : Calls Try.prog 18 #[.pointer (some ⟨b, 0, none⟩)] w (SortedTo ns w) := by
  have HS := Lib.hid (sorted_any h.mp (by have := h.few; omega))
  obtain ⟨c0, c1, c2, fb⟩ := h.facts
  clear h
  go_enter Try.func18, Try.ntmps18
  go_wp2_with fail
  refine HS.out.mono ?_
  rintro e w1 ⟨u, rfl, hx⟩
  have HX := Lib.hid hx
  clear hx
  go_wp2_with fail
  go_ret
  exact ⟨u, rfl, HX.out⟩
end
end Go.Proofs.Ytdcmdidikengbaa
