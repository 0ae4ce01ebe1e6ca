/- A wheel's Cancel. -/
import Derived.Test.YtmekhijmghddiaaWhMeth
namespace Go.Proofs.Ytmekhijmghddiaa
open Go.RowKit

section
variable {F G : Nat → Prop} {w w' w2 w3 : World} {b mb most now fresh : Nat} {ch : Nat → List Tm} {ts : List Tm} {id : Int} {t : Tm}
def without (ts : List Tm) (id : Int) : List Tm := ts.filter fun t => !decide ((t.id : Int) = id)
def CancelTo (F : Nat → Prop) (b mb most now fresh : Nat) (ts : List Tm) (id : Int) (t : Tm) (w : World) (e : Ending) (w' : World) : Prop :=
  e = .returned (.tuple #[.int .i64 ((t.due - now : Nat) : Int), .nilIface]) ∧ ∃ ch, Wh w' F b mb most now fresh ch (without ts id) ∧ Kp (fun q => F q ∨ q = mb) w w'
theorem cancel_pure (h : Wh w F b mb most now fresh ch ts) (ht : tmOf ts id = some t) {l1 l2 : List Tm} (hl : ch (slotOf now t.due) = l1 ++ t :: l2) (hd : Chn w3 F b (whv most now fresh mb) (upd ch (slotOf now t.due) (l1 ++ l2)))
    (hm : Mp w3 mb (without ts id)) : Wh w3 F b mb most now fresh (upd ch (slotOf now t.due) (l1 ++ l2)) (without ts id) := by
  obtain ⟨hin, hid⟩ := tmOf_mem ht
  have hsl := slotOf_lt now t.due
  have hnt : ∀ x ∈ l1 ++ l2, x ≠ t := by
    have hn := h.chn.nd _ hsl
    rw [hl] at hn
    simp only [List.map_append, List.map_cons] at hn
    obtain ⟨_, n2, n3⟩ := List.nodup_append.1 hn
    simp only [List.nodup_cons] at n2
    intro x hx e
    subst e
    rcases List.mem_append.1 hx with hx | hx
    · exact n3 _ (List.mem_map_of_mem hx) _ (by simp) rfl
    · exact n2.1 (List.mem_map_of_mem hx)
  have hsub : ∀ s, s < 320 → ∀ x ∈ upd ch (slotOf now t.due) (l1 ++ l2) s, x ∈ ch s := by
    intro s hs x hx
    by_cases e : s = slotOf now t.due
    · subst e
      rw [upd_same] at hx
      rw [hl]
      rcases List.mem_append.1 hx with hx | hx <;> simp [hx]
    · rw [upd_other _ _ e] at hx
      exact hx
  refine ⟨hd, hm, h.nF, fun x => ?_, fun s hs x hx => h.inv s hs x (hsub s hs x hx), fun x hx => h.ids x (List.mem_filter.1 hx).1, fun x hx => h.dueB x (List.mem_filter.1 hx).1, h.nowB, h.freshB⟩
  unfold without
  rw [List.mem_filter, ← h.mem]
  constructor
  · rintro ⟨s, hs, hx⟩
    have hx2 := hsub s hs x hx
    refine ⟨⟨s, hs, hx2⟩, ?_⟩
    have hne : x ≠ t := by
      intro e
      subst e
      obtain ⟨e1, _⟩ := h.chn.one hs hsl hx2 (by rw [hl]; simp) rfl
      subst e1
      rw [upd_same] at hx
      exact hnt x hx rfl
    have : (x.id : Int) ≠ id := fun e => hne (id_inj h.nodup ((h.mem x).1 ⟨s, hs, hx2⟩) hin (by omega))
    simpa using this
  · rintro ⟨⟨s, hs, hx⟩, hne⟩
    refine ⟨s, hs, ?_⟩
    by_cases e : s = slotOf now t.due
    · subst e
      rw [upd_same]
      rw [hl] at hx
      rcases List.mem_append.1 hx with hx | hx
      · simp [hx]
      · rcases List.mem_cons.1 hx with rfl | hx
        · simp [hid] at hne
        · simp [hx]
    · rw [upd_other _ _ e]
      exact hx

set_option maxRecDepth 100000 in
set_option maxHeartbeats 2000000 in
theorem cancel_some (h : Wh w F b mb most now fresh ch ts) (hid : (Lit.int .i64 id).wf = true) (ht : tmOf ts id = some t) :
    Calls Try.prog 16 #[.pointer (some ⟨b, 0, none⟩), .int .i64 id] w (CancelTo F b mb most now fresh ts id t w) := by
  have HF := Lib.hid (find_some h ⟨#[99, 97, 110, 99, 101, 108]⟩ hid ht)
  obtain ⟨hin, hidt⟩ := tmOf_mem ht
  obtain ⟨s, hs, hch⟩ := (h.mem t).2 hin
  have hinv := h.inv s hs t hch
  obtain rfl := slotOf_of hinv.1 hinv.2 hs
  obtain ⟨l1, l2, hl⟩ := List.append_of_mem hch
  obtain ⟨p, q, hn⟩ := h.chn.node hs hch
  obtain ⟨-, -, t2, -, -, ft, -⟩ := hn.facts
  have hle := h.le t hin
  have hdb := h.dueB t hin
  have HS := Lib.hid (slot_q h.chn (now := now) (due := t.due) rfl h.nowB hdb)
  have HD := Lib.hid (fun m => drop_any (h.chn.drewN m) hs hl)
  have HH := Lib.hid (And.intro h (And.intro ht (And.intro hl (And.intro hid hin))))
  obtain ⟨S, hS⟩ : ∃ S, slotOf now t.due = S := ⟨_, rfl⟩
  have HSS := Lib.hid hS
  obtain ⟨g, hg⟩ : ∃ g, t.blk = g := ⟨_, rfl⟩
  obtain ⟨D, hD⟩ : ∃ g, t.due = g := ⟨_, rfl⟩
  have HG := Lib.hid (And.intro hg hD)
  obtain ⟨X, hX⟩ : ∃ X, t.due - now = X := ⟨_, rfl⟩
  have HX := Lib.hid hX
  have hsub : IntKind.i64.wrap ((D : Int) - (now : Int)) = (X : Int) := by rw [IntWalk.i64_in _ (by omega)]; omega
  rw [hg] at HF t2 ft HD
  rw [hS] at HS HD
  rw [hD] at t2 HS
  clear h ht hl hid hidt hs hch hinv hn hg hD hX hle hdb hS hin
  go_enter Try.func16, Try.ntmps16
  go_wp2_with fail
  refine HF.out.mono ?_
  rintro e w1 ⟨rfl, rfl⟩
  go_wp2_with fail
  refine HS.out.mono ?_
  rintro e w1 ⟨rfl, m1, hm1⟩
  have HD1 := Lib.hid (HD.out m1)
  rw [← hm1] at HD1
  have HM1 := Lib.hid hm1
  clear hm1 HD
  go_wp2_with fail
  refine HD1.out.mono ?_
  rintro e w2 ⟨rfl, hc2, hk2, hz2, p2, q2, hn2⟩
  have hk2' : Kp F w w2 := (kp_drewN (Kp.refl F w) m1).trans' (by rw [← HM1.out]; exact hk2)
  obtain ⟨w3, hr3, hm3, hk3, hz3⟩ := (HH.out.1.mp.kp hk2' HH.out.1.nF).del id HH.out.2.2.2.1 0
  have c3 := hc2.head (i := 3) (v := .map (some mb)) rfl
  have hF3 : ∀ k, F k → ¬ k = mb := fun k hf e => HH.out.1.nF (by rw [← e]; exact hf)
  have hc3 := hc2.kp hk3 hF3
  have c1 := hc3.head (i := 1) (v := .int .i64 (now : Nat)) rfl
  have htF : F t.blk := HH.out.1.chn.inF _ (slotOf_lt now t.due) t (by rw [HH.out.2.2.1]; simp)
  have hn3 : Nd w3 t p2 q2 := by
    unfold Nd
    rw [hk3.block _ (Array.getElem?_eq_some_iff.1 hn2).1 (fun e => hF3 _ htF e)]
    exact hn2
  have u2 := hn3.facts.2.2.1
  rw [HG.out.1, HG.out.2] at u2
  have HE := Lib.hid (cancel_pure (w3 := w3) HH.out.1 HH.out.2.1 HH.out.2.2.1 (by rw [HSS.out]; exact hc3) hm3)
  have HK := Lib.hid ((hk2'.mono fun q _ e => .inl e : Kp (fun q => F q ∨ q = mb) w w2).trans' (hk3.mono fun q _ e => .inr e))
  have HR := Lib.hid hr3
  clear hc2 hk2 hz2 hn2 hk2' hr3 hm3 hk3 hz3 hF3 hc3 htF hn3 HD1
  go_wp2_with (at_delete; refine wpList_rund rfl _ _ 68 2 rfl (.map (some mb)) (.int .i64 id) rfl rfl w3 HR.out ?_)
  go_quiet (fail)
  go_wp2_with fail
  go_ret2
  refine ⟨?_, _, HE.out.drewN _, kp_drewN HK.out _⟩
  rw [HX.out]
  first | rfl | (rw [hsub])
end
end Go.Proofs.Ytmekhijmghddiaa
