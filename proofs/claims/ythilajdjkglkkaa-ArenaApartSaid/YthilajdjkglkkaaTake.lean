/- What the arena's method take does. -/
import Derived.Test.YthilajdjkglkkaaCut
namespace Go.Proofs.Ythilajdjkglkkaa
open Go.RowKit

theorem Try.info31 : (Try.prog.info? 31).map (fun i => (i.zero, i.size, i.bytes)) = some (some (.int .u64 0), 1, 8) := by kernel_rfl
theorem Try.info4 : (Try.prog.info? 4).map (fun i => (i.zero, i.size, i.bytes)) = some (some (.bool false), 1, 1) := by kernel_rfl

theorem row_form {w : World} {e : TypeId} {v : Value} {n : Nat} {xs : List Value} (h : w.ownsRow 0 e 1 v n xs) : ∃ po cap, v = .slice po n cap := by
  rcases h.2 with ⟨h, h0⟩ | ⟨g, cap, _, h, _⟩
  · subst h0; exact ⟨none, 0, by assumption⟩
  · exact ⟨_, _, h⟩

set_option maxHeartbeats 1000000 in
theorem take_list {w : World} {F : Nat → Prop} {b : Nat} {A : Ar} (c : Nat) (hc : c < 21) (h : Rep w F b A) (l : List Nat) (x : Nat) (hl : A.free c = l ++ [x]) :
    Calls Try.prog 26 #[.pointer (some ⟨b, 0, none⟩), .int .i64 c] w fun e w' => e = .returned (.tuple #[.int .i64 x, .bool true]) ∧
      Rep w' F b (WithFree A c l) ∧ Kp F w w' ∧ w'.heap.size = w.heap.size := by
  have Hl := Lib.hid hl
  clear hl
  go_enter Try.func26, Try.ntmps26
  go_wp2_with (go_at_call 45; refine (first_rep_some _ hc h l x Hl.out).mono ?_; rintro e w1 ⟨rfl, hr1, hk1, hz1⟩; have Hz := Lib.hid hz1; clear hz1)
  go_ret2
  exact ⟨rfl, hr1, hk1, Hz.out⟩

theorem keepd {w1 w2 : World} {row : Option Nat} {b : Nat} (hg : w1.grownBy w2 row) (hb : b < w1.heap.size) (hne : some b ≠ row) (j : Nat) :
    w2.cell? ⟨b, j, none⟩ = w1.cell? ⟨b, j, none⟩ ∧ w2.frozen? ⟨b, j, none⟩ = w1.frozen? ⟨b, j, none⟩ :=
  ⟨hg.cell_far ⟨b, j, none⟩ hb hne, hg.frozen_far ⟨b, j, none⟩ hb hne⟩

/-- the top goes up by m places -/
def Ar.up (A : Ar) (m : Nat) : Ar := { A with places := A.places ++ List.replicate m 0, taken := A.taken ++ List.replicate m false }

theorem Rep.drew {w : World} {F : Nat → Prop} {b : Nat} {A : Ar} (h : Rep w F b A) : Rep w.drew F b A := by
  obtain ⟨sl, h⟩ := h
  exact ⟨sl, h.heap rfl⟩
def Ar.upP (A : Ar) (m : Nat) : Ar := { A with places := A.places ++ List.replicate m 0 }
theorem upd_places (A : Ar) (m : Nat) : upd A.rows 0 (A.places.map (Value.int .u64) ++ List.replicate m (Value.int .u64 0)) = (A.upP m).rows := by
  funext k
  unfold upd Ar.rows Ar.upP
  by_cases h0 : k = 0
  · rw [if_pos h0, if_pos h0]; simp
  · rw [if_neg h0, if_neg h0, if_neg h0]
theorem upd_taken (A : Ar) (m : Nat) : upd (A.upP m).rows 1 (A.taken.map Value.bool ++ List.replicate m (Value.bool false)) = (A.up m).rows := by
  funext k
  unfold upd Ar.rows Ar.upP Ar.up
  by_cases h0 : k = 1
  · subst h0
    rw [if_pos rfl, if_neg (by omega), if_pos rfl]; simp
  · rw [if_neg h0, if_neg h0, if_neg h0]

theorem up_places {A : Ar} {F : Nat → Prop} {w w2 : World} {b m g cap : Nat} {sl : Nat → Value} {v : Value}
    (hR : Reps ety w F b A.hd 23 A.rows sl) (hv : sl 0 = v)
    (hown : w2.ownsRow 0 31 1 (.slice (some ⟨g, 0, none⟩) (A.places.length + m) cap) (A.places.length + m) (A.places.map (Value.int .u64) ++ List.replicate m (Value.int .u64 0)))
    (hgrow : w.grownBy w2 v.ownBlock) (hat : v.ownBlock = some g ∨ g = w.heap.size) (hlt : g < w2.heap.size) :
    Rep (w2.setCell ⟨b, 3, none⟩ (.slice (some ⟨g, 0, none⟩) (A.places.length + m) cap)) (Ext F w (w2.setCell ⟨b, 3, none⟩ (.slice (some ⟨g, 0, none⟩) (A.places.length + m) cap))) b (A.upP m) ∧
      Kp F w (w2.setCell ⟨b, 3, none⟩ (.slice (some ⟨g, 0, none⟩) (A.places.length + m) cap)) := by
  subst hv
  have hl : (A.places.map (Value.int .u64) ++ List.replicate m (Value.int .u64 0)).length = A.places.length + m := by simp
  have hp := hR.grow 0 (by omega) (xs := A.places.map (Value.int .u64) ++ List.replicate m (Value.int .u64 0)) (by rw [hl]; exact hown) hgrow hat hlt
  rw [hl, upd_places] at hp
  refine ⟨⟨_, hp.1.more ?_ ?_⟩, hp.2⟩
  · intro q hq
    rcases hq with hq | hq
    · exact .inl hq
    · exact .inr ⟨hq.1, by have := hq.2; simpa [World.setCell] using this⟩
  · intro q hq
    rcases hq with hq | hq
    · exact hp.1.lt q (.inl hq)
    · exact hq.2
theorem up_taken {A : Ar} {F : Nat → Prop} {w w2 : World} {b m g cap : Nat} {sl : Nat → Value} {v : Value}
    (hR : Reps ety w F b (A.upP m).hd 23 (A.upP m).rows sl) (hv : sl 1 = v)
    (hown : w2.ownsRow 0 4 1 (.slice (some ⟨g, 0, none⟩) (A.taken.length + m) cap) (A.taken.length + m) (A.taken.map Value.bool ++ List.replicate m (Value.bool false)))
    (hgrow : w.grownBy w2 v.ownBlock) (hat : v.ownBlock = some g ∨ g = w.heap.size) (hlt : g < w2.heap.size) :
    Rep (w2.setCell ⟨b, 4, none⟩ (.slice (some ⟨g, 0, none⟩) (A.taken.length + m) cap)) (Ext F w (w2.setCell ⟨b, 4, none⟩ (.slice (some ⟨g, 0, none⟩) (A.taken.length + m) cap))) b (A.up m) ∧
      Kp F w (w2.setCell ⟨b, 4, none⟩ (.slice (some ⟨g, 0, none⟩) (A.taken.length + m) cap)) := by
  subst hv
  have hl : (A.taken.map Value.bool ++ List.replicate m (Value.bool false)).length = A.taken.length + m := by simp
  have hp := hR.grow 1 (by omega) (xs := A.taken.map Value.bool ++ List.replicate m (Value.bool false)) (by rw [hl]; exact hown) hgrow hat hlt
  rw [hl, upd_taken] at hp
  refine ⟨⟨_, hp.1.more ?_ ?_⟩, hp.2⟩
  · intro q hq
    rcases hq with hq | hq
    · exact .inl hq
    · exact .inr ⟨hq.1, by have := hq.2; simpa [World.setCell] using this⟩
  · intro q hq
    rcases hq with hq | hq
    · exact hp.1.lt q (.inl hq)
    · exact hq.2

set_option maxHeartbeats 1000000 in
theorem take_top {w : World} {F : Nat → Prop} {b : Nat} {A : Ar} (c : Nat) (hc : c < 21) (h : Rep w F b A) (hl : A.free c = []) (hs : A.size ≤ 1048576) (hroom : A.places.length + 2 ^ c ≤ A.size) (hte : A.taken.length ≤ 1048576) :
    Calls Try.prog 26 #[.pointer (some ⟨b, 0, none⟩), .int .i64 c] w (Ends F w b (.tuple #[.int .i64 A.places.length, .bool true]) (A.up (2 ^ c))) := by
  have Hl := Lib.hid hl
  clear hl
  have hm0 : 0 < 2 ^ c := Nat.pow_pos (by omega)
  have hmI : ((2 ^ c : Nat) : Int) = 2 ^ c := by simp
  obtain ⟨m, hm⟩ : ∃ m : Nat, 2 ^ c = m := ⟨_, rfl⟩
  rw [hm] at hroom hm0 hmI ⊢
  have hw1 : IntKind.i64.wrap (2 ^ c) = (m : Int) := by rw [← hmI]; exact IntWalk.i64_in _ (by omega)
  clear hm hmI
  have h' := h
  obtain ⟨sl, hR⟩ := h
  have ho := hR.own 0 (by omega)
  have hce := hR.cell 0 (by omega)
  have hsz := hR.head 0 _ rfl
  have hf := hR.fz 3
  have hbs := hR.lt b hR.inF
  have hne : some b ≠ (sl 0).ownBlock := fun e => (hR.inn 0 b (by omega) e.symm).2 rfl
  obtain ⟨po, cap, hv⟩ := row_form ho
  rw [show A.hd.length + 0 = 3 from rfl, hv] at hce
  rw [show A.rows 0 = A.places.map (Value.int .u64) from rfl, List.length_map] at hv ho hce
  rw [hv] at ho hne
  have Hv := Lib.hid hv
  clear hv
  go_enter Try.func26, Try.ntmps26
  go_wp2_with (go_at_call 45; refine (first_rep_none _ hc h' Hl.out).mono ?_; rintro e w1 ⟨rfl, rfl⟩)
  have hw2 : IntKind.i64.wrap ((A.places.length : Int) + m) = (A.places.length : Int) + m := IntWalk.i64_in _ (by omega)
  have hle : ((A.places.length : Int) + m ≤ A.size) := by omega
  have hcap1 : A.places.length + m ≤ maxLen := by unfold maxLen; omega
  have hcap2 : (A.places.length + m) * 8 ≤ 140737488355328 := by omega
  obtain ⟨i0, hi, hz0, hz1, hz2⟩ := info_parts Try.info31
  have Hs := Lib.hid (And.intro hcap1 (And.intro hcap2 hte))
  clear hcap1 hcap2
  go_region
  all_goals go_wp2_with fail
  have hoA : w.drew.drew.ownsRow 0 31 1 (.slice po A.places.length cap) A.places.length (A.places.map (Value.int .u64)) := ownsRow_of_heap (w := w) rfl ho
  go_region_law (((refine step_append_make _ (by rfl) _ _ 42 3 (by rfl) 0 31 i0 (.int .u64 0) .i64 .i64 8 Try.underlying42 Try.underlying3 hi hz0 hz1 hz2 (by rfl) (by rfl) (.slice po A.places.length cap) A.places.length _ (by rfl) hoA m (by rfl) hm0 Hs.out.1 Hs.out.2.1 (by omega) ?_); intro g1 cap1 w2 hown hgrow hat hlt2; obtain ⟨k0, k1⟩ := keepd hgrow hbs hne 3; have k2 := k0.trans hce; have k3 := k1.trans hf; clear k0 k1))
  have hg1 : w.grownBy w2 (Value.slice po A.places.length cap).ownBlock := ⟨hgrow.os, hgrow.tape, hgrow.output, hgrow.size, hgrow.block⟩
  obtain ⟨⟨sl2, hR2⟩, hK2⟩ := up_places hR Hv.out hown hg1 hat hlt2
  clear hown hgrow hat k2 k3 hg1 hoA hR hlt2 ho hce hne hbs hf hsz Hv sl
  have hf2 := hR2.fz 4
  have ho2 := hR2.own 1 (by omega)
  have hce2 := hR2.cell 1 (by omega)
  have hbs2 := hR2.lt b hR2.inF
  have hne2 : some b ≠ (sl2 1).ownBlock := fun e => (hR2.inn 1 b (by omega) e.symm).2 rfl
  generalize w2.setCell ⟨b, 3, none⟩ (.slice (some ⟨g1, 0, none⟩) (A.places.length + m) cap1) = w3 at *
  obtain ⟨po2, cap2, hv2⟩ := row_form ho2
  rw [show (A.upP m).hd.length + 1 = 4 from rfl, hv2] at hce2
  rw [show (A.upP m).rows 1 = A.taken.map Value.bool from rfl, List.length_map] at hv2 ho2 hce2
  rw [hv2] at ho2 hne2
  have Hv2 := Lib.hid hv2
  clear hv2
  go_wp2_with fail
  have hcap1 : A.taken.length + m ≤ maxLen := by unfold maxLen; omega
  have hcap2 : (A.taken.length + m) * 1 ≤ 140737488355328 := by omega
  obtain ⟨i1, hi', hz0', hz1', hz2'⟩ := info_parts Try.info4
  have Hs2 := Lib.hid (And.intro hcap1 hcap2)
  clear hcap1 hcap2
  have hoB : w3.drew.ownsRow 0 4 1 (.slice po2 A.taken.length cap2) A.taken.length (A.taken.map Value.bool) := ownsRow_of_heap (w := w3) rfl ho2
  go_region_law (((refine step_append_make _ (by rfl) _ _ 63 3 (by rfl) 0 4 i1 (.bool false) .i64 .i64 1 Try.underlying63 Try.underlying3 hi' hz0' hz1' hz2' (by rfl) (by rfl) (.slice po2 A.taken.length cap2) A.taken.length _ (by rfl) hoB m (by rfl) hm0 Hs2.out.1 Hs2.out.2 (by omega) ?_); intro g2 cap3 w4 hown hgrow hat hlt2; obtain ⟨k0, k1⟩ := keepd hgrow hbs2 hne2 4; have k2 := k0.trans hce2; have k3 := k1.trans hf2; clear k0 k1))
  have hg2 : w3.grownBy w4 (Value.slice po2 A.taken.length cap2).ownBlock := ⟨hgrow.os, hgrow.tape, hgrow.output, hgrow.size, hgrow.block⟩
  have hup := up_taken hR2 Hv2.out hown hg2 hat hlt2
  clear hown hgrow hat k2 k3 hg2 hoB hR2 hlt2 ho2 hce2 hne2 hbs2 hf2 Hv2 sl2
  generalize w4.setCell ⟨b, 4, none⟩ (.slice (some ⟨g2, 0, none⟩) (A.taken.length + m) cap3) = w5 at *
  go_wp2_with fail
  go_ret2
  have h0 := hK2.size
  have h1 := hup.2.size
  refine ⟨rfl, hup.1.more' ?_ ?_, hK2.trans hup.2⟩
  · intro q hq
    rcases hq with (hq | hq) | hq
    · exact .inl hq
    · exact .inr ⟨hq.1, by omega⟩
    · exact .inr ⟨by omega, hq.2⟩
  · intro q hq
    rcases hq with hq | hq
    · exact hup.1.ltF q (.inl (.inl hq))
    · exact hq.2

set_option maxHeartbeats 1000000 in
theorem take_cut {w : World} {F : Nat → Prop} {b : Nat} {A : Ar} (c d : Nat) (hc : 1 ≤ c) (hcd : c < d) (hd : d < 21) (h : Rep w F b A) (hl : A.free c = []) (hs : A.size ≤ 1048576) (ht : A.places.length ≤ 1048576) (hroom : A.size < A.places.length + 2 ^ c)
    (l : List Nat) (x : Nat) (hx : x ≤ 1048576) (hld : A.free d = l ++ [x]) (hno : ∀ k, c < k → k < d → A.free k = []) (hsz : ∀ k, (A.free k).length ≤ 1048576) :
    Calls Try.prog 26 #[.pointer (some ⟨b, 0, none⟩), .int .i64 c] w (Ends F w b (.tuple #[.int .i64 x, .bool true]) (CutA (WithFree A d l) c d x)) := by
  have Hl := Lib.hid (And.intro hl (And.intro hld (And.intro hno hsz)))
  clear hl hld hno hsz
  have hb1 := pow_bd c (by omega)
  have hmI : ((2 ^ c : Nat) : Int) = 2 ^ c := by simp
  obtain ⟨m, hm⟩ : ∃ m : Nat, 2 ^ c = m := ⟨_, rfl⟩
  rw [hm] at hroom hmI
  rw [← hmI] at hb1
  have hw1 : IntKind.i64.wrap (2 ^ c) = (m : Int) := by rw [← hmI]; exact IntWalk.i64_in _ (by omega)
  clear hm hmI
  have h' := h
  obtain ⟨sl, hR⟩ := h
  have ho := hR.own 0 (by omega)
  have hce := hR.cell 0 (by omega)
  have hsz := hR.head 0 _ rfl
  obtain ⟨po, cap, hv⟩ := row_form ho
  rw [show A.hd.length + 0 = 3 from rfl, hv] at hce
  rw [show A.rows 0 = A.places.map (Value.int .u64) from rfl, List.length_map] at hce
  have hw2 : IntKind.i64.wrap ((A.places.length : Int) + m) = (A.places.length : Int) + m := IntWalk.i64_in _ (by omega)
  have hle : ¬ ((A.places.length : Int) + m ≤ A.size) := by omega
  clear hv ho hR
  go_enter Try.func26, Try.ntmps26
  go_wp2_with (go_at_call 45; refine (first_rep_none _ (by omega) h' Hl.out.1).mono ?_; rintro e w1 ⟨rfl, rfl⟩)
  go_region
  all_goals go_wp2_with (go_at_call 46; refine (cut_some (w := w.drew) (F := F) c d hc hcd hd h'.drew l x hx Hl.out.2.1 Hl.out.2.2.1 Hl.out.2.2.2).mono ?_; rintro e w1 ⟨rfl, hr1, hk1⟩)
  all_goals go_ret2
  all_goals exact ⟨rfl, hr1, ⟨hk1.os, hk1.tape, hk1.output, hk1.size, hk1.block⟩⟩

set_option maxHeartbeats 1000000 in
theorem take_none {w : World} {F : Nat → Prop} {b : Nat} {A : Ar} (c : Nat) (hc : 1 ≤ c) (hc2 : c < 21) (h : Rep w F b A) (hl : A.free c = []) (hs : A.size ≤ 1048576) (ht : A.places.length ≤ 1048576) (hroom : A.size < A.places.length + 2 ^ c)
    (hno : ∀ k, c < k → k < 21 → A.free k = []) :
    Calls Try.prog 26 #[.pointer (some ⟨b, 0, none⟩), .int .i64 c] w fun e w' => e = .returned (.tuple #[.int .i64 0, .bool false]) ∧ w' = w.drew := by
  have Hl := Lib.hid (And.intro hl hno)
  clear hl hno
  have hb1 := pow_bd c (by omega)
  have hmI : ((2 ^ c : Nat) : Int) = 2 ^ c := by simp
  obtain ⟨m, hm⟩ : ∃ m : Nat, 2 ^ c = m := ⟨_, rfl⟩
  rw [hm] at hroom hmI
  rw [← hmI] at hb1
  have hw1 : IntKind.i64.wrap (2 ^ c) = (m : Int) := by rw [← hmI]; exact IntWalk.i64_in _ (by omega)
  clear hm hmI
  have h' := h
  obtain ⟨sl, hR⟩ := h
  have ho := hR.own 0 (by omega)
  have hce := hR.cell 0 (by omega)
  have hsz := hR.head 0 _ rfl
  obtain ⟨po, cap, hv⟩ := row_form ho
  rw [show A.hd.length + 0 = 3 from rfl, hv] at hce
  rw [show A.rows 0 = A.places.map (Value.int .u64) from rfl, List.length_map] at hce
  have hw2 : IntKind.i64.wrap ((A.places.length : Int) + m) = (A.places.length : Int) + m := IntWalk.i64_in _ (by omega)
  have hle : ¬ ((A.places.length : Int) + m ≤ A.size) := by omega
  clear hv ho hR
  go_enter Try.func26, Try.ntmps26
  go_wp2_with (go_at_call 45; refine (first_rep_none _ (by omega) h' Hl.out.1).mono ?_; rintro e w1 ⟨rfl, rfl⟩)
  go_region
  all_goals go_wp2_with (go_at_call 46; refine (cut_none (w := w.drew) (F := F) c hc hc2 h'.drew Hl.out.2).mono ?_; rintro e w1 ⟨rfl, rfl⟩)
  all_goals go_ret2
  all_goals exact ⟨rfl, rfl⟩
end Go.Proofs.Ythilajdjkglkkaa
