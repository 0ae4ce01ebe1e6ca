/- A literal of tuples in one another, more than there may be; a module of it. -/
import Derived.Test.YtaeoohjgdkablaaDoorM33
import Derived.Test.YtaeoohjgdkablaaDoorM41
/- A literal of tuples in one another, more than there may be; a module of it. -/
namespace Go.Proofs.YtaeoohjgdkablaaDoor
open Go.RowKit

theorem dT_wf : ∀ j, wfT (dT j)
  | 0 => by
    rw [dT, wfT]
    exact ⟨.inr (.inr (.inr (.inl ⟨rfl, rfl, rfl, rfl, rfl⟩))), trivial, trivial, by simp⟩
  | j + 1 => by
    rw [dT, wfT]
    exact ⟨.inr (.inr (.inl ⟨.inl rfl, by simp, rfl, rfl, rfl⟩)), ⟨dT_wf j, trivial⟩, trivial, by simp⟩
theorem dT_size : ∀ j, tsize (dT j) = j + 1
  | 0 => by simp [dT, tsize, tsizes]
  | j + 1 => by simp [dT, tsize, tsizes, dT_size j]; omega
theorem dT_tok : ∀ j d, j < d → tok d (dT j)
  | 0, d + 1, _ => ⟨dT_fits 0, by simp, by simp⟩
  | j + 1, d + 1, h => ⟨dT_fits (j + 1), fun t ht => by
      obtain rfl : t = dT j := by simpa using ht
      exact dT_tok j d (by omega), by simp⟩
  | _, 0, h => by omega

set_option maxRecDepth 100000 in
set_option maxHeartbeats 4000000 in
theorem literal_d {w : World} {R : Nat} {v : Value} {l y : List UInt8} {p j : Nat} (h : RAt w R v l p) (hl : l.length ≤ 1000000000) (hj1 : 200 ≤ j) (hj2 : j ≤ 60000) (hx : l.drop p = encT (dT j) ++ y) :
    Calls Tryd.prog 41 #[.pointer (some ⟨R, 0, none⟩)] w fun e w' => ∃ c, e = .panicked c ∧ ∃ v', c = [{ v := v', recovered := false }] ∧ ChainB w.heap.size w' v' [Lk.fault readS p, Lk.fault termS 200, Lk.kind 2] ∧ Kp (fun q => q = R) w w' := by
  have hRl := (Array.getElem?_eq_some_iff.1 h.cells).1
  obtain ⟨w1, hw1⟩ : ∃ w1, w.alloc (.cells #[.int .i64 0, .int .i64 0, .string ⟨#[]⟩, .slice none 0 0, .slice none 0 0, .slice none 0 0] 25) = w1 := ⟨_, rfl⟩
  have hk1 : Kp (fun _ => False) w w1 := by rw [← hw1]; exact (Kp.refl _ w).alloc _
  have hbx : w1.heap[w.heap.size]? = some (.cells #[.int .i64 0, .int .i64 0, .string ⟨#[]⟩, .slice none 0 0, .slice none 0 0, .slice none 0 0] 25 (0, 0)) := by rw [← hw1]; exact heap_alloc_new w _
  have h1 := h.kp hk1
  have c1 : w1.cell? ⟨R, 1, none⟩ = some (.int .i64 p) := by rw [cell_of_row w1 R 1 _ _ _ h1.cells]; rfl
  have H1 := Lib.hid (And.intro h1 (And.intro hk1 (And.intro hbx hRl)))
  have HX := Lib.hid (And.intro hx (And.intro hj1 hj2))
  clear h1 hk1 hbx hRl h hx hj1 hj2
  go_enter Tryd.func41, Tryd.ntmps41
  go_wp2_with fail
  try rw [hw1]
  clear hw1
  refine (term_any H1.out.1 hl).mono ?_
  rintro e w2 (⟨T, B, hh, k, n, s, a1, l1, d1, a2, l2, d2, a3, l3, d3, q, rfl, hT, hr2, hpq, hruns, hmode, hk2⟩ | ⟨hf, hno⟩)
  · obtain ⟨rfl, hqy⟩ := (hruns (dT j) y).1 ⟨dT_wf j, HX.out.1⟩
    obtain rfl : B = dT j := by
      rcases hmode with e | ⟨_, e⟩
      · exact e
      · rw [dT_size] at e
        have := HX.out.2.2
        omega
    obtain ⟨w3, hw3⟩ : ∃ w3, w2.alloc (.cells #[.int .i64 k, .int .i64 n, .string s, .slice a1 l1 d1, .slice a2 l2 d2, .slice a3 l3 d3] 25) = w3 := ⟨_, rfl⟩
    have hk3 : Kp (fun _ => False) w2 w3 := by rw [← hw3]; exact (Kp.refl _ w2).alloc _
    have hb3 : w3.heap[w2.heap.size]? = some (.cells #[.int .i64 k, .int .i64 n, .string s, .slice a1 l1 d1, .slice a2 l2 d2, .slice a3 l3 d3] 25 (0, 0)) := by rw [← hw3]; exact heap_alloc_new w2 _
    have hT3 := hT.kp hk3 (fun _ _ e => e)
    have hsz := tsz_eq hT3
    have y0 : w3.cell? ⟨w2.heap.size, 0, none⟩ = some (.int .i64 k) := by rw [cell_of_row w3 _ 0 _ _ _ hb3]; rfl
    have y1 : w3.cell? ⟨w2.heap.size, 1, none⟩ = some (.int .i64 n) := by rw [cell_of_row w3 _ 1 _ _ _ hb3]; rfl
    have y2 : w3.cell? ⟨w2.heap.size, 2, none⟩ = some (.string s) := by rw [cell_of_row w3 _ 2 _ _ _ hb3]; rfl
    have y3 : w3.cell? ⟨w2.heap.size, 3, none⟩ = some (.slice a1 l1 d1) := by rw [cell_of_row w3 _ 3 _ _ _ hb3]; rfl
    have y4 : w3.cell? ⟨w2.heap.size, 4, none⟩ = some (.slice a2 l2 d2) := by rw [cell_of_row w3 _ 4 _ _ _ hb3]; rfl
    have y5 : w3.cell? ⟨w2.heap.size, 5, none⟩ = some (.slice a3 l3 d3) := by rw [cell_of_row w3 _ 5 _ _ _ hb3]; rfl
    have H2 := Lib.hid (And.intro hT3 (And.intro (hr2.kp hk3) (And.intro hpq (And.intro hruns (And.intro hmode (And.intro (hk2.trans' (hk3.mono fun _ _ e => e.elim)) (And.intro hb3 (And.intro hsz hk2.size))))))))
    clear hT hr2 hpq hruns hmode hk2 hk3 hb3 hT3 hsz
    go_wp2_with fail
    try rw [hw3]
    clear hw3
    refine (tright_d H2.out.1 HX.out.2.1).mono ?_
    rintro e w5 ⟨⟨v5, rfl, hch⟩, hk5⟩
    obtain ⟨gv, rfl⟩ := hch.out.form
    have H5 := Lib.hid (And.intro hch hk5)
    clear hch hk5 y0 y1 y2 y3 y4 y5
    go_wp2_with (go_at_call 19; refine (at_any _ _ _ _ _).mono ?_; rintro e w' ⟨rfl, rfl⟩)
    refine bodyPost_panic rfl ⟨_, rfl, _, rfl, ChainB.cons readS p (ChainB.kp ((Kp.refl (fun _ => False) w5).alloc _) (fun _ e => e.elim) (H5.out.1.le ?_)) ?_ (heap_alloc_new w5 _), ?_⟩
    · have h1 := H1.out.2.1.size
      have h2 := H2.out.2.2.2.2.2.1.size
      omega
    · have h1 := H1.out.2.1.size
      have h2 := H2.out.2.2.2.2.2.1.size
      have h3 := H5.out.2.size
      omega
    · exact (H1.out.2.1.mono fun _ _ e => e.elim : Kp (fun q => q = R) w w1).trans' (H2.out.2.2.2.2.2.1.trans' ((H5.out.2.mono fun _ _ e => e.elim).trans' ((Kp.refl _ w5).alloc _)))
  · exact absurd HX.out.1 (hno (dT j) y (dT_wf j))

def dM (j : Nat) : Md := ⟨⟨#[]⟩, [dT j], []⟩
theorem lit_deep_or {w : World} {R : Nat} {v : Value} {l y : List UInt8} {p j : Nat} (h : RAt w R v l p) (hl : l.length ≤ 1000000000) (hj1 : 200 ≤ j) (hj2 : j ≤ 60000) (hx : l.drop p = encT (dT j) ++ y) {G : Ending → World → Prop} (hG : ∀ c w', (∃ v', c = [{ v := v', recovered := false }] ∧ ChainB w.heap.size w' v' [Lk.fault readS p, Lk.fault termS 200, Lk.kind 2] ∧ Kp (fun q => q = R) w w') → G (.panicked c) w') :
    Calls Tryd.prog 41 #[.pointer (some ⟨R, 0, none⟩)] w fun e w' => (∃ x, e = .returned x ∧ False) ∨ (∃ c, e = .panicked c ∧ G (.panicked c) w') :=
  (literal_d h hl hj1 hj2 hx).mono fun _ _ ⟨c, e, hc⟩ => .inr ⟨c, e, hG _ _ hc⟩
def DeepPost (w : World) (R : Nat) (e : Ending) (w' : World) : Prop := ∃ v', e = .panicked [{ v := v', recovered := false }] ∧ ChainB w.heap.size w' v' [Lk.fault readS 6, Lk.fault termS 200, Lk.kind 2] ∧ Kp (fun q => q = R) w w'

set_option maxRecDepth 100000 in
set_option maxHeartbeats 8000000 in
theorem module_d {w : World} {R jj0 : Nat} {v : Value} (h : RAt w R v (encM (dM jj0)) 0) (hl : (encM (dM jj0)).length ≤ 1000000000) (hj1 : 200 ≤ jj0) (hj2 : jj0 ≤ 60000) :
    Calls Tryd.prog 27 #[.pointer (some ⟨R, 0, none⟩)] w (DeepPost w R) := by
  obtain ⟨m, hmj⟩ : ∃ m, dM jj0 = m := ⟨_, rfl⟩
  rw [hmj] at h hl
  have hn : m.name.size ≤ 1099511627776 := by rw [← hmj]; exact (by decide : (⟨#[]⟩ : ByteArray).size ≤ 1099511627776)
  have hRl := (Array.getElem?_eq_some_iff.1 h.cells).1
  obtain ⟨w1, hw1⟩ : ∃ w1, w.alloc (.cells #[.string ⟨#[]⟩, .slice none 0 0, .slice none 0 0] 33) = w1 := ⟨_, rfl⟩
  have hk1 : Kp (fun _ => False) w w1 := by rw [← hw1]; exact (Kp.refl _ w).alloc _
  have hbx : w1.heap[w.heap.size]? = some (.cells #[.string ⟨#[]⟩, .slice none 0 0, .slice none 0 0] 33 (0, 0)) := by rw [← hw1]; exact heap_alloc_new w _
  have h1 := h.kp hk1
  have hz0 : w.heap.size + 1 = w1.heap.size := by rw [← hw1]; simp
  have H1 := Lib.hid (And.intro hk1 (And.intro hbx hRl))
  have Hz := Lib.hid hz0
  clear hz0
  have HM := Lib.hid (And.intro hmj (And.intro (And.intro hj1 hj2) (And.intro hn hl)))
  clear hk1 hbx hRl h hmj hj1 hj2 hn hl
  go_enter Tryd.func27, Tryd.ntmps27
  go_wp2_with fail
  try rw [hw1]
  clear hw1
  go_loopg [3, 5] 4 (fun gk xx jj wr => ∃ (j : Nat), j ≤ 4 ∧ gk = 4 - j ∧ jj = .int .i64 j ∧ RAt wr R v (encM m) j ∧ Kp (fun q => q = R) w1 wr)
  case atStart => exact ⟨0, by omega, rfl, rfl, h1, Kp.refl _ _⟩
  case round =>
    clear h1
    obtain ⟨j, hj, rfl, rfl, hr, hk⟩ := hrel
    by_cases hlt : j < 4
    · have hj4 : j = 0 ∨ j = 1 ∨ j = 2 ∨ j = 3 := by omega
      clear hj hlt
      rcases hj4 with rfl | rfl | rfl | rfl
      · have H0 := Lib.hid (show ∀ (wx : World), Kp (fun _ => False) wr wx → Calls Tryd.prog 37 #[.pointer (some ⟨R, 0, none⟩)] wx fun e w' => e = .returned (.int .u8 84) ∧ RAt w' R v (encM m) 1 ∧ Kp (fun q => q = R) wx w' from fun wx k => next_ok (w := wx) (c := 84) (hr.kp k) rfl)
        have HK := Lib.hid hk
        clear hr hk
        go_wp2_with fail
        go_region_law (refine step_fn (by rfl) 37 #[.tmp 8] #[88] (by rfl) cf_next #[.pointer (some ⟨R, 0, none⟩)] (by first | (simp [Act.eval]; done) | simp [Act.eval, Act.put]) ?_; refine (H0.out _ (Kp.refl _ _).drew).mono ?_; rintro e w2 ⟨rfl, hr2, hk2⟩; refine ⟨_, rfl, ?_⟩; have H2 := Lib.hid (And.intro hr2 (HK.out.trans' (Kp.trans' (F := fun q => q = R) ((Kp.refl _ wr).drew) hk2))); clear hr2 hk2)
        all_goals
          go_wp2_with fail
          go_roundg 3
          case measure => omega
          case rel => exact ⟨1, by omega, by omega, by go_num, H2.out.1, H2.out.2⟩
      · have H0 := Lib.hid (show ∀ (wx : World), Kp (fun _ => False) wr wx → Calls Tryd.prog 37 #[.pointer (some ⟨R, 0, none⟩)] wx fun e w' => e = .returned (.int .u8 82) ∧ RAt w' R v (encM m) 2 ∧ Kp (fun q => q = R) wx w' from fun wx k => next_ok (w := wx) (c := 82) (hr.kp k) rfl)
        have HK := Lib.hid hk
        clear hr hk
        go_wp2_with fail
        go_region_law (refine step_fn (by rfl) 37 #[.tmp 8] #[88] (by rfl) cf_next #[.pointer (some ⟨R, 0, none⟩)] (by first | (simp [Act.eval]; done) | simp [Act.eval, Act.put]) ?_; refine (H0.out _ (Kp.refl _ _).drew).mono ?_; rintro e w2 ⟨rfl, hr2, hk2⟩; refine ⟨_, rfl, ?_⟩; have H2 := Lib.hid (And.intro hr2 (HK.out.trans' (Kp.trans' (F := fun q => q = R) ((Kp.refl _ wr).drew) hk2))); clear hr2 hk2)
        all_goals
          go_wp2_with fail
          go_roundg 2
          case measure => omega
          case rel => exact ⟨2, by omega, by omega, by go_num, H2.out.1, H2.out.2⟩
      · have H0 := Lib.hid (show ∀ (wx : World), Kp (fun _ => False) wr wx → Calls Tryd.prog 37 #[.pointer (some ⟨R, 0, none⟩)] wx fun e w' => e = .returned (.int .u8 80) ∧ RAt w' R v (encM m) 3 ∧ Kp (fun q => q = R) wx w' from fun wx k => next_ok (w := wx) (c := 80) (hr.kp k) rfl)
        have HK := Lib.hid hk
        clear hr hk
        go_wp2_with fail
        go_region_law (refine step_fn (by rfl) 37 #[.tmp 8] #[88] (by rfl) cf_next #[.pointer (some ⟨R, 0, none⟩)] (by first | (simp [Act.eval]; done) | simp [Act.eval, Act.put]) ?_; refine (H0.out _ (Kp.refl _ _).drew).mono ?_; rintro e w2 ⟨rfl, hr2, hk2⟩; refine ⟨_, rfl, ?_⟩; have H2 := Lib.hid (And.intro hr2 (HK.out.trans' (Kp.trans' (F := fun q => q = R) ((Kp.refl _ wr).drew) hk2))); clear hr2 hk2)
        all_goals
          go_wp2_with fail
          go_roundg 1
          case measure => omega
          case rel => exact ⟨3, by omega, by omega, by go_num, H2.out.1, H2.out.2⟩
      · have H0 := Lib.hid (show ∀ (wx : World), Kp (fun _ => False) wr wx → Calls Tryd.prog 37 #[.pointer (some ⟨R, 0, none⟩)] wx fun e w' => e = .returned (.int .u8 69) ∧ RAt w' R v (encM m) 4 ∧ Kp (fun q => q = R) wx w' from fun wx k => next_ok (w := wx) (c := 69) (hr.kp k) rfl)
        have HK := Lib.hid hk
        clear hr hk
        go_wp2_with fail
        go_region_law (refine step_fn (by rfl) 37 #[.tmp 8] #[88] (by rfl) cf_next #[.pointer (some ⟨R, 0, none⟩)] (by first | (simp [Act.eval]; done) | simp [Act.eval, Act.put]) ?_; refine (H0.out _ (Kp.refl _ _).drew).mono ?_; rintro e w2 ⟨rfl, hr2, hk2⟩; refine ⟨_, rfl, ?_⟩; have H2 := Lib.hid (And.intro hr2 (HK.out.trans' (Kp.trans' (F := fun q => q = R) ((Kp.refl _ wr).drew) hk2))); clear hr2 hk2)
        all_goals
          go_wp2_with fail
          go_roundg 0
          case measure => omega
          case rel => exact ⟨4, by omega, by omega, by go_num, H2.out.1, H2.out.2⟩
    · obtain rfl : j = 4 := by omega
      obtain ⟨name, lits, funcs⟩ := m
      have HN := Lib.hid (show name = ⟨#[]⟩ ∧ lits = [dT jj0] ∧ funcs = [] by
        have e := HM.out.1
        unfold dM at e
        injection e with e1 e2 e3
        exact ⟨e1.symm, e2.symm, e3.symm⟩)
      obtain ⟨p1, hp1⟩ : ∃ p1, p1 = 4 + (encB name.data.toList).length := ⟨_, rfl⟩
      obtain ⟨p2, hp2⟩ : ∃ p2, p2 = p1 + (encNat lits.length).length := ⟨_, rfl⟩
      have hx : (encM ⟨name, lits, funcs⟩).drop 4 = encB name.data.toList ++ (encNat lits.length ++ (encTs lits ++ (encNat funcs.length ++ encFs funcs))) := by
        simp [encM, encL]
      have x1 := drop_app hx
      rw [← hp1] at x1
      have x2 := drop_app x1
      rw [← hp2] at x2
      rw [← x1] at hx
      rw [← x2] at x1
      have hR1 : R < w1.heap.size := by have h2 := H1.out.2.2; have := H1.out.1.size; omega
      have H2 := Lib.hid (And.intro hk (And.intro x2 hp2))
      have Hs := Lib.hid (some_ok hr (by simpa using HM.out.2.2.1) hx hp1)
      have Hx := Lib.hid (And.intro x1 hp2)
      have HP := Lib.hid (And.intro hp1 hp2)
      clear hr hk hx x1 x2 hp1 hp2
      go_wp2_with fail
      refine Hs.out.mono ?_
      rintro e w3 ⟨po, n, c, rfl, hb3, hr3, hk3⟩
      obtain ⟨hcv, -⟩ := conv_two hb3
      have H3 := Lib.hid (And.intro hr3 (H2.out.1.trans' hk3))
      clear hr3 hk3 hb3 Hs
      go_wp2_with fail
      have hr4 := H3.out.1.kp ((Kp.refl (fun _ => False) w3).alloc (.cells #[.string name, .slice none 0 0, .slice none 0 0] 33))
      obtain ⟨w4, hw4⟩ : ∃ w4, w3.alloc (.cells #[.string name, .slice none 0 0, .slice none 0 0] 33) = w4 := ⟨_, rfl⟩
      have hb4 : w4.heap[w3.heap.size]? = some (.cells #[.string name, .slice none 0 0, .slice none 0 0] 33 (0, 0)) := by rw [← hw4]; exact heap_alloc_new w3 _
      have hk34 : Kp (fun _ => False) w3 w4 := by rw [← hw4]; exact (Kp.refl _ w3).alloc _
      rw [hw4] at hr4
      have hlen2 : p2 + lits.length ≤ (encM ⟨name, lits, funcs⟩).length ∧ lits.length ≤ 1000000000 := by
        have h1 := congrArg List.length H2.out.2.1
        have h2 := encTs_len lits
        have h3 := HM.out.2.2.2
        simp only [List.length_append, List.length_drop] at h1
        have h4 := encNat_pos funcs.length
        omega
      have Hc := Lib.hid (count_ok (q := p2) (n := lits.length) hr4 (by omega) Hx.out.1 H2.out.2.2 hlen2.1)
      have H4 := Lib.hid (And.intro hb4 (And.intro hk34 (And.intro (H3.out.2.trans' (hk34.mono fun _ _ e => e.elim)) (And.intro H3.out.2.size hlen2))))
      clear hr4 hb4 hk34 hlen2 hcv
      try rw [hw4]
      clear hw4
      refine Hc.out.mono ?_
      rintro e w5 ⟨rfl, hr5, hk5⟩
      have hb5 := (hk5.block _ (Array.getElem?_eq_some_iff.1 H4.out.1).1 (by have := H4.out.2.2.2.1; omega)).trans H4.out.1
      have H5 := Lib.hid (And.intro hr5 (And.intro (H4.out.2.2.1.trans' hk5) (And.intro hb5 H2.out.2.1)))
      clear hr5 hk5 hb5 Hc
      go_wp2_with fail
      go_loopg [22] lits.length (fun gk jj wr => ∃ (j q : Nat) (po : Option Addr) (n c hh : Nat) (G : Nat → Prop), j = 0 ∧ q = p2 ∧ j ≤ lits.length ∧ gk = lits.length - j ∧ jj = .int .i64 j ∧ (encM ⟨name, lits, funcs⟩).drop q = encTs (lits.drop j) ++ (encNat funcs.length ++ encFs funcs) ∧ LitsAt w1 R v (encM ⟨name, lits, funcs⟩) w3.heap.size name lits j q po n c hh G wr)
      case atStart => exact ⟨0, p2, none, 0, 0, 0, fun _ => False, rfl, rfl, by omega, rfl, rfl, H5.out.2.2.2, ⟨H5.out.2.2.1, ⟨Nat.le_refl _, by simp, [], by simpa using World.ownsRow_nil _ _ _ _, fun i t hi => by simp at hi⟩, fun _ _ e => e, fun _ e => e.elim, H5.out.1, H5.out.2.1⟩⟩
      case round =>
        obtain ⟨j, q, po, n, c, hh, G, hj0, hq0, hj, rfl, rfl, hq, hS⟩ := hrel
        have hlen := H4.out.2.2.2.2.2
        have hA := H4.out.2.2.2.1
        by_cases hlt : j < lits.length
        · obtain ⟨T, hjt⟩ : ∃ T, lits[j]? = some T := ⟨lits[j], List.getElem?_eq_getElem hlt⟩
          rw [encTs_take hjt, List.append_assoc] at hq
          obtain ⟨rfl, rfl, rfl⟩ := HN.out
          subst hj0 hq0
          obtain rfl : dT jj0 = T := by simpa using hjt
          have hq6 : q = 6 := by
            have e1 := HP.out.1
            have e2 := HP.out.2
            rw [e2, e1]
            have e3 : (encNat 0).length = 1 := by rw [encNat_small (by omega)]; rfl
            have e4 : (encNat 1).length = 1 := by rw [encNat_small (by omega)]; rfl
            simp [encB, e3, e4]
          subst hq6
          have HLt := Lib.hid (fun (wx : World) (k : Kp (fun _ => False) wr wx) => lit_deep_or (w := wx) (G := DeepPost w R) (hS.rd.kp k) HM.out.2.2.2 HM.out.2.1.1 HM.out.2.1.2 hq (fun c w' hb => by
            obtain ⟨v', rfl, hch, hk'⟩ := hb
            exact ⟨v', rfl, hch.le (by have := H1.out.1.size; have := hS.kp.size; have := k.size; omega), ((H1.out.1.mono fun _ _ e => e.elim : Kp (fun q => q = R) w w1).trans' hS.kp).trans' ((k.mono fun _ _ e => e.elim).trans' hk')⟩))
          have g1 : wr.cell? ⟨w3.heap.size, 1, none⟩ = some (.slice po n c) := by rw [cell_of_row wr _ 1 _ _ _ hS.cells]; rfl
          clear hS hjt hq HM H1 H3 H4 H5 hA hlen
          go_upto_region 10 with fail
          go_region_law (first
            | (refine step_fn_or (by rfl) 41 #[.tmp 26] #[88] (by rfl) cf_literal #[.pointer (some ⟨R, 0, none⟩)] (by first | (simp [Act.eval]; done) | simp [Act.eval, Act.put]) (fun _ _ => False) (fun c w' => DeepPost w R (.panicked c) w') (HLt.out _ ((Kp.refl _ _).drew)) ?_ ?_; (focus (intro c w' hb; change bodyPost Tryd.prog Tryd.f27 (DeepPost w R) (Exit.panic c) _ w'; exact bodyPost_panic rfl hb)); rintro x w5 hf; obtain ⟨k, m5, s, a1, l1, d1, a2, l2, d2, a3, l3, d3, g, cap, w6, rfl, g51, g56, hrun, g61, gf6⟩ : ∃ k m5 s a1 l1 d1 a2 l2 d2 a3 l3 d3 g cap w6, x = .agg #[.int .i64 k, .int .i64 m5, .string s, .slice a1 l1 d1, .slice a2 l2 d2, .slice a3 l3 d3] ∧ w5.cell? ⟨w3.heap.size, 1, none⟩ = some (.slice po n c) ∧ (w5.alloc (.cells #[.int .i64 k, .int .i64 m5, .string s, .slice a1 l1 d1, .slice a2 l2 d2, .slice a3 l3 d3] 25)).cell? ⟨w3.heap.size, 1, none⟩ = some (.slice po n c) ∧ (Builtin.append_ #[22, 22] 22 #[.slice po n c, .slice (some ⟨w5.heap.size, 0, none⟩) 1 1]).run Tryd.prog (w5.alloc (.cells #[.int .i64 k, .int .i64 m5, .string s, .slice a1 l1 d1, .slice a2 l2 d2, .slice a3 l3 d3] 25)) = .ok (.slice (some ⟨g, 0, none⟩) 1 cap) w6 ∧ w6.cell? ⟨w3.heap.size, 1, none⟩ = some (.slice po n c) ∧ w6.frozen? ⟨w3.heap.size, 1, none⟩ = false := hf.elim; have HF := Lib.hid hf; clear hf)
            | (refine step_run (by rfl) (.tmp 25) (.tmp 28) 22 (by rfl) (.slice po n c) (.slice (some ⟨w5.heap.size, 0, none⟩) 1 1) (by first | (simp [Act.eval]; done) | simp [Act.eval, Act.put]) (by first | (simp [Act.eval]; done) | simp [Act.eval, Act.put]) _ _ hrun ?_))
          all_goals exact HF.out.elim
        · obtain ⟨rfl, rfl, rfl⟩ := HN.out
          subst hj0
          exact absurd (by simp) hlt
end Go.Proofs.YtaeoohjgdkablaaDoor
