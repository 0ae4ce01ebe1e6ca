/- A move of any operands. -/
import Derived.Test.YtpbapiphafnipaaDoorM23
/- A move of any operands. -/
namespace Go.Proofs.YtpbapiphafnipaaDoor
open Go.RowKit

instance (a s : Int) : Decidable (placeOk a s) := by unfold placeOk; infer_instance
instance (b s n : Int) : Decidable (sourceOk b s n) := by unfold sourceOk; infer_instance
theorem vthree_all {w : World} {A : Nat} {c0 c1 c2 : Value} {T : TypeId} (h : w.heap[A]? = some (.cells #[c0, c1, c2] T (0, 0))) :
    w.cell? ⟨A, 0, none⟩ = some c0 ∧ w.cell? ⟨A, 1, none⟩ = some c1 ∧ w.cell? ⟨A, 2, none⟩ = some c2 ∧ ∀ j, w.frozen? ⟨A, j, none⟩ = false :=
  ⟨by rw [cell_of_row w A 0 _ _ _ h]; rfl, by rw [cell_of_row w A 1 _ _ _ h]; rfl, by rw [cell_of_row w A 2 _ _ _ h]; rfl, fun j => by simp [World.frozen?, h]⟩
/-- a module under way: its block, its function's block, its literals -/
structure OpAt (w : World) (mb g : Nat) (s : Int) (code : List In4) (i : Nat) (po : Option Addr) (c : Nat) (wx : World) : Prop where
  mod : wx.heap[mb]? = some (.cells #[.string ⟨#[]⟩, .slice po i c, .slice (some ⟨g, 0, none⟩) 1 1] 26 (0, 0))
  fn : ∃ pc cc, wx.heap[g]? = some (.cells #[.string ⟨#[102]⟩, .int .i64 0, .int .i64 s, .slice pc code.length cc] 32 (0, 0)) ∧ CodeAt (fun q => q < mb) wx code (.slice pc code.length cc)
  row : wx.ownsRow (mb + 1) 35 6 (.slice po i c) i (nilCells i)
  lt : g < mb
  kp : Kp (fun _ => False) w wx
theorem OpAt.next {w wr w2 : World} {mb g : Nat} {s : Int} {code : List In4} {i : Nat} {po : Option Addr} {c : Nat} (h : OpAt w mb g s code i po c wr) (hw : w.heap.size ≤ mb) {g2 c2 : Nat} (hk : Kp (fun q => (Value.slice po i c).ownBlock = some q) wr w2)
    (ho : w2.ownsRow (mb + 1) 35 6 (.slice (some ⟨g2, 0, none⟩) (i + 1) c2) (i + 1) (nilCells (i + 1))) :
    w2.heap[mb]? = some (.cells #[.string ⟨#[]⟩, .slice po i c, .slice (some ⟨g, 0, none⟩) 1 1] 26 (0, 0)) ∧ OpAt w mb g s code (i + 1) (some ⟨g2, 0, none⟩) c2 (w2.setCell ⟨mb, 1, none⟩ (.slice (some ⟨g2, 0, none⟩) (i + 1) c2)) := by
  obtain ⟨pc, cc, hf, hc⟩ := h.fn
  have hown : ∀ q, (Value.slice po i c).ownBlock = some q → mb + 1 ≤ q := fun q e => (h.row.lt q e).1
  have hm2 := (hk.block mb (Array.getElem?_eq_some_iff.1 h.mod).1 (fun e => by have := hown _ e; omega)).trans h.mod
  have hlt := h.lt
  have hs : Kp (fun q => q = mb) w2 (w2.setCell ⟨mb, 1, none⟩ (.slice (some ⟨g2, 0, none⟩) (i + 1) c2)) := (Kp.refl _ w2).setCell _ _ (.inl rfl)
  have hf2 := (hk.block g (Array.getElem?_eq_some_iff.1 hf).1 (fun e => by have := hown _ e; omega)).trans hf
  have hk2 : Kp (fun _ => False) w (w2.setCell ⟨mb, 1, none⟩ (.slice (some ⟨g2, 0, none⟩) (i + 1) c2)) := kp_fresh (kp_fresh h.kp (hk.mono fun q _ e => .inr (by have := hown _ e; omega))) (hs.mono fun q _ e => .inr (by omega))
  refine ⟨hm2, ⟨by rw [heap_set_same hm2]; rfl, ⟨pc, cc, (hs.block g (Array.getElem?_eq_some_iff.1 hf2).1 (by omega)).trans hf2, hc.imp (fun _ e => e) (fun b j u e e2 => ?_)⟩, hs.row ho (fun q e e2 => by have := (ho.lt q e).1; omega), hlt, hk2⟩⟩
  have e3 := (hk.cell (World.block_lt_of_cell? _ _ e2) (fun e4 => by have := hown _ e4; simp only at this e; omega)).trans e2
  exact (hs.cell (World.block_lt_of_cell? _ _ e3) (by simp only; omega)).trans e3
set_option maxRecDepth 100000 in
set_option maxHeartbeats 4000000 in
theorem operands_walk (a b a2 a3 : Int) (w : World) (b1 : -9223372036854775808 ≤ a) (b2 : a ≤ 9223372036854775807) (b3 : -9223372036854775808 ≤ b) (b4 : b ≤ 9223372036854775807) (b5 : -9223372036854775808 ≤ a2) (b6 : a2 ≤ 9223372036854775807)
    (b7 : -9223372036854775808 ≤ a3) (b8 : a3 ≤ 9223372036854775807) (hg : Laid0 w) :
    Calls Tryd.prog 3 #[.int .i64 a, .int .i64 b, .int .i64 a2, .int .i64 a3] w fun e w' => e = .returned (.bool true) ∧ Kp (fun _ => False) w w' := by
  have HG := Lib.hid hg
  have HI := Lib.hid (And.intro b1 (And.intro b2 (And.intro b3 (And.intro b4 (And.intro b5 (And.intro b6 (And.intro b7 b8)))))))
  clear hg b1 b2 b3 b4 b5 b6 b7 b8
  go_enter Tryd.func3, Tryd.ntmps3
  go_wp2_with fail
  refine Calls.mono (vplace _ a2 33 HI.out.2.2.2.2.1 HI.out.2.2.2.2.2.1 (by omega) (by omega)) ?_
  rintro e w' ⟨s, rfl, hs, rfl⟩
  go_wp2_with fail
  refine Calls.mono (vplace _ a3 20 HI.out.2.2.2.2.2.2.1 HI.out.2.2.2.2.2.2.2 (by omega) (by omega)) ?_
  rintro e w' ⟨n, rfl, hn, rfl⟩
  obtain ⟨w1, hw1⟩ : ∃ w1, w.alloc (.cells #[.int .i64 1, .int .i64 a, .int .i64 b, .int .i64 0, .int .i64 15, .int .i64 0, .int .i64 0, .int .i64 0] 29) = w1 := ⟨_, rfl⟩
  have hk1 : Kp (fun _ => False) w w1 := by rw [← hw1]; exact (Kp.refl _ w).alloc _
  have hb1 : w1.heap[w.heap.size]? = some (.cells #[.int .i64 1, .int .i64 a, .int .i64 b, .int .i64 0, .int .i64 15, .int .i64 0, .int .i64 0, .int .i64 0] 29 (0, 0)) := by rw [← hw1]; exact heap_alloc_new w _
  have z : isI64 0 := ⟨by decide, by decide⟩
  have hcf : CodeAt (fun q => q < w1.heap.size) w1 (opCode a b) (.slice (some ⟨w.heap.size, 0, none⟩) 2 2) := code_new (code := opCode a b) hb1 rfl (by simp [opCode]) (by
    intro x hx
    rcases List.mem_cons.1 hx with rfl | hx
    · exact wf4 (by omega) ⟨HI.out.1, HI.out.2.1⟩ ⟨HI.out.2.2.1, HI.out.2.2.2.1⟩ z
    · rw [List.mem_singleton] at hx; subst hx; exact wf4 (by omega) z z z)
  have H1 := Lib.hid (And.intro hk1 hcf)
  clear hk1 hcf hb1 z
  go_wp2_with fail
  refine (one_any _ rfl _).mono ?_
  rintro e w2 ⟨g, rfl, hb2, hlo, hk2⟩
  obtain ⟨w3, hw3⟩ : ∃ w3, w2.alloc (.cells #[.string ⟨#[]⟩, .slice none 0 0, .slice (some ⟨g, 0, none⟩) 1 1] 26) = w3 := ⟨_, rfl⟩
  have hk3 : Kp (fun _ => False) w2 w3 := by rw [← hw3]; exact (Kp.refl _ w2).alloc _
  have hb3 : w3.heap[w2.heap.size]? = some (.cells #[.string ⟨#[]⟩, .slice none 0 0, .slice (some ⟨g, 0, none⟩) 1 1] 26 (0, 0)) := by rw [← hw3]; exact heap_alloc_new w2 _
  obtain ⟨t0, t1, t2, tf⟩ := vthree_all hb3
  have hg2 := (Array.getElem?_eq_some_iff.1 hb2).1
  have hb23 := (hk3.block g hg2 (fun e => e)).trans hb2
  have f2 : w3.cell? ⟨g, 2, none⟩ = some (.int .i64 0) := by rw [cell_of_row w3 _ 2 _ _ _ hb23]; rfl
  have ff : ∀ j, w3.frozen? ⟨g, j, none⟩ = false := fun j => by simp [World.frozen?, hb23]
  obtain ⟨w4, hw4⟩ : ∃ w4, w3.setCell ⟨g, 2, none⟩ (.int .i64 s) = w4 := ⟨_, rfl⟩
  have hk4 : Kp (fun q => q = g) w3 w4 := by rw [← hw4]; exact (Kp.refl _ w3).setCell _ _ (.inl rfl)
  have hb4 : w4.heap[g]? = some (.cells #[.string ⟨#[102]⟩, .int .i64 0, .int .i64 s, .slice (some ⟨w.heap.size, 0, none⟩) 2 2] 32 (0, 0)) := by rw [← hw4, heap_set_same hb23]; rfl
  have hz1 := H1.out.1.size
  have hz2 := hk2.size
  have hO : OpAt w w2.heap.size g s (opCode a b) 0 none 0 w4 := ⟨(hk4.block _ (Array.getElem?_eq_some_iff.1 hb3).1 (by omega)).trans hb3, ⟨_, _, hb4, H1.out.2.imp (fun q e => by omega) (fun bb j u e e2 => by
      have e3 := keeps_cell (hk2.trans' hk3) e2
      exact (hk4.cell (World.block_lt_of_cell? _ _ e3) (by simp only; omega)).trans e3)⟩, World.ownsRow_nil _ _ _ _, hg2, kp_fresh (H1.out.1.trans' (hk2.trans' hk3)) (hk4.mono fun q _ e => .inr (by omega))⟩
  have HO := Lib.hid (And.intro hO (Nat.le_trans hz1 hz2))
  clear hk2 hk3 hk4 hb2 hb3 hb23 hb4 hO hz1 hz2 hg2 hlo
  go_wp2_with fail
  go_loopg [12] n (fun gk ii wr => ∃ (i : Nat) (po : Option Addr) (c : Nat), i ≤ n ∧ gk = n - i ∧ ii = .int .i64 i ∧ OpAt w w2.heap.size g s (opCode a b) i po c wr)
  case atStart => exact ⟨0, none, 0, by omega, rfl, rfl, HO.out.1⟩
  case round =>
    obtain ⟨i, po, c, hi, hgk, rfl, hr⟩ := hrel
    obtain ⟨t0', t1', t2', tf'⟩ := vthree_all hr.mod
    by_cases hlt : i < n
    · have hlti : (i : Int) < n := by omega
      obtain ⟨g2, c2, w5, hrun, hrow, hk5, -⟩ := nil_row hr.row (by have := (Array.getElem?_eq_some_iff.1 hr.mod).1; omega) (by omega)
      obtain ⟨hm5, hN⟩ := hr.next HO.out.2 hk5 hrow
      obtain ⟨q0, q1, q2, qf⟩ := vthree_all hm5
      have H5 := Lib.hid (And.intro hrun hN)
      clear hrun hrow hk5 hm5 hN hr
      go_wp2_with (at_builtin; refine wpList_run rfl (.tmp 37) (.tmp 39) 23 rfl (.slice po i c) (.slice (some ⟨wr.heap.size, 0, none⟩) 1 1) rfl rfl _ w5 H5.out.1 ?_)
      go_roundg (n - (i + 1))
      case measure => omega
      case rel => exact ⟨i + 1, _, _, by omega, rfl, by go_num, H5.out.2⟩
    · obtain rfl : i = n := by omega
      have hlti : ¬ (i : Int) < i := by omega
      have HR := Lib.hid hr
      clear hr
      go_upto_region 9 with fail
      go_cut [13] (fun s13 wx => s13 = .bool (decide (placeOk a s)) ∧ wx = wr)
      case first =>
        have hA : (a < 0 ∧ ¬ 16 ≤ a) ∨ (0 ≤ a ∧ a < 16) ∨ (0 ≤ a ∧ ¬ a < 16 ∧ 16 ≤ a ∧ a < 16 + s) ∨ (0 ≤ a ∧ ¬ a < 16 ∧ 16 ≤ a ∧ ¬ a < 16 + s) := by omega
        rcases hA with ⟨h1, h2⟩ | ⟨h1, h2⟩ | ⟨h1, h2, h3, h4⟩ | ⟨h1, h2, h3, h4⟩
        · have hp : ¬ placeOk a s := by unfold placeOk; omega
          have HP := Lib.hid (decide_eq_false hp)
          clear hp
          go_wp2_with fail
          go_meet
          exact ⟨by rw [HP.out], rfl⟩
        · have hp : placeOk a s := by unfold placeOk; omega
          have HP := Lib.hid (decide_eq_true hp)
          clear hp
          go_wp2_with fail
          go_meet
          exact ⟨by rw [HP.out], rfl⟩
        · have hp : placeOk a s := by unfold placeOk; omega
          have HP := Lib.hid (decide_eq_true hp)
          clear hp
          go_wp2_with fail
          go_meet
          exact ⟨by rw [HP.out], rfl⟩
        · have hp : ¬ placeOk a s := by unfold placeOk; omega
          have HP := Lib.hid (decide_eq_false hp)
          clear hp
          go_wp2_with fail
          go_meet
          exact ⟨by rw [HP.out], rfl⟩
      case rest =>
        obtain ⟨rfl, rfl⟩ := hcut
        go_upto_region 10 with fail
        go_cut [14] (fun s14 wx => s14 = .bool (decide (sourceOk b s i)) ∧ wx = wc)
        case first =>
          have hB : (b < 0 ∧ ¬ 16 ≤ b ∧ ¬ 64 ≤ b) ∨ (0 ≤ b ∧ b < 16) ∨ (0 ≤ b ∧ ¬ b < 16 ∧ 16 ≤ b ∧ b < 16 + s) ∨ (0 ≤ b ∧ ¬ b < 16 ∧ 16 ≤ b ∧ ¬ b < 16 + s ∧ ¬ 64 ≤ b) ∨ (0 ≤ b ∧ ¬ b < 16 ∧ 16 ≤ b ∧ ¬ b < 16 + s ∧ 64 ≤ b ∧ b < 64 + i) ∨ (0 ≤ b ∧ ¬ b < 16 ∧ 16 ≤ b ∧ ¬ b < 16 + s ∧ 64 ≤ b ∧ ¬ b < 64 + i) := by omega
          rcases hB with ⟨h1, h2, h3⟩ | ⟨h1, h2⟩ | ⟨h1, h2, h3, h4⟩ | ⟨h1, h2, h3, h4, h5⟩ | ⟨h1, h2, h3, h4, h5, h6⟩ | ⟨h1, h2, h3, h4, h5, h6⟩
          · have hp : ¬ sourceOk b s i := by unfold sourceOk; omega
            have HP := Lib.hid (decide_eq_false hp)
            clear hp
            go_wp2_with fail
            go_meet
            exact ⟨by rw [HP.out], rfl⟩
          · have hp : sourceOk b s i := by unfold sourceOk; omega
            have HP := Lib.hid (decide_eq_true hp)
            clear hp
            go_wp2_with fail
            go_meet
            exact ⟨by rw [HP.out], rfl⟩
          · have hp : sourceOk b s i := by unfold sourceOk; omega
            have HP := Lib.hid (decide_eq_true hp)
            clear hp
            go_wp2_with fail
            go_meet
            exact ⟨by rw [HP.out], rfl⟩
          · have hp : ¬ sourceOk b s i := by unfold sourceOk; omega
            have HP := Lib.hid (decide_eq_false hp)
            clear hp
            go_wp2_with fail
            go_meet
            exact ⟨by rw [HP.out], rfl⟩
          · have hp : sourceOk b s i := by unfold sourceOk; omega
            have HP := Lib.hid (decide_eq_true hp)
            clear hp
            go_wp2_with fail
            go_meet
            exact ⟨by rw [HP.out], rfl⟩
          · have hp : ¬ sourceOk b s i := by unfold sourceOk; omega
            have HP := Lib.hid (decide_eq_false hp)
            clear hp
            go_wp2_with fail
            go_meet
            exact ⟨by rw [HP.out], rfl⟩
        case rest =>
          obtain ⟨rfl, rfl⟩ := hcut
          obtain ⟨pc, cc, hf, hcd⟩ := HR.out.fn
          have hmb := (Array.getElem?_eq_some_iff.1 HR.out.mod).1
          have hfs := fns_one (s := s) (code := opCode a b) hf (by omega) (hcd.imp (fun q e => by omega) (fun _ _ _ _ e => e))
          have hg4 := laid0_kp HG.out HR.out.kp
          have hLs := nils_at HR.out.row (by omega)
          have hWm := whole_md (lits := List.replicate i nilT) (pl := po) (cl := c) (fns := [fOf s 0 (opCode a b)]) (by rw [List.length_replicate]; exact hLs) hfs (by simp; omega) nils_right (by simp) (by simp) (vop12 (by simp [opCode])) hg4
          rw [List.length_replicate] at hWm
          have HW := Lib.hid hWm
          have H4 := Lib.hid (And.intro HR.out.kp (And.intro hg4 (head_f s 0 (opCode a b) [] (by omega) (by omega) (by simp [opCode]))))
          clear hf hcd hfs hg4 hLs hWm hmb
          by_cases hok : placeOk a s ∧ sourceOk b s i
          · have d1 : decide (placeOk a s) = true := decide_eq_true hok.1
            have d2 : decide (sourceOk b s i) = true := decide_eq_true hok.2
            rw [d1, d2]
            go_wp2_with fail
            refine (module_nil HW.out (fun i f ls => one_right H4.out.2.2 (fun p k h => move_good (by omega) hok h) i f ls)).mono ?_
            rintro e w6 ⟨rfl, hk6⟩
            have H6 := Lib.hid (H4.out.1.trans' hk6)
            have HA := Lib.hid (vawake_any w6 (laid0_kp H4.out.2.1 hk6))
            clear hk6 d1 d2 hok
            go_wp2_with fail
            refine HA.out.mono ?_
            rintro e w7 ⟨rfl, hk7⟩
            have H7 := Lib.hid (H6.out.trans' hk7)
            clear hk7
            go_wp2_with fail
            go_ret
            exact ⟨rfl, H7.out⟩
          · have hor : decide (placeOk a s) = false ∨ decide (placeOk a s) = true ∧ decide (sourceOk b s i) = false := by
              by_cases h1 : placeOk a s
              · exact .inr ⟨decide_eq_true h1, decide_eq_false fun h2 => hok ⟨h1, h2⟩⟩
              · exact .inl (decide_eq_false h1)
            have HK := Lib.hid hok
            clear hok
            rcases hor with d1 | ⟨d1, d2⟩
            · rw [d1]
              clear d1
              go_wp2_with fail
              refine (module_wrong HW.out (fun h => (move_bad (by omega) HK.out).1 (h 0 _ rfl)) (fun i f ls => one_wrong H4.out.2.2 (move_bad (by omega) HK.out).2 i f ls)).mono ?_
              rintro e w6 ⟨v6, rfl, hch, hk6⟩
              have H6 := Lib.hid (And.intro (H4.out.1.trans' hk6) (And.intro hch.out (laid0_kp H4.out.2.1 hk6)))
              clear hch hk6
              simp only [id]
              go_wp2_with fail
              refine (wrong_any 0 12 (by decide) _).mono ?_
              rintro e w7 ⟨v7, rfl, hch7, hk7⟩
              have HE := Lib.hid (err_any _ _ _ _ (by simp) (Chain.kp hk7 _ _ H6.out.2.1) hch7)
              have H7 := Lib.hid (And.intro (H6.out.1.trans' hk7) (laid0_kp H6.out.2.2 hk7))
              clear hch7 hk7
              go_wp2_with fail
              refine HE.out.mono ?_
              rintro e w8 ⟨rfl, hk8⟩
              have HA := Lib.hid (vawake_any w8 (laid0_kp H7.out.2 hk8))
              have H8 := Lib.hid (H7.out.1.trans' hk8)
              clear hk8
              go_wp2_with fail
              refine HA.out.mono ?_
              rintro e w9 ⟨rfl, hk9⟩
              have H9 := Lib.hid (H8.out.trans' hk9)
              clear hk9
              go_wp2_with fail
              go_ret
              exact ⟨rfl, H9.out⟩
            · rw [d1, d2]
              clear d1 d2
              go_wp2_with fail
              refine (module_wrong HW.out (fun h => (move_bad (by omega) HK.out).1 (h 0 _ rfl)) (fun i f ls => one_wrong H4.out.2.2 (move_bad (by omega) HK.out).2 i f ls)).mono ?_
              rintro e w6 ⟨v6, rfl, hch, hk6⟩
              have H6 := Lib.hid (And.intro (H4.out.1.trans' hk6) (And.intro hch.out (laid0_kp H4.out.2.1 hk6)))
              clear hch hk6
              simp only [id]
              go_wp2_with fail
              refine (wrong_any 0 12 (by decide) _).mono ?_
              rintro e w7 ⟨v7, rfl, hch7, hk7⟩
              have HE := Lib.hid (err_any _ _ _ _ (by simp) (Chain.kp hk7 _ _ H6.out.2.1) hch7)
              have H7 := Lib.hid (And.intro (H6.out.1.trans' hk7) (laid0_kp H6.out.2.2 hk7))
              clear hch7 hk7
              go_wp2_with fail
              refine HE.out.mono ?_
              rintro e w8 ⟨rfl, hk8⟩
              have HA := Lib.hid (vawake_any w8 (laid0_kp H7.out.2 hk8))
              have H8 := Lib.hid (H7.out.1.trans' hk8)
              clear hk8
              go_wp2_with fail
              refine HA.out.mono ?_
              rintro e w9 ⟨rfl, hk9⟩
              have H9 := Lib.hid (H8.out.trans' hk9)
              clear hk9
              go_wp2_with fail
              go_ret
              exact ⟨rfl, H9.out⟩
end Go.Proofs.YtpbapiphafnipaaDoor
