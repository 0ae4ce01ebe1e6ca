/- A table's way drop. -/
import Derived.Test.YtmfhmnlgffgcgaaLkDrop
namespace Go.Proofs.Ytmfhmnlgffgcgaa
open Go.RowKit Go.Maps
set_option linter.unusedVariables false

section
variable {F G : Nat → Prop} {w w' : World} {b off m l g n cap : Nat} {h : Nat → Value} {S : List (Int × Int)} {f : Int → List Int} {ix : Int → Int → Nat} {vs : Int → Value} {ks : List Int} {a x y : Int}
theorem box_cellsD (w : World) (a x : Int) {w' : World} (hk : Kp F (w.alloc (.cells #[.int .i64 a, .int .i64 x] 70)) w') (hF : ¬ F w.heap.size) :
    w'.cell? ⟨w.heap.size, 0, none⟩ = some (.int .i64 a) ∧ w'.cell? ⟨w.heap.size, 1, none⟩ = some (.int .i64 x) := by
  have h1 : w'.heap[w.heap.size]? = some (.cells #[.int .i64 a, .int .i64 x] 70 (0, 0)) := (hk.block _ (by simp) hF).trans (heap_alloc_new w _)
  exact ⟨by rw [cell_of_row w' _ 0 _ _ _ h1]; rfl, by rw [cell_of_row w' _ 1 _ _ _ h1]; rfl⟩
theorem TbIn.shape (h : TbIn w G m l S f ix vs ks) (hm : (a, x) ∈ S) : ∃ g cap K y, vs a = .slice (some ⟨g, 0, none⟩) (K + 1) cap ∧ K + 1 ≤ cap ∧ cap ≤ 9223372036854775807 ∧ (f a).length = K + 1 ∧ (f a)[(f a).length - 1]? = some y ∧ (a, y) ∈ S ∧ ix a x < K + 1 ∧
    w.cell? ⟨g, K, none⟩ = some (.int .i64 y) ∧ w.cell? ⟨g, ix a x, none⟩ = some (.int .i64 x) ∧ a ∈ ks := by
  have hi : (f a)[ix a x]? = some x := h.at_ _ hm
  have hlt := (List.getElem?_eq_some_iff.1 hi).1
  obtain ⟨g, cap, e, h1, h2, h3⟩ := (h.row a).get hi
  obtain ⟨K, hK⟩ : ∃ K, (f a).length = K + 1 := ⟨(f a).length - 1, by omega⟩
  obtain ⟨y, hy⟩ : ∃ y, (f a)[(f a).length - 1]? = some y := ⟨_, List.getElem?_eq_getElem (by omega)⟩
  obtain ⟨g2, cap2, e2, -, -, h4⟩ := (h.row a).get hy
  rw [e] at e2
  injection e2 with e3
  injection e3 with e3
  injection e3 with e3
  subst e3
  rw [hK] at e h1 h4 hlt
  refine ⟨g, cap, K, y, e, h1, h2, hK, hy, h.mem.1 (List.mem_of_getElem? hy), hlt, h4, h3, (h.keys a).2 (fun e4 => by rw [e4] at hK; simp at hK)⟩
structure DropS (w : World) (G : Nat → Prop) (b m l : Nat) (S : List (Int × Int)) (f : Int → List Int) (ix : Int → Int → Nat) (vs : Int → Value) (ks : List Int) (a x y : Int) (g K cap : Nat) (W3 W4 W5 : World) : Prop where
  r4 : (Instr.mapUpdate 24 (.map (some m)) (pv a y) (.int .i64 (ix a x : Nat))).run Try.prog W3.drew = .ok () W4
  r5 : (Builtin.delete_ #[24, 70] 0 #[.map (some m), pv a x]).run Try.prog W4.drew = .ok (.tuple #[]) W5
  k4 : Kp (fun q => q = m) W3 W4
  k5 : Kp (fun q => q = m) W4 W5
  lm : Lm W5 l ks vs
  fin : ∀ w', Kp (fun q => q = l ∨ q = b) W5 w' → Lm w' l (shK ks a K) (vsSet vs a (shV g K cap)) → TbIn w' (fun q => G q ∨ w.heap.size ≤ q) m l (butPair S (a, x)) (fSet f a (cutAt (f a) (ix a x) y)) (ixSet ix a y (ix a x)) (vsSet vs a (shV g K cap)) (shK ks a K)
theorem drop_steps (hT : TbIn w G m l S f ix vs ks) (hb : ¬ G b) (hm : (a, x) ∈ S) (hva : vs a = .slice (some ⟨g, 0, none⟩) (n + 1) cap) (hlen : (f a).length = n + 1) (hy : (f a)[(f a).length - 1]? = some y) (hyS : (a, y) ∈ S) (hSl : S.length < maxLen) {W1 W3 : World} (hk1 : Kp (fun _ => False) w W1)
    (hW3 : W1.setCell ⟨g, ix a x, none⟩ (.int .i64 y) = W3) : ∃ W4 W5, DropS w G b m l S f ix vs ks a x y g n cap W3 W4 W5 := by
  have h1 := hT.kp hk1 (fun _ _ e => e)
  have hka : a ∈ ks := (hT.keys a).2 (fun e4 => by rw [e4] at hlen; simp at hlen)
  have hvb : (vs a).ownBlock = some g := by rw [hva]; rfl
  have hgm := (hT.vne a g hvb).1
  have hgl := (hT.vne a g hvb).2
  have hgb : g ≠ b := fun e => hb (e ▸ hT.gr a g hvb)
  have hrow := h1.row a
  rw [hva, ← hlen] at hrow
  obtain ⟨row3, k3⟩ := lk_row_set hrow (ix a x) y
  rw [hW3] at row3 k3
  have pm3 : Pm W3 m S ix := h1.pm.kp k3 (fun e => hgm e.symm)
  obtain ⟨W4, r4, pm4, k4, z4⟩ := (pm3.kp (Kp.refl (fun _ => False) W3).drew id).set hyS hSl (ix a x)
  obtain ⟨W5, r5, pm5, k5, z5⟩ := (pm4.kp (Kp.refl (fun _ => False) W4).drew id).del hm 0
  have k4' : Kp (fun q => q = m) W3 W4 := ((Kp.refl (fun q => q = m) W3).drew).trans' k4
  have k5' : Kp (fun q => q = m) W4 W5 := ((Kp.refl (fun q => q = m) W4).drew).trans' k5
  have lm5 : Lm W5 l ks vs := ((h1.lm.kp k3 (fun e => hgl e.symm)).kp k4' hT.ne.symm).kp k5' hT.ne.symm
  refine ⟨W4, W5, ⟨r4, r5, k4', k5', lm5, fun w' hkw lmw => ?_⟩⟩
  have hk : Kp (fun q => q = m ∨ q = l ∨ (vs a).ownBlock = some q ∨ q = b) w w' :=
    ((((hk1.mono fun _ _ e => e.elim).trans' (k3.mono fun q _ e => .inr (.inr (.inl (by rw [hvb, e]))))).trans' (k4'.mono fun _ _ e => .inl e)).trans' (k5'.mono fun _ _ e => .inl e)).trans' (hkw.mono fun _ _ e => e.elim (fun e => .inr (.inl e)) (fun e => .inr (.inr (.inr e))))
  have pmw : Pm w' m (butPair S (a, x)) (ixSet ix a y (ix a x)) := pm5.kp hkw (fun e => e.elim hT.ne (fun e => hb (e ▸ hT.gm)))
  have hcl : (cutAt (f a) (ix a x) y).length = n := by unfold cutAt; simp; omega
  refine hT.less hm hy hb hk pmw (fun c => ?_) lmw ?_ (fun q hq => ?_)
  · unfold shK
    by_cases h0 : n = 0
    · rw [if_pos h0, mem_ksDel]
      exact ⟨.inl, fun e => e.elim id (fun e => absurd (by omega) e.2)⟩
    · rw [if_neg h0]
      constructor
      · intro hc
        by_cases e : c = a
        · exact .inr ⟨e, by omega⟩
        · exact .inl ⟨hc, e⟩
      · rintro (e | e)
        · exact e.1
        · rw [e.1]; exact hka
  · unfold shV
    by_cases h0 : n = 0
    · rw [if_pos h0, List.eq_nil_of_length_eq_zero (hcl.trans h0)]
      exact Lw.nil _
    · rw [if_neg h0]
      have hr5 := (((row3.kp k4' (fun q hq e => by injection hq with hq; exact hgm (hq.trans e))).kp k5' (fun q hq e => by injection hq with hq; exact hgm (hq.trans e))).kp hkw (fun q hq e => by injection hq with hq; exact e.elim (fun e => hgl (hq.trans e)) (fun e => hgb (hq.trans e))))
      have := lk_row_cut hr5 (k := n) (by simp; omega)
      unfold cutAt
      rw [show (f a).length - 1 = n by omega]
      exact this
  · left
    unfold shV at hq
    split at hq
    · cases hq
    · rw [hva]; exact hq
set_option maxRecDepth 100000 in
set_option maxHeartbeats 4000000 in
theorem drop_some (H : HeadAt w b h) (ho : off < 7) (hb : ¬ G b) (e0 : h off = .map (some m)) (e1 : h (off + 1) = .map (some l)) (hT : TbIn w G m l S f ix vs ks) (hm : (a, x) ∈ S) (hlen : S.length ≤ 17592186044416) :
    Calls Try.prog 45 #[.pointer (some ⟨b, off, none⟩), pv a x] w (TabTo G w b off h (butPair S (a, x))) := by
  have kb := box_kp w a x
  have ha := (hT.pm.1 _ hm).1
  obtain ⟨g, cap, K, y, hva, hKc, hc2, hlf, hy, hyS, hix, cy, cx, hka⟩ := hT.shape hm
  obtain ⟨W1, hW1⟩ : ∃ W1, (w.alloc (.cells #[.int .i64 a, .int .i64 x] 70)).drew = W1 := ⟨_, rfl⟩
  have k1 : Kp (fun _ => False) w W1 := by rw [← hW1]; exact kb.drew
  have kb1 : Kp (fun _ => False) (w.alloc (.cells #[.int .i64 a, .int .i64 x] 70)) W1 := by rw [← hW1]; exact (Kp.refl _ _).drew
  obtain ⟨W3, hW3⟩ : ∃ W3, W1.setCell ⟨g, ix a x, none⟩ (.int .i64 y) = W3 := ⟨_, rfl⟩
  obtain ⟨W4, W5, st⟩ := drop_steps hT hb hm hva hlf hy hyS (by unfold maxLen; omega) k1 hW3
  have hvb : (vs a).ownBlock = some g := by rw [hva]; rfl
  have hgG : G g := hT.gr a g hvb
  have hgm := (hT.vne a g hvb).1
  have hgl := (hT.vne a g hvb).2
  have hgb : ¬ b = g := fun e => hb (e ▸ hgG)
  have hbm : ¬ b = m := fun e => hb (e ▸ hT.gm)
  have hbl2 : ¬ b = l := fun e => hb (e ▸ hT.gl)
  have hglt := (hT.row a).lt g hvb
  have hBg : ¬ w.heap.size = g := by omega
  have hBm : ¬ w.heap.size = m := fun e => by have := map_lt hT.pm.block; omega
  have k3 : Kp (fun q => q = g) W1 W3 := by rw [← hW3]; exact (Kp.refl (fun q => q = g) W1).setCell _ _ (.inl rfl)
  have n3 : Kp (fun q => q = g) (w.alloc (.cells #[.int .i64 a, .int .i64 x] 70)) W3 := (kb1.mono fun _ _ e => e.elim).trans' k3
  have n4 : Kp (fun q => q = g ∨ q = m) (w.alloc (.cells #[.int .i64 a, .int .i64 x] 70)) W4 := (n3.mono fun _ _ e => .inl e).trans' (st.k4.mono fun _ _ e => .inr e)
  have n5 : Kp (fun q => q = g ∨ q = m) (w.alloc (.cells #[.int .i64 a, .int .i64 x] 70)) W5 := n4.trans' (st.k5.mono fun _ _ e => .inr e)
  have HA := H.same kb
  have H1 := H.same k1
  have H3 := H1.kp k3 hgb
  have H4 := H3.kp st.k4 hbm
  have H5 := H4.kp st.k5 hbm
  have c0 : (w.alloc (.cells #[.int .i64 a, .int .i64 x] 70)).cell? ⟨b, off, none⟩ = some (.map (some m)) := by rw [← e0]; exact HA.cell (by omega)
  have c1 : (w.alloc (.cells #[.int .i64 a, .int .i64 x] 70)).cell? ⟨b, off + 1, none⟩ = some (.map (some l)) := by rw [← e1]; exact HA.cell (by omega)
  have hT1 := hT.kp k1 (fun _ _ e => e)
  have hlk := hT1.lm.look ha
  have hpk := hT1.pm.look1 hm
  rw [← hW1, hva] at hlk
  rw [← hW1] at hpk
  unfold pv at hpk
  have gK : W1.cell? ⟨g, K, none⟩ = some (.int .i64 y) := (k1.cell (p := ⟨g, K, none⟩) hglt (fun e => e)).trans cy
  have gi : W1.cell? ⟨g, ix a x, none⟩ = some (.int .i64 x) := (k1.cell (p := ⟨g, ix a x, none⟩) hglt (fun e => e)).trans cx
  have gf : ∀ o, W1.frozen? ⟨g, o, none⟩ = false := fun o => by
    have := hT1.row a
    rw [hva] at this
    exact lk_row_fz this o
  have hgi3 : W3.cell? ⟨g, ix a x, none⟩ = some (.int .i64 y) := by
    have h2 := hT1.row a
    rw [hva, ← hlf] at h2
    obtain ⟨h3, -⟩ := lk_row_set h2 (ix a x) y
    rw [hW3] at h3
    obtain ⟨g', cap', e5, -, -, h4⟩ := h3.get (j := ix a x) (x := y) (by rw [List.getElem?_set_self (by omega)])
    injection e5 with e5
    injection e5 with e5
    injection e5 with e5
    subst e5
    exact h4
  have d0 : W3.cell? ⟨b, off, none⟩ = some (.map (some m)) := by rw [← e0]; exact H3.cell (by omega)
  have d4 : W4.cell? ⟨b, off, none⟩ = some (.map (some m)) := by rw [← e0]; exact H4.cell (by omega)
  obtain ⟨t0, t1⟩ := box_cellsD w a x n3 hBg
  obtain ⟨u0, u1⟩ := box_cellsD w a x n4 (fun e => e.elim hBg hBm)
  obtain ⟨s0, s1⟩ := box_cellsD w a x n5 (fun e => e.elim hBg hBm)
  have HS := Lib.hid (shorten_any H5 ho e1 hbl2 st.lm hka (by
    have := nodup_len_le (M := S.map Prod.fst) hT.lm.1 fun c hc => by
      obtain ⟨z, hz⟩ := List.exists_mem_of_ne_nil _ ((hT.keys c).1 hc)
      exact List.mem_map.2 ⟨(c, z), hT.mem.1 hz, rfl⟩
    rw [List.length_map] at this
    unfold maxLen
    omega) hva ha (k := K) (by omega) hKc hc2)
  have HF : Hid (∀ w', ShTo b off l g cap h vs ks a K W5 (.returned (.tuple #[])) w' → TabTo G w b off h (butPair S (a, x)) (.returned (.tuple #[])) w') := by
    refine Lib.hid fun w' ⟨_, h1, h2, h3⟩ => ⟨rfl, _, h1, fun k q1 q2 => ?_, ?_, ?_⟩
    · unfold shH
      split
      · rw [upd_other _ _ q2, upd_other _ _ q1]
      · rfl
    · have hfin := st.fin w' h2 h3
      unfold shH
      by_cases hks : shK ks a K = []
      · rw [if_pos hks]
        rw [hks] at hfin
        refine .inl ⟨by rw [upd_other _ _ (by omega), upd_same], upd_same _ _ _, hfin.empty⟩
      · rw [if_neg hks]
        exact .inr ⟨_, _, _, _, _, _, e0, e1, hfin⟩
    · refine ((kb.mono fun _ _ e => e.elim).trans' (n5.mono fun q _ e => .inl (e.elim (fun e => e ▸ hgG) (fun e => e ▸ hT.gm)))).trans' (h2.mono fun q _ e => e.elim (fun e => .inl (e ▸ hT.gl)) .inr)
  obtain ⟨I, hI⟩ : ∃ I, ix a x = I := ⟨_, rfl⟩
  have HR := Lib.hid (And.intro st.r4 st.r5)
  unfold pv at HR
  rw [hI] at HR hix gi hgi3 hpk hW3
  have hIK : (I : Int) < K + 1 := by omega
  have hKK : (K : Int) < K + 1 := by omega
  have hK0 : (0 : Int) ≤ K := by omega
  have hK1 : (K : Int) ≤ 9223372036854775806 := by omega
  have HW1 := Lib.hid hW1
  have HW3 := Lib.hid hW3
  unfold pv
  clear hW1 hW3 st hT hT1 H HA H1 H3 H4 H5 k1 kb1 k3 n3 n4 n5 kb hva hlf hy hyS cy cx hka hvb hgG hgm hgl hgb hbm hbl2 hglt hBg hBm e0 e1 hm hlen ha hI
  go_enter Try.func45, Try.ntmps45
  go_wp2_with fail
  go_region
  rw [HW1.out]
  clear c0 c1 hlk hpk
  go_wp2_with fail
  rw [HW3.out]
  clear gK gf gi
  go_still_tail 12, (by kernel_rfl)
  refine wpList_runm rfl _ _ _ 24 rfl (.map (some m)) (.agg #[.int .i64 a, .int .i64 y]) (.int .i64 (I : Nat)) rfl rfl rfl W4 HR.out.1 ?_
  go_wp2_with fail
  go_still_tail 5, (by kernel_rfl)
  refine wpList_rund rfl _ _ 24 70 rfl (.map (some m)) (.agg #[.int .i64 a, .int .i64 x]) rfl rfl W5 HR.out.2 ?_
  go_wp2_with fail
  refine HS.out.mono ?_
  rintro e w9 h9
  obtain ⟨rfl, -⟩ := id h9
  have H9 := Lib.hid h9
  clear h9
  go_wp2_with fail
  refine bodyPost_end (results_none rfl _ _ _) rfl ?_
  exact HF.out _ H9.out
theorem drop_any (H : HeadAt w b h) (ho : off < 7) (hb : ¬ G b) (hT : Tbl w G (h off) (h (off + 1)) S) (hm : (a, x) ∈ S) (hlen : S.length ≤ 17592186044416) :
    Calls Try.prog 45 #[.pointer (some ⟨b, off, none⟩), pv a x] w (TabTo G w b off h (butPair S (a, x))) := by
  rcases hT with ⟨h1, h2, h3⟩ | ⟨m, l, f, ix, vs, ks, h1, h2, h3⟩
  · rw [h3] at hm
    cases hm
  · exact drop_some H ho hb h1 h2 h3 hm hlen
end
end Go.Proofs.Ytmfhmnlgffgcgaa
