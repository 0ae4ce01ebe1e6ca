/- A table's way add, walked. -/
import Derived.Test.YtmfhmnlgffgcgaaLkAdd
import Derived.WideMake
namespace Go.Proofs.Ytmfhmnlgffgcgaa
open Go.RowKit Go.Maps
set_option linter.unusedVariables false

section
variable {F G G' : Nat → Prop} {w w' : World} {b off m l : Nat} {h h' : Nat → Value} {S : List (Int × Int)} {f : Int → List Int} {ix : Int → Int → Nat} {vs : Int → Value} {ks : List Int} {a x : Int}
theorem box_cells (w : World) (a x : Int) {w' : World} (hk : Kp F (w.alloc (.cells #[.int .i64 a, .int .i64 x] 70)) w') (hF : ¬ F w.heap.size) :
    w'.cell? ⟨w.heap.size, 0, none⟩ = some (.int .i64 a) ∧ w'.cell? ⟨w.heap.size, 1, none⟩ = some (.int .i64 x) := by
  have h1 : w'.heap[w.heap.size]? = some (.cells #[.int .i64 a, .int .i64 x] 70 (0, 0)) := (hk.block _ (by simp) hF).trans (heap_alloc_new w _)
  exact ⟨by rw [cell_of_row w' _ 0 _ _ _ h1]; rfl, by rw [cell_of_row w' _ 1 _ _ _ h1]; rfl⟩
theorem upd_selfV (h : Nat → Value) (k : Nat) : upd h k (h k) = h := by
  funext j
  unfold upd
  split
  · rename_i e
    rw [e]
  · rfl
set_option maxRecDepth 100000 in
set_option maxHeartbeats 4000000 in
theorem add_some (H : HeadAt w b h) (ho : off < 7) (hb : ¬ G b) (e0 : h off = .map (some m)) (e1 : h (off + 1) = .map (some l)) (hT : TbIn w G m l S f ix vs ks) (hno : (a, x) ∉ S) (ha : I64 a) (hx : I64 x) (hlen : S.length + 1 ≤ 17592186044416) :
    Calls Try.prog 43 #[.pointer (some ⟨b, off, none⟩), pv a x] w (TabTo G w b off h (S ++ [(a, x)])) := by
  have kb := box_kp w a x
  obtain ⟨Wr, hWr⟩ : ∃ Wr, (w.alloc (.cells #[.int .i64 a, .int .i64 x] 70)) = Wr := ⟨_, rfl⟩
  have kr : Kp (fun q => q = b) (w.alloc (.cells #[.int .i64 a, .int .i64 x] 70)) Wr := by rw [← hWr]; exact Kp.refl _ _
  have hbl := H.lt
  have H' : HeadAt Wr b h := by rw [← hWr]; exact H.same kb
  have e0' := e0
  have e1' := e1
  have hml0 := map_lt hT.pm.block
  have hvl0 : ∀ c g, (vs c).ownBlock = some g → g < w.heap.size := fun c g hg => (hT.row c).lt g hg
  have hT : TbIn Wr (fun q => G q ∧ q < w.heap.size) m l S f ix vs ks := by rw [← hWr]; exact (hT.re (G' := fun q => G q ∧ q < w.heap.size) fun q h1 h2 => ⟨h2, h1⟩).kp kb (fun _ _ e => e)
  have ha' : ∀ k, k ≠ off → k ≠ off + 1 → h k = h k := fun _ _ _ => rfl
  generalize hGG : (fun q => G q ∧ q < w.heap.size) = G' at hT
  have hb2 : ¬ G' b := by rw [← hGG]; exact fun e => hb e.1
  have hB2 : ¬ G' w.heap.size := by rw [← hGG]; exact fun e => Nat.lt_irrefl _ e.2
  have hG2 : ∀ q, G' q → G q ∨ w.heap.size ≤ q := by rw [← hGG]; exact fun q e => .inl e.1
  obtain ⟨lm, hlm⟩ : ∃ q, l = q := ⟨_, rfl⟩
  rw [hlm] at hT e1'
  obtain ⟨W4, g, cap, W7, W8, st⟩ := add_steps hT hno ha hx hlen (W3 := Wr.drew.drew) (Kp.refl (fun _ => False) Wr).drew.drew
  obtain ⟨po, cp, hva⟩ := (hT.row a).form
  have c0 : Wr.cell? ⟨b, off, none⟩ = some (.map (some m)) := by rw [← e0']; exact H'.cell (by omega)
  have c1 : Wr.cell? ⟨b, off + 1, none⟩ = some (.map (some lm)) := by rw [← e1']; exact H'.cell (by omega)
  have hlk : (Instr.lookup 25 (.map (some lm)) (.int .i64 a) false).run Try.prog Wr.drew = .ok (vs a) Wr.drew := (hT.kp (Kp.refl (fun _ => False) Wr).drew (fun _ _ e => e)).lm.look ha
  have hbm : b ≠ m := fun e => hb2 (e ▸ hT.gm)
  have hbv : ¬ (vs a).ownBlock = some b := fun e => hb2 (hT.gr a b e)
  have hBm : ¬ w.heap.size = m := fun e => hB2 (e ▸ hT.gm)
  have hBv : ¬ (vs a).ownBlock = some w.heap.size := fun e => hB2 (hT.gr a _ e)
  have hBb : ¬ w.heap.size = b := by omega
  have hbr : b < Wr.heap.size := H'.lt
  have n4 : Kp (fun q => q = m) Wr W4 := ((Kp.refl (fun q => q = m) Wr).drew.drew).trans' st.k4
  have n7 : Kp (fun q => q = m ∨ (vs a).ownBlock = some q) Wr W7 := (n4.drew.mono fun _ _ e => .inl e).trans' (st.k7.mono fun _ _ e => .inr e)
  have q4 : Kp (fun q => q = b ∨ q = m) (w.alloc (.cells #[.int .i64 a, .int .i64 x] 70)) W4 := (kr.mono fun _ _ e => .inl e).trans' (n4.mono fun _ _ e => .inr e)
  have q7 : Kp (fun q => q = b ∨ q = m ∨ (vs a).ownBlock = some q) (w.alloc (.cells #[.int .i64 a, .int .i64 x] 70)) W7 := (kr.mono fun _ _ e => .inl e).trans' (n7.mono fun _ _ e => .inr e)
  obtain ⟨t1, t2⟩ := box_cells w a x kr.drew hBb
  obtain ⟨z1, z2⟩ := box_cells w a x kr hBb
  obtain ⟨b0, b1⟩ := box_cells w a x q4 (fun e => e.elim hBb hBm)
  obtain ⟨u0, u1⟩ := box_cells w a x (q4.alloc (.cells #[.int .i64 x] 2)) (fun e => e.elim hBb hBm)
  obtain ⟨s0, s1⟩ := box_cells w a x q7 (fun e => e.elim hBb (fun e => e.elim hBm hBv))
  have d1 : W4.cell? ⟨b, off + 1, none⟩ = some (.map (some lm)) := (n4.cell (p := ⟨b, off + 1, none⟩) hbr hbm).trans c1
  have d2 : (W4.alloc (.cells #[.int .i64 x] 2)).cell? ⟨b, off + 1, none⟩ = some (.map (some lm)) := ((n4.alloc _).cell (p := ⟨b, off + 1, none⟩) hbr hbm).trans c1
  have d3 : W7.cell? ⟨b, off + 1, none⟩ = some (.map (some lm)) := (n7.cell (p := ⟨b, off + 1, none⟩) hbr (fun e => e.elim hbm hbv)).trans c1
  have t0 : Wr.drew.cell? ⟨b, off, none⟩ = some (.map (some m)) := c0
  have HF : Hid (TabTo G w b off h (S ++ [(a, x)]) (.returned (.tuple #[])) W8) := by
    have hbl2 : ¬ b = lm := fun e => hb2 (e ▸ hT.gl)
    have hzr := kr.size
    have hzb : (w.alloc (.cells #[.int .i64 a, .int .i64 x] 70)).heap.size = w.heap.size + 1 := by simp
    have hg : ∀ q, q < w.heap.size → G' q → G q := fun q h1 h2 => (hG2 q h2).elim id (fun e => by omega)
    have hk : Kp (fun q => G q ∨ q = b) w W8 := ((kb.mono fun _ _ e => e.elim).trans (q7.mono fun q h1 e => by
      unfold Ext
      by_cases hq : q < w.heap.size
      · rcases e with e | e | e
        · exact .inl (.inr e)
        · exact .inl (.inl (hg q hq (e ▸ hT.gm)))
        · exact .inl (.inl (hg q hq (hT.gr a q e)))
      · exact .inr ⟨by omega, h1⟩)).trans (st.k8.mono fun q h1 e => by
      unfold Ext
      by_cases hq : q < w.heap.size
      · exact .inl (.inl (hg q hq (e ▸ hT.gl)))
      · exact .inr ⟨by omega, h1⟩)
    refine Lib.hid ⟨rfl, h, ((H'.kp n7 (fun e => e.elim hbm hbv)).kp st.k8 hbl2), ha', ?_, hk⟩
    refine .inr ⟨m, lm, _, _, _, _, e0', e1', st.tb.re fun q _ e => ?_⟩
    rcases e with e | e
    · exact hG2 q e
    · exact .inr (by omega)
  have HR := Lib.hid (And.intro st.r4 (And.intro st.r7 st.r8))
  obtain ⟨N, hN⟩ : ∃ N, (f a).length = N := ⟨_, rfl⟩
  rw [hva] at HR hlk
  rw [hN] at HR hlk
  obtain ⟨W2, hW2⟩ : ∃ W2, Wr.drew = W2 := ⟨_, rfl⟩
  rw [hW2] at t0 t1 t2
  have HR4 : Hid ((Instr.mapUpdate 24 (.map (some m)) (.agg #[.int .i64 a, .int .i64 x]) (.int .i64 (N : Nat))).run Try.prog W2.drew = .ok () W4) := Lib.hid (by rw [← hW2]; exact HR.out.1)
  have hr8 := HR.out.2.2
  have HW2 := Lib.hid hW2
  have HWr := Lib.hid hWr
  have hm1 := Try.lkMap1
  have hm0 := Try.lkMap0
  have hmm := @Go.run_makeMap_plain Try.prog
  have k0 : (w.alloc (.cells #[.int .i64 a, .int .i64 x] 70)).cell? ⟨b, off, none⟩ = some (.map (some m)) := by rw [hWr]; exact c0
  clear hWr hW2 hva hN q4 q7 n4 n7 st hT kb kr H H' hbm hbv hBm hBv hBb hb2 hB2 hG2 hGG ha' hbl e0 e1 e0' e1' hno hlen ha hx hml0 hvl0 hlm hbr
  unfold pv
  go_enter Try.func43, Try.ntmps43
  go_wp2_with fail
  rw [HWr.out]
  clear k0 hmm
  go_region
  go_wp2_with fail
  rw [HW2.out]
  clear c0 hlk hm1 hm0
  go_still_tail 7, (by kernel_rfl)
  refine wpList_runm rfl _ _ _ 24 rfl (.map (some m)) (.agg #[.int .i64 a, .int .i64 x]) (.int .i64 (N : Nat)) rfl rfl rfl W4 HR4.out ?_
  go_wp2_with fail
  go_region_law (refine step_run (by rfl) (.tmp 35) (.tmp 38) 32 (by rfl) (.slice po N cp) (.slice (some ⟨W4.drew.heap.size, 0, none⟩) 1 1) (by first | (simp [Act.eval]; done) | simp [Act.eval, Act.put]) (by first | (simp [Act.eval]; done) | simp [Act.eval, Act.put]) _ _ HR.out.2.1 ?_)
  all_goals go_wp2_with fail
  all_goals refine bodyPost_end (results_none rfl _ _ _) rfl ?_
  all_goals exact HF.out
set_option maxRecDepth 100000 in
set_option maxHeartbeats 4000000 in
theorem add_none (H : HeadAt w b h) (ho : off < 7) (hb : ¬ G b) (e0 : h off = .map none) (e1 : h (off + 1) = .map none) (hS : S = []) (hno : (a, x) ∉ S) (ha : I64 a) (hx : I64 x) (hlen : S.length + 1 ≤ 17592186044416) :
    Calls Try.prog 43 #[.pointer (some ⟨b, off, none⟩), pv a x] w (TabTo G w b off h (S ++ [(a, x)])) := by
  have kb := box_kp w a x
  subst hS
  obtain ⟨m, hm⟩ : ∃ m, w.heap.size + 1 = m := ⟨_, rfl⟩
  have hzA : (((w.alloc (.cells #[.int .i64 a, .int .i64 x] 70)).alloc (.map #[] 0)).alloc (.map #[] 0)).heap.size = w.heap.size + 3 := by simp
  have hzB : (w.alloc (.cells #[.int .i64 a, .int .i64 x] 70)).heap.size = w.heap.size + 1 := by simp
  have Hn := (H.same kb).same (((Kp.refl (fun _ => False) (w.alloc (.cells #[.int .i64 a, .int .i64 x] 70))).alloc (.map #[] 0)).alloc (.map #[] 0))
  have cn := Hn.cell (off := off) (by omega)
  have fz := Hn.fz
  obtain ⟨WA, hWA⟩ : ∃ WA, ((w.alloc (.cells #[.int .i64 a, .int .i64 x] 70)).alloc (.map #[] 0)).alloc (.map #[] 0) = WA := ⟨_, rfl⟩
  rw [hWA] at Hn cn fz hzA
  have hTA : TbIn WA (fun q => w.heap.size + 1 ≤ q) m (m + 1) [] (fun _ => []) (fun _ _ => 0) (fun _ => .slice none 0 0) [] := by
    have := TbIn.new (w.alloc (.cells #[.int .i64 a, .int .i64 x] 70)) (fun _ _ => 0)
    rw [hzB, hWA, hm] at this
    rw [← hm] at this ⊢
    exact this
  have kA : Kp (fun _ => False) (w.alloc (.cells #[.int .i64 a, .int .i64 x] 70)) WA := by rw [← hWA]; exact ((Kp.refl (fun _ => False) (w.alloc (.cells #[.int .i64 a, .int .i64 x] 70))).alloc _).alloc _
  obtain ⟨Wr, hWr⟩ : ∃ Wr, (WA.setCell ⟨b, off, none⟩ (.map (some m))).setCell ⟨b, off + 1, none⟩ (.map (some (m + 1))) = Wr := ⟨_, rfl⟩
  have kAr : Kp (fun q => q = b) WA Wr := by rw [← hWr]; exact ((Kp.refl (fun q => q = b) WA).setCell _ _ (.inl rfl)).setCell _ _ (.inl rfl)
  have kr : Kp (fun q => q = b) (w.alloc (.cells #[.int .i64 a, .int .i64 x] 70)) Wr := (kA.mono fun _ _ e => e.elim).trans' kAr
  have hbl := H.lt
  have H' : HeadAt Wr b (upd (upd h off (.map (some m))) (off + 1) (.map (some (m + 1)))) := by rw [← hWr]; exact (Hn.set (by omega) _).set (by omega) _
  have e0' : upd (upd h off (.map (some m))) (off + 1) (.map (some (m + 1))) off = .map (some m) := by rw [upd_other _ _ (by omega), upd_same]
  have e1' : upd (upd h off (.map (some m))) (off + 1) (.map (some (m + 1))) (off + 1) = .map (some (m + 1)) := upd_same _ _ _
  have hT : TbIn Wr (fun q => w.heap.size + 1 ≤ q) m (m + 1) [] (fun _ => []) (fun _ _ => 0) (fun _ => .slice none 0 0) [] := hTA.kp kAr (fun q hq e => by omega)
  have hb' : ¬ (w.heap.size + 1 ≤ b) := by omega
  have hB' : ¬ (w.heap.size + 1 ≤ w.heap.size) := by omega
  have hG : ∀ q, w.heap.size + 1 ≤ q → G q ∨ w.heap.size ≤ q := fun q hq => .inr (by omega)
  have ha' : ∀ k, k ≠ off → k ≠ off + 1 → upd (upd h off (.map (some m))) (off + 1) (.map (some (m + 1))) k = h k := fun k h1 h2 => by rw [upd_other _ _ h2, upd_other _ _ h1]
  generalize upd (upd h off (.map (some m))) (off + 1) (.map (some (m + 1))) = h' at H' e0' e1' ha'
  generalize hGG : (fun q => w.heap.size + 1 ≤ q) = G' at hT
  have hb2 : ¬ G' b := by rw [← hGG]; exact hb'
  have hB2 : ¬ G' w.heap.size := by rw [← hGG]; exact hB'
  have hG2 : ∀ q, G' q → G q ∨ w.heap.size ≤ q := by rw [← hGG]; exact hG
  obtain ⟨lm, hlm⟩ : ∃ q, (m + 1) = q := ⟨_, rfl⟩
  rw [hlm] at hT e1'
  obtain ⟨W4, g, cap, W7, W8, st⟩ := add_steps hT hno ha hx hlen (W3 := Wr.drew.drew) (Kp.refl (fun _ => False) Wr).drew.drew
  obtain ⟨po, cp, hva⟩ := (hT.row a).form
  have c0 : Wr.cell? ⟨b, off, none⟩ = some (.map (some m)) := by rw [← e0']; exact H'.cell (by omega)
  have c1 : Wr.cell? ⟨b, off + 1, none⟩ = some (.map (some lm)) := by rw [← e1']; exact H'.cell (by omega)
  have hlk : (Instr.lookup 25 (.map (some lm)) (.int .i64 a) false).run Try.prog Wr.drew = .ok (Value.slice none 0 0) Wr.drew := (hT.kp (Kp.refl (fun _ => False) Wr).drew (fun _ _ e => e)).lm.look ha
  have hbm : b ≠ m := fun e => hb2 (e ▸ hT.gm)
  have hbv : ¬ (Value.slice none 0 0).ownBlock = some b := fun e => hb2 (hT.gr a b e)
  have hBm : ¬ w.heap.size = m := fun e => hB2 (e ▸ hT.gm)
  have hBv : ¬ (Value.slice none 0 0).ownBlock = some w.heap.size := fun e => hB2 (hT.gr a _ e)
  have hBb : ¬ w.heap.size = b := by omega
  have hbr : b < Wr.heap.size := H'.lt
  have n4 : Kp (fun q => q = m) Wr W4 := ((Kp.refl (fun q => q = m) Wr).drew.drew).trans' st.k4
  have n7 : Kp (fun q => q = m ∨ (Value.slice none 0 0).ownBlock = some q) Wr W7 := (n4.drew.mono fun _ _ e => .inl e).trans' (st.k7.mono fun _ _ e => .inr e)
  have q4 : Kp (fun q => q = b ∨ q = m) (w.alloc (.cells #[.int .i64 a, .int .i64 x] 70)) W4 := (kr.mono fun _ _ e => .inl e).trans' (n4.mono fun _ _ e => .inr e)
  have q7 : Kp (fun q => q = b ∨ q = m ∨ (Value.slice none 0 0).ownBlock = some q) (w.alloc (.cells #[.int .i64 a, .int .i64 x] 70)) W7 := (kr.mono fun _ _ e => .inl e).trans' (n7.mono fun _ _ e => .inr e)
  obtain ⟨t1, t2⟩ := box_cells w a x kr.drew hBb
  obtain ⟨z1, z2⟩ := box_cells w a x kr hBb
  obtain ⟨b0, b1⟩ := box_cells w a x q4 (fun e => e.elim hBb hBm)
  obtain ⟨u0, u1⟩ := box_cells w a x (q4.alloc (.cells #[.int .i64 x] 2)) (fun e => e.elim hBb hBm)
  obtain ⟨s0, s1⟩ := box_cells w a x q7 (fun e => e.elim hBb (fun e => e.elim hBm hBv))
  have d1 : W4.cell? ⟨b, off + 1, none⟩ = some (.map (some lm)) := (n4.cell (p := ⟨b, off + 1, none⟩) hbr hbm).trans c1
  have d2 : (W4.alloc (.cells #[.int .i64 x] 2)).cell? ⟨b, off + 1, none⟩ = some (.map (some lm)) := ((n4.alloc _).cell (p := ⟨b, off + 1, none⟩) hbr hbm).trans c1
  have d3 : W7.cell? ⟨b, off + 1, none⟩ = some (.map (some lm)) := (n7.cell (p := ⟨b, off + 1, none⟩) hbr (fun e => e.elim hbm hbv)).trans c1
  have t0 : Wr.drew.cell? ⟨b, off, none⟩ = some (.map (some m)) := c0
  have HF : Hid (TabTo G w b off h (([] : List (Int × Int)) ++ [(a, x)]) (.returned (.tuple #[])) W8) := by
    have hbl2 : ¬ b = lm := fun e => hb2 (e ▸ hT.gl)
    have hzr := kr.size
    have hzb : (w.alloc (.cells #[.int .i64 a, .int .i64 x] 70)).heap.size = w.heap.size + 1 := by simp
    have hg : ∀ q, q < w.heap.size → G' q → G q := fun q h1 h2 => (hG2 q h2).elim id (fun e => by omega)
    have hk : Kp (fun q => G q ∨ q = b) w W8 := ((kb.mono fun _ _ e => e.elim).trans (q7.mono fun q h1 e => by
      unfold Ext
      by_cases hq : q < w.heap.size
      · rcases e with e | e | e
        · exact .inl (.inr e)
        · exact .inl (.inl (hg q hq (e ▸ hT.gm)))
        · exact .inl (.inl (hg q hq (hT.gr a q e)))
      · exact .inr ⟨by omega, h1⟩)).trans (st.k8.mono fun q h1 e => by
      unfold Ext
      by_cases hq : q < w.heap.size
      · exact .inl (.inl (hg q hq (e ▸ hT.gl)))
      · exact .inr ⟨by omega, h1⟩)
    refine Lib.hid ⟨rfl, h', ((H'.kp n7 (fun e => e.elim hbm hbv)).kp st.k8 hbl2), ha', ?_, hk⟩
    refine .inr ⟨m, lm, _, _, _, _, e0', e1', st.tb.re fun q _ e => ?_⟩
    rcases e with e | e
    · exact hG2 q e
    · exact .inr (by omega)
  have HR := Lib.hid (And.intro st.r4 (And.intro st.r7 st.r8))
  obtain ⟨N, hN⟩ : ∃ N, ([] : List Int).length = N := ⟨_, rfl⟩
  rw [hva] at HR hlk
  rw [hN] at HR hlk
  obtain ⟨W2, hW2⟩ : ∃ W2, Wr.drew = W2 := ⟨_, rfl⟩
  rw [hW2] at t0 t1 t2
  have HR4 : Hid ((Instr.mapUpdate 24 (.map (some m)) (.agg #[.int .i64 a, .int .i64 x]) (.int .i64 (N : Nat))).run Try.prog W2.drew = .ok () W4) := Lib.hid (by rw [← hW2]; exact HR.out.1)
  have hr8 := HR.out.2.2
  have HW2 := Lib.hid hW2
  have HWr := Lib.hid hWr
  have hm1 := Try.lkMap1
  have hm0 := Try.lkMap0
  have hmm := @Go.run_makeMap_plain Try.prog
  have k0 : (w.alloc (.cells #[.int .i64 a, .int .i64 x] 70)).cell? ⟨b, off, none⟩ = some (.map none) := by rw [← e0]; exact (H.same kb).cell (by omega)
  have Hn2 := (H.same kb).same (((Kp.refl (fun _ => False) (w.alloc (.cells #[.int .i64 a, .int .i64 x] 70))).alloc (.map #[] 0)).alloc (.map #[] 0))
  have n0 : (((w.alloc (.cells #[.int .i64 a, .int .i64 x] 70)).alloc (.map #[] 0)).alloc (.map #[] 0)).cell? ⟨b, off, none⟩ = some (.map none) := by rw [← e0]; exact Hn2.cell (by omega)
  have n1 : (((w.alloc (.cells #[.int .i64 a, .int .i64 x] 70)).alloc (.map #[] 0)).alloc (.map #[] 0)).cell? ⟨b, off + 1, none⟩ = some (.map none) := by rw [← e1]; exact Hn2.cell (by omega)
  have nf := Hn2.fz
  have HWA := Lib.hid hWA
  have hsz : (w.alloc (.cells #[.int .i64 a, .int .i64 x] 70)).heap.size = m := by rw [← hm]; simp
  clear Hn2 fz hWA hWr hW2 hva hN q4 q7 n4 n7 st hT kb kr kA kAr H H' Hn hTA hbm hbv hBm hBv hBb hb2 hB2 hG2 hGG hb' hB' hG ha' hbl e0 e1 e0' e1' hno hlen ha hx hzA hzB hlm hbr cn
  unfold pv
  go_enter Try.func43, Try.ntmps43
  go_wp2_with fail
  rw [HWA.out, HWr.out]
  clear k0 n0 n1 nf hsz hmm
  go_region
  go_wp2_with fail
  rw [HW2.out]
  clear c0 hlk hm1 hm0
  go_still_tail 7, (by kernel_rfl)
  refine wpList_runm rfl _ _ _ 24 rfl (.map (some m)) (.agg #[.int .i64 a, .int .i64 x]) (.int .i64 (N : Nat)) rfl rfl rfl W4 HR4.out ?_
  go_wp2_with fail
  go_region_law (refine step_run (by rfl) (.tmp 35) (.tmp 38) 32 (by rfl) (.slice po N cp) (.slice (some ⟨W4.drew.heap.size, 0, none⟩) 1 1) (by first | (simp [Act.eval]; done) | simp [Act.eval, Act.put]) (by first | (simp [Act.eval]; done) | simp [Act.eval, Act.put]) _ _ HR.out.2.1 ?_)
  all_goals go_wp2_with fail
  all_goals refine bodyPost_end (results_none rfl _ _ _) rfl ?_
  all_goals exact HF.out
theorem add_any (H : HeadAt w b h) (ho : off < 7) (hb : ¬ G b) (hT : Tbl w G (h off) (h (off + 1)) S) (hno : (a, x) ∉ S) (ha : I64 a) (hx : I64 x) (hlen : S.length + 1 ≤ 17592186044416) :
    Calls Try.prog 43 #[.pointer (some ⟨b, off, none⟩), pv a x] w (TabTo G w b off h (S ++ [(a, x)])) := by
  rcases hT with ⟨h1, h2, h3⟩ | ⟨m, l, f, ix, vs, ks, h1, h2, h3⟩
  · subst h3
    exact add_none H ho hb h1 h2 rfl hno ha hx hlen
  · exact add_some H ho hb h1 h2 h3 hno ha hx hlen
end
end Go.Proofs.Ytmfhmnlgffgcgaa
