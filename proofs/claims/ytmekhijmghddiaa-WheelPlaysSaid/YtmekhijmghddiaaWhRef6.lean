/- The document's own wheel: Tick. -/
import Derived.Test.YtmekhijmghddiaaWhRef5
import Derived.Deep.DeepCutAuto
namespace Go.Proofs.Ytmekhijmghddiaa
open Go.RowKit

section
variable {v vt vo vr : Value} {F G H : Nat → Prop} {w w' wr : World} {b most now fresh : Nat} {ts o r : List Tm} {t x : Tm}
theorem nil_own (P : Nat → Prop) : ∀ g, (Value.slice none 0 0).ownBlock = some g → P g := fun g hg => by simp [Value.ownBlock] at hg
/-- what Tick ends in -/
def XTickIs (G : Nat → Prop) (b most fresh : Nat) (ts : List Tm) (e : Nat) (w : World) (en : Ending) (w' : World) : Prop :=
  ∃ v o ts', en = .returned v ∧ w'.ownsS 46 3 v o.length (qcells o) ∧ (∀ g, v.ownBlock = some g → w.heap.size ≤ g) ∧ DueBy ts e o ts' ∧ RGo G w b most e fresh ts' w'
/-- between two rounds -/
structure TRel (w : World) (b most e fresh : Nat) (vt : Value) (ts : List Tm) (i : Nat) (vo : Value) (o : List Tm) (vr : Value) (r : List Tm) (wr : World) : Prop where
  q : QT w b most e fresh vt ts vo o vr r wr
  sorted : o.Pairwise TmLt
  mem : ∀ t, t ∈ o ↔ t ∈ ts.take i ∧ t.due ≤ e
  rest : r = (ts.take i).filter fun t => decide (e < t.due)
  lenO : o.length ≤ i
  lenR : r.length ≤ i
section
variable {e i : Nat}
theorem take_one (ht : ts[i]? = some t) : ts.take (i + 1) = ts.take i ++ [t] := by
  rw [List.take_add_one, ht]; rfl
theorem TRel.left (h : TRel w b most e fresh vt ts i vo o vr r wr) (ht : ts[i]? = some t) (hd : e < t.due) {vr' : Value} (q : QT w b most e fresh vt ts vo o vr' (r ++ [t]) w') : TRel w b most e fresh vt ts (i + 1) vo o vr' (r ++ [t]) w' := by
  refine ⟨q, h.sorted, fun x => ?_, ?_, by have := h.lenO; omega, by have := h.lenR; simp; omega⟩
  · rw [take_one ht, h.mem, List.mem_append, List.mem_singleton]
    constructor
    · rintro ⟨h1, h2⟩; exact ⟨.inl h1, h2⟩
    · rintro ⟨h1 | rfl, h2⟩
      · exact ⟨h1, h2⟩
      · omega
  · rw [take_one ht, List.filter_append, ← h.rest]
    simp [hd]
theorem TRel.due (h : TRel w b most e fresh vt ts i vo o vr r wr) (ht : ts[i]? = some t) (hd : t.due ≤ e) {k : Nat} (h1 : ∀ y ∈ o.take k, TmLt y t) (h2 : ∀ y ∈ o.drop k, TmLt t y) {vo' : Value} (q : QT w b most e fresh vt ts vo' (o.take k ++ t :: o.drop k) vr r w') :
    TRel w b most e fresh vt ts (i + 1) vo' (o.take k ++ t :: o.drop k) vr r w' := by
  refine ⟨q, ins_sorted h.sorted h1 h2, fun x => ?_, ?_, ?_, by have := h.lenR; omega⟩
  · have : x ∈ o.take k ++ t :: o.drop k ↔ x ∈ o ∨ x = t := by
      conv => rhs; rw [← List.take_append_drop k o]
      simp only [List.mem_append, List.mem_cons]
      constructor
      · rintro (h | h | h)
        · exact .inl (.inl h)
        · exact .inr h
        · exact .inl (.inr h)
      · rintro ((h | h) | h)
        · exact .inl h
        · exact .inr (.inr h)
        · exact .inr (.inl h)
    rw [this, take_one ht, h.mem, List.mem_append, List.mem_singleton]
    constructor
    · rintro (h1 | rfl)
      · exact ⟨.inl h1.1, h1.2⟩
      · exact ⟨.inr rfl, hd⟩
    · rintro ⟨h1 | rfl, h2⟩
      · exact .inl ⟨h1, h2⟩
      · exact .inr rfl
  · rw [take_one ht, List.filter_append, ← h.rest]
    simp
    omega
  · have := h.lenO
    rw [List.length_append, List.length_cons, List.length_take, List.length_drop]
    omega
theorem id_ne {y : Tm} (hnd : (ts.map Tm.id).Nodup) (hy : y ∈ ts.take i) (ht : ts[i]? = some t) : y.id ≠ t.id := by
  have hlt := (List.getElem?_eq_some_iff.1 ht).1
  have h1 : ts = ts.take i ++ t :: ts.drop (i + 1) := by
    have h2 := List.drop_eq_getElem_cons hlt
    rw [(List.getElem?_eq_some_iff.1 ht).2] at h2
    rw [← h2, List.take_append_drop]
  rw [h1, List.map_append, List.map_cons, List.nodup_append] at hnd
  exact hnd.2.2 y.id (List.mem_map.2 ⟨y, hy, rfl⟩) t.id (by simp)
theorem tmLt_trans {a c d : Tm} (h1 : TmLt a c) (h2 : TmLt c d) : TmLt a d := by unfold TmLt at *; omega
theorem before_all {y : Tm} {k : Nat} (hs : o.Pairwise TmLt) (hy : o[k]? = some y) (hlt : TmLt y t) : ∀ z ∈ o.take (k + 1), TmLt z t := by
  intro z hz
  rw [take_one hy, List.mem_append, List.mem_singleton] at hz
  rcases hz with hz | rfl
  · obtain ⟨j, hj, e⟩ := List.mem_iff_getElem.1 hz
    rw [List.getElem_take] at e
    have hk := (List.getElem?_eq_some_iff.1 hy).1
    have hjk : j < k := by rw [List.length_take] at hj; omega
    have h1 := List.pairwise_iff_getElem.1 hs j k (by omega) hk hjk
    rw [e, (List.getElem?_eq_some_iff.1 hy).2] at h1
    exact tmLt_trans h1 hlt
  · exact hlt
theorem TRel.done (h : TRel w b most e fresh vt ts ts.length vo o vr r wr) (hG : G b) (hlt : ∀ q, G q → q < w.heap.size) : XTickIs G b most fresh ts e w (.returned vo) (wr.setCell ⟨b, 3, none⟩ vr) := by
  have hk : Kp (fun q => q = b) wr (wr.setCell ⟨b, 3, none⟩ vr) := (Kp.refl (fun q => q = b) wr).setCell _ _ (.inl rfl)
  have hm := h.mem
  have hr := h.rest
  rw [List.take_length] at hm hr
  have hold := h.q.old
  have hz := hk.size
  refine ⟨vo, o, r, rfl, hk.rowS h.q.oA (fun g hg e => by have := h.q.oN g hg; omega), h.q.oN, ⟨h.sorted, hm, hr⟩, fun q => G q ∨ (w.heap.size ≤ q ∧ q < (wr.setCell ⟨b, 3, none⟩ vr).heap.size), ⟨vr, heap_setq h.q.blk _, hk.rowS h.q.rA (fun g hg e => by have := h.q.rN g hg; omega), .inl hG, fun g hg => .inr ⟨h.q.rN g hg, by have := ownsS_lt h.q.rA g hg; omega⟩, fun q hq => ?_⟩, fun q hq => hq.imp id (fun e => e.1), (h.q.kp.trans' hk).mono fun q _ e => e ▸ hG⟩
  rcases hq with hq | hq
  · have := hlt q hq
    have := h.q.kp.size
    omega
  · exact hq.2
end
set_option maxRecDepth 100000 in
set_option maxHeartbeats 2000000 in
theorem xtick_any (h : RW w G b most now fresh ts) (hnd : (ts.map Tm.id).Nodup) (hB : ∀ t ∈ ts, t.due ≤ 2305843009213693952 ∧ t.id ≤ 4611686018427387904) (n : Int) (hend : now + 1048576 ≤ 2305843009213693952) (hlen : ts.length ≤ 4096) :
    Calls Try.prog 24 #[.pointer (some ⟨b, 0, none⟩), .int .i64 n] w (XTickIs G b most fresh ts (now + ticksOf n) w) := by
  obtain ⟨vt, k1, k2, k3, k4, k5⟩ := h
  obtain ⟨c0, c1, c2, c3, cf⟩ := rw_facts k1
  obtain ⟨pt, ct, rfl, hct, hct2⟩ := ownsS_form k2
  obtain ⟨E, hE⟩ : ∃ E : Nat, now + ticksOf n = E := ⟨_, rfl⟩
  have hEb : E ≤ 2305843009213693952 := by have := ticksOf_le n; omega
  obtain ⟨M, hM⟩ : ∃ M, ticksOf n = M := ⟨_, rfl⟩
  have hM2 : M ≤ 1048576 := by have := ticksOf_le n; omega
  have hMn : (M : Int) = min (max n 0) 1048576 := by have := ticksOf_eq 0 n; rw [hM] at this; omega
  rw [hM] at hE
  have hn1 : n < 0 → (M : Int) = 0 := by omega
  have hn2 : 1048576 < n → (M : Int) = 1048576 := by omega
  have hn3 : ¬ n < 0 → ¬ 1048576 < n → (M : Int) = n := by omega
  have HN := Lib.hid (And.intro hn1 (And.intro hn2 hn3))
  have hw1k : Kp (fun q => q = b) w (w.setCell ⟨b, 1, none⟩ (.int .i64 ((now : Int) + M))) := (Kp.refl (fun q => q = b) w).setCell _ _ (.inl rfl)
  have hb1 : (w.setCell ⟨b, 1, none⟩ (.int .i64 ((now : Int) + M))).heap[b]? = some (.cells #[.int .i64 (most : Nat), .int .i64 (E : Nat), .int .i64 (fresh : Nat), .slice pt ts.length ct] 51 (0, 0)) := by
    rw [← hE, show ((now + M : Nat) : Int) = (now : Int) + M by omega]
    exact heap_setq k1 _
  have hQ : TRel w b most E fresh (.slice pt ts.length ct) ts 0 (.slice none 0 0) [] (.slice none 0 0) [] (w.setCell ⟨b, 1, none⟩ (.int .i64 ((now : Int) + M))) :=
    ⟨⟨hb1, hw1k.rowS k2 (fun g hg e => rw_ne k1 k2 (e ▸ hg)), ownsS_nil _ _ _, ownsS_nil _ _ _, nil_own _, nil_own _, nil_own _, k5 b k3, fun g hg => k5 g (k4 g hg), hw1k⟩, List.Pairwise.nil, fun t => by simp, by simp, Nat.le_refl _, Nat.le_refl _⟩
  have HQ := Lib.hid hQ
  have HK := Lib.hid (show _ ∧ _ ∧ _ ∧ _ ∧ _ from ⟨k3, k4, k5, hnd, hB⟩)
  have hnE : (now : Int) + M ≤ 2305843009213693952 := by omega
  obtain ⟨L, hL⟩ : ∃ L, ts.length = L := ⟨_, rfl⟩
  have HL := Lib.hid (And.intro hL hlen)
  have hLb : (L : Int) ≤ 4096 := by omega
  rw [hL] at c3
  clear k1 k2 k3 k4 k5 hw1k hb1 hQ hnd hB hlen hL hMn hn1 hn2 hn3
  rw [hM, hE]
  have HE := Lib.hid hE
  clear hE hM
  go_enter Try.func24, Try.ntmps24
  go_upto_if 10 with (fail)
  go_cut [1] (fun s1 wx => s1 = .int .i64 (max n 0) ∧ w = wx)
  case first =>
    by_cases hn : n < 0
    all_goals go_wp2_with fail
    all_goals go_meet
    · exact ⟨congrArg (Value.int .i64) (by omega), rfl⟩
    · exact ⟨congrArg (Value.int .i64) (by omega), rfl⟩
  case rest =>
    obtain ⟨rfl, rfl⟩ := hcut
    obtain ⟨m, hm⟩ : ∃ m, max n 0 = m := ⟨_, rfl⟩
    rw [hm]
    go_upto_if 12 with (fail)
    go_cut [1] (fun s1 wx => s1 = .int .i64 (M : Nat) ∧ w = wx)
    case first =>
      have HM := Lib.hid hm
      clear hm
      by_cases hn : 1048576 < m
      all_goals go_wp2_with fail
      all_goals go_meet
      · exact ⟨congrArg (Value.int .i64) (by have := HN.out; have := HM.out; omega), rfl⟩
      · exact ⟨congrArg (Value.int .i64) (by have := HN.out; have := HM.out; omega), rfl⟩
    case rest =>
      obtain ⟨rfl, rfl⟩ := hcut
      clear hm
      go_wp2_with fail
      clear c0 c1 c2 c3 cf
      go_loopg [5, 6, 7, 8] L (fun gk s5 s6 s7 s8 wr => ∃ (i : Nat) (vo vr : Value) (o r : List Tm), i ≤ L ∧ gk = L - i ∧ s5 = vo ∧ s6 = vr ∧ s7 = .int .i64 (i : Nat) ∧ s8 = s8 ∧ TRel w b most E fresh (.slice pt ts.length ct) ts i vo o vr r wr)
      case atStart => exact ⟨0, _, _, _, _, Nat.zero_le _, rfl, rfl, rfl, rfl, rfl, HQ.out⟩
      case round =>
        obtain ⟨i, vo, vr, o, r, hi, rfl, hvo, hvr, rfl, -, hS⟩ := hrel
        obtain ⟨w0, hw0⟩ : ∃ w0, w0 = wr := ⟨_, rfl⟩
        subst hw0
        obtain rfl := hvo.symm
        obtain rfl := hvr.symm
        obtain ⟨c0, c1, c2, c3, cf⟩ := rw_facts hS.q.blk
        rw [HL.out.1] at c3
        by_cases hlt : i < L
        · have hil : i < ts.length := by rw [HL.out.1]; exact hlt
          have hlti : (i : Int) < (L : Int) := by omega
          obtain ⟨t, ht⟩ : ∃ t, ts[i]? = some t := ⟨ts[i], List.getElem?_eq_getElem hil⟩
          obtain ⟨q0, q1, q2⟩ := qcells_get ts i t ht
          obtain ⟨g, cp, e1, -, -, d0⟩ := ownsS_get hS.q.tsA _ _ q0
          obtain ⟨_, _, e2, -, -, d1⟩ := ownsS_get hS.q.tsA _ _ q1
          obtain ⟨_, _, e3, -, -, d2⟩ := ownsS_get hS.q.tsA _ _ q2
          obtain ⟨rfl, rfl⟩ : pt = some ⟨g, 0, none⟩ ∧ ct = cp := by
            injection e1 with e1 _ e2
            exact ⟨e1, e2⟩
          cases e2
          cases e3
          have hbt := HK.out.2.2.2.2 t (List.mem_of_getElem? ht)
          obtain ⟨I, hI⟩ : ∃ I, t.id = I := ⟨_, rfl⟩
          obtain ⟨D, hD⟩ : ∃ D, t.due = D := ⟨_, rfl⟩
          obtain ⟨V, hV⟩ : ∃ V, t.wht = V := ⟨_, rfl⟩
          have HT := Lib.hid (show _ ∧ _ ∧ _ ∧ _ from ⟨ht, hI, hD, hV⟩)
          rw [hI, hD] at hbt
          rw [hI] at d0
          rw [hD] at d1
          rw [hV] at d2
          have HS := Lib.hid hS
          clear ht hI hD hV q0 q1 q2 e1 hS hil
          by_cases hdue : E < D
          · have hdi : (E : Int) < (D : Int) := by omega
            go_wp2_with fail
            go_quiet (fail)
            obtain ⟨po, cap, w', hr, hq⟩ := (HS.out.q.same (kp_drewN (Kp.refl (fun _ => False) w0) nq)).pushR t (by have := HS.out.lenR; have := HL.out.2; have := HL.out.1; omega)
            rw [HT.out.2.1, HT.out.2.2.1, HT.out.2.2.2] at hr
            obtain ⟨pr, cr, e9, -, -⟩ := ownsS_form HS.out.q.rA
            have HR := Lib.hid (And.intro hr hq)
            clear hr hq
            go_wp2_with (at_builtin; refine wpList_run rfl _ _ 49 rfl vr (.slice (some ⟨w0.heap.size, 0, none⟩) 1 1) rfl rfl _ w' HR.out.1 ?_)
            go_roundg (L - (i + 1))
            case measure => omega
            case rel => exact ⟨i + 1, vo, .slice po (r.length + 1) cap, o, r ++ [t], by omega, rfl, rfl, rfl, by go_num, trivial, HS.out.left HT.out.1 (by rw [HT.out.2.2.1]; exact hdue) HR.out.2⟩
          · have hdi : ¬ (E : Int) < (D : Int) := by omega
            obtain ⟨p2, co, hvo, hco, hco2⟩ := ownsS_form HS.out.q.oA
            obtain ⟨N, hN⟩ : ∃ N, o.length = N := ⟨_, rfl⟩
            have hNi : N ≤ i := by have := HS.out.lenO; omega
            have HO := Lib.hid (And.intro hvo hN)
            rw [hN] at hvo
            clear hN
            subst hvo
            go_wp2_with fail
            go_quiet (fail)
            go_wp2_with fail
            go_loopg [8] N (fun gk s8 wx => ∃ k : Nat, k ≤ N ∧ gk = k ∧ s8 = .int .i64 (k : Nat) ∧ Hid (∀ y ∈ o.drop k, TmLt t y) ∧ Hid (Kp (fun _ => False) w0 wx))
            case atStart => exact ⟨N, Nat.le_refl _, rfl, rfl, Lib.hid (by rw [← HO.out.2, List.drop_length]; intro y hy; cases hy), Lib.hid (kp_drewN (Kp.refl _ w0) _)⟩
            case round =>
              obtain ⟨k, hkN, hgk, rfl, HA, HW⟩ := hrel
              have hgk := hgk.symm
              subst hgk
              go_upto_region 14 with fail
              go_cut [107] (fun s wy => ∃ B : Bool, s = .bool B ∧ Hid (Kp (fun _ => False) w0 wy) ∧ Hid ((B = true → ∃ k' y, k = k' + 1 ∧ o[k']? = some y ∧ TmLt t y) ∧ (B = false → ∀ y ∈ o.take k, TmLt y t)))
              case first =>
                have hQ := HS.out.q.same HW.out
                rcases Nat.eq_zero_or_pos k with rfl | hpos
                · clear hQ
                  go_quiet (fail)
                  go_wp2_with fail
                  go_meet
                  exact ⟨false, rfl, Lib.hid (kp_drewN HW.out _), Lib.hid ⟨by simp, by simp⟩⟩
                · obtain ⟨k', rfl⟩ : ∃ k', k = k' + 1 := ⟨k - 1, by omega⟩
                  obtain ⟨y, hy⟩ : ∃ y, o[k']? = some y := ⟨o[k']'(by have := HO.out.2; omega), List.getElem?_eq_getElem _⟩
                  have hlo : o.length = N := HO.out.2
                  obtain ⟨y0, y1, -⟩ := qcells_get o k' y hy
                  obtain ⟨g2, cp2, e4, -, -, z0⟩ := ownsS_get hQ.oA _ _ y0
                  obtain ⟨_, _, e5, -, -, z1⟩ := ownsS_get hQ.oA _ _ y1
                  rw [HO.out.2] at e4 e5
                  obtain ⟨rfl, rfl⟩ : p2 = some ⟨g2, 0, none⟩ ∧ co = cp2 := by
                    injection e4 with e4 _ e6
                    exact ⟨e4, e6⟩
                  cases e5
                  clear e4
                  obtain ⟨x0, x1, x2, x3, xf⟩ := rw_facts hQ.blk
                  rw [HL.out.1] at x3
                  have hc : ∀ q u, w0.cell? ⟨g, q, none⟩ = some u → wr.cell? ⟨g, q, none⟩ = some u := fun q u e => (HW.out.cell (p := ⟨g, q, none⟩) (World.block_lt_of_cell? _ _ e) (fun e => e)).trans e
                  have f0 := hc _ _ d0
                  have f1 := hc _ _ d1
                  have hw : IntKind.i64.wrap (((k' + 1 : Nat) : Int) - 1) = (k' : Nat) := by rw [IntWalk.i64_in _ (by omega)]; omega
                  have hkN' : (k' : Int) < (N : Int) := by omega
                  obtain ⟨YI, hYI⟩ : ∃ YI, y.id = YI := ⟨_, rfl⟩
                  obtain ⟨YD, hYD⟩ : ∃ YD, y.due = YD := ⟨_, rfl⟩
                  have HY := Lib.hid (show _ ∧ _ ∧ _ from ⟨hy, hYI, hYD⟩)
                  rw [hYI] at z0
                  rw [hYD] at z1
                  clear hc hQ hy hYI hYD y0 y1 hlo c0 c1 c2 c3 cf d0 d1 d2 x0 x1 x2
                  by_cases h1 : D < YD
                  · have h1i : (D : Int) < YD := by omega
                    go_quiet (fail)
                    go_wp2_with fail
                    go_meet
                    exact ⟨true, rfl, Lib.hid (kp_drewN HW.out _), Lib.hid ⟨fun _ => ⟨k', y, rfl, HY.out.1, .inl (by have := HY.out.2.2; have := HT.out.2.2.1; omega)⟩, by simp⟩⟩
                  · by_cases h2 : YD = D
                    · subst h2
                      by_cases h3 : I < YI
                      · have h3i : (I : Int) < YI := by omega
                        go_quiet (fail)
                        go_wp2_with fail
                        go_meet
                        exact ⟨true, rfl, Lib.hid (kp_drewN HW.out _), Lib.hid ⟨fun _ => ⟨k', y, rfl, HY.out.1, .inr (by have := HY.out.2; have := HT.out.2; omega)⟩, by simp⟩⟩
                      · have h3i : ¬ (I : Int) < YI := by omega
                        go_quiet (fail)
                        go_wp2_with fail
                        go_meet
                        have hne := id_ne HK.out.2.2.2.1 ((HS.out.mem y).1 (List.mem_of_getElem? HY.out.1)).1 HT.out.1
                        exact ⟨false, rfl, Lib.hid (kp_drewN HW.out _), Lib.hid ⟨by simp, fun _ => before_all HS.out.sorted HY.out.1 (.inr (by have := HY.out.2; have := HT.out.2; omega))⟩⟩
                    · have h1i : ¬ (D : Int) < YD := by omega
                      have h2b : ((YD : Int) == D) = false := by simp; omega
                      have H12 := Lib.hid (And.intro h1 h2)
                      clear h1 h2
                      go_quiet (fail)
                      go_wp2_with fail
                      go_meet
                      exact ⟨false, rfl, Lib.hid (kp_drewN HW.out _), Lib.hid ⟨by simp, fun _ => before_all HS.out.sorted HY.out.1 (.inl (by have := HY.out.2; have := HT.out.2; have := H12.out; omega))⟩⟩
              case rest =>
                obtain ⟨B, rfl, HW2, HB⟩ := hcut
                cases B
                · have hQ := HS.out.q.same HW2.out
                  have hcc : ∀ q u, w0.cell? ⟨g, q, none⟩ = some u → wc.cell? ⟨g, q, none⟩ = some u := fun q u e => (HW2.out.cell (p := ⟨g, q, none⟩) (World.block_lt_of_cell? _ _ e) (fun e => e)).trans e
                  have f0 := hcc _ _ d0
                  have f1 := hcc _ _ d1
                  have f2 := hcc _ _ d2
                  obtain ⟨x0, x1, x2, x3, xf⟩ := rw_facts hQ.blk
                  rw [HL.out.1] at x3
                  have hall := HB.out.2 rfl
                  have hkn : k ≤ o.length := by have := HO.out.2; omega
                  have hki : (k : Int) ≤ (N : Int) := by omega
                  have hkc : k ≤ co := by omega
                  have hlen1 : o.length + 1 ≤ 100000 := by have := HO.out.2; omega
                  rcases hQ.oA.2 with ⟨e8, h0⟩ | ⟨g2, cap8, cur8, e8, -, -, -⟩
                  · have hN0 : N = 0 := by have := HO.out.2; omega
                    obtain ⟨hp2, hco0⟩ : p2 = none ∧ co = 0 := by
                      injection e8 with e8 _ e9
                      exact ⟨e8, e9⟩
                    have hk0 : k = 0 := by omega
                    obtain ⟨pi, ci, w3, po, cap, w4, r1, r2, hq⟩ := hQ.ins t (P := none) hkn HO.out.1 (fun g' e => by rw [hp2] at e; cases e) hlen1
                    rw [HT.out.2.1, HT.out.2.2.1, HT.out.2.2.2, HO.out.2] at r1
                    rw [HO.out.2] at r2
                    rw [HO.out.2] at hq
                    have hT := HS.out.due HT.out.1 (by have := HT.out.2.2.1; omega) hall HA.out hq
                    subst hN0 hp2 hco0 hk0
                    simp only [Nat.sub_self, Nat.add_zero, Nat.zero_add] at r1 r2 hT
                    have HR1 := Lib.hid r1
                    have HR2 := Lib.hid r2
                    have HE2 := Lib.hid hT
                    clear r1 r2 hq hT hall hkn hlen1 hQ hcc c0 c1 c2 c3 cf d0 d1 d2 e8 x0 x1 x2
                    go_wp2_with fail
                    go_region_law (first
                      | (refine step_run (by rfl) (.tmp 121) (.tmp 124) 49 (by rfl) (.slice (some ⟨wc.heap.size, 0, none⟩) 1 1) (.slice none 0 0) (by first | (simp [Act.eval]; done) | simp [Act.eval, Act.put]) (by first | (simp [Act.eval]; done) | simp [Act.eval, Act.put]) _ _ HR1.out ?_)
                      | (refine step_run (by rfl) (.tmp 113) (.tmp 125) 49 (by rfl) (.slice none 0 0) (.slice pi 1 ci) (by first | (simp [Act.eval]; done) | simp [Act.eval, Act.put]) (by first | (simp [Act.eval]; done) | simp [Act.eval, Act.put]) _ _ HR2.out ?_))
                    all_goals go_wp2_with fail
                    all_goals go_roundg (L - (i + 1))
                    case measure => omega
                    case rel => exact ⟨i + 1, .slice po 1 cap, vr, _, r, by omega, rfl, rfl, rfl, by go_num, trivial, HE2.out⟩
                  · obtain ⟨rfl, rfl⟩ : p2 = some ⟨g2, 0, none⟩ ∧ co = cap8 := by
                      injection e8 with e8 _ e9
                      exact ⟨e8, e9⟩
                    obtain ⟨pi, ci, w3, po, cap, w4, r1, r2, hq⟩ := hQ.ins t (P := if co = k then some ⟨g2, 0, none⟩ else some ⟨g2, k * 3, none⟩) hkn HO.out.1 (fun g' e => by injection e with e; injection e with e; subst e; rfl) hlen1
                    rw [HT.out.2.1, HT.out.2.2.1, HT.out.2.2.2, HO.out.2] at r1
                    rw [HO.out.2] at r2
                    rw [HO.out.2] at hq
                    have hT := HS.out.due HT.out.1 (by have := HT.out.2.2.1; omega) hall HA.out hq
                    have HR1 := Lib.hid r1
                    have HR2 := Lib.hid r2
                    have HE2 := Lib.hid hT
                    clear r1 r2 hq hT hall hkn hlen1 hQ hcc c0 c1 c2 c3 cf d0 d1 d2 e8 x0 x1 x2
                    go_wp2_with fail
                    go_region_law (first
                      | (refine step_run (by rfl) (.tmp 121) (.tmp 124) 49 (by rfl) (.slice (some ⟨wc.heap.size, 0, none⟩) 1 1) (.slice (if co = k then some ⟨g2, 0, none⟩ else some ⟨g2, k * 3, none⟩) (N - k) (co - k)) (by first | (simp [Act.eval]; done) | simp [Act.eval, Act.put]) (by first | (simp [Act.eval]; done) | simp [Act.eval, Act.put]) _ _ HR1.out ?_)
                      | (refine step_run (by rfl) (.tmp 113) (.tmp 125) 49 (by rfl) (.slice (some ⟨g2, 0, none⟩) k k) (.slice pi (1 + (N - k)) ci) (by first | (simp [Act.eval]; done) | simp [Act.eval, Act.put]) (by first | (simp [Act.eval]; done) | simp [Act.eval, Act.put]) _ _ HR2.out ?_))
                    all_goals go_wp2_with fail
                    all_goals go_roundg (L - (i + 1))
                    all_goals first | omega | exact ⟨i + 1, .slice po (N + 1) cap, vr, _, r, by omega, rfl, rfl, rfl, by go_num, trivial, HE2.out⟩
                · obtain ⟨k', y, rfl, hy, hty⟩ := HB.out.1 rfl
                  have hw : IntKind.i64.wrap (((k' + 1 : Nat) : Int) - 1) = (k' : Nat) := by rw [IntWalk.i64_in _ (by omega)]; omega
                  have HY := Lib.hid (And.intro hy hty)
                  clear hy hty
                  go_wp2_with fail
                  go_roundg k'
                  case measure => omega
                  case rel =>
                    refine ⟨k', by omega, rfl, by first | rfl | (rw [hw]) | go_num, Lib.hid (fun z hz => ?_), HW2⟩
                    have hk' : k' < o.length := (List.getElem?_eq_some_iff.1 HY.out.1).1
                    rw [List.drop_eq_getElem_cons hk', (List.getElem?_eq_some_iff.1 HY.out.1).2] at hz
                    rcases List.mem_cons.1 hz with rfl | hz
                    · exact HY.out.2
                    · exact HA.out z hz
        · obtain rfl : L = i := by omega
          obtain ⟨pr, cr, e9, -, -⟩ := ownsS_form hS.q.rA
          have HS := Lib.hid hS
          clear hS
          subst e9
          go_wp2_with fail
          go_ret
          have := HS.out
          rw [← HL.out.1] at this
          exact this.done HK.out.1 HK.out.2.2.1
end
end Go.Proofs.Ytmekhijmghddiaa
