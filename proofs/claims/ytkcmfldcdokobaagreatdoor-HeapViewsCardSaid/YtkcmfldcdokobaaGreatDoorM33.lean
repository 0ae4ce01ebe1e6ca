/- A tuple of a Store under way. -/
import Derived.Test.YtkcmfldcdokobaaGreatDoorM32
/- A tuple of a Store under way. -/
namespace Go.Proofs.YtkcmfldcdokobaaGreatDoor
open Go.RowKit Go.Maps

/-- the method term, at all terms of a height below h -/
def TermIs (w0 : World) (lb hb ab tb bb : Nat) (sv : Value) (least : Nat) (sl : List (Int × Bool)) (names : List ByteArray) (N mb h : Nat) : Prop :=
  ∀ (F : Nat → Prop) (T : Tm) (w : World) (col : Nat → Nat) (cs : List Value) (S : St), TermAt F w h T cs → LAt w0 w col lb hb ab tb bb sv least sl names N mb S → (∀ q, F q → q < w.heap.size → col q = 0) → tok 200 T → tsz h T ≤ 65536 → S.K + 3 * tsz h T ≤ 300000 →
    Calls Tryz.prog 84 #[.pointer (some ⟨lb, 0, none⟩), .agg cs.toArray] w (LEnds w0 w col lb hb ab tb bb sv least sl names N mb S (Lays names h S T) (S.K + 3 * tsz h T - 1) (fun i => pot S i + cost h T i))
theorem tok_up : ∀ {d : Nat} {T : Tm}, tok d T → tok (d + 1) T
  | 0, _, h => h.elim
  | _ + 1, .mk _ _ _ _ _ _, h => ⟨h.1, fun t ht => tok_up (h.2.1 t ht), fun t ht => tok_up (h.2.2 t ht)⟩
theorem tsz_pos : ∀ {h : Nat} {T : Tm} {F : Nat → Prop} {w : World} {cs : List Value}, TermAt F w h T cs → 1 ≤ tsz h T
  | 0, _, _, _, _, h => h.elim
  | _ + 1, .mk _ _ _ _ _ _, _, _, _, _ => by show 1 ≤ 1 + _ + _ + _; omega
theorem Go0.cell0 {w w' : World} {col col' : Nat → Nat} (h : Go0 col w col' w') {b j : Nat} {u : Value} (hc : w.cell? ⟨b, j, none⟩ = some u) (h0 : col b = 0) : w'.cell? ⟨b, j, none⟩ = some u :=
  (h.kp.cell (p := ⟨b, j, none⟩) (World.block_lt_of_cell? _ _ hc) (fun e => e h0)).trans hc
theorem TermAt.go {F : Nat → Prop} {w w' : World} {col col' : Nat → Nat} {h : Nat} {T : Tm} {cs : List Value} (ht : TermAt F w h T cs) (hg : Go0 col w col' w') (hF : ∀ q, F q → q < w.heap.size → col q = 0) : TermAt F w' h T cs :=
  TermAt.imp (fun _ e => e) (fun _ _ _ hb hc => hg.cell0 hc (hF _ hb (World.block_lt_of_cell? _ _ hc))) h T cs ht
theorem SixAt.go {w w' : World} {col col' : Nat → Nat} {b o : Nat} {v : Array Value} (h : SixAt w b o v) (hg : Go0 col w col' w') (h0 : col b = 0) : SixAt w' b o v := by
  obtain ⟨k0, n0, s0, a0, l0, c0, a1, l1, c1, a2, l2, c2, hz, d0, d1, d2, d3, d4, d5⟩ := h
  exact ⟨k0, n0, s0, a0, l0, c0, a1, l1, c1, a2, l2, c2, hz, hg.cell0 d0 h0, hg.cell0 d1 h0, hg.cell0 d2 h0, hg.cell0 d3 h0, hg.cell0 d4 h0, hg.cell0 d5 h0⟩
/-- an item of a list of terms, in six cells -/
theorem ListAt.six {F : Nat → Prop} {w : World} {h : Nat} {l : List Tm} {v : Value} (hl : ListAt F w (TermAt F w h) l v) {i : Nat} {t : Tm} (hi : l[i]? = some t) :
    ∃ b off cap cs, v = .slice (some ⟨b, off, none⟩) l.length cap ∧ F b ∧ b < w.heap.size ∧ SixAt w b (off + i * 6) cs ∧ TermAt F w h t cs.toList := by
  obtain ⟨po, cap, rfl, _, _, hel⟩ := hl
  obtain ⟨b, off, c0, c1, c2, c3, c4, c5, rfl, hF, d0, d1, d2, d3, d4, d5, ht⟩ := hel i t hi
  obtain ⟨k, n, s, a, l1, c, a2, l2, d, a3, l3, e, hq⟩ := ht.form
  simp only [List.cons.injEq, and_true] at hq
  obtain ⟨rfl, rfl, rfl, rfl, rfl, rfl⟩ := hq
  exact ⟨b, off, cap, #[.int .i64 k, .int .i64 n, .string s, .slice a l1 c, .slice a2 l2 d, .slice a3 l3 e], rfl, hF, World.block_lt_of_cell? _ _ d0, ⟨k, n, s, a, l1, c, a2, l2, d, a3, l3, e, rfl, d0, d1, d2, d3, d4, d5⟩, ht⟩

theorem made_one (z : Value) (n : Nat) (h : z.cells = #[z]) : (madeCells z.cells (n * 1)).toList = List.replicate n z := by
  rw [Nat.mul_one, h]
  apply List.ext_getElem
  · simp [madeCells]
  · intro i h1 h2
    simp [madeCells, Nat.mod_one]

theorem words_set (z : Value) (x : Int) : ∀ (ws : List Int) (m : Nat), (words ws ++ List.replicate (m + 1) z).set ws.length (.int .u64 x) = words (ws ++ [x]) ++ List.replicate m z
  | [], m => by simp [words, List.replicate_succ]
  | y :: ws, m => by
    have := words_set z x ws m
    simp only [words, List.map_cons, List.cons_append, List.length_cons, List.set_cons_succ] at this ⊢
    rw [this]

section
variable {w0 w : World} {col : Nat → Nat} {lb hb ab tb bb least N mb : Nat} {sv : Value} {sl : List (Int × Bool)} {names : List ByteArray} {S : St}
theorem LAt.aside {G : Nat → Prop} {w' : World} (h : LAt w0 w col lb hb ab tb bb sv least sl names N mb S) (hk : Kp G w w') (hG : ∀ q, G q → q < w.heap.size → col q = 0 ∧ w0.heap.size ≤ q) : LAt w0 w' (recol col w 0) lb hb ab tb bb sv least sl names N mb S := by
  obtain ⟨tv, fv, nn, D, ks, h1, h2, h3⟩ := h
  exact ⟨tv, fv, nn, D, ks, h1.aside hk hG, h2.aside hk (fun q e hq => (hG q e hq).1), h3⟩
theorem LAt.size (h : LAt w0 w col lb hb ab tb bb sv least sl names N mb S) : w0.heap.size ≤ w.heap.size := by
  obtain ⟨tv, fv, nn, D, ks, h1, h2, h3⟩ := h
  exact h1.kp.size
/-- an end goes on from an earlier state -/
theorem LEnds.from {w1 : World} {col1 : Nat → Nat} {S1 : St} {Q R : Int → St → Prop} {B C : Nat} {V W : Nat → Nat} {e : Ending} {w' : World} (h : LEnds w0 w1 col1 lb hb ab tb bb sv least sl names N mb S1 Q B V e w') (hs : Steps names S S1) (hg : Go0 col w col1 w1) (hB : B ≤ C) (hQ : ∀ x S', Q x S' → R x S') (hV : ∀ i, V i ≤ W i) :
    LEnds w0 w col lb hb ab tb bb sv least sl names N mb S R C W e w' := by
  obtain ⟨S2, col2, k1, k2, k3, k4, k5⟩ := h
  refine ⟨S2, col2, hs.trans k1, by omega, k3, hg.trans k4, ?_⟩
  rcases k5 with ⟨x, h1, h2, h3, h4, h5⟩ | ⟨v, op, n, h1, h2, h3⟩
  · exact .inl ⟨x, h1, h2, h3, hQ x S2 h4, fun i => Nat.le_trans (h5 i) (hV i)⟩
  · exact .inr ⟨v, op, n, h1, h2, h3.le hV⟩

set_option maxRecDepth 100000 in
set_option maxHeartbeats 1000000 in
theorem tuple_ends {h : Nat} (ih : TermIs w0 lb hb ab tb bb sv least sl names N mb h) {F : Nat → Prop} {it : List Tm} {vi : Value} (hI : ListAt F w (TermAt F w h) it vi) (hL : LAt w0 w col lb hb ab tb bb sv least sl names N mb S)
    (hF : ∀ q, F q → q < w.heap.size → col q = 0) (hok : ∀ t ∈ it, tok 200 t) (hsz : 1 + (it.map (tsz h)).sum ≤ 65536) (hK : S.K + 3 * (1 + (it.map (tsz h)).sum) ≤ 300000) (hlen : it.length ≤ 65535) :
    Calls Tryz.prog 128 #[.pointer (some ⟨lb, 0, none⟩), vi] w (LEnds w0 w col lb hb ab tb bb sv least sl names N mb S (fun x S' => ∃ ws S1, LaysAll (Lays names h) S it ws S1 ∧ BlockS S1 ((((it.length : Nat) : Int) * 64 + 15) :: ws) x S') (S.K + 3 * (1 + (it.map (tsz h)).sum) - 1) (fun i => pot S i + ownCost 5 it.length 0 i + (it.map fun t => cost h t i).sum)) := by
  have hI' := hI
  obtain ⟨po, cap, rfl, hcap, hln, hel⟩ := hI
  obtain ⟨n, hn⟩ : ∃ n, it.length = n := ⟨_, rfl⟩
  have H := Lib.hid (And.intro ih (And.intro hI' (And.intro hL (And.intro hF (And.intro hok (And.intro hsz (And.intro hK hn)))))))
  rw [hn] at hcap hln hlen ⊢
  clear ih hI' hL hF hok hsz hK hel hn
  obtain ⟨i0, hi, hz0, hz1, hz2⟩ := info_parts Tryz.infoU64
  go_enter Tryz.func128, Tryz.ntmps128
  go_wp2_with (at_make; refine wpList_make_full _ rfl _ _ 34 rfl w.heap.size 27 i0 (.int .u64 0) 1 Tryz.underlying34 hi hz0 hz1 .i64 .i64 _ _ n rfl rfl rfl rfl (by rw [hz2]; omega) (by unfold maxLen; omega) (Nat.le_refl _) ?_; intro w1 hown hgrow; refine Hid.out ?_)
  have hka : Kp (fun _ => False) w w1 := (Kp.refl _ w).grown hgrow (fun k e => by cases e)
  have hrow : w1.ownsRow w.heap.size 27 1 (.slice (some ⟨w.heap.size, 0, none⟩) n n) n (words [] ++ List.replicate n (.int .u64 0)) := by
    have e : (madeCells (Value.int .u64 0).cells (n * 1)).toList = words [] ++ List.replicate n (.int .u64 0) := by
      rw [made_one (.int .u64 0) n rfl]
      simp [words]
    rw [← e]
    exact hown
  have H1 := Lib.hid (And.intro (Go0.same (col := col) hka) (And.intro (H.out.2.2.1.same hka) hrow))
  clear hown hgrow hka hrow
  refine Lib.hid ?_
  go_wp2_with fail
  go_loopg [16] n (fun gk i wr => ∃ (j : Nat) (col' : Nat → Nat) (S' : St) (ws : List Int), j ≤ n ∧ gk = n - j ∧ i = Value.int .i64 j ∧ (Go0 col w col' wr ∧ LAt w0 wr col' lb hb ab tb bb sv least sl names N mb S' ∧ Steps names S S' ∧ (S'.K + j ≤ S.K + 3 * ((it.take j).map (tsz h)).sum ∧ ∀ i, pot S' i ≤ pot S i + ((it.take j).map fun t => cost h t i).sum) ∧ LaysAll (Lays names h) S (it.take j) ws S') ∧
    wr.ownsRow w.heap.size 27 1 (.slice (some ⟨w.heap.size, 0, none⟩) n n) n (words ws ++ List.replicate (n - j) (.int .u64 0)) ∧ col' w.heap.size = 0 ∧ (∀ x ∈ ws, 0 ≤ x ∧ x ≤ 18446744073709551615))
  case atStart => exact ⟨0, _, S, [], by omega, rfl, rfl, ⟨H1.out.1, H1.out.2.1, .none, ⟨by simp, fun i => by simp⟩, .nil⟩, H1.out.2.2, recol_new _ (Nat.le_refl _), by simp⟩
  case round =>
    obtain ⟨j, col', S', ws, hj, rfl, rfl, ⟨g1, g2, g3, ⟨g4, gV⟩, g5⟩, g6, g7, g8⟩ := hrel
    have hwl := g5.len
    by_cases hlt : j < n
    · obtain ⟨hih, hI, hL, hF, hok, hsz, hK, hn⟩ := H.out
      obtain ⟨tj, htj⟩ : ∃ tj, it[j]? = some tj := ⟨_, List.getElem?_eq_getElem (by omega)⟩
      obtain ⟨b, off, cap', cs, hv, hFb, hbl, h6, hT⟩ := hI.six htj
      injection hv with hv _ hv2
      subst hv hv2
      have h6r := h6.go g1 (hF b hFb hbl)
      obtain ⟨k0, n0, s0, a0, l0, c0, a1, l1, c1, a2, l2, c2, rfl, x0, x1, x2, x3, x4, x5⟩ := h6r
      have hTr := hT.go g1 hF
      have hmem := List.mem_of_getElem? htj
      have hsum := sum_take_le1 (tsz h) htj
      have hFr : ∀ q, F q ∧ q < w.heap.size → q < wr.heap.size → col' q = 0 := fun q hq _ => (g1.old q hq.2).trans (hF q hq.1 hq.2)
      have hTl := (hT.low.go g1 (fun q hq h => hF q hq.1 h) : TermAt (fun q => F q ∧ q < w.heap.size) wr h tj _)
      obtain ⟨wq, hwq⟩ : ∃ wq, wr.alloc (.cells #[.int .i64 k0, .int .i64 n0, .string s0, .slice a0 l0 c0, .slice a1 l1 c1, .slice a2 l2 c2] 41) = wq := ⟨_, rfl⟩
      have hkq : Kp (fun _ => False) wr wq := by rw [← hwq]; exact (Kp.refl _ wr).alloc _
      have hgq := Go0.same (col := col') hkq
      have hcall := hih (fun q => F q ∧ q < w.heap.size) tj wq _ _ S' (hTl.kp hkq (fun _ _ e => e)) (g2.same hkq) (fun q hq _ => (hgq.old q (Nat.lt_of_lt_of_le hq.2 g1.kp.size)).trans ((g1.old q hq.2).trans (hF q hq.1 hq.2))) (hok tj hmem) (by omega) (by omega)
      replace g1 := g1.trans hgq
      obtain ⟨g6, g7⟩ := hgq.row g6 (fun g hg => by injection hg with hg; rw [← hg]; exact g7)
      have hli : (j : Int) < n := by omega
      have HC := Lib.hid (And.intro hcall (And.intro g1 (And.intro g3 (And.intro g4 (And.intro g5 (And.intro (And.intro g6 g7) (And.intro g8 (And.intro htj (And.intro hwl (And.intro (tsz_pos hT) (And.intro gV hwq)))))))))))
      have hjn : j + 1 ≤ n := hlt
      clear hih hI hL hF hok hsz hK hn h6 hT hTr hTl hcall g1 g2 g3 g4 gV g5 g6 g7 g8 htj hwl hmem hsum hFr hFb hbl hkq hgq hwq
      go_wp2_with fail
      rw [HC.out.2.2.2.2.2.2.2.2.2.2.2]
      refine HC.out.1.mono ?_
      rintro e w2 ⟨S2, col2, k1, k2, k3, k4, ⟨x, rfl, k5, k6, k7, kV⟩ | ⟨v, op, nn, rfl, k5, kS⟩⟩
      · obtain ⟨_, g1, g3, g4, g5, ⟨g6, g7⟩, g8, htj, hwl, hpos, gV, _⟩ := HC.out
        obtain ⟨g6, g7⟩ := k4.row g6 (fun g hg => g7 g hg)
        have hw0 : w.heap.size < w2.heap.size := (g6.lt w.heap.size rfl).2
        have hst := (g6.stored j (.int .u64 x)).1
        have hwj : ws.length = j := by rw [hwl, List.length_take]; have := H.out.2.2.2.2.2.2.2; omega
        rw [show n - j = n - (j + 1) + 1 by omega] at hst
        have hws := words_set (.int .u64 0) x ws (n - (j + 1))
        rw [hwj] at hws
        rw [hws] at hst
        have hk3 : Kp (fun q => q = w.heap.size) w2 (w2.setCell ⟨w.heap.size, j, none⟩ (.int .u64 x)) := (Kp.refl _ w2).setCell _ _ (.inl rfl)
        have h0z := H.out.2.2.1.size
        have hG3 : ∀ q, q = w.heap.size → q < w2.heap.size → col2 q = 0 ∧ w0.heap.size ≤ q := fun q e _ => by subst e; exact ⟨g7 _ rfl, h0z⟩
        have hf := g6.frozenAt j
        obtain ⟨old, ho⟩ : ∃ old, w2.cell? ⟨w.heap.size, j, none⟩ = some old := by
          refine ⟨(words ws ++ List.replicate (n - j) (.int .u64 0))[j]'(by simp [words]; omega), ?_⟩
          rw [g6.cellAt j (by omega), List.getElem?_eq_getElem]
        have HK := Lib.hid (And.intro (((g1.trans k4).aside hk3 (fun q e _ => by omega))) (And.intro (k3.aside hk3 hG3) (And.intro (g3.trans k1) (And.intro k2 (And.intro (g5.snoc k7) (And.intro hst (And.intro (show recol col2 w2 0 w.heap.size = 0 by unfold recol; rw [if_pos hw0]; exact g7 _ rfl) (And.intro hwj (And.intro htj (And.intro hpos (And.intro g8 (And.intro g4 (fun i => And.intro (gV i) (kV i))))))))))))))
        clear g1 g3 g4 g5 g6 g7 g8 htj hwl hpos k1 k2 k3 k4 k7 hst hws hwj hk3 hG3 gV kV
        go_wp2_with fail
        go_roundg (n - (j + 1))
        case measure => omega
        case rel =>
          obtain ⟨g1, k3, g3, k2, g5, hst, g7, hwj, htj, hpos, g8, g4, gV⟩ := HK.out
          have e1 : it.take (j + 1) = it.take j ++ [tj] := by rw [List.take_add_one, htj]; rfl
          refine ⟨j + 1, _, S2, ws ++ [x], by omega, rfl, by go_num, ⟨g1, k3, g3, ⟨?_, fun i => ?_⟩, by rw [e1]; exact g5⟩, hst, g7, fun y hy => ?_⟩
          · rw [sum_take_succ (tsz h) htj]
            omega
          · rw [sum_take_succ (fun t => cost h t i) htj]
            have := gV i
            omega
          · rcases List.mem_append.1 hy with e | e
            · exact g8 y e
            · simp at e
              subst e
              exact ⟨k5, k6⟩
      · obtain ⟨_, g1, g3, g4, g5, ⟨g6, g7⟩, g8, htj, hwl, hpos, gV, _⟩ := HC.out
        have hsum := sum_take_le1 (tsz h) htj
        have hST : Stuck names (fun i => pot S i + ownCost 5 n 0 i + (it.map fun t => cost h t i).sum) S2 := kS.le fun i => by
          have h1 := gV i
          have h2 := sum_take_le1 (fun t => cost h t i) htj
          omega
        have HK := Lib.hid (And.intro (g3.trans k1) (And.intro k3 (And.intro (g1.trans k4) (And.intro k5 hST))))
        obtain ⟨g, rfl, _, _⟩ := k5
        clear g1 g3 g5 g6 g7 g8 htj hwl k1 k3 k4 gV kS hST
        go_wp2_with fail
        go_ret2
        obtain ⟨f1, f2, f3, f4, f5⟩ := HK.out
        exact ⟨S2, col2, f1, by omega, f2, f3, .inr ⟨_, op, nn, rfl, f4, f5⟩⟩
    · obtain rfl : n = j := by omega
      have hn := H.out.2.2.2.2.2.2.2
      have hwn : ws.length = n := by rw [hwl, List.length_take]; omega
      rw [Nat.sub_self] at g6
      have hW : WordsAt (fun q => q = w.heap.size) wr ws (.slice (some ⟨w.heap.size, 0, none⟩) n n) := row_words (l := ws) (by rw [hwn]; simpa using g6) fun g hg => by injection hg with hg; exact hg.symm
      have hK := H.out.2.2.2.2.2.2.1
      rw [← hn, List.take_length] at g4 g5
      have gV' : ∀ i, pot S' i ≤ pot S i + (it.map fun t => cost h t i).sum := fun i => by have := gV i; rwa [← hn, List.take_length] at this
      have hcall := block_ends g2 (by omega) 1 n (by omega) (by omega) (by omega) (by omega) hW (fun q e => by subst e; exact g7) (by omega) g8
      have HC := Lib.hid (And.intro hcall (And.intro g3 (And.intro g1 (And.intro g4 (And.intro g5 (And.intro hn (And.intro hwn gV')))))))
      clear hcall g1 g2 g3 g4 g5 g6 g7 g8 hW hK hwn hwl hn gV gV'
      go_wp2_with fail
      refine HC.out.1.mono ?_
      intro e w2 hE
      obtain ⟨S2, col2, k1, k2, k3, k4, ⟨x, rfl, k5, k6, k7, kV⟩ | ⟨v, op, nn, rfl, k5, kS⟩⟩ := id hE
      all_goals
        have HE := Lib.hid hE
        clear hE
      · clear k7 k1 k2 k3 k4 kV
        go_wp2_with fail
        go_ret2
        refine HE.out.from HC.out.2.1 HC.out.2.2.1 (by have := HC.out.2.2.2.1; omega) (fun y S3 hy => ⟨ws, S', HC.out.2.2.2.2.1, by rw [← HC.out.2.2.2.2.2.1] at hy ⊢; exact hy⟩) (fun i => by
          have := HC.out.2.2.2.2.2.2.2 i
          rw [HC.out.2.2.2.2.2.2.1]
          unfold ownCost
          by_cases e : i = 0
          · subst e
            simp only [if_pos]
            omega
          · simp only [if_neg e]
            omega)
      · obtain ⟨g, rfl, _, _⟩ := k5
        clear k1 k2 k3 k4 kS
        go_wp2_with fail
        go_ret2
        refine HE.out.from HC.out.2.1 HC.out.2.2.1 (by have := HC.out.2.2.2.1; omega) (fun y S3 hy => ⟨ws, S', HC.out.2.2.2.2.1, by rw [← HC.out.2.2.2.2.2.1] at hy ⊢; exact hy⟩) (fun i => by
          have := HC.out.2.2.2.2.2.2.2 i
          rw [HC.out.2.2.2.2.2.2.1]
          unfold ownCost
          by_cases e : i = 0
          · subst e
            simp only [if_pos]
            omega
          · simp only [if_neg e]
            omega)
end
end Go.Proofs.YtkcmfldcdokobaaGreatDoor
