/- What is wrong with a module. Instructions in a row, and terms [] in a row. -/
import Derived.Test.YtpdepmkojbpklaaDoorM09
import Derived.Test.YtpdepmkojbpklaaDoorM17
import Derived.Test.YtpdepmkojbpklaaDoorM21
import Derived.Deep.AppendLies
/- What is wrong with a module. -/
namespace Go.Proofs.YtpdepmkojbpklaaDoor
open Go.RowKit

theorem function_any {F : Nat → Prop} {w : World} {nm : ByteArray} {fns : List Fn4} {pf : Option Addr} {n cf : Nat} (h : FnsAt F w fns (.slice pf n cf)) (hF : ∀ q, F q → q < w.heap.size)
    {pl : Option Addr} {nl cl : Nat} (hnl : nl ≤ 100000) (hnf : fns.length ≤ 100000) (i : Nat) (f : Fn4) (hf : fns[i]? = some f) (h12 : ∀ (p : Nat) (x : In4), f.code[p]? = some x → x.op ≠ 12) :
    Calls Tryd.prog 37 #[.agg #[.string nm, .slice pl nl cl, .slice pf n cf], .int .i64 i] w (FunPost nl fns i f w) := by
  rcases hh : vhead fns i f with _ | _
  · exact (function_head h hF rfl i f hf hh).mono fun e w' h => ⟨.inr (.inl ⟨h.1, hh⟩), h.2⟩
  · exact function_right h hF rfl hnl hnf i f hf h12 hh
set_option maxRecDepth 100000 in
set_option maxHeartbeats 4000000 in
theorem whole_any {F : Nat → Prop} {w : World} {hh : Nat} {nm : ByteArray} {lits : List Tm} {pl : Option Addr} {nl cl : Nat} {fns : List Fn4} {pf : Option Addr} {nf cf : Nat} (hL : ListAt F w (TermAt F w hh) lits (.slice pl nl cl)) (h : FnsAt F w fns (.slice pf nf cf))
    (hF : ∀ q, F q → q < w.heap.size) (hnm : nm.size ≤ 255) (hl1 : lits.length ≤ 65536) (hlr : ∀ t ∈ lits, tok 200 t ∧ tsz hh t ≤ 65536) (hf1 : 1 ≤ fns.length) (hf2 : fns.length ≤ 256)
    (h12 : ∀ (i : Nat) (f : Fn4) (p : Nat) (x : In4), fns[i]? = some f → f.code[p]? = some x → x.op ≠ 12) (hg : Laid0 w) :
    Calls Tryd.prog 22 #[.agg #[.string nm, .slice pl nl cl, .slice pf nf cf]] w (WholePost lits.length fns w) := by
  have hS := Lib.hid (And.intro hL h)
  obtain ⟨pl', cl', e, l1, l2, l3⟩ := hL
  simp only [Value.slice.injEq] at e
  obtain ⟨rfl, rfl, rfl⟩ := e
  obtain ⟨pf', cf', e, f1, f2, f3⟩ := h
  simp only [Value.slice.injEq] at e
  obtain ⟨rfl, rfl, rfl⟩ := e
  obtain ⟨w1, hw1⟩ : ∃ w1, w.alloc (.cells #[.string nm, .slice pl lits.length cl, .slice pf fns.length cf] 26) = w1 := ⟨_, rfl⟩
  have hk1 : Kp (fun _ => False) w w1 := by rw [← hw1]; exact (Kp.refl _ w).alloc _
  have hb : w1.heap[w.heap.size]? = some (.cells #[.string nm, .slice pl lits.length cl, .slice pf fns.length cf] 26 (0, 0)) := by rw [← hw1]; exact heap_alloc_new w _
  have y0 : w1.cell? ⟨w.heap.size, 0, none⟩ = some (.string nm) := by rw [cell_of_row w1 _ 0 _ _ _ hb]; rfl
  have y1 : w1.cell? ⟨w.heap.size, 1, none⟩ = some (.slice pl lits.length cl) := by rw [cell_of_row w1 _ 1 _ _ _ hb]; rfl
  have y2 : w1.cell? ⟨w.heap.size, 2, none⟩ = some (.slice pf fns.length cf) := by rw [cell_of_row w1 _ 2 _ _ _ hb]; rfl
  have hwi : wi (fns.length : Int) 1 256 = true := wi_true.2 (by omega)
  have g1 : ¬ (255 : Int) < nm.size := by omega
  have g2 : ¬ (65536 : Int) < lits.length := by omega
  have H := Lib.hid (And.intro hF (And.intro hlr (And.intro h12 (And.intro hg (And.intro hk1 (And.intro hb (And.intro l3 f3)))))))
  clear l1 l2 l3 f1 f2 f3 hF hlr h12 hg hk1 hb
  go_enter Tryd.func22, Tryd.ntmps22
  go_wp2_with fail
  refine (vin_any _ _ _ _).mono ?_
  rintro e w2 ⟨rfl, rfl⟩
  rw [hwi]
  go_wp2_with fail
  go_loopg [29] lits.length (fun gk jj wr => ∃ j : Nat, j ≤ lits.length ∧ gk = lits.length - j ∧ jj = .int .i64 j ∧ Kp (fun _ => False) w1 wr)
  case atStart => exact ⟨0, by omega, rfl, rfl, Kp.refl _ _⟩
  case round =>
    obtain ⟨j, hj, hgk, rfl, hk⟩ := hrel
    by_cases hlt : j < lits.length
    · obtain ⟨t, hjt⟩ : ∃ t, lits[j]? = some t := ⟨lits[j], List.getElem?_eq_getElem hlt⟩
      have hr := H.out.2.1 t (List.mem_of_getElem? hjt)
      obtain ⟨b, off, c0, c1, c2, c3, c4, c5, rfl, hb, a0, a1, a2, a3, a4, a5, hT⟩ := H.out.2.2.2.2.2.2.1 j t hjt
      obtain ⟨k, n, s, a, l, c, pa2, pl2, pd, pa3, pl3, pe, hc⟩ := hT.form
      simp only [List.cons.injEq, and_true] at hc
      obtain ⟨rfl, rfl, rfl, rfl, rfl, rfl⟩ := hc
      have hkw := H.out.2.2.2.2.1.trans' hk
      have x0 := keeps_cell hkw a0
      have x1 := keeps_cell hkw a1
      have x2 := keeps_cell hkw a2
      have x3 := keeps_cell hkw a3
      have x4 := keeps_cell hkw a4
      have x5 := keeps_cell hkw a5
      have hli : (j : Int) < lits.length := by omega
      obtain ⟨wq, hwq⟩ : ∃ wq, wr.alloc (.cells #[.int .i64 k, .int .i64 n, .string s, .slice a l c, .slice pa2 pl2 pd, .slice pa3 pl3 pe] 35) = wq := ⟨_, rfl⟩
      have hkq : Kp (fun _ => False) wr wq := by rw [← hwq]; exact (Kp.refl _ wr).alloc _
      have hbq : wq.heap[wr.heap.size]? = some (.cells #[.int .i64 k, .int .i64 n, .string s, .slice a l c, .slice pa2 pl2 pd, .slice pa3 pl3 pe] 35 (0, 0)) := by rw [← hwq]; exact heap_alloc_new wr _
      have z0 : wq.cell? ⟨wr.heap.size, 0, none⟩ = some (.int .i64 k) := by rw [cell_of_row wq _ 0 _ _ _ hbq]; rfl
      have z1 : wq.cell? ⟨wr.heap.size, 1, none⟩ = some (.int .i64 n) := by rw [cell_of_row wq _ 1 _ _ _ hbq]; rfl
      have z2 : wq.cell? ⟨wr.heap.size, 2, none⟩ = some (.string s) := by rw [cell_of_row wq _ 2 _ _ _ hbq]; rfl
      have z3 : wq.cell? ⟨wr.heap.size, 3, none⟩ = some (.slice a l c) := by rw [cell_of_row wq _ 3 _ _ _ hbq]; rfl
      have z4 : wq.cell? ⟨wr.heap.size, 4, none⟩ = some (.slice pa2 pl2 pd) := by rw [cell_of_row wq _ 4 _ _ _ hbq]; rfl
      have z5 : wq.cell? ⟨wr.heap.size, 5, none⟩ = some (.slice pa3 pl3 pe) := by rw [cell_of_row wq _ 5 _ _ _ hbq]; rfl
      have hTq := TermAt.imp (fun _ e => e) (fun b j u _ e => keeps_cell (hkw.trans' hkq) e) _ _ _ hT
      have H6 := Lib.hid (And.intro (hk.trans' hkq) (And.intro hTq hr))
      clear hk hkw hkq hbq hT hTq a0 a1 a2 a3 a4 a5 hr hjt
      go_wp2_with fail
      refine (tright_deep H6.out.2.1).mono ?_
      rintro e w3 ⟨⟨rfl, -⟩ | ⟨-, hno⟩, hk3⟩
      rotate_left
      · exact (hno H6.out.2.2).elim
      have H7 := Lib.hid (H6.out.1.trans' hk3)
      clear hk3
      go_wp2_with fail
      go_roundg (lits.length - (j + 1))
      case measure => omega
      case rel => exact ⟨j + 1, by omega, rfl, by go_num, H7.out⟩
    · have hlt' : ¬ (j : Int) < lits.length := by omega
      have H6 := Lib.hid (H.out.2.2.2.2.1.trans' hk)
      have hb6 := (hk.block _ (Array.getElem?_eq_some_iff.1 H.out.2.2.2.2.2.1).1 (fun e => e)).trans H.out.2.2.2.2.2.1
      clear y0 y1 y2
      have y2 : wr.cell? ⟨w.heap.size, 2, none⟩ = some (.slice pf fns.length cf) := by rw [cell_of_row wr _ 2 _ _ _ hb6]; rfl
      have H8 := Lib.hid hb6
      clear hb6 hk
      go_wp2_with fail
      go_loopg [45] fns.length (fun gk jj wx => ∃ j : Nat, j ≤ fns.length ∧ gk = fns.length - j ∧ jj = .int .i64 j ∧ (∀ (i : Nat) (f : Fn4), i < j → fns[i]? = some f → FunGood lits.length fns i f) ∧ Kp (fun _ => False) wr wx)
      case atStart => exact ⟨0, by omega, rfl, rfl, fun i f hi => by omega, Kp.refl _ _⟩
      case round =>
        obtain ⟨i, hi, hgk2, rfl, hgo, hkx⟩ := hrel
        by_cases hlf : i < fns.length
        · obtain ⟨f, hif⟩ : ∃ f, fns[i]? = some f := ⟨fns[i], List.getElem?_eq_getElem hlf⟩
          have hii : (i : Int) < fns.length := by omega
          have hb7 := (hkx.block _ (Array.getElem?_eq_some_iff.1 H8.out).1 (fun e => e)).trans H8.out
          clear y2
          have q0 := (cell_of_row _ _ 0 _ _ _ hb7).trans rfl
          have q1 := (cell_of_row _ _ 1 _ _ _ hb7).trans rfl
          have q2 := (cell_of_row _ _ 2 _ _ _ hb7).trans rfl
          simp only [List.getElem?_toArray, List.getElem?_cons_succ, List.getElem?_cons_zero] at q0 q1 q2
          have hkw := H6.out.trans' hkx
          have HF := Lib.hid (function_any (nm := nm) (pl := pl) (nl := lits.length) (cl := cl) (hS.out.2.imp (fun _ e => e) (fun b j u _ e => keeps_cell hkw e)) (fun q e => by have := H.out.1 q e; have := hkw.size; omega) (by omega) (by omega) i f hif (fun p x hp => H.out.2.2.1 i f p x hif hp))
          have H9 := Lib.hid (And.intro hkw (And.intro hgo (And.intro hkx hif)))
          clear hkx hb7 hgo hkw
          go_wp2_with fail
          refine HF.out.mono ?_
          rintro e w5 ⟨hp, hk5⟩
          have hk05 := H9.out.1.trans' hk5
          have hg5 : Laid0 w5 := laid0_kp H.out.2.2.2.1 hk05
          rcases hp with ⟨rfl, hgood⟩ | ⟨rfl, hhd⟩ | ⟨p, k, rfl, hk0, hsl⟩
          · have H10 := Lib.hid (And.intro hgood (H9.out.2.2.1.trans' hk5))
            clear hk5 hk05 hg5 hgood
            go_wp2_with fail
            go_roundg (fns.length - (i + 1))
            case measure => omega
            case rel => exact ⟨i + 1, by omega, rfl, by go_num, fun i' f' hi' hf' => by
              rcases Nat.lt_or_ge i' i with h1 | h1
              · exact H9.out.2.1 i' f' h1 hf'
              · obtain rfl : i' = i := by omega
                obtain rfl := Option.some.inj (H9.out.2.2.2.symm.trans hf')
                exact H10.out.1, H10.out.2⟩
          · have H10 := Lib.hid (And.intro hk05 hhd)
            have HP := Lib.hid (placed_kind 11 w5 hg5)
            clear hk5 hk05 hg5 hhd
            go_wp2_with fail
            refine HP.out.mono ?_
            rintro e w6 ⟨rfl, hk6⟩
            have hz : w.heap.size ≤ w6.heap.size := (H10.out.1.trans' hk6).size
            go_wp2_with fail
            refine (at_chain fnS i (a := Lk.kind 11) (l := []) (B := w.heap.size) (.inl ⟨rfl, rfl, rfl, rfl, by decide⟩) hz).mono ?_
            rintro e w7 ⟨v7, rfl, hch, hk7⟩
            have H11 := Lib.hid (And.intro hch (H10.out.1.trans' (hk6.trans' hk7)))
            clear hk6 hk7 hch
            go_wp2_with fail
            go_ret
            exact .inr ⟨i, f, _, H9.out.2.2.2, H9.out.2.1, .inl ⟨H10.out.2, rfl⟩, _, rfl, H11.out.1, H11.out.2⟩
          · have H10 := Lib.hid (And.intro hk05 hsl)
            have HP := Lib.hid (placed_slip p k hk0 w5 hg5)
            clear hk5 hk05 hg5 hsl
            go_wp2_with fail
            refine HP.out.mono ?_
            rintro e w6 ⟨v6, rfl, hch6, hk6⟩
            have hz : w5.heap.size ≤ w6.heap.size := hk6.size
            simp only [id]
            go_wp2_with fail
            refine (at_chain fnS i hch6 hz).mono ?_
            rintro e w7 ⟨v7, rfl, hch, hk7⟩
            have H11 := Lib.hid (And.intro (hch.le H10.out.1.size) (H10.out.1.trans' (hk6.trans' hk7)))
            clear hk6 hk7 hch hch6
            go_wp2_with fail
            go_ret
            exact .inr ⟨i, f, _, H9.out.2.2.2, H9.out.2.1, .inr ⟨p, k, H10.out.2, rfl⟩, _, rfl, H11.out.1, H11.out.2⟩
        · have hlf' : ¬ (i : Int) < fns.length := by omega
          have hall : ∀ (i : Nat) (f : Fn4), fns[i]? = some f → FunGood lits.length fns i f := fun i f hf => hgo i f (by have := (List.getElem?_eq_some_iff.1 hf).1; omega) hf
          have H9 := Lib.hid (And.intro (H6.out.trans' hkx) hall)
          clear hkx hall hgo
          go_wp2_with fail
          go_ret
          exact .inl ⟨rfl, H9.out.1, H9.out.2⟩
end Go.Proofs.YtpdepmkojbpklaaDoor

/- Instructions in a row, and terms [] in a row. -/
namespace Go.Proofs.YtpdepmkojbpklaaDoor
open Go.RowKit

theorem Tryd.vinfoIns : (Tryd.prog.info? 29).map (fun i => (i.zero, i.size, i.bytes)) = some (some (.agg #[.int .i64 0, .int .i64 0, .int .i64 0, .int .i64 0]), 4, 32) := by kernel_rfl
def vinsCells (l : List In4) : List Value := l.flatMap fun x => [.int .i64 x.op, .int .i64 x.a, .int .i64 x.b, .int .i64 x.c]
theorem vinsCells_len (l : List In4) : (vinsCells l).length = l.length * 4 := by
  induction l with
  | nil => rfl
  | cons x l ih => simp only [vinsCells, List.flatMap_cons, List.length_append, List.length_cons, List.length_nil] at ih ⊢; omega
/-- an instruction more is put behind the others -/
theorem vins_row {W0 k : Nat} {w : World} {v : Value} {l : List In4} (ho : w.ownsRow W0 29 4 v k (vinsCells l)) (hW : W0 ≤ w.heap.size) (hk : (k + 1) * 32 ≤ 140737488351232) (x : In4) :
    ∃ g cap w', (Builtin.append_ #[30, 30] 30 #[v, .slice (some ⟨w.heap.size, 0, none⟩) 1 1]).run Tryd.prog (w.alloc (.cells #[.int .i64 x.op, .int .i64 x.a, .int .i64 x.b, .int .i64 x.c] 29)) = .ok (.slice (some ⟨g, 0, none⟩) (k + 1) cap) w' ∧
      w'.ownsRow W0 29 4 (.slice (some ⟨g, 0, none⟩) (k + 1) cap) (k + 1) (vinsCells (l ++ [x])) ∧ Kp (fun q => v.ownBlock = some q) w w' ∧ (v.ownBlock = some g ∨ w.heap.size ≤ g) := by
  obtain ⟨i0, hi, hz0, hz1, hz2⟩ := info_parts Tryd.vinfoIns
  have hka : Kp (fun _ => False) w (w.alloc (.cells #[.int .i64 x.op, .int .i64 x.a, .int .i64 x.b, .int .i64 x.c] 29)) := (Kp.refl _ w).alloc _
  obtain ⟨g, cap, w', h1, h2, h3, h4, h5⟩ := run_append_lies (P := Tryd.prog) _ 30 30 W0 29 i0 (.agg #[.int .i64 0, .int .i64 0, .int .i64 0, .int .i64 0]) 4 32 Tryd.underlying30 hi hz0 hz1 hz2 rfl (by omega) v k _ (hka.row ho (fun _ _ e => e)) ⟨w.heap.size, 0, none⟩ 1 1 [.int .i64 x.op, .int .i64 x.a, .int .i64 x.b, .int .i64 x.c] rfl
    (World.news_of_block (cs := #[.int .i64 x.op, .int .i64 x.a, .int .i64 x.b, .int .i64 x.c]) (heap_alloc_new w _)) (by intro u hu; simp at hu; rcases hu with rfl | rfl | rfl | rfl <;> rfl) (by omega) (by unfold maxLen; omega) (by omega) (by simp; omega) (w.heap.size + 1) (by simp)
  refine ⟨g, cap, w', h1, ?_, ((Kp.refl _ w).alloc _).grown h3 (fun q hq => .inl hq), h4.imp id (fun e => by omega)⟩
  rw [show vinsCells (l ++ [x]) = vinsCells l ++ [.int .i64 x.op, .int .i64 x.a, .int .i64 x.b, .int .i64 x.c] by simp [vinsCells]]
  exact h2
/-- an own row of instructions -/
theorem vinsCells_at {W0 : Nat} {w : World} {v : Value} {l : List In4} (ho : w.ownsRow W0 29 4 v l.length (vinsCells l)) (hl : l.length * 32 ≤ 140737488351232) (hw : ∀ x ∈ l, x.wf) : CodeAt (Own W0 w) w l v := by
  have hel : ∀ (i : Nat) (x : In4), l[i]? = some x → (vinsCells l)[i * 4]? = some (.int .i64 x.op) ∧ (vinsCells l)[i * 4 + 1]? = some (.int .i64 x.a) ∧ (vinsCells l)[i * 4 + 2]? = some (.int .i64 x.b) ∧ (vinsCells l)[i * 4 + 3]? = some (.int .i64 x.c) := by
    clear ho hl hw
    induction l with
    | nil => intro i x hi; simp at hi
    | cons y l ih =>
      intro i x hi
      cases i with
      | zero => simp at hi; subst hi; exact ⟨rfl, rfl, rfl, rfl⟩
      | succ i =>
        obtain ⟨h0, h1, h2, h3⟩ := ih i x (by simpa using hi)
        have e : ∀ k, (vinsCells (y :: l))[(i + 1) * 4 + k]? = (vinsCells l)[i * 4 + k]? := fun k => by
          simp only [vinsCells, List.flatMap_cons]
          rw [List.getElem?_append_right (by simp; omega)]
          congr 1; simp; omega
        exact ⟨(e 0).trans h0, (e 1).trans h1, (e 2).trans h2, (e 3).trans h3⟩
  have hrow := ho
  rcases ho.2 with ⟨e, h0⟩ | ⟨g, cap, cur, e, hb, hg, hn, _⟩
  · obtain rfl := List.eq_nil_of_length_eq_zero h0
    exact ⟨none, 0, by rw [e]; rfl, by simp, by simp, fun i x hi => by simp at hi⟩
  · subst e
    refine ⟨some ⟨g, 0, none⟩, cap, rfl, hn, hl, fun i x hi => ?_⟩
    obtain ⟨h0, h1, h2, h3⟩ := hel i x hi
    have hlt := (List.getElem?_eq_some_iff.1 hi).1
    have hc : ∀ k u, k < 4 → (vinsCells l)[i * 4 + k]? = some u → w.cell? ⟨g, 0 + i * 4 + k, none⟩ = some u := fun k u hk e => by
      rw [Nat.zero_add, hrow.cellAt _ (by omega)]; exact e
    exact ⟨g, 0, rfl, ⟨hb, (Array.getElem?_eq_some_iff.1 hg).1⟩, hc 0 _ (by omega) h0, hc 1 _ (by omega) h1, hc 2 _ (by omega) h2, hc 3 _ (by omega) h3, hw x (List.mem_of_getElem? hi)⟩

theorem Tryd.vinfoTerm : (Tryd.prog.info? 35).map (fun i => (i.zero, i.size, i.bytes)) = some (some (.agg #[.int .i64 0, .int .i64 0, .string ByteArray.empty, .slice none 0 0, .slice none 0 0, .slice none 0 0]), 6, 104) := by kernel_rfl
def nilT : Tm := .mk 6 0 ⟨#[]⟩ [] [] []
def nilC : List Value := [.int .i64 6, .int .i64 0, .string ⟨#[]⟩, .slice none 0 0, .slice none 0 0, .slice none 0 0]
def nilCells : Nat → List Value
  | 0 => []
  | n + 1 => nilCells n ++ nilC
theorem nilCells_len : ∀ n, (nilCells n).length = n * 6
  | 0 => rfl
  | n + 1 => by simp only [nilCells, List.length_append, nilCells_len n, nilC, List.length_cons, List.length_nil]; omega
theorem nilCells_at : ∀ (n i k : Nat), i < n → k < 6 → (nilCells n)[i * 6 + k]? = nilC[k]?
  | 0, _, _, h, _ => by omega
  | n + 1, i, k, h, hk => by
    by_cases hi : i < n
    · rw [nilCells, List.getElem?_append_left (by rw [nilCells_len]; omega)]
      exact nilCells_at n i k hi hk
    · obtain rfl : i = n := by omega
      rw [nilCells, List.getElem?_append_right (by rw [nilCells_len]; omega), nilCells_len, show i * 6 + k - i * 6 = k from by omega]
/-- one more -/
theorem nil_row {W0 k : Nat} {w : World} {v : Value} (ho : w.ownsRow W0 35 6 v k (nilCells k)) (hW : W0 ≤ w.heap.size) (hk : (k + 1) * 104 ≤ 140737488351232) :
    ∃ g cap w', (Builtin.append_ #[23, 23] 23 #[v, .slice (some ⟨w.heap.size, 0, none⟩) 1 1]).run Tryd.prog (w.alloc (.cells #[.int .i64 6, .int .i64 0, .string ⟨#[]⟩, .slice none 0 0, .slice none 0 0, .slice none 0 0] 35)) = .ok (.slice (some ⟨g, 0, none⟩) (k + 1) cap) w' ∧
      w'.ownsRow W0 35 6 (.slice (some ⟨g, 0, none⟩) (k + 1) cap) (k + 1) (nilCells (k + 1)) ∧ Kp (fun q => v.ownBlock = some q) w w' ∧ (v.ownBlock = some g ∨ w.heap.size ≤ g) := by
  obtain ⟨i0, hi, hz0, hz1, hz2⟩ := info_parts Tryd.vinfoTerm
  have hka : Kp (fun _ => False) w (w.alloc (.cells #[.int .i64 6, .int .i64 0, .string ⟨#[]⟩, .slice none 0 0, .slice none 0 0, .slice none 0 0] 35)) := (Kp.refl _ w).alloc _
  obtain ⟨g, cap, w', h1, h2, h3, h4, h5⟩ := run_append_lies (P := Tryd.prog) _ 23 23 W0 35 i0 (.agg #[.int .i64 0, .int .i64 0, .string ByteArray.empty, .slice none 0 0, .slice none 0 0, .slice none 0 0]) 6 104 Tryd.underlying23 hi hz0 hz1 hz2 rfl (by omega) v k _ (hka.row ho (fun _ _ e => e)) ⟨w.heap.size, 0, none⟩ 1 1 nilC rfl
    (World.news_of_block (cs := #[.int .i64 6, .int .i64 0, .string ⟨#[]⟩, .slice none 0 0, .slice none 0 0, .slice none 0 0]) (heap_alloc_new w _)) (by intro u hu; simp [nilC] at hu; rcases hu with rfl | rfl | rfl | rfl <;> rfl) (by omega) (by unfold maxLen; omega) (by omega) (by simp; omega) (w.heap.size + 1) (by simp)
  exact ⟨g, cap, w', h1, h2, ((Kp.refl _ w).alloc _).grown h3 (fun q hq => .inl hq), h4.imp id (fun e => by omega)⟩
/-- a row of them, as terms -/
theorem nils_at {W0 n : Nat} {w : World} {v : Value} (ho : w.ownsRow W0 35 6 v n (nilCells n)) (hl : n * 104 ≤ 140737488351232) : ListAt (fun q => q < w.heap.size) w (TermAt (fun q => q < w.heap.size) w 1) (List.replicate n nilT) v := by
  have hrow := ho
  rcases ho.2 with ⟨e, h0⟩ | ⟨g, cap, cur, e, hb, hg, hn, _⟩
  · subst h0
    exact ⟨none, 0, by rw [e]; rfl, by simp, by simp, fun i x hi => by simp at hi⟩
  · subst e
    refine ⟨some ⟨g, 0, none⟩, cap, by simp, by simpa using hn, by simpa using hl, fun i x hi => ?_⟩
    rw [List.getElem?_replicate] at hi
    split at hi
    · rename_i hlt
      obtain rfl := (Option.some.inj hi)
      have hc : ∀ k u, k < 6 → nilC[k]? = some u → w.cell? ⟨g, 0 + i * 6 + k, none⟩ = some u := fun k u hk e => by
        rw [Nat.zero_add, hrow.cellAt _ (by omega), nilCells_at n i k hlt hk]; exact e
      refine ⟨g, 0, _, _, _, _, _, _, rfl, (Array.getElem?_eq_some_iff.1 hg).1, hc 0 _ (by omega) rfl, hc 1 _ (by omega) rfl, hc 2 _ (by omega) rfl, hc 3 _ (by omega) rfl, hc 4 _ (by omega) rfl, hc 5 _ (by omega) rfl, ?_⟩
      exact ⟨_, _, _, rfl, ⟨by decide, by decide, by decide, by decide, by unfold maxLen; decide⟩, ⟨none, 0, rfl, by simp, by simp, fun i t hi => by simp at hi⟩, ⟨none, 0, rfl, by simp, by simp, fun i t hi => by simp at hi⟩, ⟨none, 0, rfl, by simp, by simp, fun i t hi => by simp at hi⟩⟩
    · cases hi
theorem nils_right {n : Nat} : ∀ t ∈ List.replicate n nilT, tok 200 t ∧ tsz 1 t ≤ 65536 := by
  intro t ht
  obtain rfl := List.eq_of_mem_replicate ht
  exact ⟨⟨by simp [fitsB, fitsK], by simp, by simp⟩, by simp [tsz, nilT]⟩
end Go.Proofs.YtpdepmkojbpklaaDoor
