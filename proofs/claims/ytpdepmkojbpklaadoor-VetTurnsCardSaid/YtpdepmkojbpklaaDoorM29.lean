/- What is wrong with any module. The statements' own modules and chains; an error's text. -/
import Derived.Test.YtpdepmkojbpklaaDoorM09
import Derived.Test.YtpdepmkojbpklaaDoorM17
import Derived.Test.YtpdepmkojbpklaaDoorM20
import Derived.Test.YtpdepmkojbpklaaDoorM28
/- What is wrong with any module. -/
namespace Go.Proofs.YtpdepmkojbpklaaDoor
open Go.RowKit

/-- a module that is right (hh: above its terms' heights) -/
structure RightM (tab : Nat → Int) (hh : Nat) (nm : ByteArray) (lits : List Tm) (fns : List Fn4) : Prop where
  rnm : nm.size ≤ 255
  rfew : lits.length ≤ 65536
  rone : 1 ≤ fns.length
  rmost : fns.length ≤ 256
  rlit : ∀ t ∈ lits, tok 200 t ∧ tsz hh t ≤ 65536
  rfn : ∀ (i : Nat) (f : Fn4), fns[i]? = some f → FunGoodA tab lits.length fns i f
/-- what whole tells of any module -/
def WholeA (tab : Nat → Int) (hh : Nat) (nm : ByteArray) (lits : List Tm) (fns : List Fn4) (w : World) (e : Ending) (w' : World) : Prop :=
  (e = .returned .nilIface ∧ Kp (fun _ => False) w w' ∧ RightM tab hh nm lits fns) ∨ ((∃ (a : Lk) (l : List Lk), EBad w id (a :: l) e w') ∧ ¬ RightM tab hh nm lits fns)
theorem function_allA {tab : Nat → Int} {F : Nat → Prop} {w : World} {nm : ByteArray} {fns : List Fn4} {pf : Option Addr} {n cf : Nat} (h : FnsAt F w fns (.slice pf n cf)) (hF : ∀ q, F q → q < w.heap.size)
    {pl : Option Addr} {nl cl : Nat} (hnl : nl ≤ 100000) (hnf : fns.length ≤ 100000) (i : Nat) (f : Fn4) (hf : fns[i]? = some f) (hFl : LaidF tab w) :
    Calls Tryd.prog 37 #[.agg #[.string nm, .slice pl nl cl, .slice pf n cf], .int .i64 i] w (FunPostA tab nl fns i f w) := by
  rcases hh : vhead fns i f with _ | _
  · exact (function_head h hF rfl i f hf hh).mono fun e w' h => ⟨.inr (.inl ⟨h.1, hh⟩), h.2⟩
  · exact functionA h hF rfl hnl hnf i f hf hFl hh
theorem ebad_kind (k : Int) (hk : k ≠ 0) {w w' : World} (h : Kp (fun _ => False) w w') : ∃ (a : Lk) (l : List Lk), EBad w id (a :: l) (.returned (.iface 42 (.int .i64 k))) w' :=
  ⟨Lk.kind k, [], _, rfl, .inl ⟨rfl, rfl, rfl, rfl, hk⟩, h⟩
set_option maxRecDepth 100000 in
set_option maxHeartbeats 4000000 in
theorem wholeA {tab : Nat → Int} {F : Nat → Prop} {w : World} {hh : Nat} {nm : ByteArray} {lits : List Tm} {pl : Option Addr} {nl cl : Nat} {fns : List Fn4} {pf : Option Addr} {nf cf : Nat} (hL : ListAt F w (TermAt F w hh) lits (.slice pl nl cl)) (h : FnsAt F w fns (.slice pf nf cf))
    (hF : ∀ q, F q → q < w.heap.size) (hFl : LaidF tab w) (hg : Laid0 w) :
    Calls Tryd.prog 22 #[.agg #[.string nm, .slice pl nl cl, .slice pf nf cf]] w (WholeA tab hh nm lits fns w) := by
  have hS := Lib.hid (And.intro hL h)
  obtain ⟨pl', cl', e, l1, l2, l3⟩ := hL
  simp only [Value.slice.injEq] at e
  obtain ⟨rfl, rfl, rfl⟩ := e
  obtain ⟨pf', cf', e, f1, f2, f3⟩ := h
  simp only [Value.slice.injEq] at e
  obtain ⟨rfl, rfl, rfl⟩ := e
  obtain ⟨w1, hw1⟩ : ∃ w1, w.alloc (.cells #[.string nm, .slice pl lits.length cl, .slice pf fns.length cf] 26) = w1 := ⟨_, rfl⟩
  have hk1 : Kp (fun _ => False) w w1 := by rw [← hw1]; exact (Kp.refl _ w).alloc _
  have hb : w1.heap[w.heap.size]? = some (.cells #[.string nm, .slice pl lits.length cl, .slice pf fns.length cf] 26 (0, 0)) := by rw [← hw1]; exact heap_alloc_new w _
  have y0 : w1.cell? ⟨w.heap.size, 0, none⟩ = some (.string nm) := by rw [cell_of_row w1 _ 0 _ _ _ hb]; rfl
  have y1 : w1.cell? ⟨w.heap.size, 1, none⟩ = some (.slice pl lits.length cl) := by rw [cell_of_row w1 _ 1 _ _ _ hb]; rfl
  have y2 : w1.cell? ⟨w.heap.size, 2, none⟩ = some (.slice pf fns.length cf) := by rw [cell_of_row w1 _ 2 _ _ _ hb]; rfl
  have H := Lib.hid (And.intro hF (And.intro hFl (And.intro trivial (And.intro hg (And.intro hk1 (And.intro hb (And.intro l3 f3)))))))
  clear l1 l2 l3 f1 f2 f3 hF hFl hg hk1 hb
  by_cases hn1 : (255 : Int) < nm.size
  · go_enter Tryd.func22, Tryd.ntmps22
    go_wp2_with fail
    go_ret
    exact .inr ⟨ebad_kind 11 (by decide) H.out.2.2.2.2.1, fun hr => by have := hr.rnm; omega⟩
  by_cases hn2 : (65536 : Int) < lits.length
  · go_enter Tryd.func22, Tryd.ntmps22
    go_wp2_with fail
    go_ret
    exact .inr ⟨ebad_kind 11 (by decide) H.out.2.2.2.2.1, fun hr => by have := hr.rfew; omega⟩
  rcases hwi : wi (fns.length : Int) 1 256 with _ | _
  · have HI := Lib.hid hwi
    clear hwi
    go_enter Tryd.func22, Tryd.ntmps22
    go_wp2_with fail
    refine (vin_any _ _ _ _).mono ?_
    rintro e w2 ⟨rfl, rfl⟩
    rw [HI.out]
    go_wp2_with fail
    go_ret
    exact .inr ⟨ebad_kind 11 (by decide) H.out.2.2.2.2.1, fun hr => by
      have := wi_true.2 (show (1 : Int) ≤ fns.length ∧ (fns.length : Int) ≤ 256 from ⟨by have := hr.rone; omega, by have := hr.rmost; omega⟩)
      rw [HI.out] at this
      cases this⟩
  have hfw := wi_true.1 hwi
  have hf1 : 1 ≤ fns.length := by omega
  have hf2 : fns.length ≤ 256 := by omega
  have hl1 : lits.length ≤ 65536 := by omega
  have hnm : nm.size ≤ 255 := by omega
  clear hfw
  have HWI := Lib.hid hwi
  clear hwi
  go_enter Tryd.func22, Tryd.ntmps22
  go_wp2_with fail
  refine (vin_any _ _ _ _).mono ?_
  rintro e w2 ⟨rfl, rfl⟩
  rw [HWI.out]
  go_wp2_with fail
  go_loopg [29] lits.length (fun gk jj wr => ∃ j : Nat, j ≤ lits.length ∧ gk = lits.length - j ∧ jj = .int .i64 j ∧ (∀ (i : Nat) (t : Tm), i < j → lits[i]? = some t → tok 200 t ∧ tsz hh t ≤ 65536) ∧ Kp (fun _ => False) w1 wr)
  case atStart => exact ⟨0, by omega, rfl, rfl, fun i t hi => by omega, Kp.refl _ _⟩
  case round =>
    obtain ⟨j, hj, hgk, rfl, hlo, hk⟩ := hrel
    by_cases hlt : j < lits.length
    · obtain ⟨t, hjt⟩ : ∃ t, lits[j]? = some t := ⟨lits[j], List.getElem?_eq_getElem hlt⟩
      obtain ⟨b, off, c0, c1, c2, c3, c4, c5, rfl, hb, a0, a1, a2, a3, a4, a5, hT⟩ := H.out.2.2.2.2.2.2.1 j t hjt
      obtain ⟨k, n, s, a, l, c, pa2, pl2, pd, pa3, pl3, pe, hc⟩ := hT.form
      simp only [List.cons.injEq, and_true] at hc
      obtain ⟨rfl, rfl, rfl, rfl, rfl, rfl⟩ := hc
      have hkw := H.out.2.2.2.2.1.trans' hk
      have x0 := keeps_cell hkw a0
      have x1 := keeps_cell hkw a1
      have x2 := keeps_cell hkw a2
      have x3 := keeps_cell hkw a3
      have x4 := keeps_cell hkw a4
      have x5 := keeps_cell hkw a5
      have hli : (j : Int) < lits.length := by omega
      obtain ⟨wq, hwq⟩ : ∃ wq, wr.alloc (.cells #[.int .i64 k, .int .i64 n, .string s, .slice a l c, .slice pa2 pl2 pd, .slice pa3 pl3 pe] 35) = wq := ⟨_, rfl⟩
      have hkq : Kp (fun _ => False) wr wq := by rw [← hwq]; exact (Kp.refl _ wr).alloc _
      have hbq : wq.heap[wr.heap.size]? = some (.cells #[.int .i64 k, .int .i64 n, .string s, .slice a l c, .slice pa2 pl2 pd, .slice pa3 pl3 pe] 35 (0, 0)) := by rw [← hwq]; exact heap_alloc_new wr _
      have z0 : wq.cell? ⟨wr.heap.size, 0, none⟩ = some (.int .i64 k) := by rw [cell_of_row wq _ 0 _ _ _ hbq]; rfl
      have z1 : wq.cell? ⟨wr.heap.size, 1, none⟩ = some (.int .i64 n) := by rw [cell_of_row wq _ 1 _ _ _ hbq]; rfl
      have z2 : wq.cell? ⟨wr.heap.size, 2, none⟩ = some (.string s) := by rw [cell_of_row wq _ 2 _ _ _ hbq]; rfl
      have z3 : wq.cell? ⟨wr.heap.size, 3, none⟩ = some (.slice a l c) := by rw [cell_of_row wq _ 3 _ _ _ hbq]; rfl
      have z4 : wq.cell? ⟨wr.heap.size, 4, none⟩ = some (.slice pa2 pl2 pd) := by rw [cell_of_row wq _ 4 _ _ _ hbq]; rfl
      have z5 : wq.cell? ⟨wr.heap.size, 5, none⟩ = some (.slice pa3 pl3 pe) := by rw [cell_of_row wq _ 5 _ _ _ hbq]; rfl
      have hTq := TermAt.imp (fun _ e => e) (fun b j u _ e => keeps_cell (hkw.trans' hkq) e) _ _ _ hT
      have H6 := Lib.hid (And.intro (hk.trans' hkq) (And.intro hTq (And.intro hlo hjt)))
      clear hk hkw hkq hbq hT hTq a0 a1 a2 a3 a4 a5 hjt hlo
      go_wp2_with fail
      refine (tright_deep H6.out.2.1).mono ?_
      rintro e w3 ⟨⟨rfl, hyes⟩ | ⟨⟨v3, n3, k3, rfl, hch3⟩, hno⟩, hk3⟩
      rotate_left
      · have hz3 : wq.heap.size ≤ w3.heap.size := hk3.size
        have hkw3 := H.out.2.2.2.2.1.trans' (H6.out.1.trans' hk3)
        obtain ⟨tt, xx, rfl⟩ : ∃ t x, v3 = .iface t x := by
          rcases id hch3 with h | ⟨h0, g, inner, hg, h1, h2, h3⟩
          · exact ⟨_, _, h.2.1⟩
          · exact ⟨_, _, h1⟩
        have HA := Lib.hid (at_chain ⟨#[108, 105, 116, 101, 114, 97, 108]⟩ j hch3 hz3)
        have H7 := Lib.hid (And.intro hkw3 (And.intro hno (H.out.2.2.2.2.1.trans' H6.out.1)))
        clear hk3 hch3 hz3 hkw3 hno
        go_wp2_with fail
        refine HA.out.mono ?_
        rintro e w4 ⟨v4, rfl, hch4, hk4⟩
        have H8 := Lib.hid (And.intro (hch4.le H7.out.2.2.size) (H7.out.1.trans' hk4))
        clear hch4 hk4
        go_wp2_with fail
        go_ret
        exact .inr ⟨⟨_, _, _, rfl, H8.out.1, H8.out.2⟩, fun hr => H7.out.2.1 (hr.rlit _ (List.mem_of_getElem? H6.out.2.2.2))⟩
      have H7 := Lib.hid (And.intro (H6.out.1.trans' hk3) hyes)
      clear hk3 hyes
      go_wp2_with fail
      go_roundg (lits.length - (j + 1))
      case measure => omega
      case rel => exact ⟨j + 1, by omega, rfl, by go_num, fun i t hi ht => by
        rcases Nat.lt_or_ge i j with h1 | h1
        · exact H6.out.2.2.1 i t h1 ht
        · obtain rfl : i = j := by omega
          obtain rfl := Option.some.inj (H6.out.2.2.2.symm.trans ht)
          exact H7.out.2, H7.out.1⟩
    · have hlt' : ¬ (j : Int) < lits.length := by omega
      have hlall : ∀ t ∈ lits, tok 200 t ∧ tsz hh t ≤ 65536 := fun t ht => by
        obtain ⟨i, hi, e⟩ := List.getElem_of_mem ht
        exact hlo i t (by omega) (by rw [List.getElem?_eq_getElem hi, e])
      have HLA := Lib.hid hlall
      clear hlall hlo
      have H6 := Lib.hid (H.out.2.2.2.2.1.trans' hk)
      have hb6 := (hk.block _ (Array.getElem?_eq_some_iff.1 H.out.2.2.2.2.2.1).1 (fun e => e)).trans H.out.2.2.2.2.2.1
      clear y0 y1 y2
      have y2 : wr.cell? ⟨w.heap.size, 2, none⟩ = some (.slice pf fns.length cf) := by rw [cell_of_row wr _ 2 _ _ _ hb6]; rfl
      have H8 := Lib.hid hb6
      clear hb6 hk
      go_wp2_with fail
      go_loopg [45] fns.length (fun gk jj wx => ∃ j : Nat, j ≤ fns.length ∧ gk = fns.length - j ∧ jj = .int .i64 j ∧ (∀ (i : Nat) (f : Fn4), i < j → fns[i]? = some f → FunGoodA tab lits.length fns i f) ∧ Kp (fun _ => False) wr wx)
      case atStart => exact ⟨0, by omega, rfl, rfl, fun i f hi => by omega, Kp.refl _ _⟩
      case round =>
        obtain ⟨i, hi, hgk2, rfl, hgo, hkx⟩ := hrel
        by_cases hlf : i < fns.length
        · obtain ⟨f, hif⟩ : ∃ f, fns[i]? = some f := ⟨fns[i], List.getElem?_eq_getElem hlf⟩
          have hii : (i : Int) < fns.length := by omega
          have hb7 := (hkx.block _ (Array.getElem?_eq_some_iff.1 H8.out).1 (fun e => e)).trans H8.out
          clear y2
          have q0 := (cell_of_row _ _ 0 _ _ _ hb7).trans rfl
          have q1 := (cell_of_row _ _ 1 _ _ _ hb7).trans rfl
          have q2 := (cell_of_row _ _ 2 _ _ _ hb7).trans rfl
          simp only [List.getElem?_toArray, List.getElem?_cons_succ, List.getElem?_cons_zero] at q0 q1 q2
          have hkw := H6.out.trans' hkx
          have HF := Lib.hid (function_allA (tab := tab) (nm := nm) (pl := pl) (nl := lits.length) (cl := cl) (hS.out.2.imp (fun _ e => e) (fun b j u _ e => keeps_cell hkw e)) (fun q e => by have := H.out.1 q e; have := hkw.size; omega) (by omega) (by omega) i f hif (H.out.2.1.kp hkw))
          have H9 := Lib.hid (And.intro hkw (And.intro hgo (And.intro hkx hif)))
          clear hkx hb7 hgo hkw
          go_wp2_with fail
          refine HF.out.mono ?_
          rintro e w5 ⟨hp, hk5⟩
          have hk05 := H9.out.1.trans' hk5
          have hg5 : Laid0 w5 := laid0_kp H.out.2.2.2.1 hk05
          rcases hp with ⟨rfl, hgood⟩ | ⟨rfl, hhd⟩ | ⟨p, k, rfl, hk0, hsl⟩
          · have H10 := Lib.hid (And.intro hgood (H9.out.2.2.1.trans' hk5))
            clear hk5 hk05 hg5 hgood
            go_wp2_with fail
            go_roundg (fns.length - (i + 1))
            case measure => omega
            case rel => exact ⟨i + 1, by omega, rfl, by go_num, fun i' f' hi' hf' => by
              rcases Nat.lt_or_ge i' i with h1 | h1
              · exact H9.out.2.1 i' f' h1 hf'
              · obtain rfl : i' = i := by omega
                obtain rfl := Option.some.inj (H9.out.2.2.2.symm.trans hf')
                exact H10.out.1, H10.out.2⟩
          · have H10 := Lib.hid (And.intro hk05 hhd)
            have HP := Lib.hid (placed_kind 11 w5 hg5)
            clear hk5 hk05 hg5 hhd
            go_wp2_with fail
            refine HP.out.mono ?_
            rintro e w6 ⟨rfl, hk6⟩
            have hz : w.heap.size ≤ w6.heap.size := (H10.out.1.trans' hk6).size
            go_wp2_with fail
            refine (at_chain fnS i (a := Lk.kind 11) (l := []) (B := w.heap.size) (.inl ⟨rfl, rfl, rfl, rfl, by decide⟩) hz).mono ?_
            rintro e w7 ⟨v7, rfl, hch, hk7⟩
            have H11 := Lib.hid (And.intro hch (H10.out.1.trans' (hk6.trans' hk7)))
            clear hk6 hk7 hch
            go_wp2_with fail
            go_ret
            exact .inr ⟨⟨_, _, _, rfl, H11.out.1, H11.out.2⟩, fun hr => by have := (hr.rfn i f H9.out.2.2.2).head; rw [H10.out.2] at this; cases this⟩
          · have H10 := Lib.hid (And.intro hk05 hsl)
            have HP := Lib.hid (placed_slip p k hk0 w5 hg5)
            clear hk5 hk05 hg5 hsl
            go_wp2_with fail
            refine HP.out.mono ?_
            rintro e w6 ⟨v6, rfl, hch6, hk6⟩
            have hz : w5.heap.size ≤ w6.heap.size := hk6.size
            simp only [id]
            go_wp2_with fail
            refine (at_chain fnS i hch6 hz).mono ?_
            rintro e w7 ⟨v7, rfl, hch, hk7⟩
            have H11 := Lib.hid (And.intro (hch.le H10.out.1.size) (H10.out.1.trans' (hk6.trans' hk7)))
            clear hk6 hk7 hch hch6
            go_wp2_with fail
            go_ret
            exact .inr ⟨⟨_, _, _, rfl, H11.out.1, H11.out.2⟩, fun hr => slipA_not H10.out.2 (hr.rfn i f H9.out.2.2.2)⟩
        · have hlf' : ¬ (i : Int) < fns.length := by omega
          have hall : ∀ (i : Nat) (f : Fn4), fns[i]? = some f → FunGoodA tab lits.length fns i f := fun i f hf => hgo i f (by have := (List.getElem?_eq_some_iff.1 hf).1; omega) hf
          have H9 := Lib.hid (And.intro (H6.out.trans' hkx) hall)
          clear hkx hall hgo
          go_wp2_with fail
          go_ret
          exact .inl ⟨rfl, H9.out.1, ⟨by omega, by omega, by omega, by omega, HLA.out, H9.out.2⟩⟩
end Go.Proofs.YtpdepmkojbpklaaDoor

/- The statements' own modules and chains; an error's text. -/
namespace Go.Proofs.YtpdepmkojbpklaaDoor
open Go.RowKit

theorem vthree_facts {w : World} {A : Nat} {c0 c1 c2 : Value} {T : TypeId} (h : w.heap[A]? = some (.cells #[c0, c1, c2] T (0, 0))) :
    w.cell? ⟨A, 0, none⟩ = some c0 ∧ w.cell? ⟨A, 1, none⟩ = some c1 ∧ w.cell? ⟨A, 2, none⟩ = some c2 :=
  ⟨by rw [cell_of_row w A 0 _ _ _ h]; rfl, by rw [cell_of_row w A 1 _ _ _ h]; rfl, by rw [cell_of_row w A 2 _ _ _ h]; rfl⟩

set_option maxRecDepth 100000 in
set_option maxHeartbeats 4000000 in
theorem one_any (v : Value) {po : Option Addr} {n c : Nat} (hv : v = .slice po n c) (w : World) : Calls Tryd.prog 10 #[v] w fun e w' => ∃ g, e = .returned (.agg #[.string ⟨#[]⟩, .slice none 0 0, .slice (some ⟨g, 0, none⟩) 1 1]) ∧
    w'.heap[g]? = some (.cells #[.string ⟨#[102]⟩, .int .i64 0, .int .i64 0, .slice po n c] 32 (0, 0)) ∧ w.heap.size ≤ g ∧ Kp (fun _ => False) w w' := by
  subst hv
  obtain ⟨w1, hw1⟩ : ∃ w1, w.alloc (.cells #[.string ⟨#[]⟩, .slice none 0 0, .slice (some ⟨w.heap.size + 1, 0, none⟩) 1 1] 26) = w1 := ⟨_, rfl⟩
  have hz1 : w1.heap.size = w.heap.size + 1 := by rw [← hw1]; simp
  go_enter Tryd.func10, Tryd.ntmps10
  have hb : w1.heap[w.heap.size]? = some (.cells #[.string ⟨#[]⟩, .slice none 0 0, .slice (some ⟨w.heap.size + 1, 0, none⟩) 1 1] 26 (0, 0)) := by rw [← hw1]; exact heap_alloc_new w _
  have hk : Kp (fun _ => False) w1 (w1.alloc (.cells #[.string ⟨#[102]⟩, .int .i64 0, .int .i64 0, .slice po n c] 32)) := (Kp.refl _ w1).alloc _
  obtain ⟨i0, i1, i2⟩ := vthree_facts ((hk.block _ (by omega) (fun e => e)).trans hb)
  have H := Lib.hid (And.intro hk ((Kp.refl (fun _ => False) w).alloc (.cells #[.string ⟨#[]⟩, .slice none 0 0, .slice (some ⟨w.heap.size + 1, 0, none⟩) 1 1] 26)))
  clear hk hb
  go_wp2_with fail
  refine bodyPost_ret (v := .agg #[.string ⟨#[]⟩, .slice none 0 0, .slice (some ⟨w.heap.size + 1, 0, none⟩) 1 1]) (by simp [results, Tryd.results10, go_sem, i0, i1, i2]) rfl ?_
  refine ⟨_, rfl, by rw [← hz1]; exact heap_alloc_new w1 _, by omega, ?_⟩
  have h2 := H.out.2
  rw [hw1] at h2
  exact h2.trans' H.out.1
set_option maxRecDepth 100000 in
set_option maxHeartbeats 4000000 in
theorem errno_jump (w : World) : Calls Tryd.prog 93 #[.int .i64 13] w fun e w' => e = .returned (.string ⟨#[106, 117, 109, 112]⟩) ∧ Kp (fun _ => False) w w' := by
  go_enter Tryd.func93, Tryd.ntmps93
  go_wp2_with fail
  go_ret
  exact ⟨rfl, (Kp.refl _ w).alloc _⟩
section
variable {P : Program} {w : World}
theorem vrun_inv {a : Act} {o : Oper} (x : Operand) (ho : o.op = .call { callee := .invoke x "Error", args := #[], argTypes := #[] }) {t : TypeId} {v : Value} {f : FuncId} (hx : a.eval x = .iface t v)
    (hm : ∀ w : World, (callMethod (.iface t v) "Error" #[]).run P w = .ok (.enter f #[v]) w) : (execOp a.eval o).run P w = .ok (.enter f #[v]) w := by
  unfold execOp
  simp only [ho, resolve, invoke, hx]
  simp [hm]
theorem vstep_inv {ops : Array Oper} {o : Oper} {a : Act} {K : Act → World → Prop} {Q : Exit → Act → World → Prop} {E : Prop} (hgd : o.guard = none) (x : Operand) (ho : o.op = .call { callee := .invoke x "Error", args := #[], argTypes := #[] })
    {t : TypeId} {v : Value} (f : FuncId) (hx : a.eval x = .iface t v) (hm : ∀ w : World, (callMethod (.iface t v) "Error" #[]).run P w = .ok (.enter f #[v]) w)
    (h : Calls P f #[v] w fun e w' => ∃ v, e = .returned v ∧ K (a.put o.dst v) w') : if Region.wanted o (yielded ops a.tmps) = true then Oper.wp P o a w K Q else E := by
  have hw : Region.wanted o (yielded ops a.tmps) = true := by simp [Region.wanted, hgd]
  rw [if_pos hw]
  unfold Oper.wp
  rw [vrun_inv x ho hx hm, Oper.upon_enter]
  refine h.mono ?_
  rintro e w' ⟨v, rfl, hK⟩
  exact hK
end
theorem cm_errno (k : Int) (w : World) : (callMethod (.iface 42 (.int .i64 k)) "Error" #[]).run Tryd.prog w = .ok (.enter 93 #[.int .i64 k]) w := by kernel_rfl
theorem cm_fault (p : Option Addr) (w : World) : (callMethod (.iface 64 (.pointer p)) "Error" #[]).run Tryd.prog w = .ok (.enter 94 #[.pointer p]) w := by kernel_rfl
/-- what an error says -/
def Says (w : World) (t : TypeId) (v : Value) (s : ByteArray) (f : FuncId) : Prop := (∀ w : World, (callMethod (.iface t v) "Error" #[]).run Tryd.prog w = .ok (.enter f #[v]) w) ∧ ∀ w1, Kp (fun _ => False) w w1 → Calls Tryd.prog f #[v] w1 fun e w' => e = .returned (.string s) ∧ Kp (fun _ => False) w1 w'
theorem says_jump (w : World) : Says w 42 (.int .i64 13) ⟨#[106, 117, 109, 112]⟩ 93 := ⟨cm_errno 13, fun w1 _ => errno_jump w1⟩
set_option maxRecDepth 100000 in
set_option maxHeartbeats 4000000 in
theorem says_fault (op : ByteArray) (n : Int) (g : Nat) (w : World) {t : TypeId} {v : Value} {s : ByteArray} {f : FuncId} (hs : Says w t v s f) (ho : op.size ≤ 100000) (hs1 : s.size ≤ 100000) (h : w.heap[g]? = some (.cells #[.string op, .int .i64 n, .iface t v] 66 (0, 0))) :
    Says w 64 (.pointer (some ⟨g, 0, none⟩)) (op ++ ⟨#[58, 32]⟩ ++ s) 94 := by
  refine ⟨cm_fault _, fun w1 hk => ?_⟩
  have h1 := (hk.block _ (Array.getElem?_eq_some_iff.1 h).1 (fun e => e)).trans h
  have y0 : w1.cell? ⟨g, 0, none⟩ = some (.string op) := by rw [cell_of_row w1 _ 0 _ _ _ h1]; rfl
  have y2 : w1.cell? ⟨g, 2, none⟩ = some (.iface t v) := by rw [cell_of_row w1 _ 2 _ _ _ h1]; rfl
  have c1 : ¬ 9223372036854775807 < op.size + 2 := by omega
  have c2 : ¬ 9223372036854775807 < (op ++ ⟨#[58, 32]⟩).size + s.size := by
    rw [ByteArray.size_append]
    have : (⟨#[58, 32]⟩ : ByteArray).size = 2 := rfl
    omega
  have c3 : ¬ 9223372036854775807 < op.size + 2 + s.size := by omega
  have H := Lib.hid (And.intro hs hk)
  clear h h1 hs hk
  go_enter Tryd.func94, Tryd.ntmps94
  go_wp2_with fail
  go_cut [2] (fun s2 wx => s2 = .string (op ++ ⟨#[58, 32]⟩ ++ s) ∧ Kp (fun _ => False) w1 wx)
  case first =>
    go_region_law (refine vstep_inv (by rfl) (.tmp 20) (by rfl) f (by first | rfl | (simp [Act.eval]; done) | simp [Act.eval, Act.put]) H.out.1.1 ?_; refine (H.out.1.2 _ (H.out.2.trans' (Kp.refl (fun _ => False) w1).drew)).mono ?_; rintro e w5 ⟨rfl, hk5⟩; have e0 := keeps_cell ((Kp.refl (fun _ => False) w1).drew.trans' hk5) y0; have e2 := keeps_cell ((Kp.refl (fun _ => False) w1).drew.trans' hk5) y2; refine ⟨_, rfl, ?_⟩)
    all_goals
      refine Met.intro ?_
      go_step
      go_meet
      exact ⟨rfl, (Kp.refl (fun _ => False) w1).drew.trans' hk5⟩
  case rest =>
    obtain ⟨rfl, hk5⟩ := hcut
    have HK := Lib.hid hk5
    clear hk5
    go_wp2_with fail
    go_ret
    exact ⟨rfl, HK.out⟩
end Go.Proofs.YtpdepmkojbpklaaDoor
