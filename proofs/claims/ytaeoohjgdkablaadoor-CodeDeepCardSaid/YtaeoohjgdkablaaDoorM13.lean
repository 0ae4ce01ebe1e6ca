/- code.Write of any module. The reader's arithmetic: groups of seven bits put together. -/
import Derived.Test.YtaeoohjgdkablaaDoorM04
import Derived.Test.YtaeoohjgdkablaaDoorM05
import Derived.Test.YtaeoohjgdkablaaDoorM12
import Derived.Lib.SlBytesConst
/- code.Write of any module. -/
namespace Go.Proofs.YtaeoohjgdkablaaDoor
open Go.RowKit

mutual
/-- how many parts a term has, each byte one too -/
def tsize : Tm → Nat
  | .mk _ _ _ it re bys => 1 + bys.length + tsizes it + tsizes re
def tsizes : List Tm → Nat
  | [] => 0
  | t :: ts => tsize t + tsizes ts
end
theorem tsizes_sum (f : Tm → Nat) : ∀ (l : List Tm), (∀ t ∈ l, f t = tsize t) → (l.map f).sum = tsizes l
  | [], _ => by simp [tsizes]
  | t :: l, h => by
    rw [List.map_cons, List.sum_cons, tsizes_sum f l (fun x hx => h x (List.mem_cons_of_mem _ hx)), h t List.mem_cons_self, tsizes]
theorem tsz_eq {F : Nat → Prop} {w : World} : ∀ {h : Nat} {T : Tm} {cs : List Value}, TermAt F w h T cs → tsz h T = tsize T
  | 0, _, _, ht => ht.elim
  | h + 1, .mk k n s it re bys, _, ht => by
    obtain ⟨vi, vr, vb, _, _, ⟨_, _, _, _, _, h1⟩, ⟨_, _, _, _, _, h2⟩, _⟩ := ht
    have e1 := tsizes_sum (tsz h) it (fun t htm => by
      obtain ⟨i, hi, rfl⟩ := List.getElem_of_mem htm
      obtain ⟨_, _, _, _, _, _, _, _, _, _, _, _, _, _, _, _, hp⟩ := h1 i _ (List.getElem?_eq_getElem hi)
      exact tsz_eq hp)
    have e2 := tsizes_sum (tsz h) re (fun t htm => by
      obtain ⟨i, hi, rfl⟩ := List.getElem_of_mem htm
      obtain ⟨_, _, _, _, _, _, _, _, _, _, _, _, _, _, _, _, hp⟩ := h2 i _ (List.getElem?_eq_getElem hi)
      exact tsz_eq hp)
    rw [tsz, tsize, e1, e2]
/-- a term that may be -/
def okT (T : Tm) : Prop := tok 200 T ∧ tsize T ≤ 65536
/-- a module that may be written -/
def okM (m : Md) : Prop := (∀ T ∈ m.lits, okT T) ∧ ∀ f ∈ m.funcs, fitsF f = true
def writeS : ByteArray := ⟨#[119, 114, 105, 116, 101]⟩

def WrOk (B : Nat) (w : World) (m : Md) (e : Ending) (w' : World) : Prop := ∃ po n c, e = .returned (.tuple #[.slice po n c, .nilIface]) ∧ BufAt B w' (.slice po n c) (encM m) ∧ Kb B w w'
def WrBad (B : Nat) (w : World) (m : Md) (e : Ending) (w' : World) : Prop := ∃ v, e = .returned (.tuple #[.slice none 0 0, v]) ∧ Kb B w w' ∧
  ((∃ (i : Nat) (T : Tm) (n k : Int), m.lits[i]? = some T ∧ ¬ okT T ∧ ChainB w.heap.size w' v [Lk.fault writeS i, Lk.fault termS n, Lk.kind k]) ∨
    ((∀ T ∈ m.lits, okT T) ∧ ∃ (i : Nat) (f : Fn4), m.funcs[i]? = some f ∧ fitsF f = false ∧ ChainB w.heap.size w' v [Lk.fault writeS i, Lk.kind 1]))
def WrPost (B : Nat) (w : World) (m : Md) (e : Ending) (w' : World) : Prop := (WrOk B w m e w' ∧ okM m) ∨ WrBad B w m e w'

theorem Lib.heap_alloc_marked (w : World) (o : Obj) : (w.alloc o).heap[w.heap.size]? = some o := by show (w.heap.push o)[w.heap.size]? = _; simp
theorem encFs_drop {l : List Fn4} {j : Nat} {f : Fn4} (h : l[j]? = some f) : encFs (l.drop j) = encF f ++ encFs (l.drop (j + 1)) := by
  obtain ⟨hl, rfl⟩ := List.getElem?_eq_some_iff.1 h
  unfold encFs
  rw [List.drop_eq_getElem_cons hl, List.flatMap_cons]

set_option maxRecDepth 100000 in
set_option maxHeartbeats 4000000 in
theorem write_any {B h : Nat} {w : World} {m : Md} {cs : List Value} (hB : B ≤ w.heap.size) (hm : MdAt (fun q => q < B) w h m cs) (hl : (encM m).length + 40 ≤ 70368744177664) :
    Calls Tryd.prog 8 #[.agg cs.toArray] w (WrPost B w m) := by
  obtain ⟨vl, vf, rfl, hnm, hlits, hfuncs⟩ := hm
  obtain ⟨name, lits, funcs⟩ := m
  obtain ⟨pl, cl, rfl, hl1, hl2, hl3⟩ := hlits
  obtain ⟨pf, cf, rfl, hf1, hf2, hf3⟩ := hfuncs
  simp only at hnm hl1 hl2 hl3 hf1 hf2 hf3 ⊢
  have hns : name.data.toList.length = name.size := Array.length_toList
  have Hl : Hid (4 + (encB name.data.toList).length + (encL lits).length + (encNat funcs.length).length + (encFs funcs).length + 40 ≤ 70368744177664 ∧ name.size ≤ (encB name.data.toList).length) := Lib.hid (by
    simp only [encM, List.length_append, List.length_cons, List.length_nil] at hl
    refine ⟨by omega, ?_⟩
    simp only [encB, List.length_append, hns]; omega)
  obtain ⟨w1, hw1⟩ : ∃ w1, w.alloc (.cells #[.string name, .slice pl lits.length cl, .slice pf funcs.length cf] 33) = w1 := ⟨_, rfl⟩
  have hk1 : Kp (fun _ => False) w w1 := by rw [← hw1]; exact (Kp.refl _ w).alloc _
  have hbx : w1.heap[w.heap.size]? = some (.cells #[.string name, .slice pl lits.length cl, .slice pf funcs.length cf] 33 (0, 0)) := by rw [← hw1]; exact heap_alloc_new w _
  have hz1 : w1.heap.size = w.heap.size + 1 := by rw [← hw1]; simp
  obtain ⟨w2, hw2⟩ : ∃ w2, w1.alloc (.cells #[.int .u8 84, .int .u8 82, .int .u8 80, .int .u8 69] 5 (4, 5)) = w2 := ⟨_, rfl⟩
  have hcv := Lib.run_convert_bytes_const (P := Tryd.prog) w1 23 5 #[.int .u8 84, .int .u8 82, .int .u8 80, .int .u8 69] 4 4 Tryd.underlying23 Tryd.underlying5
  rw [show (#[Value.int .u8 84, .int .u8 82, .int .u8 80, .int .u8 69].size, #[Value.int .u8 84, .int .u8 82, .int .u8 80, .int .u8 69].size + 1) = ((4, 5) : Nat × Nat) from rfl, hw2, hz1] at hcv
  have hk2 : Kp (fun _ => False) w1 w2 := by rw [← hw2]; exact (Kp.refl _ w1).alloc _
  have hbb : w2.heap[w.heap.size + 1]? = some (.cells #[.int .u8 84, .int .u8 82, .int .u8 80, .int .u8 69] 5 (4, 5)) := by rw [← hw2, ← hz1]; exact Lib.heap_alloc_marked w1 _
  have hb2 : BufAt B w2 (.slice (some ⟨w.heap.size + 1, 0, none⟩) 4 4) [84, 82, 80, 69] :=
    ⟨.inr ⟨_, _, rfl, by omega, hbb, rfl⟩, by have := hk1.size; have := hk2.size; omega⟩
  have hbx2 := (hk2.block _ (Array.getElem?_eq_some_iff.1 hbx).1 (fun e => e)).trans hbx
  have c0 : w2.cell? ⟨w.heap.size, 0, none⟩ = some (.string name) := by rw [cell_of_row w2 _ 0 _ _ _ hbx2]; rfl
  have H2 := Lib.hid (And.intro hb2 (And.intro ((Kb.of (B := B) hk1).trans (Kb.of hk2)) (And.intro hbx2 (And.intro hl3 hf3))))
  clear hb2 hk1 hk2 hbx hbx2 hbb hl3 hf3 hl hns hnm
  go_enter Tryd.func8, Tryd.ntmps8
  go_wp2_with fail
  clear hw1 hw2 c0 hz1 hcv
  refine (wbytes_string name H2.out.1 (by have := Hl.out; simp only [List.length_cons, List.length_nil]; omega)).mono ?_
  rintro e w3 ⟨p3, n3, q3, rfl, hb3, hk3⟩
  have hbx := hk3.heap (by decide) H2.out.2.2.1
  have c1 : w3.cell? ⟨w.heap.size, 1, none⟩ = some (.slice pl lits.length cl) := by rw [cell_of_row w3 _ 1 _ _ _ hbx]; rfl
  have H3 := Lib.hid (And.intro hb3 (And.intro (H2.out.2.1.trans hk3) hbx))
  clear hb3 hk3 hbx
  go_wp2_with fail
  clear c1
  refine (wcount_any lits.length H3.out.1 (by omega) (by have := Hl.out; simp only [List.length_append, List.length_cons, List.length_nil]; omega)).mono ?_
  rintro e w4 ⟨p4, n4, q4, rfl, hb4, hk4⟩
  have hbx := hk4.heap (by decide) H3.out.2.2
  have c1 : w4.cell? ⟨w.heap.size, 1, none⟩ = some (.slice pl lits.length cl) := by rw [cell_of_row w4 _ 1 _ _ _ hbx]; rfl
  have H4 := Lib.hid (And.intro hb4 (And.intro (H3.out.2.1.trans hk4) hbx))
  clear hb4 hk4 hbx H3
  go_wp2_with fail
  clear c1
  go_loopg [4, 23] lits.length (fun gk vv jj wr => ∃ (j : Nat) (cur : List UInt8), j ≤ lits.length ∧ gk = lits.length - j ∧ jj = .int .i64 j ∧ BufAt B wr vv cur ∧ cur ++ encTs (lits.drop j) = [84, 82, 80, 69] ++ (encB name.data.toList ++ encL lits) ∧ Kb B w wr ∧ wr.heap[w.heap.size]? = some (.cells #[.string name, .slice pl lits.length cl, .slice pf funcs.length cf] 33 (0, 0)) ∧ ∀ (i : Nat) (T : Tm), i < j → lits[i]? = some T → okT T)
  case atStart => exact ⟨0, _, by omega, rfl, rfl, H4.out.1, by simp [encL], H4.out.2.1, H4.out.2.2, fun i T h => by omega⟩
  case round =>
    clear H4
    obtain ⟨j, cur, hj, rfl, rfl, hb, he, hk, hbx, hok⟩ := hrel
    obtain ⟨pw, pd, rfl, _⟩ := hb.form
    by_cases hlt : j < lits.length
    · obtain ⟨T, hjt⟩ : ∃ t, lits[j]? = some t := ⟨lits[j], List.getElem?_eq_getElem hlt⟩
      obtain ⟨b, off, q0, q1, q2, q3, q4, q5, rfl, hF, a0, a1, a2, a3, a4, a5, htT⟩ := H2.out.2.2.2.1 j T hjt
      obtain ⟨jk, jn, js, ja, jl, jc, ja2, jl2, jd, ja3, jl3, je, hq⟩ := htT.form
      simp only [List.cons.injEq, and_true] at hq
      obtain ⟨rfl, rfl, rfl, rfl, rfl, rfl⟩ := hq
      have kc : ∀ i u, w.cell? ⟨b, i, none⟩ = some u → wr.cell? ⟨b, i, none⟩ = some u := fun i u e => cells_kp hk (F := fun q => q < B) (fun q e e2 => by have := e2.1; omega) b i u hF e
      have x0 := kc _ _ a0
      have x1 := kc _ _ a1
      have x2 := kc _ _ a2
      have x3 := kc _ _ a3
      have x4 := kc _ _ a4
      have x5 := kc _ _ a5
      have hli : (j : Int) < lits.length := by omega
      have htr := hk.term htT
      have hsp := encTs_take hjt
      have hsz := tsz_eq htT
      obtain ⟨wq, hwq⟩ : ∃ wq, wr.alloc (.cells #[.int .i64 jk, .int .i64 jn, .string js, .slice ja jl jc, .slice ja2 jl2 jd, .slice ja3 jl3 je] 25) = wq := ⟨_, rfl⟩
      have hkq : Kp (fun _ => False) wr wq := by rw [← hwq]; exact (Kp.refl _ wr).alloc _
      have hbq : wq.heap[wr.heap.size]? = some (.cells #[.int .i64 jk, .int .i64 jn, .string js, .slice ja jl jc, .slice ja2 jl2 jd, .slice ja3 jl3 je] 25 (0, 0)) := by rw [← hwq]; exact heap_alloc_new wr _
      have y0 : wq.cell? ⟨wr.heap.size, 0, none⟩ = some (.int .i64 jk) := by rw [cell_of_row wq _ 0 _ _ _ hbq]; rfl
      have y1 : wq.cell? ⟨wr.heap.size, 1, none⟩ = some (.int .i64 jn) := by rw [cell_of_row wq _ 1 _ _ _ hbq]; rfl
      have y2 : wq.cell? ⟨wr.heap.size, 2, none⟩ = some (.string js) := by rw [cell_of_row wq _ 2 _ _ _ hbq]; rfl
      have y3 : wq.cell? ⟨wr.heap.size, 3, none⟩ = some (.slice ja jl jc) := by rw [cell_of_row wq _ 3 _ _ _ hbq]; rfl
      have y4 : wq.cell? ⟨wr.heap.size, 4, none⟩ = some (.slice ja2 jl2 jd) := by rw [cell_of_row wq _ 4 _ _ _ hbq]; rfl
      have y5 : wq.cell? ⟨wr.heap.size, 5, none⟩ = some (.slice ja3 jl3 je) := by rw [cell_of_row wq _ 5 _ _ _ hbq]; rfl
      have H := Lib.hid (And.intro (hb.kp hkq) (And.intro ((Kb.of (B := B) hkq).term htr) (And.intro (hk.trans (Kb.of hkq)) (And.intro he (And.intro hsp (And.intro ((hkq.block _ (Array.getElem?_eq_some_iff.1 hbx).1 (fun e => e)).trans hbx) (And.intro hok (And.intro hjt (And.intro hbq hsz)))))))))
      clear hkq hk he hsp htr kc a0 a1 a2 a3 a4 a5 htT hjt hb hbx hok hbq hsz
      go_wp2_with fail
      clear hwq
      refine (tright_deep H.out.2.1).mono ?_
      rintro e w5 ⟨⟨rfl, hok1, hok2⟩ | ⟨⟨v, n, k, rfl, hch⟩, hno⟩, hk5⟩
      · rw [H.out.2.2.2.2.2.2.2.2.2] at hok2
        have hbq := (hk5.block _ (Array.getElem?_eq_some_iff.1 H.out.2.2.2.2.2.2.2.2.1).1 (fun e => e)).trans H.out.2.2.2.2.2.2.2.2.1
        have z0 : w5.cell? ⟨wr.heap.size, 0, none⟩ = some (.int .i64 jk) := by rw [cell_of_row w5 _ 0 _ _ _ hbq]; rfl
        have z1 : w5.cell? ⟨wr.heap.size, 1, none⟩ = some (.int .i64 jn) := by rw [cell_of_row w5 _ 1 _ _ _ hbq]; rfl
        have z2 : w5.cell? ⟨wr.heap.size, 2, none⟩ = some (.string js) := by rw [cell_of_row w5 _ 2 _ _ _ hbq]; rfl
        have z3 : w5.cell? ⟨wr.heap.size, 3, none⟩ = some (.slice ja jl jc) := by rw [cell_of_row w5 _ 3 _ _ _ hbq]; rfl
        have z4 : w5.cell? ⟨wr.heap.size, 4, none⟩ = some (.slice ja2 jl2 jd) := by rw [cell_of_row w5 _ 4 _ _ _ hbq]; rfl
        have z5 : w5.cell? ⟨wr.heap.size, 5, none⟩ = some (.slice ja3 jl3 je) := by rw [cell_of_row w5 _ 5 _ _ _ hbq]; rfl
        have hbx := (hk5.block _ (Array.getElem?_eq_some_iff.1 H.out.2.2.2.2.2.1).1 (fun e => e)).trans H.out.2.2.2.2.2.1
        have H5 := Lib.hid (And.intro (H.out.1.kp hk5) (And.intro ((Kb.of (B := B) hk5).term H.out.2.1) (And.intro (H.out.2.2.1.trans (Kb.of hk5)) (And.intro hok1 (And.intro hok2 hbx)))))
        clear hok1 hok2 hk5 hbq hbx y0 y1 y2 y3 y4 y5
        go_wp2_with fail
        refine (wt_all h B T 200 w5 _ cur _ H5.out.1 H5.out.2.1 H5.out.2.2.2.1 (by
          have h1 := congrArg List.length H.out.2.2.2.1
          rw [H.out.2.2.2.2.1] at h1
          have h2 := Hl.out
          simp only [List.length_append, List.length_cons, List.length_nil] at h1 h2 ⊢
          omega)).mono ?_
        rintro e w6 ⟨p6, n6, c6, rfl, hb6, hk6⟩
        have H6 := Lib.hid (And.intro hb6 (And.intro (H5.out.2.2.1.trans hk6) (hk6.heap (by decide) H5.out.2.2.2.2.2)))
        clear hb6 hk6 z0 z1 z2 z3 z4 z5
        go_wp2_with fail
        go_roundg (lits.length - (j + 1))
        case measure => omega
        case rel => exact ⟨j + 1, _, by omega, rfl, by go_num, H6.out.1, by rw [← H.out.2.2.2.1, H.out.2.2.2.2.1, List.append_assoc], H6.out.2.1, H6.out.2.2, fun i T' hi hT' => by
          rcases Nat.lt_or_ge i j with h1 | h1
          · exact H.out.2.2.2.2.2.2.1 i T' h1 hT'
          · obtain rfl : i = j := by omega
            obtain rfl := Option.some.inj (H.out.2.2.2.2.2.2.2.1.symm.trans hT')
            exact ⟨H5.out.2.2.2.1, H5.out.2.2.2.2.1⟩⟩
      · obtain ⟨gv, rfl⟩ := hch.out.form
        rw [H.out.2.2.2.2.2.2.2.2.2] at hno
        have H5 := Lib.hid (And.intro (hch.le (Nat.le_trans H.out.2.2.1.size (Nat.le_refl _))) (And.intro (H.out.2.2.1.trans (Kb.of hk5)) hno))
        clear hch hk5 hno y0 y1 y2 y3 y4 y5
        go_wp2_with (go_at_call 19; refine (at_any _ _ _ _ _).mono ?_; rintro e w' ⟨rfl, rfl⟩)
        go_ret2
        exact .inr ⟨_, rfl, H5.out.2.1.trans (Kb.of ((Kp.refl _ w5).alloc _)), .inl ⟨j, T, n, k, H.out.2.2.2.2.2.2.2.1, fun hx => H5.out.2.2 ⟨hx.1, hx.2⟩, ChainB.cons writeS j (ChainB.kp ((Kp.refl (fun _ => False) w5).alloc _) (fun _ e => e.elim) H5.out.1) H5.out.2.1.size (heap_alloc_new w5 _)⟩⟩
    · obtain rfl : j = lits.length := by omega
      rw [List.drop_length, encTs, List.append_nil] at he
      have hlits : ∀ T ∈ lits, okT T := fun T hT => by
        obtain ⟨i, hi, rfl⟩ := List.getElem_of_mem hT
        exact hok i _ hi (List.getElem?_eq_getElem hi)
      have c2 : wr.cell? ⟨w.heap.size, 2, none⟩ = some (.slice pf funcs.length cf) := by rw [cell_of_row wr _ 2 _ _ _ hbx]; rfl
      have H := Lib.hid (And.intro hb (And.intro he (And.intro hk (And.intro hbx hlits))))
      clear hb he hk hbx hok hlits
      go_wp2_with fail
      clear c2
      refine (wcount_any funcs.length H.out.1 (by omega) (by
        have h1 := congrArg List.length H.out.2.1
        have h2 := Hl.out
        simp only [List.length_append, List.length_cons, List.length_nil] at h1 h2 ⊢
        omega)).mono ?_
      rintro e w5 ⟨p5, n5, q5, rfl, hb5, hk5⟩
      have hbx := hk5.heap (by decide) H.out.2.2.2.1
      have c2 : w5.cell? ⟨w.heap.size, 2, none⟩ = some (.slice pf funcs.length cf) := by rw [cell_of_row w5 _ 2 _ _ _ hbx]; rfl
      have H5 := Lib.hid (And.intro hb5 (And.intro (H.out.2.2.1.trans hk5) hbx))
      clear hb5 hk5 hbx
      go_wp2_with fail
      clear c2
      go_loopg [4, 47] funcs.length (fun gk vv jj wr => ∃ (j : Nat) (cur : List UInt8), j ≤ funcs.length ∧ gk = funcs.length - j ∧ jj = .int .i64 j ∧ BufAt B wr vv cur ∧ cur ++ encFs (funcs.drop j) = encM ⟨name, lits, funcs⟩ ∧ Kb B w wr ∧ ∀ (i : Nat) (f : Fn4), i < j → funcs[i]? = some f → fitsF f = true)
      case atStart => exact ⟨0, _, by omega, rfl, rfl, H5.out.1, by rw [H.out.2.1]; simp [encM], H5.out.2.1, fun i f h => by omega⟩
      case round =>
        clear H5
        obtain ⟨j, cur2, hj, rfl, rfl, hb, he, hk, hok⟩ := hrel
        obtain ⟨pw2, pd2, rfl, _⟩ := hb.form
        by_cases hlt : j < funcs.length
        · obtain ⟨f, hjf⟩ : ∃ f, funcs[j]? = some f := ⟨funcs[j], List.getElem?_eq_getElem hlt⟩
          obtain ⟨b, off, q0, q1, q2, q3, rfl, hF, a0, a1, a2, a3, hfA⟩ := H2.out.2.2.2.2 j f hjf
          obtain ⟨vc, hq, _, _, _, hcf⟩ := id hfA
          obtain ⟨pc, nc, cc, rfl⟩ := hcf.form
          clear hcf
          simp only [List.cons.injEq, and_true] at hq
          obtain ⟨rfl, rfl, rfl, rfl⟩ := hq
          have kc : ∀ i u, w.cell? ⟨b, i, none⟩ = some u → wr.cell? ⟨b, i, none⟩ = some u := fun i u e => cells_kp hk (F := fun q => q < B) (fun q e e2 => by have := e2.1; omega) b i u hF e
          have x0 := kc _ _ a0
          have x1 := kc _ _ a1
          have x2 := kc _ _ a2
          have x3 := kc _ _ a3
          have hli : (j : Int) < funcs.length := by omega
          have hsp := encFs_drop hjf
          obtain ⟨wq, hwq⟩ : ∃ wq, wr.alloc (.cells #[.string f.name, .int .i64 f.args, .int .i64 f.slots, .slice pc nc cc] 30) = wq := ⟨_, rfl⟩
          have hkq : Kp (fun _ => False) wr wq := by rw [← hwq]; exact (Kp.refl _ wr).alloc _
          have hbq : wq.heap[wr.heap.size]? = some (.cells #[.string f.name, .int .i64 f.args, .int .i64 f.slots, .slice pc nc cc] 30 (0, 0)) := by rw [← hwq]; exact heap_alloc_new wr _
          have y0 : wq.cell? ⟨wr.heap.size, 0, none⟩ = some (.string f.name) := by rw [cell_of_row wq _ 0 _ _ _ hbq]; rfl
          have y1 : wq.cell? ⟨wr.heap.size, 1, none⟩ = some (.int .i64 f.args) := by rw [cell_of_row wq _ 1 _ _ _ hbq]; rfl
          have y2 : wq.cell? ⟨wr.heap.size, 2, none⟩ = some (.int .i64 f.slots) := by rw [cell_of_row wq _ 2 _ _ _ hbq]; rfl
          have y3 : wq.cell? ⟨wr.heap.size, 3, none⟩ = some (.slice pc nc cc) := by rw [cell_of_row wq _ 3 _ _ _ hbq]; rfl
          have hfq : FnAt (fun q => q < B) wq f [.string f.name, .int .i64 f.args, .int .i64 f.slots, .slice pc nc cc] := (hfA.imp (fun _ e => e) (cells_kp hk (F := fun q => q < B) (fun q e e2 => by have := e2.1; omega))).imp (fun _ e => e) (cells_kp hkq (fun _ _ e => e))
          have H6 := Lib.hid (And.intro (hb.kp hkq) (And.intro hfq (And.intro (hk.trans (Kb.of hkq)) (And.intro he (And.intro hsp (And.intro hok (And.intro hjf hbq)))))))
          clear hkq hk he hsp kc a0 a1 a2 a3 hfA hjf hb hok hbq hfq
          by_cases hff : fitsF f = true
          · go_wp2_with fail
            clear hwq
            refine (cfits_any H6.out.2.1).mono ?_
            rintro e w6 ⟨rfl, hk6⟩
            have hbq := (hk6.block _ (Array.getElem?_eq_some_iff.1 H6.out.2.2.2.2.2.2.2).1 (fun e => e)).trans H6.out.2.2.2.2.2.2.2
            have z0 : w6.cell? ⟨wr.heap.size, 0, none⟩ = some (.string f.name) := by rw [cell_of_row w6 _ 0 _ _ _ hbq]; rfl
            have z1 : w6.cell? ⟨wr.heap.size, 1, none⟩ = some (.int .i64 f.args) := by rw [cell_of_row w6 _ 1 _ _ _ hbq]; rfl
            have z2 : w6.cell? ⟨wr.heap.size, 2, none⟩ = some (.int .i64 f.slots) := by rw [cell_of_row w6 _ 2 _ _ _ hbq]; rfl
            have z3 : w6.cell? ⟨wr.heap.size, 3, none⟩ = some (.slice pc nc cc) := by rw [cell_of_row w6 _ 3 _ _ _ hbq]; rfl
            have H7 := Lib.hid (And.intro (H6.out.1.kp hk6) (And.intro (H6.out.2.1.imp (fun _ e => e) (cells_kp hk6 (fun _ _ e => e))) (H6.out.2.2.1.trans (Kb.of hk6))))
            clear hk6 hbq y0 y1 y2 y3
            go_wp2_with fail
            refine (wf_any H7.out.1 H7.out.2.1 hff (by
              have h1 := congrArg List.length H6.out.2.2.2.1
              rw [H6.out.2.2.2.2.1] at h1
              have h2 := Hl.out.1
              simp only [encM, List.length_append, List.length_cons, List.length_nil] at h1 h2 ⊢
              omega)).mono ?_
            rintro e w8 ⟨p8, n8, c8, rfl, hb8, hk8⟩
            have H8 := Lib.hid (And.intro hb8 (H7.out.2.2.trans hk8))
            clear hb8 hk8 z0 z1 z2 z3
            go_wp2_with fail
            go_roundg (funcs.length - (j + 1))
            case measure => omega
            case rel => exact ⟨j + 1, _, by omega, rfl, by go_num, H8.out.1, by rw [← H6.out.2.2.2.1, H6.out.2.2.2.2.1, List.append_assoc], H8.out.2, fun i f' hi hf' => by
              rcases Nat.lt_or_ge i j with h1 | h1
              · exact H6.out.2.2.2.2.2.1 i f' h1 hf'
              · obtain rfl : i = j := by omega
                obtain rfl := Option.some.inj (H6.out.2.2.2.2.2.2.1.symm.trans hf')
                exact hff⟩
          · have hff2 : fitsF f = false := by simpa using hff
            go_wp2_with fail
            clear hwq
            refine (cfits_any H6.out.2.1).mono ?_
            rintro e w6 ⟨rfl, hk6⟩
            have H7 := Lib.hid (H6.out.2.2.1.trans (Kb.of hk6))
            clear hk6 y0 y1 y2 y3
            go_wp2_with (go_at_call 19; refine (at_any _ _ _ _ _).mono ?_; rintro e w' ⟨rfl, rfl⟩)
            go_ret2
            exact .inr ⟨_, rfl, H7.out.trans (Kb.of ((Kp.refl _ w6).alloc _)), .inr ⟨H.out.2.2.2.2, j, f, H6.out.2.2.2.2.2.2.1, hff2, ChainB.cons writeS j (ChainB.root _ _ (by decide)) H7.out.size (heap_alloc_new w6 _)⟩⟩
        · obtain rfl : j = funcs.length := by omega
          have H6 := Lib.hid (And.intro hb (And.intro he (And.intro hk hok)))
          clear hb he hk hok
          go_wp2_with fail
          go_ret2
          obtain ⟨q1, q2, q3, q4⟩ := H6.out
          rw [List.drop_length, show encFs [] = [] from rfl, List.append_nil] at q2
          subst q2
          exact .inl ⟨⟨_, _, _, rfl, q1, q3⟩, H.out.2.2.2.2, fun f hf => by
            obtain ⟨i, hi, rfl⟩ := List.getElem_of_mem hf
            exact q4 i _ hi (List.getElem?_eq_getElem hi)⟩
end Go.Proofs.YtaeoohjgdkablaaDoor

/- The reader's arithmetic: groups of seven bits put together. -/
namespace Go
open Go.RowKit

theorem pow7 (i : Nat) : 2 ^ (7 * i) = 128 ^ i := by rw [Nat.pow_mul]
theorem pow128 {i : Nat} (h : i ≤ 9) : 128 ^ i ≤ 9223372036854775808 := Nat.le_trans (Nat.pow_le_pow_right (by omega) h) (by decide)
theorem grp_or {l : List UInt8} {i : Nat} (hl : l.length = i) (hi : i ≤ 9) (c : UInt8) (h : c.toNat % 128 * 128 ^ i < 18446744073709551616) :
    bits BinOp.or IntKind.u64 ((lowN l : Nat) : Int) (IntKind.u64.wrap ((c.toNat : Int) % 128 * 2 ^ (7 * i))) = ((lowN (l ++ [c]) : Nat) : Int) := by
  have e : (c.toNat : Int) % 128 * 2 ^ (7 * i) = ((c.toNat % 128 * 128 ^ i : Nat) : Int) := by
    rw [← pow7, Int.natCast_mul, Int.natCast_emod, Int.natCast_pow]; rfl
  have hlt := lowN_lt l
  rw [hl] at hlt
  rw [e, u64_in _ (by omega) (by omega)]
  by_cases h0 : c.toNat % 128 = 0
  · rw [h0, Nat.zero_mul, lowN_append, h0, Nat.zero_mul, Nat.add_zero]
    have hp := pow128 hi
    have := bits_or_u64_nat (lowN l) 0 (by omega) (by omega)
    rw [Nat.or_zero] at this
    exact this
  · have hb : lowN l < 18446744073709551616 := by
      have : 128 ^ i ≤ c.toNat % 128 * 128 ^ i := Nat.le_mul_of_pos_left _ (by omega)
      omega
    rw [bits_or_u64_nat _ _ hb h, lowN_append, hl, Nat.or_comm]
    congr 1
    rw [← pow7, Nat.mul_comm, ← Nat.two_pow_add_eq_or_of_lt (by rw [pow7]; exact hlt)]
    omega

theorem grp_end {h L y : List UInt8} {n : Nat} (hb : ∀ b ∈ h, 128 ≤ b.toNat) (hL : L = h) : L ≠ encNat n ++ y := by
  intro e
  obtain ⟨l', _, h2, h3⟩ := encNat_heads (x := []) hb (e.symm.trans (by rw [hL, List.append_nil]))
  exact h2 (List.append_eq_nil_iff.1 h3.symm).1
theorem grp_long {h L r y : List UInt8} {n k : Nat} (hb : ∀ b ∈ h, 128 ≤ b.toNat) (hL : L = h ++ r) (hk : h.length = k) (h0 : 0 < k) (hn : n < 128 ^ k) : L ≠ encNat n ++ y := by
  intro e
  obtain ⟨l', h1, h2, _⟩ := encNat_heads hb (e.symm.trans hL)
  have := encNat_len hn h0
  rw [h1, List.length_append, hk] at this
  have := List.length_pos_iff.2 h2
  omega
theorem grp_val {h L r y : List UInt8} {c : UInt8} {n : Nat} (hb : ∀ b ∈ h, 128 ≤ b.toNat) (hc : c.toNat < 128) (hL : L = h ++ c :: r) (e : L = encNat n ++ y) : n = lowN (h ++ [c]) ∧ (h = [] ∨ c.toNat ≠ 0) := by
  obtain ⟨l, c', e1, h1, h2, h3, h4⟩ := encNat_form n
  rw [e1, hL, List.append_assoc] at e
  obtain ⟨rfl, rfl, _⟩ := groups_cut hb hc h1 h2 e
  exact ⟨h4.symm, h3⟩
theorem grp_big {h : List UInt8} {c : UInt8} {most i : Nat} (hc : c.toNat < 128) (hi : h.length = i) (hg : most / 2 ^ (7 * i) < c.toNat) : most < lowN (h ++ [c]) := by
  rw [lowN_append, hi, Nat.mod_eq_of_lt hc]
  rw [pow7, Nat.div_lt_iff_lt_mul (Nat.pow_pos (by omega))] at hg
  omega
theorem grp_fit {c : UInt8} {most i : Nat} (hc : c.toNat < 128) (hm : most < 18446744073709551616) (hg : ¬ most / 2 ^ (7 * i) < c.toNat) : c.toNat % 128 * 128 ^ i < 18446744073709551616 := by
  rw [Nat.mod_eq_of_lt hc]
  rw [pow7, Nat.not_lt, Nat.le_div_iff_mul_le (Nat.pow_pos (by omega))] at hg
  omega
theorem grp_drop {l : List UInt8} {p i : Nat} {c : UInt8} (h : l[p + i]? = some c) : l.drop p = (l.drop p).take i ++ c :: l.drop (p + (i + 1)) := by
  have h1 : (l.drop p)[i]? = some c := by rw [List.getElem?_drop]; exact h
  obtain ⟨hl, rfl⟩ := List.getElem?_eq_some_iff.1 h1
  conv => lhs; rw [← List.take_append_drop i (l.drop p), List.drop_eq_getElem_cons hl, List.drop_drop]
theorem grp_len {l : List UInt8} {p i : Nat} (h : p + i ≤ l.length) : ((l.drop p).take i).length = i := by
  rw [List.length_take, List.length_drop]; omega
theorem grp_take {l : List UInt8} {p i : Nat} {c : UInt8} (h : l[p + i]? = some c) : (l.drop p).take (i + 1) = (l.drop p).take i ++ [c] := by
  have h1 : (l.drop p)[i]? = some c := by rw [List.getElem?_drop]; exact h
  rw [List.take_add_one, h1]; rfl
end Go
