/- A new supervisor, or what is wrong with its spec. -/
import Derived.Test.YtbdogiblndlimaaSuRight
import Derived.Test.YtbdogiblndlimaaSuTick
namespace Go.Proofs.Ytbdogiblndlimaa
open Go.RowKit
set_option linter.unusedVariables false

theorem Try.infoMember : (Try.prog.info? 67).map (fun i => (i.zero, i.size, i.bytes)) = some (some (.agg #[.int .i64 0, .int .i64 0, .bool false]), 3, 24) := by kernel_rfl
def I64i (x : Int) : Prop := -9223372036854775808 ≤ x ∧ x ≤ 9223372036854775807
/-- a child as it is kept -/
def kidOf (c : Ch) : Kd := ⟨c.2.1, c.2.2, false⟩
def kid0 : Kd := ⟨0, 0, false⟩
def newS (s : Sp) (cs : List Ch) : Su := { sg := s.sg, cs := cs.map kidOf, m := s.m.toNat, tt := s.t.toNat, ts := [], st := 0, fr := 0, to := 0, th := 0, hl := 0, si := 0, kd := false }
/-- some are laid -/
def laidK (cs : List Ch) (i : Nat) : List Kd := (cs.take i).map kidOf ++ List.replicate (cs.length - i) kid0
section
variable {w w' : World} {v : Value} {cs : List Ch} {s : Sp} {i b gc : Nat} {c : Ch}
theorem laidK_len (h : i ≤ cs.length) : (laidK cs i).length = cs.length := by simp [laidK]; omega
theorem laidK_get (h : i < cs.length) : (laidK cs i)[i]? = some kid0 := by
  unfold laidK
  rw [List.getElem?_append_right (by simp; omega), List.getElem?_replicate, if_pos (by simp; omega)]
theorem laidK_step (hc : cs[i]? = some c) : (laidK cs i).set i (kidOf c) = laidK cs (i + 1) := by
  have hl := (List.getElem?_eq_some_iff.1 hc).1
  apply List.ext_getElem?
  intro j
  unfold laidK
  by_cases e : i = j
  · subst e
    rw [List.getElem?_set_self (by simp; omega), List.getElem?_append_left (by simp; omega), List.getElem?_map, List.getElem?_take_of_lt (by omega), hc]; rfl
  · rw [List.getElem?_set_ne e]
    rcases Nat.lt_or_ge j i with h | h
    · rw [List.getElem?_append_left (by simp; omega), List.getElem?_append_left (by simp; omega), List.getElem?_map, List.getElem?_map, List.getElem?_take_of_lt h, List.getElem?_take_of_lt (by omega)]
    · rw [List.getElem?_append_right (by simp; omega), List.getElem?_append_right (by simp; omega), List.getElem?_replicate, List.getElem?_replicate]
      simp only [List.length_map, List.length_take]
      congr 1
      simp
      omega
theorem laidK_all : laidK cs cs.length = cs.map kidOf := by simp [laidK]
theorem kdC_set3 : ∀ {l : List Kd} {i : Nat} {k : Kd} (k' : Kd), l[i]? = some k → (((kdC l).set (i * 3) (.int .i64 k'.r)).set (i * 3 + 1) (.int .i64 k'.t)).set (i * 3 + 2) (.bool k'.u) = kdC (l.set i k')
  | [], i, k, k', h => by simp at h
  | a :: l, 0, k, k', h => rfl
  | a :: l, i + 1, k, k', h => by
    have ih := kdC_set3 (l := l) (i := i) k' (by simpa using h)
    show (((([.int .i64 a.r, .int .i64 a.t, .bool a.u] : List Value) ++ kdC l).set ((i + 1) * 3) (.int .i64 k'.r)).set ((i + 1) * 3 + 1) (.int .i64 k'.t)).set ((i + 1) * 3 + 2) (.bool k'.u) = [.int .i64 a.r, .int .i64 a.t, .bool a.u] ++ kdC (l.set i k')
    rw [← ih, List.set_append_right _ _ (by simp; omega), List.set_append_right _ _ (by simp; omega), List.set_append_right _ _ (by simp; omega)]
    congr 1
    rw [show (i + 1) * 3 - ([.int .i64 a.r, .int .i64 a.t, .bool a.u] : List Value).length = i * 3 by simp; omega, show (i + 1) * 3 + 1 - ([.int .i64 a.r, .int .i64 a.t, .bool a.u] : List Value).length = i * 3 + 1 by simp; omega, show (i + 1) * 3 + 2 - ([.int .i64 a.r, .int .i64 a.t, .bool a.u] : List Value).length = i * 3 + 2 by simp; omega]
/-- children as they are kept, at gc -/
def KidsAt (w : World) (gc : Nat) (l : List Kd) : Prop := w.heap[gc]? = some (.cells (kdC l).toArray 67 (0, 0))
theorem KidsAt.cell {l : List Kd} {k : Kd} {j : Nat} {u : Value} (h : KidsAt w gc l) (hk : l[i]? = some k) (hv : ([.int .i64 k.r, .int .i64 k.t, .bool k.u] : List Value)[j]? = some u) : w.cell? ⟨gc, i * 3 + j, none⟩ = some u := by
  rw [cell_of_row w gc _ _ _ _ h, List.getElem?_toArray]
  exact kdC_get l i j k u hk hv
theorem KidsAt.fz {l : List Kd} (h : KidsAt w gc l) (o : Nat) : w.frozen? ⟨gc, o, none⟩ = false := by unfold KidsAt at h; simp [World.frozen?, h]
theorem KidsAt.set {l : List Kd} {k : Kd} (h : KidsAt w gc l) (hk : l[i]? = some k) (k' : Kd) : KidsAt (((w.setCell ⟨gc, i * 3, none⟩ (.int .i64 k'.r)).setCell ⟨gc, i * 3 + 1, none⟩ (.int .i64 k'.t)).setCell ⟨gc, i * 3 + 2, none⟩ (.bool k'.u)) gc (l.set i k') := by
  unfold KidsAt
  rw [su_heap_set (su_heap_set (su_heap_set h _) _) _, ← kdC_set3 k' hk]
  congr 2
  simp
theorem KidsAt.kp {F : Nat → Prop} {l : List Kd} (h : KidsAt w gc l) (hk : Kp F w w') (hF : ¬ F gc) : KidsAt w' gc l := (hk.block gc (Array.getElem?_eq_some_iff.1 h).1 hF).trans h
theorem kdC_zero (n : Nat) : kdC (List.replicate n kid0) = (madeCells #[.int .i64 0, .int .i64 0, .bool false] (n * 3)).toList := by
  apply List.ext_getElem?
  intro j
  by_cases hj : j < n * 3
  · have h1 : (List.replicate n kid0)[j / 3]? = some kid0 := by rw [List.getElem?_replicate, if_pos (by omega)]
    have hm : j % 3 < 3 := Nat.mod_lt _ (by omega)
    have h2 : ∃ u, ([.int .i64 kid0.r, .int .i64 kid0.t, .bool kid0.u] : List Value)[j % 3]? = some u := ⟨_, List.getElem?_eq_getElem (by simp; omega)⟩
    obtain ⟨u, hu⟩ := h2
    have h3 := kdC_get _ _ _ _ u h1 hu
    rw [show j / 3 * 3 + j % 3 = j by omega] at h3
    rw [h3, Array.getElem?_toList]
    unfold madeCells
    rw [Array.getElem?_map, Array.getElem?_range]
    rw [if_pos hj]
    simp only [Option.map_some]
    rw [← hu]
    obtain h | h | h : j % 3 = 0 ∨ j % 3 = 1 ∨ j % 3 = 2 := by omega
    all_goals (simp [h]; try rfl)
  · rw [List.getElem?_eq_none (by rw [kdC_len, List.length_replicate]; omega), Array.getElem?_toList, Array.getElem?_eq_none (by rw [size_madeCells]; omega)]
set_option maxHeartbeats 1000000 in
theorem right_any (hv : ChR w v cs) (hm : I64i s.m) (ht : I64i s.t) : Calls Try.prog 25 #[specV s v] w (EBad w (fun v => v) (rightL s cs)) := by
  have hk0 : Kp (fun _ => False) w (w.alloc (.cells #[.int .i64 s.sg, .int .i64 s.m, .int .i64 s.t, v] 33)) := (Kp.refl _ w).alloc _
  have HM := Lib.hid (maybe_any (s := s) (hv.same hk0) hm ht)
  have HK := Lib.hid hk0
  obtain ⟨po, cap, rfl, -⟩ := hv
  clear hk0
  unfold specV at HM ⊢
  go_enter Try.func25, Try.ntmps25
  go_wp2_with fail
  refine HM.out.mono ?_
  rintro e w2 ⟨u, rfl, hch, hk2⟩
  have hkk := HK.out.trans' hk2
  have hz := hkk.size
  by_cases h0 : mayL s cs = []
  · rw [h0] at hch
    have hu : u = .nilIface := hch
    subst hu
    have HG : Hid (EBad w (fun v => v) (rightL s cs) (.returned .nilIface) w2) := by
      unfold rightL; rw [if_pos h0]; exact Lib.hid ⟨_, rfl, rfl, hkk⟩
    clear hch h0 hkk hz HM HK hk2
    go_wp2
    go_ret
    exact HG.out
  · obtain ⟨a, l, hal⟩ : ∃ a l, mayL s cs = a :: l := by
      cases h : mayL s cs with
      | nil => exact absurd h h0
      | cons a l => exact ⟨a, l, rfl⟩
    have hform : ∃ t x, u = .iface t x := by
      rw [hal] at hch
      rcases hch with ⟨-, e, -⟩ | ⟨-, g, inner, -, e, -⟩ <;> exact ⟨_, _, e⟩
    obtain ⟨t, x, rfl⟩ := hform
    have HG : Hid (EBad w (fun v => v) (rightL s cs) (.returned (.iface 97 (.pointer (some ⟨w2.heap.size, 0, none⟩)))) (w2.alloc (.cells #[.string opSpec, .int .i64 0, .iface t x] 99))) := by
      unfold rightL; rw [if_neg h0]
      refine Lib.hid ⟨_, rfl, ChainB.cons _ _ ?_ hz (heap_alloc_new w2 _), hkk.alloc _⟩
      exact (hch.le (by have := HK.out.size; omega)).kp ((Kp.refl (fun _ => False) w2).alloc _) fun _ e => e.elim
    clear hch h0 hkk hz HM HK hk2 hal
    go_wp2_with fail
    refine (at_any _ _ _ _ _).mono ?_
    rintro e w3 ⟨rfl, rfl⟩
    go_wp2_with fail
    go_ret
    exact HG.out
/-- a new one -/
def NewTo (w : World) (S : Su) (e : Ending) (w' : World) : Prop :=
  ∃ b gc, e = .returned (.tuple #[.pointer (some ⟨b, 0, none⟩), .nilIface]) ∧ SuAt w' b gc (.slice none 0 0) S ∧ w.heap.size ≤ b ∧ w.heap.size ≤ gc ∧ Kp (fun _ => False) w w'
set_option maxHeartbeats 1000000 in
theorem new_bad (hv : ChR w v cs) (hm : I64i s.m) (ht : I64i s.t) (hb : rightL s cs ≠ []) : Calls Try.prog 11 #[specV s v] w (EBad w (fun v => .tuple #[.pointer none, v]) (rightL s cs)) := by
  have hk0 : Kp (fun _ => False) w (w.alloc (.cells #[.int .i64 s.sg, .int .i64 s.m, .int .i64 s.t, v] 33)) := (Kp.refl _ w).alloc _
  have HM := Lib.hid (right_any (s := s) (hv.same hk0) hm ht)
  have HK := Lib.hid hk0
  obtain ⟨po, cap, rfl, -⟩ := hv
  clear hk0
  unfold specV at HM ⊢
  go_enter Try.func11, Try.ntmps11
  go_wp2_with fail
  refine HM.out.mono ?_
  rintro e w2 ⟨u, rfl, hch, hk2⟩
  have hz := HK.out.size
  obtain ⟨a, l, hal⟩ : ∃ a l, rightL s cs = a :: l := by
    cases h : rightL s cs with
    | nil => exact absurd h hb
    | cons a l => exact ⟨a, l, rfl⟩
  have hform : ∃ g, u = .iface 97 (.pointer (some ⟨g, 0, none⟩)) := by
    have h1 : rightL s cs = Lk.fault opSpec 0 :: mayL s cs := by
      unfold rightL at hb ⊢
      split
      · rename_i h; exact absurd (if_pos h) hb
      · rfl
    rw [h1] at hch
    rcases hch with ⟨h2, e, h3, h4, h5⟩ | ⟨-, g, inner, -, e, -⟩
    · exact absurd rfl h5
    · exact ⟨g, e⟩
  obtain ⟨g, rfl⟩ := hform
  have HG : Hid (EBad w (fun v => .tuple #[.pointer none, v]) (rightL s cs) (.returned (.tuple #[.pointer none, .iface 97 (.pointer (some ⟨g, 0, none⟩))])) w2) := Lib.hid ⟨_, rfl, hch.le hz, HK.out.trans' hk2⟩
  clear hch hk2 HM HK hz hal
  go_wp2_with fail
  go_ret2
  exact HG.out
set_option maxHeartbeats 2000000 in
theorem new_ok (hv : ChR w v cs) (hm : I64i s.m) (ht : I64i s.t) (hb : rightL s cs = []) : Calls Try.prog 11 #[specV s v] w (NewTo w (newS s cs)) := by
  have hmay : mayL s cs = [] := by
    unfold rightL at hb
    split at hb
    · assumption
    · cases hb
  have hsp : spOk s cs.length = true := by
    unfold mayL at hmay
    split at hmay
    · assumption
    · cases hmay
  have hl32 : cs.length ≤ 32 ∧ 0 ≤ s.m ∧ 0 ≤ s.t ∧ 1 ≤ cs.length := by
    simp [spOk, isInB] at hsp
    omega
  obtain ⟨hl, hm0, ht0, hl1⟩ := hl32
  have hk0 : Kp (fun _ => False) w (w.alloc (.cells #[.int .i64 s.sg, .int .i64 s.m, .int .i64 s.t, v] 33)) := (Kp.refl _ w).alloc _
  have HM := Lib.hid (right_any (s := s) (hv.same hk0) hm ht)
  rw [hb] at HM
  have hn0 := heap_alloc_new w (.cells #[.int .i64 s.sg, .int .i64 s.m, .int .i64 s.t, v] 33)
  obtain ⟨w1, hw1⟩ : ∃ w1, w.alloc (.cells #[.int .i64 s.sg, .int .i64 s.m, .int .i64 s.t, v] 33) = w1 := ⟨_, rfl⟩
  rw [hw1] at hk0 hn0 HM
  have hvb := hv.same hk0
  have HK := Lib.hid (And.intro hk0 (And.intro hvb hn0))
  have b0 : w1.cell? ⟨w.heap.size, 0, none⟩ = some (.int .i64 s.sg) := cell_of_row _ _ 0 _ _ _ hn0
  have b1 : w1.cell? ⟨w.heap.size, 1, none⟩ = some (.int .i64 s.m) := cell_of_row _ _ 1 _ _ _ hn0
  have b2 : w1.cell? ⟨w.heap.size, 2, none⟩ = some (.int .i64 s.t) := cell_of_row _ _ 2 _ _ _ hn0
  have b3 : w1.cell? ⟨w.heap.size, 3, none⟩ = some v := cell_of_row _ _ 3 _ _ _ hn0
  have HV := Lib.hid hv
  obtain ⟨po, cap, hpo, -⟩ := hv
  subst hpo
  obtain ⟨i0, hi, hz0, hz1, hz2⟩ := info_parts Try.infoMember
  have HZ := Lib.hid (And.intro hi (And.intro hz0 (And.intro hz1 hz2)))
  clear hk0 hvb hn0 hsp hmay hb hi hz0 hz1 hz2
  unfold specV
  go_enter Try.func11, Try.ntmps11
  go_wp2_with fail
  clear hw1
  refine HM.out.mono ?_
  rintro e w2 ⟨u, rfl, hu, hk2⟩
  have hu' : u = .nilIface := hu
  subst hu'
  have hzz := HK.out.1.size
  have hbl : w.heap.size < w1.heap.size := (Array.getElem?_eq_some_iff.1 HK.out.2.2).1
  have d0 : w2.cell? ⟨w.heap.size, 0, none⟩ = some (.int .i64 s.sg) := (hk2.cell (p := ⟨w.heap.size, 0, none⟩) hbl (fun e => e)).trans b0
  have d1 : w2.cell? ⟨w.heap.size, 1, none⟩ = some (.int .i64 s.m) := (hk2.cell (p := ⟨w.heap.size, 1, none⟩) hbl (fun e => e)).trans b1
  have d2 : w2.cell? ⟨w.heap.size, 2, none⟩ = some (.int .i64 s.t) := (hk2.cell (p := ⟨w.heap.size, 2, none⟩) hbl (fun e => e)).trans b2
  have d3 : w2.cell? ⟨w.heap.size, 3, none⟩ = some (.slice po cs.length cap) := (hk2.cell (p := ⟨w.heap.size, 3, none⟩) hbl (fun e => e)).trans b3
  have HK2 := Lib.hid hk2
  clear hu hk2 b0 b1 b2 b3 HM
  go_wp2_with (at_make; refine wpList_make_full _ rfl _ _ 65 rfl w2.heap.size 67 i0 _ 3 Try.underlying65 HZ.out.1 HZ.out.2.1 HZ.out.2.2.1 .i64 .i64 _ _ cs.length rfl rfl rfl rfl (by rw [HZ.out.2.2.2]; omega) (by unfold maxLen; omega) (Nat.le_refl _) ?_; intro w3 hown hgrow; refine Hid.out ?_)
  have hk3 : Kp (fun _ => False) w2 w3 := (Kp.refl _ w2).grown hgrow (fun q e => by cases e)
  obtain ⟨gc, hgc⟩ : ∃ gc, w2.heap.size = gc := ⟨_, rfl⟩
  have hkids : KidsAt w3 gc (laidK cs 0) := by
    rcases hown.2 with ⟨e, _⟩ | ⟨g, cap3, cur, e, -, hg, -, -, hsz, htk⟩
    · cases e
    · injection e with e1 _ e3
      injection e1 with e1
      injection e1 with e1
      subst e3
      rw [← hgc, e1]
      unfold KidsAt laidK
      rw [hg]
      congr 2
      apply Array.ext'
      rw [List.take_of_length_le (by simp; omega)] at htk
      rw [htk]
      simp only [List.take_zero, List.map_nil, List.nil_append, Nat.sub_zero]
      rw [kdC_zero]
      simp [Value.cells]
  have hgl : gc < w3.heap.size := (Array.getElem?_eq_some_iff.1 hkids).1
  have hbg : w.heap.size < gc := by have := HK2.out.size; omega
  have hlt2 : w.heap.size < w2.heap.size := by rw [hgc]; exact hbg
  have e0 : w3.cell? ⟨w.heap.size, 0, none⟩ = some (.int .i64 s.sg) := (hk3.cell (p := ⟨w.heap.size, 0, none⟩) hlt2 (fun e => e)).trans d0
  have e1 : w3.cell? ⟨w.heap.size, 1, none⟩ = some (.int .i64 s.m) := (hk3.cell (p := ⟨w.heap.size, 1, none⟩) hlt2 (fun e => e)).trans d1
  have e2 : w3.cell? ⟨w.heap.size, 2, none⟩ = some (.int .i64 s.t) := (hk3.cell (p := ⟨w.heap.size, 2, none⟩) hlt2 (fun e => e)).trans d2
  have e3 : w3.cell? ⟨w.heap.size, 3, none⟩ = some (.slice po cs.length cap) := (hk3.cell (p := ⟨w.heap.size, 3, none⟩) hlt2 (fun e => e)).trans d3
  rw [hgc]
  have HX := Lib.hid (And.intro ((HK.out.1.trans' HK2.out).trans' hk3) (And.intro (HK.out.2.1.same (HK2.out.trans' hk3)) (And.intro e0 (And.intro e1 e2))))
  have HKi := Lib.hid hkids
  have Hb := Lib.hid (And.intro hbg (And.intro hgl hgc))
  clear hown hgrow hk3 hkids hlt2 hgc d0 d1 d2 d3 e0 e1 e2 hbg hgl hbl hzz HK2 HZ
  refine Lib.hid ?_
  go_wp2_with fail
  clear e3
  go_loopg [6, 7, 20] cs.length (fun gk s6 s7 s20 wr => ∃ (i : Nat) (y6 y7 : Value), i ≤ cs.length ∧ gk = cs.length - i ∧ s6 = y6 ∧ s7 = y7 ∧ s20 = .int .i64 (i : Nat) ∧ Hid (KidsAt wr gc (laidK cs i) ∧ Kp (fun q => q = gc) w3 wr))
  case atStart => exact ⟨0, _, _, by omega, rfl, rfl, rfl, rfl, Lib.hid ⟨HKi.out, Kp.refl _ _⟩⟩
  case round =>
    obtain ⟨i, y6, y7, hi, rfl, hy6, hy7, rfl, HR⟩ := hrel
    obtain rfl := hy6.symm
    obtain rfl := hy7.symm
    by_cases hlt : i < cs.length
    · obtain ⟨hki, hk4⟩ := HR.out
      have hii : (i : Int) < cs.length := by omega
      obtain ⟨c, hc⟩ : ∃ c, cs[i]? = some c := ⟨_, List.getElem?_eq_getElem hlt⟩
      have hcw : ∃ g off, po = some ⟨g, off, none⟩ ∧ g < w.heap.size := by
        obtain ⟨po3, cap3, e4, -, -, hrd⟩ := HV.out
        injection e4 with e4
        subst e4
        obtain ⟨g0, off, hpo, a1, -⟩ := hrd i c hc
        exact ⟨g0, off, hpo, World.block_lt_of_cell? _ _ a1⟩
      obtain ⟨g, off, hpo, hgw⟩ := hcw
      have hrow : ChR wr (.slice po cs.length cap) cs := HX.out.2.1.kp hk4 fun q hq e => by
        rw [hpo] at hq
        obtain rfl : g = q := by injection hq
        have := Hb.out
        omega
      subst hpo
      obtain ⟨po3, cap3, e4, -, -, hrd⟩ := hrow
      injection e4 with e4 _ e5
      subst e4
      obtain ⟨g0, off0, hgo, a1, a2, a3, a4, a5, a6⟩ := hrd i c hc
      injection hgo with hgo
      injection hgo with h1 h2
      subst h1 h2
      have HC := Lib.hid (And.intro hki (And.intro hk4 (And.intro hc hgw)))
      have hk0' := laidK_get (cs := cs) hlt
      obtain ⟨wa, hwa⟩ : ∃ wa, wr.alloc (.cells #[.string c.1, .int .i64 c.2.1, .int .i64 c.2.2] 29) = wa := ⟨_, rfl⟩
      have hka : Kp (fun _ => False) wr wa := by rw [← hwa]; exact (Kp.refl _ wr).alloc _
      have hkia : KidsAt wa gc (laidK cs i) := hki.kp hka (fun e => e)
      have hna : wa.heap[wr.heap.size]? = some (.cells #[.string c.1, .int .i64 c.2.1, .int .i64 c.2.2] 29 (0, 0)) := by rw [← hwa]; exact heap_alloc_new wr _
      have m1 : wa.cell? ⟨wr.heap.size, 1, none⟩ = some (.int .i64 c.2.1) := cell_of_row _ _ 1 _ _ _ hna
      have m2 : wa.cell? ⟨wr.heap.size, 2, none⟩ = some (.int .i64 c.2.2) := cell_of_row _ _ 2 _ _ _ hna
      have f0 : wa.cell? ⟨gc, i * 3, none⟩ = some (.int .i64 0) := hkia.cell (j := 0) hk0' rfl
      have f1 : wa.cell? ⟨gc, i * 3 + 1, none⟩ = some (.int .i64 0) := hkia.cell (j := 1) hk0' rfl
      have f2 : wa.cell? ⟨gc, i * 3 + 2, none⟩ = some (.bool false) := hkia.cell (j := 2) hk0' rfl
      have hfz := hkia.fz
      have hset := hkia.set hk0' (kidOf c)
      rw [laidK_step hc] at hset
      have hks : Kp (fun q => q = gc) w3 (((wa.setCell ⟨gc, i * 3, none⟩ (.int .i64 (kidOf c).r)).setCell ⟨gc, i * 3 + 1, none⟩ (.int .i64 (kidOf c).t)).setCell ⟨gc, i * 3 + 2, none⟩ (.bool (kidOf c).u)) :=
        (((hk4.trans' (hka.mono fun _ _ e => e.elim)).setCell _ _ (.inl rfl)).setCell _ _ (.inl rfl)).setCell _ _ (.inl rfl)
      have HN := Lib.hid (And.intro hset hks)
      have hgne : gc ≠ wr.heap.size := by
        have := (Array.getElem?_eq_some_iff.1 hki).1
        omega
      clear hki hk4 hc hrd hka hkia hna hset hks hk0' HR HC a4 a5 a6 e5
      go_wp2_with fail
      go_roundg (cs.length - (i + 1))
      case measure => omega
      case rel => exact ⟨i + 1, _, _, by omega, rfl, rfl, rfl, by go_num, HN⟩
    · obtain rfl : i = cs.length := by omega
      obtain ⟨hki, hk4⟩ := HR.out
      rw [laidK_all] at hki
      obtain ⟨h3k, -, e0, e1, e2⟩ := HX.out
      have hbw := Hb.out
      have hz3 := h3k.size
      have b0 : wr.cell? ⟨w.heap.size, 0, none⟩ = some (.int .i64 s.sg) := (hk4.cell (p := ⟨w.heap.size, 0, none⟩) (World.block_lt_of_cell? _ _ e0) (by simp only; omega)).trans e0
      have b1 : wr.cell? ⟨w.heap.size, 1, none⟩ = some (.int .i64 s.m) := (hk4.cell (p := ⟨w.heap.size, 1, none⟩) (World.block_lt_of_cell? _ _ e1) (by simp only; omega)).trans e1
      have b2 : wr.cell? ⟨w.heap.size, 2, none⟩ = some (.int .i64 s.t) := (hk4.cell (p := ⟨w.heap.size, 2, none⟩) (World.block_lt_of_cell? _ _ e2) (by simp only; omega)).trans e2
      have hkw : Kp (fun _ => False) w wr := h3k.trans (hk4.mono fun q hq e => .inr ⟨by omega, hq⟩)
      have hms : s.m = ((s.m.toNat : Nat) : Int) := by omega
      have hts : s.t = ((s.t.toNat : Nat) : Int) := by omega
      have hlk : (cs.map kidOf).length = cs.length := by simp
      have hsu : SuAt (wr.alloc (.cells (suCells wr.heap.size gc (.slice none 0 0) (newS s cs)) 73)) wr.heap.size gc (.slice none 0 0) (newS s cs) := by
        refine ⟨heap_alloc_new wr _, ?_, .inl ⟨rfl, rfl⟩⟩
        exact (Below.heap_alloc _ _ _ (Array.getElem?_eq_some_iff.1 hki).1).trans hki
      have hcells : suCells wr.heap.size gc (.slice none 0 0) (newS s cs) = #[.int .i64 s.sg, .slice (some ⟨gc, 0, none⟩) cs.length cs.length, .int .i64 s.m, .int .i64 s.t, .slice none 0 0, .int .i64 0, .int .i64 0, .int .i64 0, .nilFunc, .int .i64 0, .int .i64 0, .bool false] := by
        unfold suCells newS
        simp only [hlk, ← hms, ← hts]
        rfl
      rw [hcells] at hsu
      have HG : Hid (NewTo w (newS s cs) (.returned (.tuple #[.pointer (some ⟨wr.heap.size, 0, none⟩), .nilIface])) _) := Lib.hid ⟨wr.heap.size, gc, rfl, hsu, hkw.size, by omega, hkw.alloc _⟩
      clear hki hk4 h3k e0 e1 e2 hbw hz3 hkw hms hts hlk hsu hcells HR HX
      go_wp2_with fail
      go_ret2
      exact HG.out
end
end Go.Proofs.Ytbdogiblndlimaa
