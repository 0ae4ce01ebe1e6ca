/- Tries in one another, as many ends. Module and Tries of any module. -/
import Derived.Test.YtpdepmkojbpklaaDoorM29
import Derived.Test.YtpdepmkojbpklaaDoorM30
/- Tries in one another, as many ends. -/
namespace Go.Proofs.YtpdepmkojbpklaaDoor
open Go.RowKit

set_option maxRecDepth 100000 in
set_option maxHeartbeats 4000000 in
/-- Module of one that is wrong somehow -/
theorem module_some {c0 c1 c2 : Value} {w : World} (h : ∀ w1, Kp (fun _ => False) w w1 → Calls Tryd.prog 22 #[.agg #[c0, c1, c2]] w1 fun e w' => ∃ (a : Lk) (l : List Lk), EBad w1 id (a :: l) e w') :
    Calls Tryd.prog 11 #[.agg #[c0, c1, c2]] w fun e w' => ∃ (t : TypeId) (x : Value), e = .returned (.iface t x) ∧ Kp (fun _ => False) w w' := by
  obtain ⟨w1, hw1⟩ : ∃ w1, w.alloc (.cells #[c0, c1, c2] 26) = w1 := ⟨_, rfl⟩
  have hk1 : Kp (fun _ => False) w w1 := by rw [← hw1]; exact (Kp.refl _ w).alloc _
  have hb : w1.heap[w.heap.size]? = some (.cells #[c0, c1, c2] 26 (0, 0)) := by rw [← hw1]; exact heap_alloc_new w _
  have y0 : w1.cell? ⟨w.heap.size, 0, none⟩ = some c0 := by rw [cell_of_row w1 _ 0 _ _ _ hb]; rfl
  have y1 : w1.cell? ⟨w.heap.size, 1, none⟩ = some c1 := by rw [cell_of_row w1 _ 1 _ _ _ hb]; rfl
  have y2 : w1.cell? ⟨w.heap.size, 2, none⟩ = some c2 := by rw [cell_of_row w1 _ 2 _ _ _ hb]; rfl
  have H := Lib.hid (And.intro (h w1 hk1) hk1)
  clear hb hk1 h
  go_enter Tryd.func11, Tryd.ntmps11
  go_wp2_with fail
  refine H.out.1.mono ?_
  rintro e w2 ⟨a, l, v, rfl, hch, hk2⟩
  have H2 := Lib.hid (And.intro hch (And.intro (H.out.2.trans' hk2) (Nat.le_trans H.out.2.size (Nat.le_refl _))))
  have hz : w1.heap.size ≤ w2.heap.size := hk2.size
  clear hch hk2
  go_wp2_with fail
  refine (at_chain _ _ H2.out.1 hz).mono ?_
  rintro e w3 ⟨v', rfl, hch, hk3⟩
  have H3 := Lib.hid (And.intro hch hk3)
  clear hch hk3
  go_wp2_with fail
  go_ret
  obtain ⟨t, x, hv⟩ : ∃ t x, v' = .iface t x := by
    rcases id H3.out.1 with h | ⟨h0, g, inner, hg, h1, h2, h3⟩
    · exact ⟨_, _, h.2.1⟩
    · exact ⟨_, _, h1⟩
  exact ⟨t, x, by rw [hv]; rfl, H2.out.2.1.trans' H3.out.2⟩
/-- a place below -/
theorem vplace (w : World) (v : Int) (n : Nat) (h1 : -9223372036854775808 ≤ v) (h2 : v ≤ 9223372036854775807) (hn : 0 < n) (hn2 : n ≤ 1000) :
    Calls Tryd.prog 9 #[.int .i64 v, .int .i64 (n : Nat)] w fun e w' => ∃ k : Nat, e = .returned (.int .i64 k) ∧ k < n ∧ w = w' := by
  refine (place_any w v n h1 h2 (by omega) (by omega)).mono ?_
  rintro e w' ⟨rfl, rfl⟩
  have := Int.emod_nonneg v (b := n) (by omega)
  have := Int.emod_lt_of_pos v (b := n) (by omega)
  exact ⟨(v % n).toNat, by rw [Int.toNat_of_nonneg (by omega)], by omega, rfl⟩
theorem wf4 {op a b c : Int} (h : 0 ≤ op ∧ op ≤ 1000) (ha : isI64 a) (hb : isI64 b) (hc : isI64 c) : In4.wf ⟨op, a, b, c⟩ := ⟨⟨by simp only; omega, by simp only; omega⟩, ha, hb, hc⟩
/-- a row of instructions that is under way -/
def CRow (w wr : World) (po : Option Addr) (n c : Nat) (code : List In4) : Prop := n = code.length ∧ wr.ownsRow w.heap.size 29 4 (.slice po n c) n (vinsCells code) ∧ Kp (fun _ => False) w wr
theorem crow_nil (w : World) : CRow w w none 0 0 [] := ⟨rfl, World.ownsRow_nil _ _ _ _, Kp.refl _ w⟩
theorem crow_push {w wr : World} {po : Option Addr} {n c : Nat} {code : List In4} (h : CRow w wr po n c code) (hl : code.length ≤ 1000) (op a b d : Int) :
    ∃ p2 n2 c2 w2, (Builtin.append_ #[30, 30] 30 #[.slice po n c, .slice (some ⟨wr.heap.size, 0, none⟩) 1 1]).run Tryd.prog (wr.alloc (.cells #[.int .i64 op, .int .i64 a, .int .i64 b, .int .i64 d] 29)) = .ok (.slice p2 n2 c2) w2 ∧ CRow w w2 p2 n2 c2 (code ++ [⟨op, a, b, d⟩]) := by
  obtain ⟨rfl, ho, hk⟩ := h
  obtain ⟨g, cap, w2, h1, h2, h3, -⟩ := vins_row ho hk.size (by omega) ⟨op, a, b, d⟩
  refine ⟨_, _, _, w2, h1, by simp, h2, kp_fresh hk (h3.mono fun q _ e => .inr ?_)⟩
  exact (ho.lt q e).1
theorem crow_code {w wr : World} {po : Option Addr} {n c : Nat} {code : List In4} (h : CRow w wr po n c code) (hl : code.length ≤ 1000) (hw : ∀ x ∈ code, x.wf) : CodeAt (fun q => q < wr.heap.size) wr code (.slice po code.length c) := by
  obtain ⟨rfl, ho, hk⟩ := h
  exact (vinsCells_at ho (by omega) hw).imp (fun q e => e.2) (fun _ _ _ _ e => e)
theorem vrep_snoc (x : In4) (k : Nat) : List.replicate (k + 1) x = List.replicate k x ++ [x] := List.replicate_succ'
theorem vrange_snoc (g : Nat → In4) (i : Nat) : (List.range (i + 1)).map g = (List.range i).map g ++ [g i] := by rw [List.range_succ, List.map_append]; rfl
set_option maxRecDepth 100000 in
set_option maxHeartbeats 4000000 in
theorem nests_walk (a0 a1 : Int) (w : World) (b1 : -9223372036854775808 ≤ a0) (b2 : a0 ≤ 9223372036854775807) (b3 : -9223372036854775808 ≤ a1) (b4 : a1 ≤ 9223372036854775807) (hg : Laid0 w) :
    Calls Tryd.prog 6 #[.int .i64 a0, .int .i64 a1] w fun e w' => e = .returned (.bool true) ∧ Kp (fun _ => False) w w' := by
  have HG := Lib.hid hg
  have HI := Lib.hid (And.intro b1 (And.intro b2 (And.intro b3 b4)))
  clear hg b1 b2 b3 b4
  go_enter Tryd.func6, Tryd.ntmps6
  go_wp2_with fail
  refine Calls.mono (vplace _ a0 11 HI.out.1 HI.out.2.1 (by omega) (by omega)) ?_
  rintro e w' ⟨n, rfl, hn, rfl⟩
  go_wp2_with fail
  refine Calls.mono (vplace _ a1 11 HI.out.2.2.1 HI.out.2.2.2 (by omega) (by omega)) ?_
  rintro e w' ⟨k, rfl, hk, rfl⟩
  go_wp2_with fail
  go_loopg [7, 8] n (fun gk vv ii wr => ∃ (i : Nat) (po : Option Addr) (m c : Nat), i ≤ n ∧ gk = n - i ∧ ii = .int .i64 i ∧ vv = .slice po m c ∧ CRow w wr po m c ((List.range i).map fun j : Nat => (⟨24, ((n + k + 1 + j : Nat) : Int), 0, 0⟩ : In4)))
  case atStart => exact ⟨0, none, 0, 0, by omega, rfl, rfl, rfl, crow_nil w⟩
  case round =>
    obtain ⟨i, po, m, c, hi, rfl, rfl, rfl, hr⟩ := hrel
    by_cases hlt : i < n
    · have hlti : (i : Int) < n := by omega
      obtain ⟨p2, n2, c2, w2, hr2, hc2⟩ := crow_push hr (by simp; omega) 24 ((n + k + 1 + i : Nat) : Int) 0 0
      have hcast : ((n + k + 1 + i : Nat) : Int) = (n : Int) + k + 1 + i := by omega
      rw [hcast] at hr2
      have H2 := Lib.hid (And.intro hr2 hc2)
      clear hr2 hc2 hr
      go_wp2_with (at_builtin; refine wpList_run rfl (.tmp 21) (.tmp 29) 30 rfl (.slice po m c) (.slice (some ⟨wr.heap.size, 0, none⟩) 1 1) rfl rfl _ w2 H2.out.1 ?_)
      go_roundg (n - (i + 1))
      case measure => omega
      case rel => exact ⟨i + 1, _, _, _, by omega, rfl, by go_num, rfl, by rw [vrange_snoc]; exact H2.out.2⟩
    · obtain rfl : i = n := by omega
      have hlti : ¬ (i : Int) < i := by omega
      have HR := Lib.hid hr
      clear hr
      go_wp2_with fail
      go_loopg [7, 9] k (fun gk vv ii wr => ∃ (j : Nat) (po : Option Addr) (m c : Nat), j ≤ k ∧ gk = k - j ∧ ii = .int .i64 j ∧ vv = .slice po m c ∧ CRow w wr po m c ((List.range i).map (fun j : Nat => (⟨24, ((i + k + 1 + j : Nat) : Int), 0, 0⟩ : In4)) ++ List.replicate j ⟨25, 0, 0, 0⟩))
      case atStart => exact ⟨0, _, _, _, by omega, rfl, rfl, rfl, by simpa using HR.out⟩
      case round =>
        obtain ⟨j, po, m, c, hj, rfl, rfl, rfl, hr⟩ := hrel
        by_cases hlt : j < k
        · have hltj : (j : Int) < k := by omega
          obtain ⟨p2, n2, c2, w2, hr2, hc2⟩ := crow_push hr (by simp; omega) 25 0 0 0
          have H2 := Lib.hid (And.intro hr2 hc2)
          clear hr2 hc2 hr
          go_wp2_with (at_builtin; refine wpList_run rfl (.tmp 36) (.tmp 38) 30 rfl (.slice po m c) (.slice (some ⟨wr.heap.size, 0, none⟩) 1 1) rfl rfl _ w2 H2.out.1 ?_)
          go_roundg (k - (j + 1))
          case measure => omega
          case rel => exact ⟨j + 1, _, _, _, by omega, rfl, by go_num, rfl, by rw [vrep_snoc, ← List.append_assoc]; exact H2.out.2⟩
        · obtain rfl : j = k := by omega
          have hltj : ¬ (j : Int) < j := by omega
          obtain ⟨p2, n2, c2, w2, hr2, hc2⟩ := crow_push hr (by simp; omega) 15 0 0 0
          have H2 := Lib.hid (And.intro hr2 hc2)
          clear hr2 hc2 hr HR
          go_wp2_with (at_builtin; refine wpList_run rfl (.tmp 40) (.tmp 42) 30 rfl (.slice po m c) (.slice (some ⟨wr.heap.size, 0, none⟩) 1 1) rfl rfl _ w2 H2.out.1 ?_)
          go_loopg [7, 10] i (fun gk vv ii wr => ∃ (q : Nat) (po : Option Addr) (m c : Nat), q ≤ i ∧ gk = i - q ∧ ii = .int .i64 q ∧ vv = .slice po m c ∧ CRow w wr po m c ((List.range i).map (fun p : Nat => (⟨24, ((i + j + 1 + p : Nat) : Int), 0, 0⟩ : In4)) ++ (List.replicate j ⟨25, 0, 0, 0⟩ ++ (⟨15, 0, 0, 0⟩ :: List.replicate q ⟨27, 0, 0, 0⟩))))
          case atStart => exact ⟨0, _, _, _, by omega, rfl, rfl, rfl, by have := H2.out.2; simpa using this⟩
          case round =>
            obtain ⟨q, po, m, c, hq, rfl, rfl, rfl, hr⟩ := hrel
            by_cases hlt : q < i
            · have hltq : (q : Int) < i := by omega
              obtain ⟨p2, n2, c2, w2, hr2, hc2⟩ := crow_push hr (by simp; omega) 27 0 0 0
              have H3 := Lib.hid (And.intro hr2 hc2)
              clear hr2 hc2 hr
              go_wp2_with (at_builtin; refine wpList_run rfl (.tmp 49) (.tmp 51) 30 rfl (.slice po m c) (.slice (some ⟨wr.heap.size, 0, none⟩) 1 1) rfl rfl _ w2 H3.out.1 ?_)
              go_roundg (i - (q + 1))
              case measure => omega
              case rel => exact ⟨q + 1, _, _, _, by omega, rfl, by go_num, rfl, by rw [vrep_snoc]; have := H3.out.2; simp only [List.append_assoc, List.cons_append] at this ⊢; exact this⟩
            · obtain rfl : q = i := by omega
              have hltq : ¬ (q : Int) < q := by omega
              have hc3 := crow_code hr (by simp; omega) (by
                intro x hx
                simp only [List.mem_append, List.mem_map, List.mem_range, List.mem_cons, List.mem_replicate] at hx
                rcases hx with ⟨p, hp, rfl⟩ | ⟨-, rfl⟩ | rfl | ⟨-, rfl⟩
                · exact wf4 (by omega) (by unfold isI64; omega) ⟨by decide, by decide⟩ ⟨by decide, by decide⟩
                all_goals exact ⟨⟨by decide, by decide⟩, ⟨by decide, by decide⟩, ⟨by decide, by decide⟩, ⟨by decide, by decide⟩⟩)
              obtain ⟨hm, -, hk3⟩ := hr
              have H3 := Lib.hid (And.intro (show CodeAt (fun q => q < wr.heap.size) wr (nestCode q j) (.slice po (nestCode q j).length c) from hc3) (And.intro hk3 (show m = (nestCode q j).length from hm)))
              clear hc3 hk3 H2 hm
              go_wp2_with fail
              refine (one_any _ rfl _).mono ?_
              rintro e w4 ⟨g, rfl, hb4, hlo, hk4⟩
              rw [H3.out.2.2] at hb4
              have hz4 := hk4.size
              have hfs := fns_one (s := 0) (code := nestCode q j) hb4 (by omega) (H3.out.1.imp (fun q e => Nat.lt_of_lt_of_le e hz4) (fun _ _ _ _ e => keeps_cell hk4 e))
              have hg4 := laid0_kp HG.out (H3.out.2.1.trans' hk4)
              have hlen : 1 ≤ (nestCode q j).length ∧ (nestCode q j).length ≤ 16384 := by rw [nest_len]; omega
              have h12 : ∀ x ∈ nestCode q j, x.op ≠ 12 := by
                intro x hx
                obtain ⟨p, hp, rfl⟩ := List.getElem_of_mem hx
                rcases nest_at (List.getElem?_eq_getElem hp) with ⟨-, e⟩ | ⟨-, -, e⟩ | ⟨-, e⟩ | ⟨-, -, e⟩ <;> rw [e] <;> simp
              have HW := Lib.hid (whole_md (hh := 0) lits_nil hfs (by simp) (by simp) (by simp) (by simp) (vop12 h12) hg4)
              have H4 := Lib.hid (And.intro (H3.out.2.1.trans' hk4) (And.intro hg4 (head_f 0 0 (nestCode q j) [] (by omega) (by omega) hlen)))
              clear hk4 hb4 hfs hg4 hlo hz4 hlen h12
              go_wp2_with fail
              by_cases hr : q = j ∧ q ≤ 8
              · obtain ⟨rfl, h8⟩ := hr
                refine (module_nil HW.out (fun i f ls => one_right H4.out.2.2 (fun p k h => nest_right h8 h) i f ls)).mono ?_
                rintro e w5 ⟨rfl, hk5⟩
                have H5 := Lib.hid (H4.out.1.trans' hk5)
                have HA := Lib.hid (vawake_any w5 (laid0_kp H4.out.2.1 hk5))
                clear hk5
                have h8i : (q : Int) ≤ 8 := by omega
                go_wp2_with fail
                refine HA.out.mono ?_
                rintro e w6 ⟨rfl, hk6⟩
                have H6 := Lib.hid (H5.out.trans' hk6)
                clear hk6
                go_wp2_with fail
                go_ret
                exact ⟨rfl, H6.out⟩
              · refine (module_some (fun w1 hk1 => (HW.out w1 hk1).mono fun e w' hp => by
                  rcases hp with ⟨-, -, hgd⟩ | ⟨i, f, ls, -, -, -, h⟩
                  · exact (hr (nest_only (hgd 0 _ rfl))).elim
                  · exact ⟨_, _, h⟩)).mono ?_
                rintro e w5 ⟨t, x, rfl, hk5⟩
                have H5 := Lib.hid (H4.out.1.trans' hk5)
                have HA := Lib.hid (vawake_any w5 (laid0_kp H4.out.2.1 hk5))
                clear hk5
                by_cases hqj : q = j
                · have h8i : ¬ (q : Int) ≤ 8 := fun e => hr ⟨hqj, by omega⟩
                  subst hqj
                  go_wp2_with fail
                  refine HA.out.mono ?_
                  rintro e w6 ⟨rfl, hk6⟩
                  have H6 := Lib.hid (H5.out.trans' hk6)
                  clear hk6
                  go_wp2_with fail
                  go_ret
                  exact ⟨congrArg (fun b => Ending.returned (.bool !b)) (decide_eq_false (show ¬ (q : Int) ≤ 8 by omega)), H6.out⟩
                · have hqi : ¬ (q : Int) = j := by omega
                  go_wp2_with fail
                  refine HA.out.mono ?_
                  rintro e w6 ⟨rfl, hk6⟩
                  have H6 := Lib.hid (H5.out.trans' hk6)
                  clear hk6
                  go_wp2_with fail
                  go_ret
                  exact ⟨rfl, H6.out⟩
end Go.Proofs.YtpdepmkojbpklaaDoor

/- Module and Tries of any module. -/
namespace Go.Proofs.YtpdepmkojbpklaaDoor
open Go.RowKit

/-- a module's parts in memory -/
structure MdIn (w : World) (hh : Nat) (m : Md) (pl : Option Addr) (cl : Nat) (pf : Option Addr) (cf : Nat) : Prop where
  lits : ListAt (fun q => q < w.heap.size) w (TermAt (fun q => q < w.heap.size) w hh) m.lits (.slice pl m.lits.length cl)
  fns : FnsAt (fun q => q < w.heap.size) w m.funcs (.slice pf m.funcs.length cf)
theorem MdIn.kp {w w' : World} {hh : Nat} {m : Md} {pl : Option Addr} {cl : Nat} {pf : Option Addr} {cf : Nat} (h : MdIn w hh m pl cl pf cf) (hk : Kp (fun _ => False) w w') : MdIn w' hh m pl cl pf cf := by
  have hz := hk.size
  exact ⟨h.lits.imp (fun q e => Nat.lt_of_lt_of_le e hz) (fun b j u _ e => keeps_cell hk e) (fun t cs e => TermAt.imp (fun q e => Nat.lt_of_lt_of_le e hz) (fun b j u _ e => keeps_cell hk e) _ t cs e), h.fns.imp (fun q e => Nat.lt_of_lt_of_le e hz) (fun b j u _ e => keeps_cell hk e)⟩
theorem mdIn_of {F : Nat → Prop} {w : World} {hh : Nat} {m : Md} {cs : List Value} (h : MdAt F w hh m cs) (hF : ∀ q, F q → q < w.heap.size) : ∃ pl cl pf cf, cs = [.string m.name, .slice pl m.lits.length cl, .slice pf m.funcs.length cf] ∧ MdIn w hh m pl cl pf cf := by
  obtain ⟨vl, vf, rfl, -, hl, hf⟩ := h
  have hl2 := hl
  have hf2 := hf
  obtain ⟨pl, cl, rfl, -⟩ := hl2
  obtain ⟨pf, cf, rfl, -⟩ := hf2
  exact ⟨pl, cl, pf, cf, rfl, hl.imp hF (fun b j u _ e => e) (fun t cs e => TermAt.imp hF (fun b j u _ e => e) _ t cs e), hf.imp hF (fun b j u _ e => e)⟩
theorem whole_mdA {tab : Nat → Int} {w : World} {hh : Nat} {m : Md} {pl : Option Addr} {cl : Nat} {pf : Option Addr} {cf : Nat} (h : MdIn w hh m pl cl pf cf) (hg : Laid0 w) (hFl : LaidF tab w) (w1 : World) (hk : Kp (fun _ => False) w w1) :
    Calls Tryd.prog 22 #[.agg #[.string m.name, .slice pl m.lits.length cl, .slice pf m.funcs.length cf]] w1 (WholeA tab hh m.name m.lits m.funcs w1) :=
  wholeA (h.kp hk).lits (h.kp hk).fns (fun _ e => e) (hFl.kp hk) (laid0_kp hg hk)
theorem moduleA_ok {tab : Nat → Int} {w : World} {hh : Nat} {m : Md} {pl : Option Addr} {cl : Nat} {pf : Option Addr} {cf : Nat} (h : MdIn w hh m pl cl pf cf) (hg : Laid0 w) (hFl : LaidF tab w) (hr : RightM tab hh m.name m.lits m.funcs) :
    Calls Tryd.prog 11 #[.agg #[.string m.name, .slice pl m.lits.length cl, .slice pf m.funcs.length cf]] w fun e w' => e = .returned .nilIface ∧ Kp (fun _ => False) w w' :=
  module_ok fun w1 hk => (whole_mdA h hg hFl w1 hk).mono fun _ _ hp => hp.elim (fun a => ⟨a.1, a.2.1⟩) (fun a => (a.2 hr).elim)
theorem moduleA_bad {tab : Nat → Int} {w : World} {hh : Nat} {m : Md} {pl : Option Addr} {cl : Nat} {pf : Option Addr} {cf : Nat} (h : MdIn w hh m pl cl pf cf) (hg : Laid0 w) (hFl : LaidF tab w) (hr : ¬ RightM tab hh m.name m.lits m.funcs) :
    Calls Tryd.prog 11 #[.agg #[.string m.name, .slice pl m.lits.length cl, .slice pf m.funcs.length cf]] w fun e w' => ∃ (t : TypeId) (x : Value), e = .returned (.iface t x) ∧ Kp (fun _ => False) w w' :=
  module_some fun w1 hk => (whole_mdA h hg hFl w1 hk).mono fun _ _ hp => hp.elim (fun a => (hr a.2.2).elim) (fun a => a.1)
set_option maxRecDepth 100000 in
set_option maxHeartbeats 4000000 in
/-- Tries of a module that is right -/
theorem triesA {tab : Nat → Int} {w : World} {hh : Nat} {m : Md} {pl : Option Addr} {cl : Nat} {pf : Option Addr} {cf : Nat} (h : MdIn w hh m pl cl pf cf) (hg : Laid0 w) (hFl : LaidF tab w) (hr : RightM tab hh m.name m.lits m.funcs) (k : Nat) (f : Fn4) (hf : m.funcs[k]? = some f) :
    Calls Tryd.prog 16 #[.agg #[.string m.name, .slice pl m.lits.length cl, .slice pf m.funcs.length cf], .int .i64 k] w fun e w' => ∃ tg tc ts, e = .returned (.tuple #[.slice (some ⟨tg, 0, none⟩) f.code.length tc, .nilIface]) ∧ Ir w' tg tc ts ∧ w.heap.size ≤ tg ∧ Walked f.code ts ∧ Kp (fun _ => False) w w' := by
  obtain ⟨nm, lits, fns⟩ := m
  simp only at h hr hf ⊢
  have hgood := hr.rfn k f hf
  obtain ⟨w1, hw1⟩ : ∃ w1, w.alloc (.cells #[.string nm, .slice pl lits.length cl, .slice pf fns.length cf] 26) = w1 := ⟨_, rfl⟩
  have hk1 : Kp (fun _ => False) w w1 := by rw [← hw1]; exact (Kp.refl _ w).alloc _
  have hb : w1.heap[w.heap.size]? = some (.cells #[.string nm, .slice pl lits.length cl, .slice pf fns.length cf] 26 (0, 0)) := by rw [← hw1]; exact heap_alloc_new w _
  obtain ⟨y0, y1, y2⟩ := vthree_facts hb
  have HM := Lib.hid (moduleA_ok (m := ⟨nm, lits, fns⟩) (h.kp hk1) (laid0_kp hg hk1) (hFl.kp hk1) hr)
  have H := Lib.hid (And.intro h (And.intro hk1 (And.intro hb (And.intro hgood hf))))
  have hkl := (List.getElem?_eq_some_iff.1 hf).1
  clear h hg hFl hr hk1 hb hgood hf
  go_enter Tryd.func16, Tryd.ntmps16
  go_wp2_with fail
  refine HM.out.mono ?_
  rintro e w2 ⟨rfl, hk2⟩
  have hki : ¬ (k : Int) < 0 := by omega
  have hkn : ¬ (fns.length : Int) ≤ k := by omega
  have hkp : (k : Int) < fns.length := by omega
  have e0 := keeps_cell hk2 y0
  have e1 := keeps_cell hk2 y1
  have e2 := keeps_cell hk2 y2
  have hk02 := H.out.2.1.trans' hk2
  obtain ⟨pf2, cf2, e, -, -, f3⟩ := (H.out.1.kp hk02).fns
  simp only [Value.slice.injEq] at e
  obtain ⟨rfl, -, rfl⟩ := e
  obtain ⟨b, off, c0, c1, c2, c3, rfl, -, a0, a1, a2, a3, vc, hq, -, -, -, hcf⟩ := f3 k f H.out.2.2.2.2
  have hcf2 := hcf
  obtain ⟨pc, cc, rfl, -⟩ := hcf2
  simp only [List.cons.injEq, and_true] at hq
  obtain ⟨rfl, rfl, rfl, rfl⟩ := hq
  have hh := wi_true.1 ((Bool.and_eq_true_iff.1 (Bool.and_eq_true_iff.1 H.out.2.2.2.1.head).2).2)
  have HW := Lib.hid (walked_any hcf (fun q e => e) (by omega) (by omega) (labOk_ofA (tab := tab) (nl := lits.length) (nf := fns.length) (sl := f.slots) (ar := fun p => arOf fns (f.code[p]?.getD ⟨0, 0, 0, 0⟩)) (fun p x hp => by
    have := H.out.2.2.2.1.ins p x hp
    simp only [hp, Option.getD_some]
    exact this)))
  have H2 := Lib.hid hk02
  clear hk2 hk02 hcf f3 hh y0 y1 y2 a0 a1 a2
  go_wp2_with fail
  refine HW.out.mono ?_
  rintro e w3 (⟨tg, tc, ts, rfl, hir, hlo, hwk, hk3⟩ | ⟨p, t, kk, rfl, hre, hst, hk3⟩)
  · have hz := H2.out.size
    have H3 := Lib.hid (And.intro hir (And.intro (Nat.le_trans hz hlo) (And.intro hwk (H2.out.trans' hk3))))
    clear hir hlo hwk hk3
    go_wp2_with fail
    go_ret2
    exact ⟨tg, tc, ts, rfl, H3.out.1, H3.out.2.1, H3.out.2.2.1, H3.out.2.2.2⟩
  · exact (slipA_not (tab := tab) (nl := lits.length) (fns := fns) (i := k) (f := f) ⟨H.out.2.2.2.1.head, .inr ⟨H.out.2.2.2.1.ins, t, hre, hst⟩⟩ H.out.2.2.2.1).elim
end Go.Proofs.YtpdepmkojbpklaaDoor
