/- An instruction of a module of one's own is turned; what the program and the reference tell of that module is the same. -/
import Derived.Test.YtpdepmkojbpklaaDoorM23
import Derived.Test.YtpdepmkojbpklaaDoorM26
import Derived.Test.YtpdepmkojbpklaaDoorM31
import Derived.Test.YtpdepmkojbpklaaDoorM43
/- An instruction of a module of one's own is turned; what the program and the reference tell of that module is the same. -/
namespace Go.Proofs.YtpdepmkojbpklaaDoor
open Go.RowKit

theorem mdAt_kp2 {w w' : World} {hh : Nat} {m : Md} {cs : List Value} (h : MdAt (fun q => q < w.heap.size) w hh m cs) (hk : Kp (fun _ => False) w w') : MdAt (fun q => q < w'.heap.size) w' hh m cs := by
  have hz := hk.size
  exact h.imp (fun q e => Nat.lt_of_lt_of_le e hz) (fun b j u _ e => keeps_cell hk e)
/-- a copy, as a module in memory -/
theorem copy_in2 {w : World} {hh W0 : Nat} {m : Md} {pl : Option Addr} {cl : Nat} {pf : Option Addr} {cf : Nat} {cls : List Value} (hL : ListAt (fun q => q < W0) w (TermAt (fun q => q < W0) w hh) m.lits (.slice pl m.lits.length cl)) (hW : W0 ≤ w.heap.size)
    (hO : FOwn W0 w (.slice pf m.funcs.length cf) m.funcs cls) (hl : m.funcs.length * 56 ≤ 140737488351232) : MdIn w hh m pl cl pf cf :=
  ⟨hL.imp (fun _ e => Nat.lt_of_lt_of_le e hW) (fun _ _ _ _ e => e) (fun t cs e => TermAt.imp (fun _ e => Nat.lt_of_lt_of_le e hW) (fun _ _ _ _ e => e) _ t cs e), hO.fns hl⟩
theorem vins_set : ∀ (l : List In4) (i : Nat) (x : In4), i < l.length → ((((vinsCells l).set (i * 4) (.int .i64 x.op)).set (i * 4 + 1) (.int .i64 x.a)).set (i * 4 + 2) (.int .i64 x.b)).set (i * 4 + 3) (.int .i64 x.c) = vinsCells (l.set i x)
  | [], i, x, h => by simp at h
  | y :: l, 0, x, _ => by simp [vinsCells]
  | y :: l, i + 1, x, h => by
    have ih := vins_set l i x (by simpa using h)
    have e : ∀ (z : In4) (l : List In4), vinsCells (z :: l) = .int .i64 z.op :: .int .i64 z.a :: .int .i64 z.b :: .int .i64 z.c :: vinsCells l := fun z l => by simp [vinsCells]
    rw [List.set_cons_succ, e, e, show (i + 1) * 4 = i * 4 + 1 + 1 + 1 + 1 by omega, show i * 4 + 1 + 1 + 1 + 1 + 1 = i * 4 + 1 + 1 + 1 + 1 + 1 from rfl]
    rw [show i * 4 + 1 + 1 + 1 + 1 + 2 = i * 4 + 2 + 1 + 1 + 1 + 1 by omega, show i * 4 + 1 + 1 + 1 + 1 + 3 = i * 4 + 3 + 1 + 1 + 1 + 1 by omega]
    simp only [List.set_cons_succ]
    rw [ih]
/-- a function with one instruction turned -/
def fnPut (f : Fn4) (i : Nat) (x : In4) : Fn4 := ⟨f.name, f.args, f.slots, f.code.set i x⟩
theorem fnCells_put : ∀ {l : List Fn4} {cl : List Value} {k : Nat} {f f' : Fn4}, l[k]? = some f → f'.name = f.name → f'.args = f.args → f'.slots = f.slots → fnCells (l.set k f') cl = fnCells l cl
  | [], _, k, f, f', h, _, _, _ => by simp at h
  | _ :: _, [], 0, f, f', _, _, _, _ => by simp [fnCells]
  | y :: l, u :: cl, 0, f, f', h, h1, h2, h3 => by
    obtain rfl : y = f := by simpa using h
    simp [fnCells, h1, h2, h3]
  | _ :: _, [], k + 1, f, f', _, _, _, _ => by simp [fnCells]
  | y :: l, u :: cl, k + 1, f, f', h, h1, h2, h3 => by
    have ih := fnCells_put (l := l) (cl := cl) (k := k) (f := f) (f' := f') (by simpa using h) h1 h2 h3
    have e : ∀ (z : Fn4) (l : List Fn4), fnCells (z :: l) (u :: cl) = .string z.name :: .int .i64 z.args :: .int .i64 z.slots :: u :: fnCells l cl := fun z l => by simp [fnCells]
    rw [List.set_cons_succ, e, e, ih]
/-- the world behind the store -/
def insPut (w : World) (g j : Nat) (x : In4) : World := (((w.setCell ⟨g, j, none⟩ (.int .i64 x.op)).setCell ⟨g, j + 1, none⟩ (.int .i64 x.a)).setCell ⟨g, j + 2, none⟩ (.int .i64 x.b)).setCell ⟨g, j + 3, none⟩ (.int .i64 x.c)
theorem insPut_kp (w : World) (g j : Nat) (x : In4) : Kp (fun q => q = g) w (insPut w g j x) :=
  ((((Kp.refl (fun q => q = g) w).setCell _ _ (.inl rfl)).setCell _ _ (.inl rfl)).setCell _ _ (.inl rfl)).setCell _ _ (.inl rfl)
theorem FOwn.put {W0 : Nat} {w : World} {v : Value} {l : List Fn4} {cl : List Value} (h : FOwn W0 w v l cl) {k : Nat} {f : Fn4} (hf : l[k]? = some f) {i : Nat} (hi : i < f.code.length) {x : In4} (hx : x.wf) {g cap : Nat} (hu : cl[k]? = some (.slice (some ⟨g, 0, none⟩) f.code.length cap)) :
    FOwn W0 (insPut w g (i * 4) x) v (l.set k (fnPut f i x)) cl := by
  have hkl := (List.getElem?_eq_some_iff.1 hf).1
  have hk := insPut_kp w g (i * 4) x
  have hgb : (Value.slice (some ⟨g, 0, none⟩) f.code.length cap).ownBlock = some g := rfl
  have hlen : (fnPut f i x).code.length = f.code.length := by simp [fnPut]
  refine ⟨by simp [h.clen], ?_, fun j y u hy huj => ?_, h.capart, h.coff, fun y hy => ?_⟩
  · rw [fnCells_put (f' := fnPut f i x) hf rfl rfl rfl, List.length_set]
    exact hk.row h.frow (fun q e e2 => by subst e2; exact h.coff k _ _ hu hgb e)
  · by_cases hjk : j = k
    · subst hjk
      rw [List.getElem?_set_self hkl] at hy
      obtain rfl := Option.some.inj hy
      rw [hu] at huj
      obtain rfl := Option.some.inj huj
      rw [hlen]
      refine ⟨⟨_, _, rfl⟩, ?_⟩
      have h1 := (h.crow j f _ hf hu).2
      have h2 := (((((h1.stored (i * 4) (.int .i64 x.op)).1.stored (i * 4 + 1) (.int .i64 x.a)).1.stored (i * 4 + 2) (.int .i64 x.b)).1.stored (i * 4 + 3) (.int .i64 x.c))).1
      rw [vins_set _ _ _ hi] at h2
      exact h2
    · rw [List.getElem?_set_ne (fun e => hjk e.symm)] at hy
      have hc := h.crow j y u hy huj
      exact ⟨hc.1, hk.row hc.2 (fun q e e2 => by subst e2; exact h.capart j k u _ _ huj hu hjk e hgb)⟩
  · rcases List.mem_or_eq_of_mem_set hy with e | rfl
    · exact h.fwf y e
    · obtain ⟨a, b, c, d, e⟩ := h.fwf f (List.mem_of_getElem? hf)
      refine ⟨a, b, c, by rw [hlen]; exact d, fun z hz => ?_⟩
      rcases List.mem_or_eq_of_mem_set hz with h1 | rfl
      · exact e z h1
      · exact hx

set_option maxRecDepth 100000 in
set_option maxHeartbeats 4000000 in
/-- vet's Module by what whole tells: both outcomes -/
theorem module_why {R : Prop} {Q : List Lk → Prop} {c0 c1 c2 : Value} {w : World} (h : ∀ w1, Kp (fun _ => False) w w1 → Calls Tryd.prog 22 #[.agg #[c0, c1, c2]] w1 fun e w' => (e = .returned .nilIface ∧ Kp (fun _ => False) w1 w' ∧ R) ∨ ∃ (a : Lk) (l : List Lk), EBad w1 id (a :: l) e w' ∧ Q (a :: l)) :
    Calls Tryd.prog 11 #[.agg #[c0, c1, c2]] w fun e w' => ∃ v, e = .returned v ∧ ((v = .nilIface ∧ R) ∨ ∃ (a : Lk) (l : List Lk), ChainB w.heap.size w' v (Lk.fault modS 0 :: a :: l) ∧ Q (a :: l)) ∧ Kp (fun _ => False) w w' := by
  obtain ⟨w1, hw1⟩ : ∃ w1, w.alloc (.cells #[c0, c1, c2] 26) = w1 := ⟨_, rfl⟩
  have hk1 : Kp (fun _ => False) w w1 := by rw [← hw1]; exact (Kp.refl _ w).alloc _
  have hb : w1.heap[w.heap.size]? = some (.cells #[c0, c1, c2] 26 (0, 0)) := by rw [← hw1]; exact heap_alloc_new w _
  have y0 : w1.cell? ⟨w.heap.size, 0, none⟩ = some c0 := by rw [cell_of_row w1 _ 0 _ _ _ hb]; rfl
  have y1 : w1.cell? ⟨w.heap.size, 1, none⟩ = some c1 := by rw [cell_of_row w1 _ 1 _ _ _ hb]; rfl
  have y2 : w1.cell? ⟨w.heap.size, 2, none⟩ = some c2 := by rw [cell_of_row w1 _ 2 _ _ _ hb]; rfl
  have H := Lib.hid (And.intro (h w1 hk1) hk1)
  clear hb hk1 h
  go_enter Tryd.func11, Tryd.ntmps11
  go_wp2_with fail
  refine H.out.1.mono ?_
  rintro e w2 (⟨rfl, hk2, hr⟩ | ⟨a, l, ⟨v, rfl, hch, hk2⟩, hq⟩)
  · have H2 := Lib.hid (And.intro hr (H.out.2.trans' hk2))
    clear hk2 hr
    go_wp2_with fail
    refine (at_nil _ _ _).mono ?_
    rintro e w3 ⟨rfl, rfl⟩
    go_wp2_with fail
    go_ret
    exact ⟨_, rfl, .inl ⟨rfl, H2.out.1⟩, H2.out.2⟩
  · have H2 := Lib.hid (And.intro hch (And.intro (H.out.2.trans' hk2) hq))
    have hz : w1.heap.size ≤ w2.heap.size := hk2.size
    clear hch hk2 hq
    simp only [id]
    go_wp2_with fail
    refine (at_chain _ _ H2.out.1 hz).mono ?_
    rintro e w3 ⟨v', rfl, hch, hk3⟩
    have H3 := Lib.hid (And.intro hch hk3)
    clear hch hk3
    go_wp2_with fail
    go_ret
    exact ⟨_, rfl, .inr ⟨a, l, H3.out.1.le H.out.2.size, H2.out.2.2⟩, H2.out.2.1.trans' H3.out.2⟩

/-- what the program told of a module -/
def VOk (hh : Nat) (nm : ByteArray) (lits : List Tm) (fns : List Fn4) (u : World) (v : Value) : Prop :=
  (v = .nilIface ∧ RightM rtab hh nm lits fns) ∨ ∃ (a : Lk) (l : List Lk), ChainB 0 u v (Lk.fault modS 0 :: a :: l) ∧ WhyL rtab hh nm lits fns (a :: l)
/-- what the reference told of it -/
def ROk (hh : Nat) (nm : ByteArray) (lits : List Tm) (fns : List Fn4) (u : World) (v : Value) : Prop :=
  (v = .pointer none ∧ RightM rtab hh nm lits fns) ∨ ∃ L, XCh u v (Lk.fault modS 0 :: L) ∧ WhyF rtab lits.length fns L
theorem VOk.kp {hh : Nat} {nm : ByteArray} {lits : List Tm} {fns : List Fn4} {u u' : World} {v : Value} (h : VOk hh nm lits fns u v) (hk : Kp (fun _ => False) u u') : VOk hh nm lits fns u' v :=
  h.imp (fun e => e) fun ⟨a, l, h1, h2⟩ => ⟨a, l, h1.kp hk (fun _ e => e.elim), h2⟩
theorem ROk.kp {hh : Nat} {nm : ByteArray} {lits : List Tm} {fns : List Fn4} {u u' : World} {v : Value} (h : ROk hh nm lits fns u v) (hk : Kp (fun _ => False) u u') : ROk hh nm lits fns u' v :=
  h.imp (fun e => e) fun ⟨L, h1, h2⟩ => ⟨L, XCh.kp hk _ _ h1, h2⟩
/-- a copy of it -/
def CpOk (hh : Nat) (nm : ByteArray) (lits : List Tm) (fns : List Fn4) (u : World) (v : Value) : Prop :=
  ∃ pl cl pf cf, v = .agg #[.string nm, .slice pl lits.length cl, .slice pf fns.length cf] ∧ MdIn u hh ⟨nm, lits, fns⟩ pl cl pf cf
theorem CpOk.kp {hh : Nat} {nm : ByteArray} {lits : List Tm} {fns : List Fn4} {u u' : World} {v : Value} (h : CpOk hh nm lits fns u v) (hk : Kp (fun _ => False) u u') : CpOk hh nm lits fns u' v := by
  obtain ⟨pl, cl, pf, cf, e, h⟩ := h
  exact ⟨pl, cl, pf, cf, e, h.kp hk⟩
theorem vet_cp {hh : Nat} {nm : ByteArray} {lits : List Tm} {fns : List Fn4} {u : World} {v : Value} (h : CpOk hh nm lits fns u v) (hg : Laid0 u) (hFl : LaidF rtab u) :
    Calls Tryd.prog 11 #[v] u fun e w' => ∃ v', e = .returned v' ∧ VOk hh nm lits fns w' v' ∧ Kp (fun _ => False) u w' := by
  obtain ⟨pl, cl, pf, cf, rfl, h⟩ := h
  refine (module_why (R := RightM rtab hh nm lits fns) (Q := WhyL rtab hh nm lits fns) fun w1 hk => wholeL (h.kp hk).lits (h.kp hk).fns (fun _ e => e) (hFl.kp hk) (laid0_kp hg hk)).mono ?_
  rintro e w' ⟨v', rfl, hv, hk⟩
  exact ⟨v', rfl, hv.imp (fun e => e) fun ⟨a, l, h1, h2⟩ => ⟨a, l, h1.le (Nat.zero_le _), h2⟩, hk⟩
theorem copy_cp {hh : Nat} {nm : ByteArray} {lits : List Tm} {fns : List Fn4} {u : World} {pl : Option Addr} {cl : Nat} {pf : Option Addr} {cf : Nat} (hn : nm.size ≤ maxLen) (h : MdIn u hh ⟨nm, lits, fns⟩ pl cl pf cf) (hfl : fns.length * 56 ≤ 140737488351232) :
    Calls Tryd.prog 15 #[.agg #[.string nm, .slice pl lits.length cl, .slice pf fns.length cf]] u fun e w' => ∃ v', e = .returned v' ∧ CpOk hh nm lits fns w' v' ∧ Kp (fun _ => False) u w' := by
  have hMd : MdAt (fun q => q < u.heap.size) u hh ⟨nm, lits, fns⟩ [.string nm, .slice pl lits.length cl, .slice pf fns.length cf] := ⟨_, _, rfl, hn, h.lits, h.fns⟩
  refine (copyModule_own hMd).mono ?_
  rintro e w' ⟨W11, p11, c11, q11, d11, cls11, rfl, hW11, hW11', hL11, hO11, hk11⟩
  exact ⟨_, rfl, ⟨p11, c11, q11, d11, rfl, copy_in2 (m := ⟨nm, lits, fns⟩) (hL11.imp (fun q e => e.2) (fun _ _ _ _ e => e) (fun t cs e => TermAt.imp (fun q e => e.2) (fun _ _ _ _ e => e) _ t cs e)) hW11' hO11 hfl⟩, hk11⟩
theorem ref_md {hh : Nat} (hR : RRight hh) {nm : ByteArray} {lits : List Tm} {fns : List Fn4} {u : World} {pl : Option Addr} {cl : Nat} {pf : Option Addr} {cf : Nat} (h : MdIn u hh ⟨nm, lits, fns⟩ pl cl pf cf) :
    Calls Tryd.prog 19 #[.agg #[.string nm, .slice pl lits.length cl, .slice pf fns.length cf]] u (MRef hh nm lits fns u) :=
  rmodule_any h.lits h.fns (fun _ e => e) hR
theorem ref_ok {hh : Nat} (hR : RRight hh) {nm : ByteArray} {lits : List Tm} {fns : List Fn4} {u : World} {pl : Option Addr} {cl : Nat} {pf : Option Addr} {cf : Nat} (h : MdIn u hh ⟨nm, lits, fns⟩ pl cl pf cf) (hs : SmallM nm lits fns) (hl : ∀ t ∈ lits, tok 200 t ∧ tsz hh t ≤ 65536) :
    Calls Tryd.prog 19 #[.agg #[.string nm, .slice pl lits.length cl, .slice pf fns.length cf]] u fun e w' => ∃ v', e = .returned v' ∧ ROk hh nm lits fns w' v' ∧ Kp (fun _ => False) u w' := by
  refine (ref_md hR h).mono ?_
  rintro e w' ⟨⟨rfl, hr⟩ | ⟨g, rfl, hno | ⟨L, h1, h2⟩⟩, hk⟩
  · exact ⟨_, rfl, .inl ⟨rfl, hr⟩, hk⟩
  · exact absurd ⟨hs, hl⟩ hno
  · exact ⟨_, rfl, .inr ⟨L, h2, h1⟩, hk⟩
/-- they are the same -/
theorem ref_same {hh : Nat} {nm : ByteArray} {lits : List Tm} {fns : List Fn4} {u : World} {v v2 : Value} (hs : SmallM nm lits fns) (hl : ∀ t ∈ lits, tok 200 t ∧ tsz hh t ≤ 65536) (h : VOk hh nm lits fns u v) (h2 : ROk hh nm lits fns u v2) :
    Calls Tryd.prog 20 #[v, v2] u fun e w' => e = .returned (.bool true) ∧ Kp (fun _ => False) u w' := by
  rcases h with ⟨rfl, hr⟩ | ⟨a, l, h1, hw⟩
  · rcases h2 with ⟨rfl, -⟩ | ⟨L, h3, h4⟩
    · exact ref_any [] _ _ u (by simp) rfl rfl
    · exact absurd hr (why_not (WhyF.why h4))
  · rcases h2 with ⟨rfl, hr⟩ | ⟨L, h3, h4⟩
    · exact absurd hr (why_not hw)
    · obtain rfl := whyF_one (why_fn hw hs hl) h4
      refine ref_any (Lk.fault modS 0 :: a :: l) _ _ u ?_ h1.out h3
      obtain ⟨i, f, -, -, ⟨-, e⟩ | ⟨p, k, -, e⟩⟩ := h4 <;> (rw [e]; simp)
end Go.Proofs.YtpdepmkojbpklaaDoor
