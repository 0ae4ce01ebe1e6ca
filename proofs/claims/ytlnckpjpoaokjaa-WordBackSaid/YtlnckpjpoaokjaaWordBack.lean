/- A term that fits in a word is told by that word again, and unlike terms have unlike words: WordBack answers true, for every two terms; the arguments read afterwards as before. -/
import Derived.Test.YtlnckpjpoaokjaaRows
import Derived.Test.YtlnckpjpoaokjaaHead
import Derived.Test.YtlnckpjpoaokjaaTermIn
import Derived.Deep.QuietTactic
import Derived.BigQuiet
import Derived.StillTailTactics
import Derived.WalkKit
import Derived.ProofKit
import Derived.OpenShut
import Derived.ShutString
import Derived.ChangeOld
import Derived.Below
import Derived.Deep.Strs
namespace Go.Proofs.Ytlnckpjpoaokjaa.wordBack
open Go.ChangeShapes Go.WideShapes Go.ChangeAt Go.RowKit
open Go.ChangeMaps (open_string shut_string)
set_option linter.unusedVariables false

theorem own : ownKnob Try.prog.godebug = none := by kernel_rfl
theorem laidOut : laidOutB Try.prog = true := by kernel_rfl

/-- the two arguments' own blocks, and the table, beside one another -/
structure St (w W : World) (o0 o1 : Obj) (G : Nat → Prop) (b : Nat) (t : List ByteArray) : Prop where
  hb0 : W.heap[w.heap.size]? = some o0
  hb1 : W.heap[w.heap.size + 1]? = some o1
  kp : Kp (fun _ => False) w W
  ra : AtRep W G b t
  nf : ∀ q, G q → w.heap.size + 2 ≤ q
theorem St.same {w W W' : World} {o0 o1 : Obj} {G : Nat → Prop} {b : Nat} {t : List ByteArray} (h : St w W o0 o1 G b t) (hk : Kp (fun _ => False) W W') : St w W' o0 o1 G b t :=
  ⟨(hk.block _ (Array.getElem?_eq_some_iff.1 h.hb0).1 (fun e => e)).trans h.hb0, (hk.block _ (Array.getElem?_eq_some_iff.1 h.hb1).1 (fun e => e)).trans h.hb1, h.kp.trans' hk, h.ra.kp hk (fun _ _ e => e), h.nf⟩
theorem St.small {w W W' : World} {o0 o1 : Obj} {G G' : Nat → Prop} {b : Nat} {t t' : List ByteArray} (h : St w W o0 o1 G b t) (hr : AtRep W' G' b t') (hn : ∀ q, G' q → G q ∨ W.heap.size ≤ q) (hk : Kp G W W') : St w W' o0 o1 G' b t' := by
  have h0 := (Array.getElem?_eq_some_iff.1 h.hb0).1
  have h1 := (Array.getElem?_eq_some_iff.1 h.hb1).1
  refine ⟨(hk.block _ h0 (fun e => by have := h.nf _ e; omega)).trans h.hb0, (hk.block _ h1 (fun e => by have := h.nf _ e; omega)).trans h.hb1, h.kp.trans (hk.mono fun q hq e => .inr ⟨by have := h.nf q e; omega, hq⟩), hr, fun q hq => ?_⟩
  rcases hn q hq with e | e
  · exact h.nf q e
  · omega

theorem nodup_inj : ∀ {l : List ByteArray} {i j : Nat}, l.Nodup → i < l.length → l[i]? = l[j]? → i = j
  | [], i, j, _, h, _ => by simp at h
  | a :: l, 0, 0, _, _, _ => rfl
  | a :: l, 0, j + 1, hn, _, h => by
    have hm : a ∈ l := List.mem_of_getElem? (by simpa using h.symm)
    simp at hn
    exact absurd hm hn.1
  | a :: l, i + 1, 0, hn, _, h => by
    have hm : a ∈ l := List.mem_of_getElem? (by simpa using h)
    simp at hn
    exact absurd hm hn.1
  | a :: l, i + 1, j + 1, hn, hl, h => by
    simp at hn hl h
    rw [nodup_inj hn.2 hl h]
/-- what the two words' laws come to: equal words, and Compare's answer -/
theorem both_words {t2 : List ByteArray} {T0 T1 : Tm} {a0 b0 a1 b1 : Int} {c0 c1 : ByteArray} {i i2 : Nat} {x y r : Int} (hx : x = WordOf a0 b0 i) (hy : y = WordOf a1 b1 i2) (h1 : Told1 t2 T0 a0 b0 c0 i) (h2 : Told1 t2 T1 a1 b1 c1 i2)
    (hl1 : LeafIs a0 b0 c0) (hl2 : LeafIs a1 b1 c1) (hnd : t2.Nodup) (hr : r = 0 ↔ Alike a0 b0 c0 a1 b1 c1) : (x = y ∧ r = 0) ∨ (x ≠ y ∧ r ≠ 0) := by
  have hw := word_eq (i := i) (i2 := i2) hl1 hl2 h1.small h2.small h1.lt h2.lt (fun e1 e2 => by
    have g1 := h1.name e1
    have g2 := h2.name e2
    constructor
    · rintro rfl
      rw [g1] at g2
      injection g2
    · rintro rfl
      exact nodup_inj hnd (List.getElem?_eq_some_iff.1 g1).1 (by rw [g1, g2]))
  rw [hx, hy]
  by_cases h : Alike a0 b0 c0 a1 b1 c1
  · exact .inl ⟨hw.2 h, hr.2 h⟩
  · exact .inr ⟨fun e => h (hw.1 e), fun e => h (hr.1 e)⟩
theorem Told1.more {t t' : List ByteArray} {T : Tm} {k n : Int} {s s' : ByteArray} {i : Nat} (h : Told1 t T k n s i) (ht : t' = t ∨ (s' ∉ t ∧ t' = t ++ [s'])) : Told1 t' T k n s i := by
  refine ⟨h.fits, fun e => ?_, h.small, h.leaf, h.lt⟩
  have := h.name e
  rcases ht with rfl | ⟨_, rfl⟩
  · exact this
  · rw [List.getElem?_append_left (List.getElem?_eq_some_iff.1 this).1]
    exact this
theorem few {t t' : List ByteArray} {s : ByteArray} {n : Nat} (h : t.length ≤ n) (ht : t' = t ∨ (s ∉ t ∧ t' = t ++ [s])) : t'.length ≤ n + 1 := by
  rcases ht with rfl | ⟨_, rfl⟩
  · omega
  · simp; omega

theorem six_cells {W : World} {b : Nat} {c0 c1 c2 c3 c4 c5 : Value} {T : TypeId} {f : Nat × Nat} (h : W.heap[b]? = some (.cells #[c0, c1, c2, c3, c4, c5] T f)) :
    W.cell? ⟨b, 0, none⟩ = some c0 ∧ W.cell? ⟨b, 1, none⟩ = some c1 ∧ W.cell? ⟨b, 2, none⟩ = some c2 ∧ W.cell? ⟨b, 3, none⟩ = some c3 ∧ W.cell? ⟨b, 4, none⟩ = some c4 ∧ W.cell? ⟨b, 5, none⟩ = some c5 :=
  ⟨cell_of_row W b 0 _ _ _ h, cell_of_row W b 1 _ _ _ h, cell_of_row W b 2 _ _ _ h, cell_of_row W b 3 _ _ _ h, cell_of_row W b 4 _ _ _ h, cell_of_row W b 5 _ _ _ h⟩

set_option maxHeartbeats 4000000 in
set_option maxRecDepth 100000 in
theorem walk (T0 : Tm) (m0 : Nat) (a0 b0 : Int) (c0 : ByteArray) (e0 : Option Addr) (f0 g0 : Nat) (i0 : Option Addr) (j0 l0 : Nat) (n0 : Option Addr) (o0 u0 : Nat) (T1 : Tm) (m1 : Nat) (a1 b1 : Int) (c1 : ByteArray) (e1 : Option Addr) (f1 g1 : Nat) (i1 : Option Addr) (j1 l1 : Nat) (n1 : Option Addr) (o1 u1 : Nat) (w : World)
    (h0 : TermAt (fun q => q < w.heap.size) w m0 T0 [.int .i64 a0, .int .i64 b0, .string c0, .slice e0 f0 g0, .slice i0 j0 l0, .slice n0 o0 u0])
    (h1 : TermAt (fun q => q < w.heap.size) w m1 T1 [.int .i64 a1, .int .i64 b1, .string c1, .slice e1 f1 g1, .slice i1 j1 l1, .slice n1 o1 u1]) :
    Calls Try.prog 4 #[.agg #[.int .i64 a0, .int .i64 b0, .string c0, .slice e0 f0 g0, .slice i0 j0 l0, .slice n0 o0 u0], .agg #[.int .i64 a1, .int .i64 b1, .string c1, .slice e1 f1 g1, .slice i1 j1 l1, .slice n1 o1 u1]] w fun e w' => e = .returned (.bool true) ∧ Below w.heap.size w w' := by
  have hc0 := h0
  have HL : Hid ((fitsB T0 = true ∧ ¬ (a0 = 5 ∨ a0 = 7 ∨ a0 = 8)) → f0 = 0 ∧ j0 = 0 ∧ o0 = 0 ∧ LeafIs a0 b0 c0) := Lib.hid fun h => by
    rcases fits_leaf h0 h.1 with h1 | h1
    · exact absurd h1 h.2
    · exact h1
  have H0 := Lib.hid h0
  have H1 := Lib.hid h1
  clear h0 h1 hc0
  go_enter Try.func4, Try.ntmps4
  go_wp2_with fail
  refine (newAtoms_any _).mono ?_
  rintro e wa ⟨rfl, hwa⟩
  have hS : St w wa (.cells #[.int .i64 a0, .int .i64 b0, .string c0, .slice e0 f0 g0, .slice i0 j0 l0, .slice n0 o0 u0] 60 (0, 0)) (.cells #[.int .i64 a1, .int .i64 b1, .string c1, .slice e1 f1 g1, .slice i1 j1 l1, .slice n1 o1 u1] 60 (0, 0)) (fun q => q = w.heap.size + 1 + 1) (w.heap.size + 1 + 1) [] := by
    subst hwa
    have hs := solo_new ((w.alloc (.cells #[.int .i64 a0, .int .i64 b0, .string c0, .slice e0 f0 g0, .slice i0 j0 l0, .slice n0 o0 u0] 60)).alloc (.cells #[.int .i64 a1, .int .i64 b1, .string c1, .slice e1 f1 g1, .slice i1 j1 l1, .slice n1 o1 u1] 60))
    rw [World.size_alloc, World.size_alloc] at hs
    have hb0 := heap_alloc_new w (.cells #[.int .i64 a0, .int .i64 b0, .string c0, .slice e0 f0 g0, .slice i0 j0 l0, .slice n0 o0 u0] 60)
    have hb1 := heap_alloc_new (w.alloc (.cells #[.int .i64 a0, .int .i64 b0, .string c0, .slice e0 f0 g0, .slice i0 j0 l0, .slice n0 o0 u0] 60)) (.cells #[.int .i64 a1, .int .i64 b1, .string c1, .slice e1 f1 g1, .slice i1 j1 l1, .slice n1 o1 u1] 60)
    rw [World.size_alloc] at hb1
    refine ⟨(Below.heap_alloc _ _ _ (by simp; omega)).trans ((Below.heap_alloc _ _ _ (by simp)).trans hb0), (Below.heap_alloc _ _ _ (by simp)).trans hb1, (((Kp.refl _ w).alloc _).alloc _).alloc _, ?_, fun q e => by omega⟩
    simpa using hs.ra
  have hz : ((w.alloc (.cells #[.int .i64 a0, .int .i64 b0, .string c0, .slice e0 f0 g0, .slice i0 j0 l0, .slice n0 o0 u0] 60)).alloc (.cells #[.int .i64 a1, .int .i64 b1, .string c1, .slice e1 f1 g1, .slice i1 j1 l1, .slice n1 o1 u1] 60)).heap.size = w.heap.size + 1 + 1 := by simp
  rw [hz]
  obtain ⟨z0, z1, z2, z3, z4, z5⟩ := six_cells hS.hb0
  have Ha := Lib.hid hS
  clear hS hwa hz
  go_wp2_with fail
  refine (copy_any _ _ _ _ _ (H0.out.kp Ha.out.kp (fun _ _ e => e))).mono ?_
  rintro e wb ⟨cs, rfl, hT, hk⟩
  obtain ⟨k', n', s', q1, q2, q3, q4, q5, q6, q7, q8, q9, rfl⟩ := hT.form
  obtain ⟨rfl, rfl, rfl, rfl, rfl, rfl⟩ := H0.out.head hT
  have Hb := Lib.hid (And.intro (Ha.out.same hk) hT)
  clear hT hk Ha z0 z1 z2 z3 z4 z5
  go_wp2_with fail
  refine (small_all Hb.out.2 Hb.out.1.ra (by simp)).mono ?_
  rintro e wc ⟨hs, hk⟩
  obtain ⟨t1, G1, r1, r2, r3, r4⟩ := small_two hs (by simp)
  have Hc := Lib.hid (And.intro (Hb.out.1.small r1 r2 hk) (few (n := 0) (by simp) r3))
  obtain ⟨y0, y1, y2, y3, y4, y5⟩ := six_cells Hc.out.1.hb1
  clear hs hk r1 r2 r3 Hb
  rcases r4 with ⟨i, x, rfl, hx, hd⟩ | ⟨ev, rfl⟩
  · obtain ⟨rfl, rfl, rfl, hlf⟩ := HL.out ⟨hd.fits, hd.leaf⟩
    have Hx := Lib.hid (And.intro hx (And.intro hd hlf))
    clear hx hd hlf
    go_wp2_with fail
    refine (copy_any _ _ _ _ _ (H1.out.kp Hc.out.1.kp (fun _ _ e => e))).mono ?_
    rintro e wd ⟨cs, rfl, hT, hk⟩
    obtain ⟨k', n', s', q1, q2, q3, q4, q5, q6, q7, q8, q9, rfl⟩ := hT.form
    obtain ⟨rfl, rfl, rfl, rfl, rfl, rfl⟩ := H1.out.head hT
    have Hd := Lib.hid (And.intro (Hc.out.1.same hk) (And.intro Hc.out.2 hT))
    clear hT hk y0 y1 y2 y3 y4 y5 Hc
    go_wp2_with fail
    refine (small_all Hd.out.2.2 Hd.out.1.ra (by have := Hd.out.2.1; omega)).mono ?_
    rintro e we ⟨hs, hk⟩
    obtain ⟨t2, G2, r1, r2, r3, r4⟩ := small_two hs (by have := Hd.out.2.1; omega)
    have He := Lib.hid (And.intro (Hd.out.1.small r1 r2 hk) (And.intro (Told1.more Hx.out.2.1 r3) (few Hd.out.2.1 r3)))
    clear hs hk r1 r2 r3 Hd
    have hx0 := (wordOf_range (i := i) Hx.out.2.2)
    rw [← Hx.out.1] at hx0
    obtain ⟨hx0, hx1⟩ := hx0
    rcases r4 with ⟨i2, y, rfl, hy, hd2⟩ | ⟨ev, rfl⟩
    · have hl2 := hd2.leafIs H1.out
      have Hy := Lib.hid (And.intro hy (And.intro hd2 hl2.2.2.2))
      clear hy hd2 hl2
      go_wp2_with fail
      refine (plain_any He.out.1.ra x hx0 hx1 (by rw [Hx.out.1]; exact plain_word Hx.out.2.2 He.out.2.1.small He.out.2.1.name He.out.2.1.lt)).mono ?_
      rintro e wf ⟨v, rfl, hv, hk⟩
      obtain rfl : v = .nilIface := hv
      have hSf := (He.out.1.same hk).same ((Kp.refl _ wf).alloc (.cells #[.int .i64 a0, .int .i64 b0, .string c0, .slice none 0 0, .slice none 0 0, .slice none 0 0] 60))
      obtain ⟨z0, z1, z2, z3, z4, z5⟩ := six_cells hSf.hb0
      have Hf := Lib.hid hSf
      clear hk hSf
      unfold termOf
      go_wp2_with fail
      refine (same_none _ _ _ _ _ _ _ _ _ _).mono ?_
      rintro e wh ⟨rfl, hk⟩
      have hSh := Hf.out.same hk
      obtain ⟨z0, z1, z2, z3, z4, z5⟩ := six_cells hSh.hb0
      obtain ⟨y0, y1, y2, y3, y4, y5⟩ := six_cells hSh.hb1
      have Hh := Lib.hid hSh
      clear hk hSh Hf
      go_wp2_with fail
      refine (comp_all Hx.out.2.2 _ _ _ _ _ _ _ _ _ _ _ _ _ _ _ _ _ _ wh).mono ?_
      rintro e wi ⟨r, rfl, hr, hk⟩
      have hb := both_words Hx.out.1 Hy.out.1 He.out.2.1 Hy.out.2.1 Hx.out.2.2 Hy.out.2.2 He.out.1.ra.many.2.1 hr
      have Hi := Lib.hid (Hh.out.same hk)
      clear hk hr z0 z1 z2 z3 z4 z5 y0 y1 y2 y3 y4 y5
      rcases hb with ⟨rfl, rfl⟩ | ⟨hb1, hb2⟩
      · go_wp2_with (go_at_call 33; refine (awakeW_any _).mono ?_; rintro e wg ⟨rfl, hk7⟩)
        go_ret
        exact ⟨rfl, (Hi.out.kp.trans' hk7).below _ (Nat.le_refl _) (fun _ e => e.elim)⟩
      · have q1 : (x == y) = false := by simpa using hb1
        have q2 : (r == 0) = false := by simpa using hb2
        clear hb1 hb2
        go_wp2_with (go_at_call 33; refine (awakeW_any _).mono ?_; rintro e wg ⟨rfl, hk7⟩)
        go_ret
        exact ⟨rfl, (Hi.out.kp.trans' hk7).below _ (Nat.le_refl _) (fun _ e => e.elim)⟩
    · go_wp2_with fail
      refine (plain_any He.out.1.ra x hx0 hx1 (by rw [Hx.out.1]; exact plain_word Hx.out.2.2 He.out.2.1.small He.out.2.1.name He.out.2.1.lt)).mono ?_
      rintro e wf ⟨v, rfl, hv, hk⟩
      obtain rfl : v = .nilIface := hv
      have hSf := (He.out.1.same hk).same ((Kp.refl _ wf).alloc (.cells #[.int .i64 a0, .int .i64 b0, .string c0, .slice none 0 0, .slice none 0 0, .slice none 0 0] 60))
      obtain ⟨z0, z1, z2, z3, z4, z5⟩ := six_cells hSf.hb0
      have Hf := Lib.hid hSf
      clear hk hSf
      unfold termOf
      go_wp2_with fail
      refine (same_none _ _ _ _ _ _ _ _ _ _).mono ?_
      rintro e wh ⟨rfl, hk⟩
      have hSh := Hf.out.same hk
      obtain ⟨z0, z1, z2, z3, z4, z5⟩ := six_cells hSh.hb0
      obtain ⟨y0, y1, y2, y3, y4, y5⟩ := six_cells hSh.hb1
      have Hh := Lib.hid hSh
      clear hk hSh Hf
      clear z0 z1 z2 z3 z4 z5 y0 y1 y2 y3 y4 y5
      go_wp2_with (go_at_call 33; refine (awakeW_any _).mono ?_; rintro e wg ⟨rfl, hk7⟩)
      go_ret
      exact ⟨rfl, (Hh.out.kp.trans' hk7).below _ (Nat.le_refl _) (fun _ e => e.elim)⟩
  · go_wp2_with fail
    refine (copy_any _ _ _ _ _ (H1.out.kp Hc.out.1.kp (fun _ _ e => e))).mono ?_
    rintro e wd ⟨cs, rfl, hT, hk⟩
    obtain ⟨k', n', s', q1, q2, q3, q4, q5, q6, q7, q8, q9, rfl⟩ := hT.form
    obtain ⟨rfl, rfl, rfl, rfl, rfl, rfl⟩ := H1.out.head hT
    have Hd := Lib.hid (And.intro (Hc.out.1.same hk) (And.intro Hc.out.2 hT))
    clear hT hk y0 y1 y2 y3 y4 y5 Hc
    go_wp2_with fail
    refine (small_all Hd.out.2.2 Hd.out.1.ra (by have := Hd.out.2.1; omega)).mono ?_
    rintro e we ⟨hs, hk⟩
    obtain ⟨t2, G2, r1, r2, r3, r4⟩ := small_two hs (by have := Hd.out.2.1; omega)
    have He := Lib.hid (Hd.out.1.small r1 r2 hk)
    clear hs hk r1 r2 r3 Hd
    rcases r4 with ⟨i2, y, rfl, hy, hd2⟩ | ⟨ev2, rfl⟩
    · clear hy hd2
      go_wp2_with (go_at_call 33; refine (awakeW_any _).mono ?_; rintro e wg ⟨rfl, hk7⟩)
      go_ret
      exact ⟨rfl, (He.out.kp.trans' hk7).below _ (Nat.le_refl _) (fun _ e => e.elim)⟩
    · go_wp2_with (go_at_call 33; refine (awakeW_any _).mono ?_; rintro e wg ⟨rfl, hk7⟩)
      go_ret
      exact ⟨rfl, (He.out.kp.trans' hk7).below _ (Nat.le_refl _) (fun _ e => e.elim)⟩

set_option maxRecDepth 100000 in
theorem lifted (os : Os) (started : os.Started) (H : Type) (enc : TypeId × Value → H) :
    ReturnsInHanded {} Try.checked os 4 .any (Rows.wordBackSpec.pre6 enc Try.prog Try.f4 Rows.wordBackRow.domain false) (Rows.wordBackSpec.post enc Try.prog Try.f4 false true false false) := by
  refine returnsInHanded_of_change_sized (C := Try.checked) own started (by kernel_rfl) Try.func4
    (ChangeSpec.witness6 (enc := enc) (C := Try.checked) false ⟨#[], #[.agg #[.int .i64 0, .int .i64 0, .string ByteArray.empty, .slice none 0 0, .slice none 0 0, .slice none 0 0], .agg #[.int .i64 0, .int .i64 0, .string ByteArray.empty, .slice none 0 0, .slice none 0 0, .slice none 0 0]], []⟩ 8 (by kernel_rfl) (by kernel_rfl) (by kernel_rfl) (by kernel_rfl)) ?_
  intro W base args ds gs before hval0 hW hcnd hsz0 _
  have hval : ∀ (j : Nat) t v, Try.f4.params[j]? = some t → args[j]? = some v → Value.okWide Try.prog W .any base t v := hval0
  have hW' := hW
  obtain ⟨p, q, hA0, hV, rfl, hfz, hnd⟩ := hW
  have hA : DataW.TrodAll enc Try.prog W 0 (fun _ => true) true Try.f4.params.toList args.toList ds p := hA0
  rw [Try.params4] at hA hval
  obtain ⟨v0, vs0, d0, ds0, p0, q0, hargs, rfl, rfl, h0, r0⟩ := trodAll_cons hA
  obtain ⟨v1, vs1, d1, ds1, p1, q1, rfl, rfl, rfl, h1, r1⟩ := trodAll_cons r0
  obtain ⟨rfl, rfl, rfl⟩ := trodAll_nil r1
  obtain rfl : args = #[v0, v1] := by cases args; simp_all
  obtain ⟨rfl, rfl⟩ := trodVars_none hV
  have hsz : ∀ (j : Nat) t d, ((Try.f4.params.toList) : List TypeId)[j]? = some t → [d0, d1][j]? = some d → ∀ n ∈ d.weights Try.prog t, n ≤ reachBytes := fun j t d ht hd n hn => of_decide_eq_true (List.all_eq_true.1 hsz0 n (DataW.weights_mem_each (j := j) (List.getElem?_append_left (List.getElem?_eq_some_iff.1 ht).1 ▸ ht) (List.getElem?_append_left (List.getElem?_eq_some_iff.1 hd).1 ▸ hd) n hn))
  clear hsz0
  have k0 := h0
  have lt0 : ∀ x ∈ p0, x.block < W.heap.size := by obtain ⟨m, hm⟩ := k0; exact DataW.trod_lt m _ _ _ hm
  obtain ⟨T0, m0, a0, b0, c0, e0, f0, g0, i0, j0, l0, n0, o0, u0, hv0, w0⟩ : ∃ T m k n s a l c a2 l2 d a3 l3 e, v0 = .agg #[.int .i64 k, .int .i64 n, .string s, .slice a l c, .slice a2 l2 d, .slice a3 l3 e] ∧ TermAt (fun q => q < W.heap.size) W m T [.int .i64 k, .int .i64 n, .string s, .slice a l c, .slice a2 l2 d, .slice a3 l3 e] := by
    obtain ⟨fuel, hf⟩ := h0
    obtain ⟨T, hT⟩ := opened_terms Try.underlying60 (by kernel_rfl) (by kernel_rfl) Try.underlying3 Try.underlying2 Try.underlying9 Try.underlying58 Try.underlying58 Try.underlying35 Try.underlying5 (by kernel_rfl) (by kernel_rfl) (by kernel_rfl) _ fuel _ _ (Nat.le_refl _) (hsz 0 _ _ rfl rfl) hf
    obtain ⟨k, n, s, a, l, c, a2, l2, d, a3, l3, e, hcs⟩ := hT.form
    rw [hcs] at hT
    exact ⟨T, _, k, n, s, a, l, c, a2, l2, d, a3, l3, e, agg_of hcs, hT⟩
  subst hv0
  have k1 := h1
  have lt1 : ∀ x ∈ p1, x.block < W.heap.size := by obtain ⟨m, hm⟩ := k1; exact DataW.trod_lt m _ _ _ hm
  obtain ⟨T1, m1, a1, b1, c1, e1, f1, g1, i1, j1, l1, n1, o1, u1, hv1, w1⟩ : ∃ T m k n s a l c a2 l2 d a3 l3 e, v1 = .agg #[.int .i64 k, .int .i64 n, .string s, .slice a l c, .slice a2 l2 d, .slice a3 l3 e] ∧ TermAt (fun q => q < W.heap.size) W m T [.int .i64 k, .int .i64 n, .string s, .slice a l c, .slice a2 l2 d, .slice a3 l3 e] := by
    obtain ⟨fuel, hf⟩ := h1
    obtain ⟨T, hT⟩ := opened_terms Try.underlying60 (by kernel_rfl) (by kernel_rfl) Try.underlying3 Try.underlying2 Try.underlying9 Try.underlying58 Try.underlying58 Try.underlying35 Try.underlying5 (by kernel_rfl) (by kernel_rfl) (by kernel_rfl) _ fuel _ _ (Nat.le_refl _) (hsz 1 _ _ rfl rfl) hf
    obtain ⟨k, n, s, a, l, c, a2, l2, d, a3, l3, e, hcs⟩ := hT.form
    rw [hcs] at hT
    exact ⟨T, _, k, n, s, a, l, c, a2, l2, d, a3, l3, e, agg_of hcs, hT⟩
  subst hv1
  clear hA0 hval0
  refine (walk T0 m0 a0 b0 c0 e0 f0 g0 i0 j0 l0 n0 o0 u0 T1 m1 a1 b1 c1 e1 f1 g1 i1 j1 l1 n1 o1 u1 W w0 w1).mono fun e W' ⟨he, bel⟩ => ?_
  subst he
  exact ⟨_, rfl, _, _, _, [], _, [], hW', trodAll_mk1 (shut_bool Try.underlying4 _), (trodAll_cons_mk (Below.trod laidOut (by kernel_rfl) (of_decide_eq_true (by kernel_rfl)) k0 bel lt0) (trodAll_cons_mk (Below.trod laidOut (by kernel_rfl) (of_decide_eq_true (by kernel_rfl)) k1 bel lt1) trodAll_mk0)), rfl, bel.frame _, fun h => by cases h⟩

theorem over : Rows.wordBackRow.holds Try.pinned (OpenSpec.ofChange Rows.wordBackSpec) :=
  OpenClaim.holds_of_wide 4 Try.f4 rfl rfl rfl rfl rfl rfl rfl ⟨rfl, rfl, rfl, rfl, rfl⟩ rfl rfl rfl rfl rfl (by kernel_rfl) Try.func4 (by kernel_rfl)
    (of_decide_eq_true (by kernel_rfl)) (by unfold Func.isWrapper; first | (rw [if_pos (by decide +kernel)]; kernel_rfl) | (rw [if_neg (by decide +kernel)]; exact ⟨rfl, rfl⟩))
    (fun os started H enc _ => lifted os started H enc)

theorem proved : Rows.WordBackSaid := over
#print axioms proved
end Go.Proofs.Ytlnckpjpoaokjaa.wordBack
