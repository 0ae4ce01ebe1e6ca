/- A wheel: those whose time is now are taken away. -/
import Derived.Test.YtmekhijmghddiaaWhMap
import Derived.Test.YtmekhijmghddiaaWhRow
import Derived.Test.YtmekhijmghddiaaRunM
import Derived.StillTailTactics
namespace Go.Proofs.Ytmekhijmghddiaa
open Go.RowKit Go.Maps

def whv (most now fresh mb : Nat) : List Value := [.int .i64 (most : Nat), .int .i64 (now : Nat), .int .i64 (fresh : Nat), .map (some mb)]
def notIn (dn : List Tm) (t : Tm) : Bool := !dn.any fun x => decide (x.id = t.id)
/-- as far as an expiry has come -/
structure Expg (F : Nat → Prop) (b mb : Nat) (hv : List Value) (ch : Nat → List Tm) (s : Nat) (ts : List Tm) (v0 : Value) (due : List Int) (w : World) (dn rst : List Tm) (wr : World) (v : Value) : Prop where
  all : ch s = dn ++ rst
  chn : Chn wr F b hv (upd ch s rst.tail)
  mp : Mp wr mb (ts.filter (notIn dn))
  cur : ∀ c r, rst = c :: r → ∃ p q, Nd wr c p q
  row : Lw wr v (due ++ dn.map (fun t => (t.id : Int)))
  own : ∀ g, v.ownBlock = some g → v0.ownBlock = some g ∨ w.heap.size ≤ g
  kp : Kp (fun q => (F q ∨ q = mb) ∨ v0.ownBlock = some q) w wr

section
variable {F G : Nat → Prop} {w w1 w' wr w2 w3 w4 : World} {b mb s : Nat} {hv : List Value} {ch : Nat → List Tm} {ts dn rst r : List Tm} {v0 v v' : Value} {due : List Int} {c : Tm}
theorem upd_upd {α : Type} (f : Nat → α) (k : Nat) (u v : α) : upd (upd f k u) k v = upd f k v := by
  funext j
  by_cases e : j = k
  · subst e; rw [upd_same, upd_same]
  · rw [upd_other _ _ e, upd_other _ _ e, upd_other _ _ e]
theorem notIn_snoc (ts dn : List Tm) (c : Tm) : (ts.filter (notIn dn)).filter (fun t => !decide ((t.id : Int) = (c.id : Nat))) = ts.filter (notIn (dn ++ [c])) := by
  rw [List.filter_filter]
  apply List.filter_congr
  intro t _
  unfold notIn
  rw [List.any_append, Bool.not_or, Bool.and_comm]
  congr 1
  simp only [List.any_cons, List.any_nil, Bool.or_false]
  congr 1
  rw [decide_eq_decide]
  omega
/-- what stays apart all through -/
structure ExpSep (F : Nat → Prop) (mb : Nat) (v0 : Value) (w : World) : Prop where
  ltF : ∀ q, F q → q < w.heap.size
  nF : ¬ F mb
  ltm : mb < w.heap.size
  own : ∀ g, v0.ownBlock = some g → ¬ F g ∧ g ≠ mb
theorem Expg.sep (h : Expg F b mb hv ch s ts v0 due w dn rst wr v) (hs : ExpSep F mb v0 w) : ∀ g, v.ownBlock = some g → ¬ F g ∧ g ≠ mb := by
  intro g hg
  rcases h.own g hg with e | e
  · exact hs.own g e
  · exact ⟨fun hf => by have := hs.ltF g hf; omega, fun e2 => by have := hs.ltm; omega⟩
theorem Expg.step (h : Expg F b mb hv ch s ts v0 due w dn (c :: r) wr v) (hs : ExpSep F mb v0 w)
    (hd : Mp w2 mb ((ts.filter (notIn dn)).filter (fun t => !decide ((t.id : Int) = (c.id : Nat)))) ∧ Kp (fun q => q = mb) wr w2) (ha : Lw w3 v' (due ++ dn.map (fun t => (t.id : Int)) ++ [(c.id : Int)]) ∧ Kp (fun q => v.ownBlock = some q) w2 w3 ∧ ∀ g, v'.ownBlock = some g → v.ownBlock = some g ∨ w2.heap.size ≤ g) :
    Chn w3 F b hv (upd ch s r) ∧ (∀ {w4 : World}, Took F b hv (upd ch s r) s w3 w4 → Expg F b mb hv ch s ts v0 due w (dn ++ [c]) r w4 v') := by
  have hsep := h.sep hs
  have hk2 := hd.2
  have hz2 := hk2.size
  have hz1 := h.kp.size
  have hF2 : ∀ k, F k → ¬ k = mb := fun k hf e => hs.nF (by rw [← e]; exact hf)
  have hF3 : ∀ k, F k → ¬ v.ownBlock = some k := fun k hf e => (hsep k e).1 hf
  have hc3 : Chn w3 F b hv (upd ch s r) := (h.chn.kp hk2 hF2).kp ha.2.1 hF3
  have hv'own : ∀ g, v'.ownBlock = some g → v0.ownBlock = some g ∨ w.heap.size ≤ g := fun g hg => by
    rcases ha.2.2 g hg with e | e
    · exact h.own g e
    · exact .inr (by omega)
  refine ⟨hc3, fun {w4} ht => ⟨by rw [h.all]; simp, ?_, ?_, fun c' r' e => ?_, ?_, hv'own, ?_⟩⟩
  · have := ht.chn
    rw [upd_upd, upd_same] at this
    exact this
  · rw [← notIn_snoc]
    exact (hd.1.kp ha.2.1 (fun e => (hsep mb e).2 rfl)).kp ht.kp hs.nF
  · have := (ht.cur c' r' (by rw [upd_same]; exact e)).1
    exact this
  · have h5 := ha.1.kp ht.kp (fun g hg hf => by
      rcases hv'own g hg with e | e
      · exact (hs.own g e).1 hf
      · have := hs.ltF g hf; omega)
    rw [List.map_append, ← List.append_assoc]
    exact h5
  · refine ((h.kp.trans (hk2.mono ?_)).trans (ha.2.1.mono ?_)).trans (ht.kp.mono ?_)
    · exact fun q _ e => .inl (.inl (.inr e))
    · intro q hq e
      rcases h.own q e with e2 | e2
      · exact .inl (.inr e2)
      · exact .inr ⟨e2, hq⟩
    · exact fun q _ e => .inl (.inl (.inl e))

theorem wf_i64 {x : Int} (h1 : -9223372036854775808 ≤ x) (h2 : x ≤ 9223372036854775807) : (Lit.int .i64 x).wf = true := by
  show (decide (IntKind.i64.min ≤ x) && decide (x ≤ IntKind.i64.max)) = true
  rw [show IntKind.i64.min = -9223372036854775808 from by decide, show IntKind.i64.max = 9223372036854775807 from by decide]
  simp
  omega
/-- those whose time is now are gone; their ids stand behind what was due, rising -/
def ExpTo (F : Nat → Prop) (b mb : Nat) (hv : List Value) (ch : Nat → List Tm) (s : Nat) (ts : List Tm) (v0 : Value) (due : List Int) (w : World) (e : Ending) (w' : World) : Prop :=
  ∃ v', e = .returned v' ∧ Chn w' F b hv (upd ch s []) ∧ Mp w' mb (ts.filter (notIn (ch s))) ∧ Lw w' v' (due ++ ((ch s).map (fun t => (t.id : Int))).mergeSort (fun x y => decide (x ≤ y))) ∧
    (∀ g, v'.ownBlock = some g → v0.ownBlock = some g ∨ w.heap.size ≤ g) ∧ Kp (fun q => (F q ∨ q = mb) ∨ v0.ownBlock = some q) w w'

set_option maxRecDepth 100000 in
set_option maxHeartbeats 4000000 in
theorem expire_any {most now fresh : Nat} (h : Chn w F b (whv most now fresh mb) ch) (hm : Mp w mb ts) (hs : ExpSep F mb v w) (ho : Lw w v due) (hnow2 : now ≤ 2305843009213693952) (hlen : due.length + (ch (now % 64)).length ≤ 17592186044416)
    (hids : ∀ t ∈ ch (now % 64), t.id ≤ 4611686018427387904) :
    Calls Try.prog 39 #[.pointer (some ⟨b, 0, none⟩), v] w (ExpTo F b mb (whv most now fresh mb) ch (now % 64) ts v due w) := by
  have c1 := h.head (i := 1) (v := .int .i64 (now : Nat)) rfl
  have c3 := h.head (i := 3) (v := .map (some mb)) rfl
  have fb := h.fz
  obtain ⟨S, hS⟩ : ∃ S, now % 64 = S := ⟨_, rfl⟩
  have hS64 : S < 320 := by omega
  have HA := Lib.hid (fun w => at_q w b 4 now 1 (by omega) (by omega) (by omega))
  rw [Nat.div_one, hS] at HA
  rw [hS] at hlen hids ⊢
  have HT := Lib.hid (fun n => take_any (h.drewN n) hS64)
  obtain ⟨hvv, hhv⟩ : ∃ hv, whv most now fresh mb = hv := ⟨_, rfl⟩
  have H3 : Hid (hvv[3]? = some (.map (some mb))) := Lib.hid (by rw [← hhv]; rfl)
  have HI := Lib.hid (And.intro hs (And.intro ho (And.intro hlen (And.intro hids (And.intro hm h)))))
  rw [hhv] at HT HI ⊢
  obtain ⟨po, cap, rfl⟩ := ownsW_form ho
  clear h hm hs ho hlen hids hS hhv
  obtain ⟨V0, hV0⟩ : ∃ V0, Value.slice po due.length cap = V0 := ⟨_, rfl⟩
  suffices hx : Calls Try.prog 39 #[.pointer (some ⟨b, 0, none⟩), .slice po due.length cap] w (ExpTo F b mb hvv ch S ts V0 due w) by rw [← hV0] at hx; exact hx
  rw [hV0] at HI
  have HV := Lib.hid hV0
  clear hV0
  go_enter Try.func39, Try.ntmps39
  go_wp2_with fail
  go_quiet ((go_at_call 42; exact Calls.quiet_of (HA.out _)))
  go_wp2_with fail
  refine (HT.out _).mono ?_
  rintro e w1 ⟨rfl, h1⟩
  have HP : Hid (Expg F b mb hvv ch S ts V0 due w [] (ch S) w1 (.slice po due.length cap)) := by
    have hk1 : Kp F w w1 := (kp_drewN (Kp.refl F w) nq).trans' h1.kp
    refine Lib.hid ⟨rfl, h1.chn, ?_, fun c r e => (h1.cur c r e).1, ?_, fun g hg => .inl (by rw [← HV.out]; exact hg), hk1.mono fun q _ e => .inl (.inl e)⟩
    · rw [show ts.filter (notIn []) = ts from by
        rw [List.filter_eq_self]
        intro t _
        rfl]
      exact HI.out.2.2.2.2.1.kp hk1 HI.out.1.nF
    · rw [List.map_nil, List.append_nil, HV.out]
      exact HI.out.2.1.kp hk1 (fun g hg hf => (HI.out.1.own g hg).1 hf)
  clear h1 HT c1 c3 fb
  go_wp2_with fail
  go_loopg [1, 7] (ch S).length (fun gk s1 s7 wr => ∃ dn rst sv, gk = rst.length ∧ s7 = tptr (hdOr rst none) ∧ s1 = sv ∧ Expg F b mb hvv ch S ts V0 due w dn rst wr sv)
  case atStart => exact ⟨[], ch S, _, rfl, rfl, rfl, HP.out⟩
  case round =>
    obtain ⟨dn, rst, sv, rfl, h7, hs1, hp⟩ := hrel
    obtain rfl := hs1.symm
    clear HP
    cases rst with
    | nil =>
      rw [show tptr (hdOr [] none) = .pointer none from rfl] at h7
      subst h7
      have hall : ch S = dn := by rw [hp.all, List.append_nil]
      have hend : ∀ {w9 : World}, SortIs wr sv (due ++ dn.map (fun t => (t.id : Int))) due.length (.returned (.tuple #[])) w9 → ExpTo F b mb hvv ch S ts V0 due w (.returned sv) w9 := by
        intro w9 ⟨_, hso, hsk⟩
        have hsep := hp.sep HI.out.1
        rw [List.take_left, List.drop_left] at hso
        refine ⟨sv, rfl, ?_, ?_, by rw [hall]; exact hso, hp.own, hp.kp.trans (hsk.mono fun q hq e => ?_)⟩
        · exact hp.chn.kp hsk (fun k hf e => (hsep k e).1 hf)
        · rw [hall]
          exact hp.mp.kp hsk (fun e => (hsep mb e).2 rfl)
        · rcases hp.own q e with e2 | e2
          · exact .inl (.inr e2)
          · exact .inr ⟨e2, hq⟩
      have HE := Lib.hid (fun w9 => @hend w9)
      have hcl := HI.out.2.2.1
      rw [hall] at hcl
      have hrow := hp.row
      have hdm : (dn.map (fun t => (t.id : Int))).length = dn.length := by simp
      by_cases hdn : dn = []
      · subst hdn
        have hrow2 : Lw wr sv due := by simpa using hrow
        have HS := Lib.hid (fun p c => sort_none hrow2 p c)
        have HE2 : Hid (∀ w9, SortIs wr sv due due.length (.returned (.tuple #[])) w9 → ExpTo F b mb hvv ch S ts V0 due w (.returned sv) w9) := Lib.hid (fun w9 h9 => HE.out w9 (by rw [List.map_nil, List.append_nil]; exact h9))
        rcases hrow2.2 with ⟨e, e0⟩ | ⟨g, k1, cur, e, hb, hg, e1, e2, e3, e4⟩
        · have h00 : due.length = 0 := e0
          rw [h00] at HS HE2 ⊢
          subst e
          clear hend hp hrow hrow2 HE hall hcl
          go_wp2_with fail
          refine (HS.out _ _).mono ?_
          rintro e w9 h9
          obtain rfl := h9.1
          have H9 := Lib.hid h9
          clear h9
          go_wp2_with fail
          go_ret
          exact HE2.out _ H9.out
        · subst e
          obtain ⟨N, hN⟩ : ∃ n, due.length = n := ⟨_, rfl⟩
          rw [hN] at HS HE2 e1 ⊢
          have e5 : (N : Int) ≤ k1 := by omega
          have e6 : k1 ≤ 9223372036854775807 := by unfold maxLen at e3; omega
          clear hend hp hrow hrow2 HE hall hcl hg e4 hb e2 e3 hN
          by_cases hck : k1 = N
          · subst hck
            go_wp2_with fail
            refine (HS.out _ _).mono ?_
            rintro e w9 h9
            obtain rfl := h9.1
            have H9 := Lib.hid h9
            clear h9
            go_wp2_with fail
            go_ret
            exact HE2.out _ H9.out
          · go_wp2_with fail
            refine (HS.out _ _).mono ?_
            rintro e w9 h9
            obtain rfl := h9.1
            have H9 := Lib.hid h9
            clear h9
            go_wp2_with fail
            go_ret
            exact HE2.out _ H9.out
      · have hpos : 0 < dn.length := List.length_pos_iff.2 hdn
        rcases hrow.2 with ⟨e, e0⟩ | ⟨g, k1, cur, e, hb, hg, e1, e2, e3, e4⟩
        · have : (due ++ dn.map (fun t => (t.id : Int))).length = 0 := e0
          rw [List.length_append] at this
          omega
        · subst e
          have HS := Lib.hid (fun c => sort_some (k := due.length) hrow (by rw [List.length_append]; omega) (by rw [List.length_append]; omega) c)
          obtain ⟨NL, hNL⟩ : ∃ n, (due ++ dn.map (fun t => (t.id : Int))).length = n := ⟨_, rfl⟩
          obtain ⟨N, hN⟩ : ∃ n, due.length = n := ⟨_, rfl⟩
          rw [hNL] at HS HE e1 ⊢
          rw [hN] at HS HE ⊢
          have e5 : (N : Int) < NL := by rw [← hN, ← hNL, List.length_append]; omega
          have e6 : NL ≤ k1 := e1
          have e7 : k1 ≤ 9223372036854775807 := by unfold maxLen at e3; omega
          have e8 : ¬ k1 = N := by omega
          have e9 : (N : Int) ≤ k1 := by omega
          clear hend hp hrow hall hcl hg e4 hb e2 e3 hN hNL hdm hpos e1
          go_wp2_with fail
          refine (HS.out _).mono ?_
          rintro e w9 h9
          obtain rfl := h9.1
          have H9 := Lib.hid h9
          clear h9
          go_wp2_with fail
          go_ret
          exact HE.out _ H9.out
    | cons c r =>
      rw [show tptr (hdOr (c :: r) none) = .pointer (some ⟨c.blk, 0, none⟩) from rfl] at h7
      subst h7
      obtain ⟨p1, k1, hsv⟩ := ownsW_form hp.row
      obtain ⟨NL, hNL⟩ : ∃ n, (due ++ dn.map (fun t => (t.id : Int))).length = n := ⟨_, rfl⟩
      rw [hNL] at hsv
      subst hsv
      obtain ⟨p, q, hn⟩ := hp.cur c r rfl
      have hcs : c ∈ ch S := by rw [hp.all]; simp
      have hcF : F c.blk := HI.out.2.2.2.2.2.inF S hS64 c hcs
      obtain ⟨n0, -, -, -, -, fn, -⟩ := hn.facts
      have c3 := hp.chn.head (i := 3) (v := .map (some mb)) H3.out
      have fb := hp.chn.fz
      have hidc : (Lit.int .i64 (c.id : Nat)).wf = true := wf_i64 (by omega) (by have := HI.out.2.2.2.1 c hcs; omega)
      obtain ⟨w2, hr2, hm2, hk2, hz2⟩ := (hp.mp.same (w' := wr.drew) (kp_drewN (Kp.refl _ wr) 1)).del (c.id : Nat) hidc 0
      have hk2' : Kp (fun q => q = mb) wr w2 := (kp_drewN (Kp.refl _ wr) 1).trans' hk2
      have hcmb : c.blk ≠ mb := fun e => HI.out.1.nF (by rw [← e]; exact hcF)
      have hn2 : Nd w2 c p q := by unfold Nd; rw [hk2'.block c.blk (Array.getElem?_eq_some_iff.1 hn).1 (fun e => hcmb e)]; exact hn
      have m0 := hn2.facts.1
      have fm := hn2.facts.2.2.2.2.2.1
      have hdl : (due ++ dn.map (fun t => (t.id : Int))).length + 1 ≤ 17592186044416 := by
        have := HI.out.2.2.1
        rw [hp.all] at this
        simp at this ⊢
        omega
      have ho2 : Lw w2 (.slice p1 NL k1) (due ++ dn.map (fun t => (t.id : Int))) := hp.row.kp hk2' (fun g hg e => (hp.sep HI.out.1 g hg).2 e)
      obtain ⟨g3, cap3, w3, hr3, ho3, hk3, hg3, hl3⟩ := longs_push ho2 hdl (c.id : Nat)
      obtain ⟨hc3, hnext⟩ := hp.step (w2 := w2) (w3 := w3) (v' := .slice (some ⟨g3, 0, none⟩) ((due ++ dn.map (fun t => (t.id : Int))).length + 1) cap3) HI.out.1 ⟨hm2, hk2'⟩ ⟨ho3, hk3, fun g hg => by
        have : g3 = g := by injection hg
        subst this
        exact hg3⟩
      have HT3 := Lib.hid (take_any hc3 hS64)
      rw [upd_same] at HT3
      have HN := Lib.hid (fun w4 => @hnext w4)
      have HR2 := Lib.hid hr2
      have HR3 := Lib.hid hr3
      obtain ⟨V, hV⟩ : ∃ V, Value.slice (some ⟨g3, 0, none⟩) ((due ++ dn.map (fun t => (t.id : Int))).length + 1) cap3 = V := ⟨_, rfl⟩
      rw [hV] at HR3 HN
      obtain ⟨g, hg⟩ : ∃ g, c.blk = g := ⟨_, rfl⟩
      rw [hg] at n0 fn m0 fm ⊢
      obtain ⟨I, hI⟩ : ∃ I : Int, (c.id : Int) = I := ⟨_, rfl⟩
      rw [hI] at n0 m0 HR2 HR3
      clear hNL hp hn hn2 hr2 hm2 hk2 hz2 hk2' ho2 hr3 ho3 hk3 hg3 hl3 hc3 hnext hV hg hI hcs hcF hidc hdl hcmb
      go_wp2_with fail
      go_still_tail 8, (by kernel_rfl)
      refine wpList_rund rfl _ _ 68 2 rfl (.map (some mb)) (.int .i64 I) rfl rfl w2 HR2.out ?_
      go_wp2_with (at_builtin; refine wpList_run rfl _ _ 54 rfl (.slice p1 NL k1) (.slice (some ⟨w2.heap.size, 0, none⟩) 1 1) rfl rfl _ w3 HR3.out ?_)
      refine HT3.out.mono ?_
      rintro e w4 ⟨rfl, h4⟩
      have HE := Lib.hid (HN.out w4 h4)
      clear h4 HN
      go_wp2_with fail
      go_roundg r.length
      case measure => simp
      case rel => exact ⟨dn ++ [c], r, _, rfl, rfl, rfl, HE.out⟩
end
end Go.Proofs.Ytmekhijmghddiaa
