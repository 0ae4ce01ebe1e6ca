/- What is reached from words. -/
import Derived.Test.YtkcmfldcdokobaaGreatDoorM22
import Derived.Maps.OwnSet
/- What is reached from words. -/
namespace Go.Proofs.YtkcmfldcdokobaaGreatDoor
open Go.RowKit Go.Maps

/-- word y names block q -/
def Nm (A : Ar) (y : Int) (q : Nat) : Prop := y = ((q : Int) + 1) * 8 + 5 ∧ ∃ n, A.tk q n
/-- block q is reached from words xs -/
inductive Reached (A : Ar) (xs : List Int) : Nat → Prop where
  | word {y q} : y ∈ xs → Nm A y q → Reached A xs q
  | look {p n y q} : Reached A xs p → A.tk p n → y ∈ lookOf (blkW A p n) → Nm A y q → Reached A xs q

/-- a search that is under way: done blocks ds, words st to be looked at -/
structure Search (A : Ar) (xs : List Int) (ds : List Nat) (st : List Int) : Prop where
  sound : ∀ q ∈ ds, Reached A xs q
  word : ∀ y ∈ st, ∀ q, Nm A y q → Reached A xs q
  from' : ∀ y ∈ xs, y ∈ st ∨ ∀ q, Nm A y q → q ∈ ds
  look : ∀ p ∈ ds, ∀ n, A.tk p n → ∀ y ∈ lookOf (blkW A p n), y ∈ st ∨ ∀ q, Nm A y q → q ∈ ds

theorem Nm.inj {A : Ar} {y : Int} {p q : Nat} (h1 : Nm A y p) (h2 : Nm A y q) : p = q := by have := h1.1; have := h2.1; omega
theorem Search.start (A : Ar) (xs : List Int) : Search A xs [] xs := ⟨fun q h => by simp at h, fun y hy q hq => .word hy hq, fun y hy => .inl hy, fun p h => by simp at h⟩
theorem Search.pop {A : Ar} {xs st : List Int} {ds : List Nat} {y : Int} (h : Search A xs ds (st ++ [y])) (hy : ∀ q, Nm A y q → q ∈ ds) : Search A xs ds st := by
  have hin : ∀ z, z ∈ st ++ [y] ∨ (∀ q, Nm A z q → q ∈ ds) → z ∈ st ∨ ∀ q, Nm A z q → q ∈ ds := by
    rintro z (hz | hz)
    · rw [List.mem_append, List.mem_singleton] at hz
      rcases hz with hz | rfl
      · exact .inl hz
      · exact .inr hy
    · exact .inr hz
  exact ⟨h.sound, fun z hz => h.word z (by simp [hz]), fun z hz => hin z (h.from' z hz), fun p hp n hn z hz => hin z (h.look p hp n hn z hz)⟩
theorem Search.push {A : Ar} {xs st : List Int} {ds : List Nat} {y : Int} {p n : Nat} (h : Search A xs ds (st ++ [y])) (hy : Nm A y p) (hp : A.tk p n) (hu : ∀ m, A.tk p m → m = n) : Search A xs (ds ++ [p]) (st ++ lookOf (blkW A p n)) := by
  have hr : Reached A xs p := h.word y (by simp) p hy
  have hin : ∀ z, z ∈ st ++ [y] ∨ (∀ q, Nm A z q → q ∈ ds) → z ∈ st ++ lookOf (blkW A p n) ∨ ∀ q, Nm A z q → q ∈ ds ++ [p] := by
    rintro z (hz | hz)
    · rw [List.mem_append, List.mem_singleton] at hz
      rcases hz with hz | rfl
      · exact .inl (by simp [hz])
      · exact .inr fun q hq => by rw [hq.inj hy]; simp
    · exact .inr fun q hq => by have := hz q hq; simp [this]
  refine ⟨fun q hq => ?_, fun z hz q hq => ?_, fun z hz => hin z (h.from' z hz), fun p' hp' n' hn' z hz => ?_⟩
  · rw [List.mem_append, List.mem_singleton] at hq
    rcases hq with hq | rfl
    · exact h.sound q hq
    · exact hr
  · rw [List.mem_append] at hz
    rcases hz with hz | hz
    · exact h.word z (by simp [hz]) q hq
    · exact .look hr hp hz hq
  · rw [List.mem_append, List.mem_singleton] at hp'
    rcases hp' with hp' | rfl
    · exact hin z (h.look p' hp' n' hn' z hz)
    · rw [hu n' hn'] at hz
      exact .inl (by simp [hz])
theorem Search.end' {A : Ar} {xs : List Int} {ds : List Nat} (h : Search A xs ds []) (q : Nat) : q ∈ ds ↔ Reached A xs q := by
  refine ⟨h.sound q, fun hq => ?_⟩
  induction hq with
  | word hy hq => exact (h.from' _ hy).elim (fun e => by simp at e) (fun e => e _ hq)
  | look hp hn hy hq ih => exact (h.look _ ih _ hn _ hy).elim (fun e => by simp at e) (fun e => e _ hq)

/-- the blocks that are not done -/
def undone (T : Nat) (ds : List Nat) : List Nat := (List.range T).filter (fun q => !ds.contains q)
theorem undone_nil (T : Nat) : (undone T []).length = T := by
  unfold undone
  rw [List.filter_eq_self.2 (by simp), List.length_range]
theorem undone_lt {T p : Nat} {ds : List Nat} (hp : p < T) (hd : p ∉ ds) : (undone T (ds ++ [p])).length < (undone T ds).length := by
  have e : undone T (ds ++ [p]) = (undone T ds).filter (fun q => !decide (q = p)) := by
    unfold undone
    rw [List.filter_filter]
    congr 1
    funext q
    simp [Bool.and_comm]
  rw [e, List.length_filter_lt_length_iff_exists]
  exact ⟨p, by simp [undone, hp, hd], by simp⟩

/-- the set of blocks' names -/
def doneSet (ds : List Nat) : DataW Unit := setOf (.agg []) (ds.map fun (q : Nat) => Lit.int .i64 ((q : Int) + 1))
theorem any_names (x : Int) : ∀ ds : List Nat, (ds.map fun (q : Nat) => Lit.int .i64 ((q : Int) + 1)).any (fun y => y.sameKey (.int .i64 x)) = true ↔ ∃ q ∈ ds, (q : Int) + 1 = x
  | [] => by simp
  | a :: r => by
    rw [List.map_cons, List.any_cons, Bool.or_eq_true, any_names x r]
    have : (Lit.int .i64 ((a : Int) + 1)).sameKey (.int .i64 x) = decide (IntKind.i64 = IntKind.i64 ∧ (a : Int) + 1 = x) := rfl
    rw [this]
    simp
theorem has_done (ds : List Nat) (x : Int) : Maps.has (doneSet ds) (.int .i64 x) = true ↔ ∃ q ∈ ds, (q : Int) + 1 = x := by
  unfold doneSet
  rw [has_setOf _ _ _ (fun y hy => by obtain ⟨_, _, rfl⟩ := List.mem_map.1 hy; trivial)]
  exact any_names x ds
theorem has_done_mem (ds : List Nat) (q : Nat) : Maps.has (doneSet ds) (.int .i64 ((q : Int) + 1)) = decide (q ∈ ds) := by
  rw [Bool.eq_iff_iff, has_done, decide_eq_true_iff]
  exact ⟨fun ⟨p, hp, e⟩ => by rwa [show q = p by omega], fun h => ⟨q, h, rfl⟩⟩
theorem has_done_zero (ds : List Nat) : Maps.has (doneSet ds) (.int .i64 0) = false := by
  rw [← Bool.not_eq_true, has_done]
  rintro ⟨q, _, e⟩
  omega
theorem done_snoc (ds : List Nat) (q : Nat) : doneSet (ds ++ [q]) = (doneSet ds).put (.int .i64 ((q : Int) + 1)) (.agg []) := by
  unfold doneSet
  rw [List.map_append, List.map_singleton, setOf_snoc]

theorem Tryz.keyedInt : Keyed Tryz.prog 3 := int_keyed Tryz.underlying3
theorem Tryz.zeroUnit (w : World) : (zeroValue 104).run Tryz.prog w = .ok (.agg #[]) w := by kernel_rfl

theorem lookOf_mem {F : Nat → Prop} {w : World} {hb ab : Nat} {A : Ar} {q n : Nat} (h : AIn w hb ab F A) {x : Int} (hx : x ∈ lookOf (blkW A q n)) : 0 ≤ x ∧ x ≤ 18446744073709551615 := by
  unfold lookOf at hx
  obtain ⟨i, hi⟩ := List.getElem?_of_mem (List.mem_of_mem_drop (List.mem_of_mem_take hx))
  exact h.word _ x (blkW_get hi).2

section
variable {F : Nat → Prop} {w w' : World} {hb ab : Nat} {A : Ar} {q n : Nat}

set_option maxRecDepth 100000 in
set_option maxHeartbeats 1000000 in
theorem reach_any (h : AIn w hb ab F A) (hFlt : ∀ k, F k → k < w.heap.size) (base : Nat) (v : Value) (xs : List Int) (hown : w.ownsRow base 27 1 v xs.length (words xs)) (hbase : base ≤ w.heap.size) (hX : xs.length ≤ 1000000000000) (hxs : ∀ x ∈ xs, 0 ≤ x ∧ x ≤ 18446744073709551615) (hF : ∀ g, v.ownBlock = some g → ¬ F g ∧ g ≠ hb) :
    Calls Tryz.prog 52 #[.pointer (some ⟨hb, 0, none⟩), v] w fun e w' => ∃ (mb : Nat) (ds : List Nat), e = .returned (.map (some mb)) ∧ w.heap.size ≤ mb ∧ w'.ownsMap Tryz.prog 3 unitElem mb ds.length (doneSet ds) ∧ (∀ q, q ∈ ds ↔ Reached A xs q) ∧
      Kp (fun q => v.ownBlock = some q) w w' := by
  have hmm := @run_makeMap Tryz.prog
  obtain ⟨po, cap, rfl⟩ := slice_form hown
  have hvlt : ∀ g, (Value.slice po xs.length cap).ownBlock = some g → g < w.heap.size := fun g hg => (hown.lt g hg).2
  have HF := Lib.hid (And.intro hF (And.intro hFlt hvlt))
  have hL := h.lens
  have H := Lib.hid h
  obtain ⟨T, hT⟩ : ∃ T, A.taken.length = T := ⟨_, rfl⟩
  rw [hT] at hL
  obtain ⟨X, hXe⟩ : ∃ X, xs.length = X := ⟨_, rfl⟩
  have HX := Lib.hid (And.intro hown (And.intro hxs (And.intro hT hXe)))
  rw [hXe] at hX
  clear hF hFlt hvlt h hown hxs hT
  go_enter Tryz.func52, Tryz.ntmps52
  go_wp2_with fail
  go_loopg [1] (T * 2097152 + X) (fun gk s wr => ∃ (st : List Int) (ds : List Nat), gk = (undone T ds).length * 2097152 + st.length ∧ wr.ownsRow base 27 1 s st.length (words st) ∧ wr.ownsMap Tryz.prog 3 unitElem w.heap.size ds.length (doneSet ds) ∧ Kp (fun q => (Value.slice po xs.length cap).ownBlock = some q) w wr ∧
    (∀ g, s.ownBlock = some g → (Value.slice po xs.length cap).ownBlock = some g ∨ w.heap.size < g) ∧ w.heap.size + 1 ≤ wr.heap.size ∧ Search A xs ds st ∧ (∀ x ∈ st, 0 ≤ x ∧ x ≤ 18446744073709551615) ∧ ds.length + (undone T ds).length ≤ T ∧ st.length ≤ X + ds.length * 1048576)
  case atStart =>
    refine ⟨xs, [], ?_, (HX.out.1).alloc _, by simpa [doneSet, setOf] using World.ownsMap_made _ _ _ _, (Kp.refl _ w).alloc _, fun g hg => .inl hg, by simp, Search.start A xs, HX.out.2.1, by rw [undone_nil]; simp, by simp [HX.out.2.2.2]⟩
    rw [undone_nil, HX.out.2.2.2]
  case round =>
    obtain ⟨st, ds, rfl, hown, hmap, hkp, hnew, hsz, hS, hst, hd, hlen⟩ := hrel
    obtain ⟨p1, cap1, rfl⟩ := slice_form hown
    have hA : AIn wr hb ab F A := H.out.kp hkp (fun q hF hg => (HF.out.1 q hg).1 hF) (fun hg => (HF.out.1 hb hg).2 rfl)
    rcases List.eq_nil_or_concat st with rfl | ⟨st', y, rfl⟩
    · have HE := Lib.hid (And.intro hmap (And.intro hS hkp))
      clear hown hmap hkp hS hA
      go_wp2_with fail
      go_ret
      exact ⟨_, ds, rfl, Nat.le_refl _, HE.out.1, HE.out.2.1.end', HE.out.2.2⟩
    · rw [List.concat_eq_append] at *
      obtain ⟨m, hm⟩ : ∃ m, st'.length = m := ⟨_, rfl⟩
      have hml : (st' ++ [y]).length = m + 1 := by simp [hm]
      rw [hml] at hown hlen
      simp only [hml]
      obtain ⟨g, rfl⟩ : ∃ g, p1 = some ⟨g, 0, none⟩ := by
        rcases hown.2 with ⟨_, h0⟩ | ⟨g, cap', cur, e, _⟩
        · omega
        · injection e with e
          exact ⟨g, e⟩
      have hy : 0 ≤ y ∧ y ≤ 18446744073709551615 := hst y (by simp)
      have d0 : wr.cell? ⟨g, m, none⟩ = some (.int .u64 y) := by
        refine (hown.cellAt m (by omega)).trans ?_
        simp [words, ← hm]
      have hpre := row_prefix hown (m := m) (by omega)
      have hwt : (words (st' ++ [y])).take m = words st' := by simp [words, ← hm]
      rw [hwt] at hpre
      have hmc : m ≤ cap1 := by
        rcases hown.2 with ⟨_, h0⟩ | ⟨g', cap', cur, e, _, _, h1, _⟩
        · omega
        · injection e with _ _ e
          omega
      clear hown hwt
      have hst2 : ∀ x ∈ st', 0 ≤ x ∧ x ≤ 18446744073709551615 := fun x hx => hst x (by simp [hx])
      have hdl : ds.length ≤ 1048576 := by omega
      have hz0 : Maps.has (doneSet ds) (.int .i64 0) = false := has_done_zero ds
      rcases named_how hA y with ⟨q, n, hq, htk⟩ | hno
      · have Hn := Lib.hid (named_ok hA htk y hq)
        have hqm := has_done_mem ds q
        have hq0 : (q : Int) ≤ 1048576 := by
          have h1 := (List.getElem?_eq_some_iff.1 htk.1).1
          have h2 := HX.out.2.2.1
          omega
        have hwf : (Lit.int .i64 ((q : Int) + 1)).wf = true := WalkArith.wf_i64 (by omega)
        by_cases hin : q ∈ ds
        · rw [decide_eq_true hin] at hqm
          have HE := Lib.hid (And.intro hpre (And.intro hmap (And.intro (hS.pop fun q' hq' => by rw [hq'.inj ⟨hq, n, htk⟩]; exact hin) (And.intro hkp (And.intro hst2 hnew)))))
          clear hpre hS hkp hst hst2 hA hnew hz0 hq
          go_wp2_with fail
          refine Hn.out.mono ?_
          rintro e w1 ⟨rfl, rfl⟩
          go_wp2_with (at_lookup; refine wpList_lookup_own_unit _ rfl _ _ 102 rfl 3 104 Tryz.keyedInt Tryz.underlying102 (Tryz.zeroUnit _) w.heap.size ds.length _ rfl hmap _ _ rfl (keyOf_int_mk Tryz.underlying3 hwf) ?_)
          go_roundg ((undone T ds).length * 2097152 + st'.length)
          case measure => simp
          case rel =>
            exact ⟨st', ds, rfl, by rw [hm]; exact HE.out.1.alloc _, HE.out.2.1.alloc _, HE.out.2.2.2.1.alloc _, HE.out.2.2.2.2.2, by simp; omega, HE.out.2.2.1, HE.out.2.2.2.2.1, hd, by omega⟩
        · rw [decide_eq_false hin] at hqm
          have hql : q < T := by
            have h1 := (List.getElem?_eq_some_iff.1 htk.1).1
            have h2 := HX.out.2.2.1
            omega
          have hun := undone_lt hql hin
          have HE := Lib.hid (And.intro hpre (And.intro hmap (And.intro (hS.push ⟨hq, n, htk⟩ htk (fun k hk => by have e := Option.some.inj (hk.2.symm.trans htk.2); omega)) (And.intro hkp (And.intro hst2 hnew)))))
          have HA := Lib.hid (And.intro hA htk)
          clear hpre hS hkp hst hst2 hA hnew hz0 hq
          go_wp2_with fail
          refine Hn.out.mono ?_
          rintro e w1 ⟨rfl, rfl⟩
          go_wp2_with (first
            | (at_lookup; refine wpList_lookup_own_unit _ rfl _ _ 102 rfl 3 104 Tryz.keyedInt Tryz.underlying102 (Tryz.zeroUnit _) w.heap.size ds.length _ rfl hmap _ _ rfl (keyOf_int_mk Tryz.underlying3 hwf) ?_)
            | (at_mapUpdate; refine wpList_mapUpdate_own _ rfl _ _ _ 102 rfl 3 104 Tryz.keyedInt Tryz.underlying102 (unitElem (H := Unit)) w.heap.size ds.length _ rfl (hmap.alloc _) (by unfold maxLen; omega) _ _ _ rfl rfl (keyOf_int_mk Tryz.underlying3 hwf) _ [] unitElem_mk ?_; intro w2 hmap2 hgrow2))
          have hkr : Kp (fun q => q = w.heap.size) wr w2 := ((Kp.refl _ wr).alloc _).grown hgrow2 (fun k hk => .inl (Option.some.inj hk).symm)
          have hgm : g ≠ w.heap.size := by
            rcases HE.out.2.2.2.2.2 g rfl with e | e
            · have := HF.out.2.2 g e
              omega
            · omega
          have hrow2 := hkr.row HE.out.1 (fun g' hg' e => hgm ((show g = g' from Option.some.inj hg').trans e))
          have hkp2 : Kp (fun q => (Value.slice po xs.length cap).ownBlock = some q) w w2 := HE.out.2.2.2.1.trans (hkr.mono fun q _ e => .inr ⟨by omega, by omega⟩)
          have hs2 := hkr.size
          have hA2 : AIn w2 hb ab F A := H.out.kp hkp2 (fun q hF hg => (HF.out.1 q hg).1 hF) (fun hg => (HF.out.1 hb hg).2 rfl)
          have hF2 : ∀ g', (Value.slice (some ⟨g, 0, none⟩) m cap1).ownBlock = some g' → ¬ F g' ∧ g' ≠ hb := by
            rintro g' e0
            rcases HE.out.2.2.2.2.2 g' e0 with e | e
            · exact HF.out.1 g' e
            · refine ⟨fun hF => ?_, ?_⟩
              · have := HF.out.2.1 g' hF
                omega
              · have := World.block_lt_of_cell? _ _ H.out.ptr
                simp at this
                omega
          have hll : (lookOf (blkW A q n)).length ≤ 1048576 := by
            have h1 := lookOf_len (blkW A q n)
            have h2 := HA.out.1.blkW_len HA.out.2
            have h3 := (HA.out.1.blk HA.out.2).2.2
            omega
          refine (looked_any hA2 HA.out.2 base (.slice (some ⟨g, 0, none⟩) m cap1) st' (by rw [hm]; exact hrow2) (by omega) (by omega) hF2).mono ?_
          rintro e w3 ⟨v3, rfl, hrow3, hk3, hnew3⟩
          have hm3 := ownsMap_kp hmap2 hk3 (fun e => hgm (show g = w.heap.size from Option.some.inj e))
          have hkp3 : Kp (fun q => (Value.slice po xs.length cap).ownBlock = some q) w w3 := hkp2.trans (hk3.mono fun q hq e => by
            rcases HE.out.2.2.2.2.2 q e with e | e
            · exact .inl e
            · exact .inr ⟨by omega, hq⟩)
          have hs3 := hk3.size
          have HE3 := Lib.hid (And.intro hrow3 (And.intro hm3 (And.intro hkp3 hnew3)))
          clear hrow3 hm3 hkp3 hnew3 hrow2 hkp2 hA2 hF2 hk3 hkr hmap2 hgrow2
          go_wp2_with fail
          go_roundg ((undone T (ds ++ [q])).length * 2097152 + (st' ++ lookOf (blkW A q n)).length)
          case measure => simp; omega
          case rel =>
            refine ⟨st' ++ lookOf (blkW A q n), ds ++ [q], rfl, HE3.out.1, ?_, HE3.out.2.2.1, fun g' hg' => ?_, by omega, HE.out.2.2.1, fun x hx => ?_, by simp; omega, by simp; omega⟩
            · rw [done_snoc, List.length_append]
              exact HE3.out.2.1
            · rcases HE3.out.2.2.2 g' hg' with e | e
              · exact HE.out.2.2.2.2.2 g' e
              · exact .inr (by omega)
            · rw [List.mem_append] at hx
              rcases hx with hx | hx
              · exact HE.out.2.2.2.2.1 x hx
              · exact lookOf_mem H.out hx
      · have Hn := Lib.hid (named_no hA y hy.1 hy.2 hno)
        have hnn : ∀ q, ¬ Nm A y q := by
          rintro q ⟨e, n, hn⟩
          rcases hno with h1 | h1
          · omega
          · rw [show y / 8 = (q : Int) + 1 by omega] at h1
            have hlt := (List.getElem?_eq_some_iff.1 hn.1).1
            unfold Ar.holds at h1
            rw [if_pos (by omega), show ((q : Int) + 1 - 1).toNat = q by omega, List.getD_eq_getElem?_getD, hn.1] at h1
            simp at h1
        have HE := Lib.hid (And.intro hpre (And.intro hmap (And.intro (hS.pop fun q hq => (hnn q hq).elim) (And.intro hkp (And.intro hst2 hnew)))))
        clear hpre hmap hS hkp hst hst2 hA hnn hno hnew
        go_wp2_with fail
        refine Hn.out.mono ?_
        rintro e w1 ⟨rfl, hk1⟩
        have hm1 := ownsMap_kp HE.out.2.1 hk1 (fun e => e)
        have hr1 := hk1.row HE.out.1 (fun _ _ e => e)
        have hz1 := hk1.size
        have HE1 := Lib.hid (And.intro hk1 (And.intro hm1 hr1))
        clear hk1 hr1
        go_wp2_with (at_lookup; refine wpList_lookup_own_unit _ rfl _ _ 102 rfl 3 104 Tryz.keyedInt Tryz.underlying102 (Tryz.zeroUnit _) w.heap.size ds.length _ rfl hm1 _ _ rfl (keyOf_int_mk Tryz.underlying3 (by decide)) ?_)
        go_roundg ((undone T ds).length * 2097152 + st'.length)
        case measure => simp
        case rel =>
          exact ⟨st', ds, rfl, by rw [hm]; exact HE1.out.2.2.alloc _, HE1.out.2.1.alloc _, (HE.out.2.2.2.1.trans' (HE1.out.1.mono fun _ _ e => e.elim)).alloc _, HE.out.2.2.2.2.2, by simp; omega, HE.out.2.2.1, HE.out.2.2.2.2.1, hd, by omega⟩
end
end Go.Proofs.YtkcmfldcdokobaaGreatDoor
