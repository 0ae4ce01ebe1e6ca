/- An atom of a Store under way: known, noted, its word. -/
import Derived.Test.YtkcmfldcdokobaaGreatDoorM31
/- An atom of a Store under way: known, noted, its word. -/
namespace Go.Proofs.YtkcmfldcdokobaaGreatDoor
open Go.RowKit Go.Maps

theorem toList_ne {s t : ByteArray} (h : s ≠ t) : (s.toList == t.toList) = false := by
  rw [beq_eq_false_iff_ne]
  intro e
  apply h
  rw [ByteArray.toList_eq, ByteArray.toList_eq] at e
  exact ByteArray.ext (Array.ext' e)

section
variable {w0 w w' : World} {col : Nat → Nat} {lb hb ab tb bb least N mb : Nat} {sv : Value} {sl : List (Int × Bool)} {names : List ByteArray} {S : St}
set_option maxRecDepth 100000 in
set_option maxHeartbeats 1000000 in
theorem known_any (h : LAt w0 w col lb hb ab tb bb sv least sl names N mb S) (s : ByteArray) :
    Calls Tryz.prog 150 #[.pointer (some ⟨lb, 0, none⟩), .string s] w fun e w' => w = w' ∧
      ((∃ i : Nat, names[i]? = some s ∧ e = .returned (.tuple #[.int .i64 i, .bool true])) ∨ (s ∉ names ∧ e = .returned (.tuple #[.int .i64 0, .bool false]))) := by
  obtain ⟨tv, fv, nn, D, ks, h1, h2, _⟩ := h
  have c0 := h2.cells.1
  have d1 := h1.hr.cells.2.1
  have hm := h1.at'.many
  have H := Lib.hid (And.intro h1.at' hm)
  obtain ⟨L, hL⟩ : ∃ L, names.length = L := ⟨_, rfl⟩
  have hL2 := hm.1
  rw [hL] at hL2
  have HL := Lib.hid hL
  clear h1 h2 hm
  go_enter Tryz.func150, Tryz.ntmps150
  go_wp2_with (go_at_call 143; refine (len_any H.out.1).mono ?_; rintro e w1 ⟨rfl, rfl⟩)
  clear hL
  go_loopg [17] L (fun gk i wr => ∃ k : Nat, k ≤ L ∧ gk = L - k ∧ i = Value.int .i64 k ∧ w = wr ∧ ∀ j, j < k → names[j]? ≠ some s)
  case atStart => exact ⟨0, by omega, rfl, rfl, rfl, fun j hj => by omega⟩
  case round =>
    obtain ⟨k, hk, rfl, rfl, rfl, hno⟩ := hrel
    by_cases hlt : k < L
    · obtain ⟨t, ht⟩ : ∃ t, names[k]? = some t := ⟨_, List.getElem?_eq_getElem (by rw [HL.out]; exact hlt)⟩
      have hn := Lib.hid (And.intro hno ht)
      clear hno
      by_cases hts : t = s
      · subst hts
        go_wp2_with (go_at_call 163; refine (name_ok H.out.1 k t hn.out.2).mono ?_; rintro e w2 ⟨rfl, rfl⟩)
        go_ret2
        exact ⟨rfl, .inl ⟨k, hn.out.2, rfl⟩⟩
      · have hne := toList_ne hts
        clear ht
        go_wp2_with (go_at_call 163; refine (name_ok H.out.1 k t hn.out.2).mono ?_; rintro e w2 ⟨rfl, rfl⟩)
        go_roundg (L - (k + 1))
        case measure => omega
        case rel =>
          refine ⟨k + 1, by omega, rfl, by go_num, rfl, fun j hj => ?_⟩
          rcases Nat.lt_or_ge j k with h1 | h1
          · exact hn.out.1 j h1
          · obtain rfl : j = k := by omega
            rw [hn.out.2]
            intro e
            exact hts (Option.some.inj e)
    · obtain rfl : L = k := by omega
      have hn := Lib.hid hno
      clear hno
      go_wp2_with fail
      go_ret2
      refine ⟨rfl, .inr ⟨fun hm => ?_, rfl⟩⟩
      obtain ⟨i, hi, e⟩ := List.getElem_of_mem hm
      exact hn.out i (by rw [← HL.out]; exact hi) (by rw [List.getElem?_eq_getElem hi, e])

variable {G : Nat → Prop} {tv fv : Value} {tks : List Int} {nn : Nat} {D D' : DataW Unit} {fresh ks : List ByteArray}
/-- a name more is noted -/
theorem LOwn.noted (h : LOwn G w lb hb tv tks mb nn D fv fresh) {w1 : World} (hk : Kp (fun q => fv.ownBlock = some q) w w1) {g cap : Nat} {s : ByteArray}
    (hrow : w1.ownsRow 0 9 1 (.slice (some ⟨g, 0, none⟩) (fresh.length + 1) cap) (fresh.length + 1) ((fresh ++ [s]).map Value.string)) (hg : fv.ownBlock = some g ∨ w.heap.size ≤ g) (hlt : g < w1.heap.size) :
    LOwn (Ext G w (w1.setCell ⟨lb, 3, none⟩ (.slice (some ⟨g, 0, none⟩) (fresh.length + 1) cap))) (w1.setCell ⟨lb, 3, none⟩ (.slice (some ⟨g, 0, none⟩) (fresh.length + 1) cap)) lb hb tv tks mb nn D (.slice (some ⟨g, 0, none⟩) (fresh.length + 1) cap) (fresh ++ [s]) ∧
      Kp G w (w1.setCell ⟨lb, 3, none⟩ (.slice (some ⟨g, 0, none⟩) (fresh.length + 1) cap)) := by
  have hlb := h.lt lb h.inG
  have hnfr : ¬ fv.ownBlock = some lb := fun e => (h.frG lb e).2 rfl
  have hhd := (hk.block lb hlb hnfr).trans h.hd
  have hgl : g ≠ lb := by
    rcases hg with e | e
    · exact (h.frG g e).2
    · omega
  have hks : Kp (fun q => q = lb) w1 (w1.setCell ⟨lb, 3, none⟩ (.slice (some ⟨g, 0, none⟩) (fresh.length + 1) cap)) := (Kp.refl _ w1).setCell _ _ (.inl rfl)
  have hkG : Kp G w w1 := hk.mono fun q _ e => (h.frG q e).1
  have hz1 := hk.size
  have hz2 := hks.size
  refine ⟨⟨.inl h.inG, fun k hk => ?_, ?_, ?_, fun g' hg' => ⟨.inl (h.tkG g' hg').1, (h.tkG g' hg').2⟩, ?_, ⟨.inl h.mapG.1, h.mapG.2⟩, ?_, fun g' hg' => ?_⟩, hkG.setCell _ _ (.inl h.inG)⟩
  · rcases hk with e | e
    · have := h.lt k e
      omega
    · exact e.2
  · rw [heap_set_same hhd]
    rfl
  · refine hks.row (hk.row h.tk fun g' hg' e => ?_) (fun g' hg' e => (h.tkG g' hg').2 e)
    obtain ⟨_, _, _, h1, _⟩ := row_blk h.fr e
    obtain ⟨_, _, _, h2, _⟩ := row_blk h.tk hg'
    exact blk_ne h1 h2 (by decide) rfl
  · refine ownsMap_kp (ownsMap_kp h.map hk fun e => ?_) hks h.mapG.2
    obtain ⟨_, _, _, hh, _⟩ := row_blk h.fr e
    obtain ⟨es, cl, hm, _⟩ := h.map
    rw [hm] at hh
    cases hh
  · rw [List.length_append]
    exact hks.row hrow (fun g' hg' e => hgl ((show g = g' from Option.some.inj hg').trans e))
  · have e0 : g = g' := Option.some.inj hg'
    subst e0
    refine ⟨?_, hgl⟩
    rcases hg with e | e
    · exact .inl (h.frG g e).1
    · exact .inr ⟨e, by omega⟩
/-- a name's number is noted -/
theorem LOwn.numbered (h : LOwn G w lb hb tv tks mb nn D fv fresh) {w1 : World} {n' : Nat} (hm : w1.ownsMap Tryz.prog 9 (plainElem Tryz.prog 3) mb n' D') (hg : w.grownBy w1 (some mb)) : LOwn (Ext G w w1) w1 lb hb tv tks mb n' D' fv fresh ∧ Kp G w w1 := by
  have hk : Kp (fun q => q = mb) w w1 := (Kp.refl _ w).grown hg (fun k e => by cases e; exact .inl rfl)
  have hz := hk.size
  have nomap : ∀ {v : Value} {n : Nat} {t : TypeId} {xs : List Value}, w.ownsRow 0 t 1 v n xs → ∀ g, v.ownBlock = some g → ¬ g = mb := fun hr g hgb e => by
    subst e
    obtain ⟨_, _, _, hh, _⟩ := row_blk hr hgb
    obtain ⟨es, cl, hm, _⟩ := h.map
    rw [hm] at hh
    cases hh
  refine ⟨⟨.inl h.inG, fun k hk => ?_, (hk.block lb (h.lt lb h.inG) (fun e => h.mapG.2 e.symm)).trans h.hd, hk.row h.tk (nomap h.tk), fun g hg => ⟨.inl (h.tkG g hg).1, (h.tkG g hg).2⟩, hm, ⟨.inl h.mapG.1, h.mapG.2⟩, hk.row h.fr (nomap h.fr), fun g hg => ⟨.inl (h.frG g hg).1, (h.frG g hg).2⟩⟩,
    hk.mono fun q _ e => by subst e; exact h.mapG.1⟩
  rcases hk with e | e
  · have := h.lt k e
    omega
  · exact e.2

theorem Hs.up {A : Ar} {a : Bn} {N M : Nat} (h : Hs w0 w col hb ab tb bb sv least sl A names N a) (hM : N ≤ M) : Hs w0 w col hb ab tb bb sv least sl A names M a := ⟨h.hr, h.ar, h.at', h.bn, h.bi.mono hM, h.old, h.kp⟩
theorem known_put {S' : St} {i : Nat} {s : ByteArray} (h3 : Known S names nn D ks) (hm : Maps.IsMap D) (hi : (names ++ S'.fresh)[i]? = some s) (hK : S'.K = S.K + 1) (ht : S'.tks = S.tks) (hf : S'.fresh = S.fresh ∨ (S'.fresh = S.fresh ++ [s] ∧ s ∉ names ++ S.fresh ∧ (names ++ S.fresh).length < 1024 ∧ s.size ≤ 255)) :
    Known S' names (nn + 1) (D.put (.string s.data.toList) (.lit (.int .i64 (i : Nat)))) (s :: ks) := by
  have hmany := h3.many
  have htks := h3.tks
  rcases hf with hf | ⟨hf, hs, hl, hz⟩
  · rw [hf] at hi
    have hmem := List.mem_of_getElem? hi
    refine ⟨by rw [hf]; exact h3.num.put hm h3.nodup hi, fun t ht => ?_, fun t ht => ?_, by omega, by rw [ht]; omega, by rw [hf]; exact h3.nodup, by rw [hf]; exact h3.len, by rw [hf]; exact h3.short⟩
    · rw [hf]
      rcases List.mem_cons.1 ht with rfl | e
      · exact hmem
      · exact h3.sub t e
    · rw [hf] at ht
      exact List.mem_cons_of_mem _ (h3.fresh t ht)
  · rw [hf, ← List.append_assoc] at hi
    have hnd : (names ++ S.fresh ++ [s]).Nodup := by
      rw [List.nodup_append]
      exact ⟨h3.nodup, by simp, fun x hx y hy => by simp at hy; subst hy; intro e; subst e; exact hs hx⟩
    refine ⟨by rw [hf, ← List.append_assoc]; exact (h3.num.more h3.sub hnd).put hm hnd hi, fun t ht => ?_, fun t ht => ?_, by omega, by rw [ht]; omega, by rw [hf, ← List.append_assoc]; exact hnd, by rw [hf, ← List.append_assoc, List.length_append]; simp only [List.length_singleton]; omega, fun t ht => ?_⟩
    · rw [hf, ← List.append_assoc, List.mem_append]
      rcases List.mem_cons.1 ht with rfl | e
      · exact .inr (by simp)
      · exact .inl (h3.sub t e)
    · rw [hf, List.mem_append] at ht
      rcases ht with e | e
      · exact List.mem_cons_of_mem _ (h3.fresh t e)
      · simp at e
        subst e
        simp
    · rw [hf, ← List.append_assoc, List.mem_append] at ht
      rcases ht with e | e
      · exact h3.short t e
      · simp at e
        subst e
        exact hz

theorem pot_name (S : St) (s : ByteArray) (i : Nat) : pot ⟨S.A, S.a, S.K + 1, S.tks, S.fresh ++ [s]⟩ i ≤ pot S i + ownCost 2 0 0 i := by
  unfold pot ownCost
  by_cases e : i = 0
  · subst e
    exact Nat.le_add_right _ _
  · by_cases e1 : i = 1
    · subst e1
      exact Nat.le_refl _
    · by_cases e2 : i = 2
      · subst e2
        exact Nat.le_refl _
      · simp only [if_neg e, if_neg e1, if_neg e2, List.length_append]
        exact Nat.le_refl _
set_option maxRecDepth 100000 in
set_option maxHeartbeats 1000000 in
theorem atom_ends (h : LAt w0 w col lb hb ab tb bb sv least sl names N mb S) (hK : S.K ≤ 1000000) (s : ByteArray) (hs1 : 1 ≤ s.size) (hs2 : s.size ≤ 255) :
    Calls Tryz.prog 127 #[.pointer (some ⟨lb, 0, none⟩), .string s] w (LEnds w0 w col lb hb ab tb bb sv least sl names N mb S (fun x S' => AtomS names S s x S') (S.K + 1) (fun i => pot S i + ownCost 2 0 0 i)) := by
  have hkn := known_any h s
  obtain ⟨tv, fv, nn, D, ks, h1, h2, h3⟩ := h
  obtain ⟨c0, c1, c2, c3, c4⟩ := h2.cells
  have hkey := key_of s hs2
  have hown := h2.map
  have hmany := h3.many
  have his := hown.isMap
  by_cases hin : s ∈ ks
  · have hhas := (h3.num s).1.2 hin
    obtain ⟨i, hil, hi'⟩ := List.getElem_of_mem (h3.sub s hin)
    have hi : (names ++ S.fresh)[i]? = some s := by rw [List.getElem?_eq_getElem hil, hi']
    have hat := (h3.num s).2 hin i hi
    have hlen := h3.len
    have hi2 : i < 1024 := by omega
    have hwf : (Lit.int .i64 (i : Int)).wf = true := WalkArith.wf_i64 (by omega)
    have H := Lib.hid (And.intro h1 (And.intro h2 (And.intro h3 (And.intro hkey (And.intro hhas (And.intro hat (And.intro hi his)))))))
    clear h1 h2 h3 hkn hkey hhas hat hi hi' hin his
    go_enter Tryz.func127, Tryz.ntmps127
    go_wp2_with (at_lookup; refine wpList_lookup_own_ok_int _ rfl _ _ 91 rfl 9 3 .i64 Tryz.law Tryz.underlying91 Tryz.underlying3 (Tryz.zeroE _) mb _ D rfl hown _ _ rfl H.out.2.2.2.1 ?_; intro c hc hwc; rw [H.out.2.2.2.2.1]; obtain rfl : c = (i : Int) := by { have := (H.out.2.2.2.2.2.1 _).symm.trans hc; injection this with this; injection this with _ this; exact this.symm }; clear hc hwc; refine Hid.out ?_)
    refine Lib.hid ?_
    go_wp2_with (at_mapUpdate; refine wpList_mapUpdate_own _ rfl _ _ _ 91 rfl 9 3 Tryz.law Tryz.underlying91 _ mb _ D rfl hown (by unfold maxLen; omega) _ _ _ rfl rfl H.out.2.2.2.1 _ [] (plainElem_int Tryz.underlying3 hwf) ?_; intro w3 hown3 hgrow3; refine Hid.out ?_)
    refine Lib.hid ?_
    obtain ⟨q1, q2⟩ := H.out.2.1.numbered hown3 hgrow3
    have HF := Lib.hid (And.intro q1 q2)
    clear q1 q2 hown3 hgrow3 hown
    go_wp2_with (go_at_call 98; refine (tagged_any i 1 w3 (by omega) (by omega) (by omega) (by omega)).mono ?_; rintro e w4 ⟨rfl, rfl⟩)
    go_ret2
    obtain ⟨q1, q2⟩ := HF.out
    refine ⟨_, _, .more .none, Nat.le_refl _, ⟨tv, fv, _, _, s :: ks, (H.out.1.stepL q2).up (by simp only; omega), q1.more (Fi_ext q2.size) Fi_lt, known_put H.out.2.2.1 H.out.2.2.2.2.2.2.2 H.out.2.2.2.2.2.2.1 rfl rfl (.inl rfl)⟩, Go0.of (by omega) q2, .inl ⟨_, rfl, by omega, by omega, ⟨i, rfl, hi2, H.out.2.2.2.2.2.2.1, .inl rfl⟩, fun _ => Nat.le_add_right _ _⟩⟩
  · have hhas : has D (.string s.data.toList) = false := by
      rw [Bool.eq_false_iff]
      exact fun e => hin ((h3.num s).1.1 e)
    have hnf : s ∉ S.fresh := fun e => hin (h3.fresh s e)
    have hlen := h3.len
    obtain ⟨fl, hfl⟩ : ∃ fl, S.fresh.length = fl := ⟨_, rfl⟩
    obtain ⟨nl, hnl⟩ : ∃ nl, names.length = nl := ⟨_, rfl⟩
    have hlen2 : nl + fl ≤ 1024 := by rw [List.length_append] at hlen; omega
    have H := Lib.hid (And.intro h1 (And.intro h2 (And.intro h3 (And.intro hkey (And.intro hhas (And.intro hnf (And.intro his (And.intro hkn (And.intro hfl hnl)))))))))
    clear h1 h2 h3 hkn hkey hhas hin hnf his hlen
    go_enter Tryz.func127, Tryz.ntmps127
    go_wp2_with (at_lookup; refine wpList_lookup_own_ok_int _ rfl _ _ 91 rfl 9 3 .i64 Tryz.law Tryz.underlying91 Tryz.underlying3 (Tryz.zeroE _) mb _ D rfl hown _ _ rfl H.out.2.2.2.1 ?_; intro c hc hwc; rw [H.out.2.2.2.2.1]; clear hc hwc)
    refine H.out.2.2.2.2.2.2.2.1.mono ?_
    rintro e w1 ⟨rfl, ⟨i, hi, rfl⟩ | ⟨hno, rfl⟩⟩
    · have hil := (List.getElem?_eq_some_iff.1 hi).1
      have hnl := H.out.2.2.2.2.2.2.2.2.2
      have hi2 : i < 1024 := by omega
      have hwf : (Lit.int .i64 (i : Int)).wf = true := WalkArith.wf_i64 (by omega)
      have hia : (names ++ S.fresh)[i]? = some s := by rw [List.getElem?_append_left hil]; exact hi
      have Hi := Lib.hid (And.intro hi hia)
      clear hi hia hil hnl
      go_wp2_with (at_mapUpdate; refine wpList_mapUpdate_own _ rfl _ _ _ 91 rfl 9 3 Tryz.law Tryz.underlying91 _ mb _ D rfl hown (by unfold maxLen; omega) _ _ _ rfl rfl H.out.2.2.2.1 _ [] (plainElem_int Tryz.underlying3 hwf) ?_; intro w3 hown3 hgrow3; refine Hid.out ?_)
      refine Lib.hid ?_
      obtain ⟨q1, q2⟩ := H.out.2.1.numbered hown3 hgrow3
      have HF := Lib.hid (And.intro q1 q2)
      clear q1 q2 hown3 hgrow3 hown
      go_wp2_with (go_at_call 98; refine (tagged_any i 1 w3 (by omega) (by omega) (by omega) (by omega)).mono ?_; rintro e w4 ⟨rfl, rfl⟩)
      go_ret2
      obtain ⟨q1, q2⟩ := HF.out
      refine ⟨_, _, .more .none, Nat.le_refl _, ⟨tv, fv, _, _, s :: ks, (H.out.1.stepL q2).up (by simp only; omega), q1.more (Fi_ext q2.size) Fi_lt, known_put H.out.2.2.1 H.out.2.2.2.2.2.2.1 Hi.out.2 rfl rfl (.inl rfl)⟩, Go0.of (by omega) q2, .inl ⟨_, rfl, by omega, by omega, ⟨i, rfl, hi2, Hi.out.2, .inl rfl⟩, fun _ => Nat.le_add_right _ _⟩⟩
    · have hfr := H.out.2.1.fr
      obtain ⟨po, cap, rfl⟩ := slice_form hfr
      have hfl := H.out.2.2.2.2.2.2.2.2.1
      have hnl := H.out.2.2.2.2.2.2.2.2.2
      rw [hfl] at hfr c3
      have HN := Lib.hid hno
      have hcall : ∀ n, Calls Tryz.prog 143 #[.pointer (some ⟨tb, 0, none⟩)] (w.drewN n) fun e w' => e = .returned (.int .i64 nl) ∧ w' = w.drewN n := fun n => by
        refine (len_any (H.out.1.at'.kp (kp_drewN (fun _ => False) w n) (fun _ _ e => e))).mono ?_
        rintro e w' ⟨h1, rfl⟩
        rw [hnl] at h1
        exact ⟨h1, rfl⟩
      have Hcall := Lib.hid hcall
      have d1 := H.out.1.hr.cells.2.1
      clear hno hfl hnl hcall
      go_wp2_with fail
      go_quiet ((go_at_call 143; exact Calls.quiet_of_same (Hcall.out _)))
      obtain ⟨w1, hw1⟩ : ∃ w1, w.drewN nq = w1 := ⟨_, rfl⟩
      rw [hw1]
      have hk1 : Kp (fun _ => False) w w1 := by rw [← hw1]; exact kp_drewN _ w nq
      have h1 := H.out.1.same hk1
      have h2 := H.out.2.1.same hk1
      have hg1 := Go0.same (col := col) hk1
      obtain ⟨e0, e1, e2, e3, e4⟩ := h2.cells
      have hfl := H.out.2.2.2.2.2.2.2.2.1
      rw [hfl] at e3
      have hown1 := h2.map
      have H1 := Lib.hid (And.intro h1 (And.intro h2 hg1))
      clear hw1 h1 h2 hg1 hk1 c0 c1 c2 c3 c4 d1 hown hfl Hcall hfr
      by_cases hfull : nl + fl = 1024
      · have hq : ((nl : Int) + fl == 1024) = true := by simp; omega
        have hq2 : (nl : Int) + fl = 1024 := by omega
        have hss : s.size ≤ 255 := hs2
        go_wp2_with (go_at_call 49; refine (at_any _ _ _ _ _).mono ?_; rintro e w' ⟨rfl, rfl⟩)
        go_ret2
        have hkf : Kp (fun _ => False) w1 (w1.alloc (.cells #[.string atomS, .int .i64 s.size, .iface 67 (.int .i64 2)] 181)) := (Kp.refl _ w1).alloc _
        refine ⟨S, _, .none, by omega, ⟨tv, _, nn, D, ks, H1.out.1.same hkf, H1.out.2.1.same hkf, H.out.2.2.1⟩, H1.out.2.2.trans (Go0.same hkf), .inr ⟨_, atomS, s.size, rfl, ⟨w1.heap.size, rfl, heap_alloc_new w1 _, recol_new _ (Nat.le_refl _)⟩, .inr (.inr ⟨by rw [List.length_append, H.out.2.2.2.2.2.2.2.2.1, H.out.2.2.2.2.2.2.2.2.2]; exact hfull, Nat.le_refl _⟩)⟩⟩
      · have hq : ((nl : Int) + fl == 1024) = false := by simp; omega
        have hfr1 := H1.out.2.1.fr
        have hfl := H.out.2.2.2.2.2.2.2.2.1
        rw [hfl] at hfr1
        obtain ⟨i0, hi, hz0, hz1, hz2'⟩ := info_parts Tryz.infoStr
        have hoA : ∀ o, (w1.alloc o).ownsRow 0 9 1 (.slice po fl cap) fl (S.fresh.map Value.string) := fun o => hfr1.alloc o
        have hnA : ∀ i u, [Value.string s][i]? = some u → (w1.alloc (.cells #[Value.string s] 9)).cell? ((⟨w1.heap.size, 0, none⟩ : Addr).add i) = some u :=
          World.news_of_block (cs := #[Value.string s]) (heap_alloc_new w1 _)
        have hone : ∀ u ∈ [Value.string s], u.oneCell' = true := by intro u hu; simp at hu; subst hu; rfl
        have hc1 : fl + 1 ≤ maxLen := by unfold maxLen; omega
        have hc2 : (fl + 1) * 16 ≤ 140737488355328 := by omega
        have Hc := Lib.hid (And.intro hc1 (And.intro hc2 hfr1))
        clear hc1 hc2 hfr1 hfl
        go_wp2_with (at_builtin; refine wpList_append_lies _ rfl _ _ 92 rfl 0 9 i0 (.string ByteArray.empty) 1 16 Tryz.underlying92 hi hz0 hz1 hz2' rfl (by omega) (.slice po fl cap) fl _ rfl (hoA _) ⟨w1.heap.size, 0, none⟩ 1 1 [.string s] rfl rfl hnA hone (by omega) Hc.out.1 Hc.out.2.1 (Nat.zero_le _) (w1.heap.size + 1) (by simp) ?_; intro g1 cap1 w4 hrow hgrow hat hlt4; refine Hid.out ?_)
        have hfl := H.out.2.2.2.2.2.2.2.2.1
        subst hfl
        have hlb : lb < w1.heap.size := H1.out.2.1.lt lb H1.out.2.1.inG
        have hnfr : ¬ (Value.slice po S.fresh.length cap).ownBlock = some lb := fun e => (H1.out.2.1.frG lb e).2 rfl
        have hkk : Kp (fun q => (Value.slice po S.fresh.length cap).ownBlock = some q) w1 w4 := ((Kp.refl _ w1).alloc _).grown hgrow (fun q hq => .inl hq)
        have z0 : ∀ j, w4.frozen? ⟨lb, j, none⟩ = false := fun j => (hkk.frozen (p := ⟨lb, j, none⟩) hlb hnfr).trans (e4 j)
        have z3 : w4.cell? ⟨lb, 3, none⟩ = some (.slice po S.fresh.length cap) := (hkk.cell (p := ⟨lb, 3, none⟩) hlb hnfr).trans e3
        have z2 : w4.cell? ⟨lb, 2, none⟩ = some (.map (some mb)) := (hkk.cell (p := ⟨lb, 2, none⟩) hlb hnfr).trans e2
        have hnoted := H1.out.2.1.noted (w1 := w4) (g := g1) (cap := cap1) (s := s) hkk (by simpa using hrow) (by
          rcases hat with e | e
          · exact .inl e
          · exact .inr (by omega)) hlt4
        obtain ⟨n1, n2⟩ := hnoted
        have h5 := H1.out.1.stepL n2
        have hL5 := n1.more (Fi_ext n2.size) Fi_lt
        have hg5 := H1.out.2.2.trans (Go0.of (i := 5) (by omega) n2)
        have HN5 := Lib.hid (And.intro h5 (And.intro hL5 hg5))
        obtain ⟨i, hii⟩ : ∃ i : Nat, (nl : Int) + S.fresh.length = i := ⟨nl + S.fresh.length, by omega⟩
        have hi2 : i < 1024 := by omega
        have hwf : (Lit.int .i64 (i : Int)).wf = true := WalkArith.wf_i64 (by omega)
        have Hii := Lib.hid hii
        clear hkk hrow hgrow hat hnfr n1 n2 h5 hL5 hg5 e0 e1 e2 e3 e4 hown1 hii
        have hown5 := HN5.out.2.1.map
        have hkey := H.out.2.2.2.1
        have hwfn : (Lit.int .i64 ((nl : Int) + S.fresh.length)).wf = true := by rw [Hii.out]; exact hwf
        have hnm : nn < maxLen := by unfold maxLen; omega
        refine Lib.hid ?_
        go_wp2_with (at_mapUpdate; refine wpList_mapUpdate_own _ rfl _ _ _ 91 rfl 9 3 Tryz.law Tryz.underlying91 _ mb _ D rfl hown5 hnm _ _ _ rfl rfl hkey _ [] (plainElem_int Tryz.underlying3 hwfn) ?_; intro w6 hown6 hgrow6; refine Hid.out ?_)
        refine Lib.hid ?_
        obtain ⟨q1, q2⟩ := HN5.out.2.1.numbered hown6 hgrow6
        rw [Hii.out] at q1
        have HF := Lib.hid (And.intro q1 q2)
        have hb1 : (0 : Int) ≤ (nl : Int) + S.fresh.length := by omega
        have hb2 : (nl : Int) + S.fresh.length ≤ 1152921504606846975 := by omega
        clear q1 q2 hown6 hgrow6 hown5
        go_wp2_with (go_at_call 98; refine (tagged_any ((nl : Int) + S.fresh.length) 1 w6 hb1 hb2 (by omega) (by omega)).mono ?_; rintro e w7 ⟨rfl, rfl⟩)
        go_ret2
        obtain ⟨q1, q2⟩ := HF.out
        have hnf := H.out.2.2.2.2.2.1
        have hii := Hii.out
        have hnl := H.out.2.2.2.2.2.2.2.2.2
        have hni : s ∉ names ++ S.fresh := by
          rw [List.mem_append]
          rintro (e | e)
          · exact HN.out e
          · exact hnf e
        have hia : (names ++ (S.fresh ++ [s]))[i]? = some s := by
          rw [← List.append_assoc, List.getElem?_append_right (by rw [List.length_append]; omega), show i - (names ++ S.fresh).length = 0 by rw [List.length_append]; omega]
          rfl
        refine ⟨⟨S.A, S.a, S.K + 1, S.tks, S.fresh ++ [s]⟩, _, .name .none hs1 hs2 hni, Nat.le_refl _, ⟨tv, _, _, _, s :: ks, (HN5.out.1.stepL q2).up (by simp only; omega), q1.more (Fi_ext q2.size) Fi_lt, known_put H.out.2.2.1 H.out.2.2.2.2.2.2.1 hia rfl rfl (.inr ⟨rfl, hni, by rw [List.length_append]; omega, hs2⟩)⟩, HN5.out.2.2.trans (Go0.of (by omega) q2), .inl ⟨_, rfl, by omega, by omega, ⟨i, by omega, hi2, hia, .inr ⟨hni, rfl⟩⟩, pot_name S s⟩⟩
end
end Go.Proofs.YtkcmfldcdokobaaGreatDoor
