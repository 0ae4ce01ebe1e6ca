/- The document's own table: Register. -/
import Derived.Test.YtdcmdidikengbaaTbRef6
import Derived.Sort.Walk0
namespace Go.Proofs.Ytdcmdidikengbaa
open Go.RowKit
set_option linter.unusedVariables false
set_option linter.unusedSimpArgs false

section
variable {F : Nat → Prop} {w w' : World} {b g1 g2 size B : Nat} {v : Value} {sl : List Sg} {ns : List Nm} {p : Int} {s : ByteArray}
theorem XBad.before {w1 : World} {mk : Value → Value} {l : List Lk} {e : Ending} (h : XBad w1 mk l e w') (hk : Kp (fun _ => False) w w1) : XBad w mk l e w' := by
  obtain ⟨u, h1, h2, h3⟩ := h
  exact ⟨u, h1, h2, hk.trans' h3⟩
set_option maxRecDepth 100000 in
set_option maxHeartbeats 4000000 in
theorem xtreg_bad (h : RT w b g1 g2 v size sl ns) (hok : SlOk B sl) (hB : B ≤ 2305843009213693952) (hfit : sl.length ≤ size) (hs64 : size ≤ 64) (ho : ns.Pairwise NmLt) (hl : ns.length ≤ 64) (s : ByteArray) (hs : s.size ≤ maxLen) (p : Int) (hp2 : p ≤ 9223372036854775807) (hk : nameKind sl ns s p ≠ 0) :
    Calls Try.prog 31 #[.pointer (some ⟨b, 0, none⟩), .string s, .int .i64 p] w (XBad w (fun v => v) [Lk.fault ⟨#[114, 101, 103, 105, 115, 116, 101, 114]⟩ (s.size : Nat), Lk.kind (nameKind sl ns s p)]) := by
  have HK := xkind_any h hok hB hfit hs64 p hp2
  have HW := xtwhere_any h ho hl s hs
  obtain ⟨-, -, -, c3, -⟩ := h.facts
  obtain ⟨po, cap, rfl, hcap, hcap2⟩ := ownsS_form h.nms
  have hsz : (s.size : Int) ≤ 9223372036854775807 := by unfold maxLen at hs; omega
  have HB := Lib.hid (fun w => xbad1 w (fun v => v) ⟨#[114, 101, 103, 105, 115, 116, 101, 114]⟩ (s.size : Nat) (nameKind sl ns s p) 0)
  by_cases h0 : s.size = 0 ∨ 255 < s.size
  · have hn : nameKind sl ns s p = 1 := by unfold nameKind; rw [if_pos h0]
    rw [hn] at HB ⊢
    rcases h0 with h0 | h0
    · have he : s = ByteArray.empty := ByteArray.ext (Array.eq_empty_of_size_eq_zero h0)
      subst he
      clear h HK HW hk hok hn h0
      go_enter Try.func31, Try.ntmps31
      go_wp2_with (first | (go_at_call 47; refine (k_any _ _).mono ?_; rintro e w1 ⟨rfl, rfl⟩) | (go_at_call 46; refine (f14_any _ _ _ _).mono ?_; rintro e w1 ⟨rfl, rfl⟩))
      go_ret
      exact HB.out _
    · have hne : ¬ s.toList = [] := by
        intro e
        rw [toList_nil_iff_emptyBytes] at e
        rw [e] at h0
        exact absurd h0 (by decide)
      have hne2 : s.toList.isEmpty = false := by rw [Bool.eq_false_iff]; exact fun e => hne (List.isEmpty_iff.1 e)
      have h1i : (255 : Int) < s.size := by omega
      clear h HK HW hk hok hn
      go_enter Try.func31, Try.ntmps31
      go_wp2_with (first | (go_at_call 47; refine (k_any _ _).mono ?_; rintro e w1 ⟨rfl, rfl⟩) | (go_at_call 46; refine (f14_any _ _ _ _).mono ?_; rintro e w1 ⟨rfl, rfl⟩))
      go_ret
      exact HB.out _
  · have hne : ¬ s.toList = [] := by
      intro e
      rw [toList_nil_iff_emptyBytes] at e
      rw [e] at h0
      exact h0 (.inl rfl)
    have hne2 : s.toList.isEmpty = false := by rw [Bool.eq_false_iff]; exact fun e => hne (List.isEmpty_iff.1 e)
    have h1i : ¬ (255 : Int) < s.size := by omega
    rcases kindAt_cases sl p with hk2 | hk2 | hk2
    · rw [hk2] at HK
      cases hw : whose ns s with
      | some q =>
        have hn : nameKind sl ns s p = 5 := by
          unfold nameKind
          rw [if_neg h0, if_neg (by rw [hk2]; decide), hw, show (some q).isSome = true from rfl, if_pos rfl]
        rw [hn] at HB ⊢
        have HW2 : Calls Try.prog 33 #[.pointer (some ⟨b, 0, none⟩), .string s] w (fun e w' => e = .returned (.tuple #[.int .i64 (q : Nat), .pointer none]) ∧ w' = w) := by
          refine HW.mono ?_
          rintro e w' (⟨q', hq', rfl, rfl⟩ | ⟨hno, -⟩)
          · rw [hw] at hq'
            obtain rfl := Option.some.inj hq'
            exact ⟨rfl, rfl⟩
          · rw [hw] at hno; cases hno
        clear h HW hk hok hn hw h0 hk2
        go_enter Try.func31, Try.ntmps31
        go_wp2_with (first | (go_at_call 49; refine HK.mono ?_; rintro e w' ⟨rfl, rfl⟩) | (go_at_call 33; refine HW2.mono ?_; rintro e w' ⟨rfl, rfl⟩) | (go_at_call 47; refine (k_any _ _).mono ?_; rintro e w1 ⟨rfl, rfl⟩) | (go_at_call 46; refine (f14_any _ _ _ _).mono ?_; rintro e w1 ⟨rfl, rfl⟩))
        go_ret
        exact HB.out _
      | none =>
        have h64 : ns.length = 64 := by
          refine Classical.byContradiction fun e => hk ?_
          unfold nameKind
          rw [if_neg h0, if_neg (by rw [hk2]; decide), hw, if_neg (by decide), if_neg e]
        have hn : nameKind sl ns s p = 2 := by
          unfold nameKind
          rw [if_neg h0, if_neg (by rw [hk2]; decide), hw, if_neg (by decide), if_pos h64]
        rw [hn] at HB ⊢
        have HW2 : Hid (Calls Try.prog 33 #[.pointer (some ⟨b, 0, none⟩), .string s] w (fun e w' => ∃ x, e = .returned (.tuple #[.int .i64 (-1), .pointer (some ⟨x, 0, none⟩)]) ∧ Kp (fun _ => False) w w')) := by
          refine Lib.hid (HW.mono ?_)
          rintro e w' (⟨q', hq', -⟩ | ⟨hno, x, -, rfl, hkx⟩)
          · rw [hw] at hq'; cases hq'
          · exact ⟨x, rfl, hkx⟩
        rw [h64] at h c3 hcap
        have HT := Lib.hid h
        clear h HW hk hok hn hw h0 hk2 hl
        go_enter Try.func31, Try.ntmps31
        go_wp2_with (go_at_call 49; refine HK.mono ?_; rintro e w' ⟨rfl, rfl⟩)
        refine HW2.out.mono ?_
        rintro e w2 ⟨x, rfl, hkx⟩
        obtain ⟨-, -, -, d3, -⟩ := (HT.out.same hkx).facts
        have HK2 := Lib.hid hkx
        clear hkx HW2
        go_wp2_with (first | (go_at_call 47; refine (k_any _ _).mono ?_; rintro e w1 ⟨rfl, rfl⟩) | (go_at_call 46; refine (f14_any _ _ _ _).mono ?_; rintro e w1 ⟨rfl, rfl⟩))
        go_ret
        exact XBad.before (HB.out w2) HK2.out
    all_goals
      have hn : nameKind sl ns s p = kindAt sl p := by
        unfold nameKind
        rw [if_neg h0, if_pos (by rw [hk2]; decide)]
      rw [hn, hk2] at HB ⊢
      rw [hk2] at HK
      clear h HW hk hok hn h0 hk2
      go_enter Try.func31, Try.ntmps31
      go_wp2_with (first | (go_at_call 49; refine HK.mono ?_; rintro e w' ⟨rfl, rfl⟩) | (go_at_call 47; refine (k_any _ _).mono ?_; rintro e w1 ⟨rfl, rfl⟩) | (go_at_call 46; refine (f14_any _ _ _ _).mono ?_; rintro e w1 ⟨rfl, rfl⟩))
      go_ret
      exact HB.out _
/-- where a name belongs -/
theorem put_at {x : Nm} {k : Nat} (hk : k ≤ ns.length) (hb : ∀ j y, j < k → ns[j]? = some y → befo x y = true) (ha : ∀ y, ns[k]? = some y → befo x y = false) : putNm ns x = ns.take k ++ x :: ns.drop k := by
  have h1 : ns.takeWhile (befo x) = ns.take k ∧ ns.dropWhile (befo x) = ns.drop k := by
    induction ns generalizing k with
    | nil => simp
    | cons a l ih =>
      cases k with
      | zero =>
        have := ha a rfl
        simp [List.dropWhile_cons, this]
      | succ k =>
        have h0 := hb 0 a (by omega) rfl
        obtain ⟨i1, i2⟩ := ih (k := k) (by simpa using hk) (fun j y hj hy => hb (j + 1) y (by omega) (by simpa using hy)) (fun y hy => ha y (by simpa using hy))
        simp [List.takeWhile_cons, List.dropWhile_cons, h0, i1, i2]
  unfold putNm
  rw [h1.1, h1.2]
set_option maxRecDepth 100000 in
/-- both appends of Register -/
theorem reg_appends (h : RT w b g1 g2 v size sl ns) {k : Nat} (hk : k ≤ ns.length) (hl : ns.length ≤ 64) (x : Nm) {w1 : World} (hw1 : w.drew.alloc (.cells #[.string x.txt, .int .i64 (x.pid : Nat)] 103) = w1) (lv rv : Value) {ns2 : List Nm} (hns2 : ns2 = ns.take k ++ x :: ns.drop k)
    (hlr : (v = .slice none 0 0 ∧ lv = .slice none 0 0 ∧ rv = .slice none 0 0) ∨ ∃ g cap, v = .slice (some ⟨g, 0, none⟩) ns.length cap ∧ ns.length ≤ cap ∧ lv = .slice (some ⟨g, 0, none⟩) k k ∧ rv = .slice (if cap = k then some ⟨g, 0, none⟩ else some ⟨g, k * 2, none⟩) (ns.length - k) (cap - k)) :
    ∃ tv w3, (Builtin.append_ #[97, 97] 97 #[.slice (some ⟨w.heap.size, 0, none⟩) 1 1, rv]).run Try.prog w1 = .ok tv w3 ∧
      ∃ v' w4, (Builtin.append_ #[97, 97] 97 #[lv, tv]).run Try.prog w3 = .ok v' w4 ∧
        w4.ownsS 103 2 v' ns2.length (nmCells ns2) ∧ Kp (fun _ => False) w w3 ∧ Kp (fun q => v.ownBlock = some q) w w4 ∧ ∀ g, v'.ownBlock = some g → v.ownBlock = some g ∨ w.heap.size ≤ g := by
  have hk1 : Kp (fun _ => False) w w1 := by rw [← hw1]; exact (Kp.refl _ w).drew.alloc _
  have hz1 : w1.heap.size = w.heap.size + 1 := by rw [← hw1]; simp
  have hcell : w1.heap[w.heap.size]? = some (.cells #[.string x.txt, .int .i64 (x.pid : Nat)] 103 (0, 0)) := by rw [← hw1]; exact heap_alloc_new w.drew _
  have h1 := h.same hk1
  have hone : w1.ownsS 103 2 (.slice (some ⟨w.heap.size, 0, none⟩) 1 1) [x].length (nmCells [x]) :=
    ⟨by simp [nmCells], .inr ⟨w.heap.size, 1, _, rfl, hcell, Nat.le_refl _, by simp, by unfold maxLen; omega, rfl⟩⟩
  have hrl : ∃ po c, rv = .slice po (ns.drop k).length c ∧ (0 < (ns.drop k).length → ∃ ad, po = some ad ∧ ∀ j u, (nmCells (ns.drop k))[j]? = some u → w1.cell? (ad.add j) = some u) := by
    rcases hlr with ⟨e1, _, e3⟩ | ⟨g, cap, e1, hc, _, e3⟩
    · have hn : ns.length = 0 := by
        rcases h.nms.2 with ⟨_, e⟩ | ⟨g, cap, cur, e, _⟩
        · exact e
        · rw [e1] at e; cases e
      exact ⟨none, 0, by rw [e3, List.length_drop, hn]; rw [Nat.zero_sub], fun hp => by rw [List.length_drop, hn] at hp; omega⟩
    · refine ⟨_, _, by rw [e3, List.length_drop], fun hp => ?_⟩
      rw [List.length_drop] at hp
      rw [if_neg (by omega)]
      have := h1.nms
      rw [e1] at this
      exact ⟨_, rfl, n_rest this k rfl⟩
  obtain ⟨po, c, rfl, hsrc⟩ := hrl
  obtain ⟨tv, w3, hr3, ho3, hk3, hat3⟩ := n_app hone po c (ns.drop k) hsrc (by rw [List.length_drop]; simp; omega)
  have hk13 : Kp (fun _ => False) w w3 := hk1.trans (hk3.mono fun q hq e => .inr ⟨by have e2 : w.heap.size = q := by injection e
                                                                                     omega, hq⟩)
  have h3 := h.same hk13
  have hleft : w3.ownsS 103 2 lv (ns.take k).length (nmCells (ns.take k)) := by
    rcases hlr with ⟨e1, e2, _⟩ | ⟨g, cap, e1, hc, e2, _⟩
    · have hn : ns = [] := List.eq_nil_of_length_eq_zero (by
        rcases h.nms.2 with ⟨_, e⟩ | ⟨g, cap, cur, e, _⟩
        · exact e
        · rw [e1] at e; cases e)
      rw [e2, hn]
      simp [nmCells]
      exact ownsS_nil _ _ _
    · have := h3.nms
      rw [e1] at this
      have h5 := ownsS_cut this (j := k) hk
      rw [e2, ← nmCells_take, List.length_take, Nat.min_eq_left hk]
      exact h5
  obtain ⟨pt, ct, rfl, hct, _⟩ := ownsS_form ho3
  have hsrc3 : 0 < ([x] ++ ns.drop k).length → ∃ ad, pt = some ad ∧ ∀ j u, (nmCells ([x] ++ ns.drop k))[j]? = some u → w3.cell? (ad.add j) = some u := by
    intro hp
    rcases ho3.2 with ⟨e, e0⟩ | ⟨g, cap, cur, e, _⟩
    · omega
    · injection e with e
      subst e
      refine ⟨_, rfl, fun j u hj => ?_⟩
      obtain ⟨g', cap', e, _, _, hc⟩ := ownsS_get ho3 j u hj
      injection e with e
      injection e with e
      injection e with e
      rw [Go.WideShapes.add_plain, Nat.zero_add, e]
      exact hc
  obtain ⟨v', w4, hr4, ho4, hk4, hat4⟩ := n_app hleft pt ct ([x] ++ ns.drop k) hsrc3 (by rw [List.length_take, List.length_append, List.length_drop]; simp; omega)
  have hlvv : ∀ g, lv.ownBlock = some g → v.ownBlock = some g := by
    intro g' hg
    rcases hlr with ⟨e1, e2, _⟩ | ⟨g, cap, e1, hc, e2, _⟩
    · rw [e2] at hg; cases hg
    · rw [e2] at hg
      have e3 : g = g' := by injection hg
      rw [e1, ← e3]; rfl
  refine ⟨_, w3, hr3, v', w4, hr4, ?_, hk13, (hk13.mono fun _ _ e => e.elim).trans' (hk4.mono fun q _ e => hlvv q e), fun g hg => (hat4 g hg).imp (hlvv g) (fun e => by have := hk13.size; omega)⟩
  rw [hns2]
  exact ho4
end
end Go.Proofs.Ytdcmdidikengbaa
