/- A table beside two rows of numbers: those that were given, those that live. -/
import Derived.Test.YtdcmdidikengbaaTbUse
import Derived.Test.YtdcmdidikengbaaWhRow
namespace Go.Proofs.Ytdcmdidikengbaa
open Go.RowKit
set_option linter.unusedVariables false

theorem livesOf_app (a c : List Sg) : livesOf (a ++ c) = livesOf a ++ livesOf c := by simp [livesOf]
theorem split_at {sl : List Sg} {k : Nat} {s : Sg} (hs : sl[k]? = some s) : sl = sl.take k ++ s :: sl.drop (k + 1) := by
  obtain ⟨hlt, e⟩ := List.getElem?_eq_some_iff.1 hs
  have h2 := List.drop_eq_getElem_cons hlt
  rw [e] at h2
  rw [← h2, List.take_append_drop]
theorem set_split {sl : List Sg} {k : Nat} {s x : Sg} (hs : sl[k]? = some s) : sl.set k x = sl.take k ++ x :: sl.drop (k + 1) := by
  obtain ⟨hlt, e⟩ := List.getElem?_eq_some_iff.1 hs
  rw [List.set_eq_take_append_cons_drop, if_pos hlt]
theorem livesOf_add (sl : List Sg) : (livesOf (addTo sl)).Perm (livesOf sl ++ [(addPid sl : Int)]) := by
  unfold addTo addPid
  cases hs : sl[freeAt sl]? with
  | none => simp only []; rw [livesOf_app]; exact List.Perm.refl _
  | some s =>
    simp only []
    have ho := freeAt_off hs
    rw [set_split hs, livesOf_app]
    conv => rhs; rw [split_at hs, livesOf_app]
    have e1 : livesOf (s :: sl.drop (freeAt sl + 1)) = livesOf (sl.drop (freeAt sl + 1)) := by unfold livesOf; rw [List.filter_cons_of_neg (by simp [ho])]
    have e2 : livesOf (⟨s.pid + 64, true⟩ :: sl.drop (freeAt sl + 1)) = ((s.pid + 64 : Nat) : Int) :: livesOf (sl.drop (freeAt sl + 1)) := by unfold livesOf; rw [List.filter_cons_of_pos (by rfl)]; rfl
    rw [e1, e2, List.append_assoc]
    refine List.Perm.append_left _ ?_
    exact (List.perm_append_singleton _ _).symm
theorem livesOf_mem {sl : List Sg} {B : Nat} (h : SlOk B sl) {x : Int} : x ∈ livesOf sl ↔ kindAt sl x = 0 := by
  rw [kindAt_live]
  unfold livesOf
  rw [List.mem_map]
  constructor
  · rintro ⟨s, hs, rfl⟩
    obtain ⟨hs1, hs2⟩ := List.mem_filter.1 hs
    obtain ⟨k, hk, e⟩ := List.getElem_of_mem hs1
    have h1 := List.getElem?_eq_getElem hk
    rw [e] at h1
    have := h.at_ k s h1
    refine ⟨s, by omega, ?_, rfl, hs2⟩
    rw [slotAt_nat, Int.toNat_natCast, this]
    exact h1
  · rintro ⟨s, h0, hs, rfl, ho⟩
    exact ⟨s, List.mem_filter.2 ⟨List.mem_of_getElem? hs, ho⟩, rfl⟩
theorem livesOf_nodup {sl : List Sg} {B : Nat} (h : SlOk B sl) : (livesOf sl).Nodup := by
  unfold livesOf
  refine List.pairwise_map.2 (List.Pairwise.filter _ ?_)
  rw [List.pairwise_iff_getElem]
  intro i j hi hj hij e
  have h1 := h.at_ i _ (List.getElem?_eq_getElem hi)
  have h2 := h.at_ j _ (List.getElem?_eq_getElem hj)
  omega
theorem livesOf_drop {sl : List Sg} {B p : Nat} (h : SlOk B sl) (hp : kindAt sl (p : Nat) = 0) : (livesOf (dropAt sl (p % 64))).Perm ((livesOf sl).erase (p : Int)) := by
  have hd := dropAt_ok h (p % 64)
  refine (List.perm_ext_iff_of_nodup (livesOf_nodup hd) ((livesOf_nodup h).erase _)).2 fun x => ?_
  rw [livesOf_mem hd, (livesOf_nodup h).mem_erase_iff, livesOf_mem h]
  constructor
  · intro hx
    obtain ⟨s, h0, hs, he, ho⟩ := kindAt_live.1 hx
    obtain ⟨sp, _, hsp, hep, hop⟩ := kindAt_live.1 hp
    rw [slotAt_nat, Int.toNat_natCast] at hsp
    by_cases e : (slotAt x).toNat = p % 64
    · unfold dropAt at hs
      rw [hsp] at hs
      simp only [] at hs
      rw [e, List.getElem?_set_self (List.getElem?_eq_some_iff.1 hsp).1] at hs
      obtain rfl := Option.some.inj hs
      cases ho
    · unfold dropAt at hs
      rw [hsp] at hs
      simp only [] at hs
      rw [List.getElem?_set_ne (fun e2 => e e2.symm)] at hs
      refine ⟨fun e2 => e ?_, kindAt_live.2 ⟨s, h0, hs, he, ho⟩⟩
      rw [e2, slotAt_nat, Int.toNat_natCast]
  · rintro ⟨hne, hx⟩
    exact dropAt_live hp hx hne
theorem livesOf_full {sl : List Sg} {n : Nat} (hfit : sl.length ≤ n) : (livesOf sl).length < n ↔ freeAt sl < n := by
  constructor
  · intro h
    rcases Nat.lt_or_ge (freeAt sl) n with h1 | h1
    · exact h1
    · exfalso
      have h2 := freeAt_le sl
      have hall : ∀ s ∈ sl, s.on = true := by
        intro s hs
        obtain ⟨k, hk, e⟩ := List.getElem_of_mem hs
        exact freeAt_before (sl := sl) (k := k) (by omega) (by rw [List.getElem?_eq_getElem hk, e])
      have : (livesOf sl).length = sl.length := by unfold livesOf; rw [List.length_map, List.filter_eq_self.2 hall]
      omega
  · intro h
    rcases Nat.lt_or_ge (freeAt sl) sl.length with h1 | h1
    · have ho := freeAt_off (List.getElem?_eq_getElem h1)
      have h2 : (livesOf sl).length < sl.length := by
        unfold livesOf
        rw [List.length_map]
        refine Nat.lt_of_le_of_ne (List.length_filter_le _ _) fun e => ?_
        have := List.length_filter_eq_length_iff.1 e _ (List.getElem_mem h1)
        rw [ho] at this
        cases this
      omega
    · have := livesOf_len sl
      omega

theorem eraseIdx_perm {α : Type} : ∀ (l : List α) (i : Nat) (x : α), l[i]? = some x → (x :: l.eraseIdx i).Perm l
  | [], i, x, h => by simp at h
  | a :: l, 0, x, h => by
    obtain rfl : a = x := by simpa using h
    exact List.Perm.refl _
  | a :: l, i + 1, x, h => by
    have ih := eraseIdx_perm l i x (by simpa using h)
    exact (List.Perm.swap a x _).trans (List.Perm.cons a ih)
/-- those that were given, and those of them that live -/
structure NevInv (B : Nat) (sl : List Sg) (given live : List Int) : Prop where
  ok : SlOk B sl
  perm : live.Perm (livesOf sl)
  giv : ∀ g ∈ given, ∃ s, 0 ≤ g ∧ sl[(slotAt g).toNat]? = some s ∧ g ≤ s.pid
section
variable {B n : Nat} {sl : List Sg} {given live : List Int}
theorem NevInv.kind (h : NevInv B sl given live) {x : Int} (hx : x ∈ live) : kindAt sl x = 0 := (livesOf_mem h.ok).1 (h.perm.mem_iff.1 hx)
theorem NevInv.len (h : NevInv B sl given live) : live.length = (livesOf sl).length := h.perm.length_eq
theorem NevInv.fresh (h : NevInv B sl given live) (hf : freeAt sl < 64) : ∀ g ∈ given, g ≠ (addPid sl : Int) := by
  intro g hg e
  obtain ⟨s, h0, hs, hle⟩ := h.giv g hg
  subst e
  rw [slotAt_nat, Int.toNat_natCast] at hs
  unfold addPid at hs hle
  cases hx : sl[freeAt sl]? with
  | some x =>
    rw [hx] at hs hle
    simp only [] at hs hle
    have h1 := h.ok.at_ _ x hx
    have h2 : (x.pid + 64) % 64 = freeAt sl := by omega
    rw [h2, hx] at hs
    obtain rfl := Option.some.inj hs
    omega
  | none =>
    rw [hx] at hs hle
    simp only [] at hs hle
    have h1 := List.getElem?_eq_none_iff.1 hx
    have h2 := freeAt_le sl
    have h3 := (List.getElem?_eq_some_iff.1 hs).1
    omega
theorem NevInv.add (h : NevInv B sl given live) (hf : freeAt sl < 64) : NevInv (B + 64) (addTo sl) (given ++ [(addPid sl : Int)]) (live ++ [(addPid sl : Int)]) := by
  have hok := addTo_ok h.ok hf
  have hp : (live ++ [(addPid sl : Int)]).Perm (livesOf (addTo sl)) := ((List.Perm.append_right _ h.perm)).trans (livesOf_add sl).symm
  refine ⟨hok, hp, fun g hg => ?_⟩
  rcases List.mem_append.1 hg with hg | hg
  · obtain ⟨s, h0, hs, hle⟩ := h.giv g hg
    unfold addTo
    cases hx : sl[freeAt sl]? with
    | some x =>
      simp only []
      by_cases e : freeAt sl = (slotAt g).toNat
      · rw [← e] at hs
        rw [hx] at hs
        obtain rfl := Option.some.inj hs
        refine ⟨_, h0, by rw [e, List.getElem?_set_self (by rw [← e]; exact (List.getElem?_eq_some_iff.1 hx).1)], ?_⟩
        show g ≤ ((x.pid + 64 : Nat) : Int)
        omega
      · exact ⟨s, h0, by rw [List.getElem?_set_ne e]; exact hs, hle⟩
    | none =>
      simp only []
      exact ⟨s, h0, by rw [List.getElem?_append_left (List.getElem?_eq_some_iff.1 hs).1]; exact hs, hle⟩
  · obtain rfl : g = (addPid sl : Int) := by simpa using hg
    have := (livesOf_mem hok).1 ((hp.mem_iff).1 (List.mem_append_right _ (List.mem_singleton.2 rfl)))
    obtain ⟨s, h0, hs, he, -⟩ := kindAt_live.1 this
    exact ⟨s, h0, hs, by omega⟩
theorem NevInv.drop (h : NevInv B sl given live) {j p : Nat} (hj : live[j]? = some (p : Int)) : NevInv B (dropAt sl (p % 64)) given (live.eraseIdx j) := by
  have hk := h.kind (List.mem_of_getElem? hj)
  have hnd : live.Nodup := h.perm.nodup_iff.2 (livesOf_nodup h.ok)
  have hj' := List.getElem?_eq_some_iff.1 hj
  refine ⟨dropAt_ok h.ok _, ?_, fun g hg => ?_⟩
  · refine List.Perm.trans ?_ ((List.Perm.erase _ h.perm).trans (livesOf_drop h.ok hk).symm)
    exact List.Perm.cons_inv ((eraseIdx_perm live j _ hj).trans (List.perm_cons_erase (List.mem_of_getElem? hj)))
  · obtain ⟨s, h0, hs, hle⟩ := h.giv g hg
    unfold dropAt
    cases hx : sl[p % 64]? with
    | none => exact ⟨s, h0, hs, hle⟩
    | some x =>
      simp only []
      by_cases e : p % 64 = (slotAt g).toNat
      · rw [← e, hx] at hs
        obtain rfl := Option.some.inj hs
        exact ⟨⟨x.pid, false⟩, h0, by rw [← e, List.getElem?_set_self (List.getElem?_eq_some_iff.1 hx).1], hle⟩
      · exact ⟨s, h0, by rw [List.getElem?_set_ne e]; exact hs, hle⟩
theorem NevInv.nat (h : NevInv B sl given live) {j : Nat} {x : Int} (hj : live[j]? = some x) : ∃ p : Nat, x = p := by
  obtain ⟨s, h0, -⟩ := kindAt_live.1 (h.kind (List.mem_of_getElem? hj))
  exact ⟨x.toNat, by omega⟩
end
section
variable {w w' : World} {l : List Int} {v : Value}
theorem longs_cut {g cap : Nat} (h : Lw w (.slice (some ⟨g, 0, none⟩) l.length cap) l) (hl : l.length ≤ 17592186044416) (j : Nat) (hj : j < l.length) :
    ∃ v' w', (Builtin.append_ #[50, 50] 50 #[.slice (some ⟨g, 0, none⟩) j j, .slice (if cap = j + 1 then some ⟨g, 0, none⟩ else some ⟨g, j + 1, none⟩) (l.length - (j + 1)) (cap - (j + 1))]).run Try.prog w = .ok v' w' ∧
      Lw w' v' (l.eraseIdx j) ∧ Kp (fun _ => False) w w' ∧ ∀ q, v'.ownBlock = some q → q = g ∨ w.heap.size ≤ q := by
  obtain ⟨i0, hi, hz0, hz1, hz2⟩ := info_parts Try.infoLong
  have hcap : l.length ≤ cap := by
    obtain ⟨g', cap', e, h1, _⟩ := h.get (j := j) (List.getElem?_eq_getElem hj)
    injection e with _ _ e
    omega
  obtain ⟨g', cap', w', h1, h2, h3, h4⟩ := run_append_cut (P := Try.prog) w 50 50 0 2 i0 (.int .i64 0) 8 Try.underlying50 hi hz0 hz1 hz2 rfl g l.length cap (lv l) h j hj (if cap = j + 1 then some ⟨g, 0, none⟩ else some ⟨g, j + 1, none⟩) (cap - (j + 1))
    (fun hh => by rw [if_neg (by omega)]) (by unfold maxLen; omega) (by omega) (Nat.zero_le _)
  refine ⟨_, w', h1, ?_, (Kp.refl _ w).grown h3 (fun q hq => by cases hq), fun q hq => ?_⟩
  · unfold Lw
    rw [List.length_eraseIdx_of_lt hj, show lv (l.eraseIdx j) = (lv l).eraseIdx j from by simp [lv, List.eraseIdx_eq_take_drop_succ]]
    exact h2
  · have e : g' = q := by injection hq
    subst e
    exact h4.imp (fun e => e) (fun e => by omega)
end

/-- a table and two rows: those that were given, those that live -/
structure Nev (w0 w : World) (b n B : Nat) (gv lvv : Value) (sl : List Sg) (given live : List Int) : Prop where
  ts : TS w0 (fun q => gv.ownBlock = some q ∨ lvv.ownBlock = some q) w b n B sl []
  gr : Lw w gv given
  lr : Lw w lvv live
  newg : ∀ q, gv.ownBlock = some q → w0.heap.size ≤ q
  newl : ∀ q, lvv.ownBlock = some q → w0.heap.size ≤ q
  ne : ∀ q, gv.ownBlock = some q → lvv.ownBlock ≠ some q
  inv : NevInv B sl given live
section
variable {w0 w w' : World} {b n B : Nat} {gv lvv : Value} {sl : List Sg} {given live : List Int}
theorem Nev.same (h : Nev w0 w b n B gv lvv sl given live) (hk : Kp (fun _ => False) w w') : Nev w0 w' b n B gv lvv sl given live :=
  ⟨h.ts.same hk, h.gr.same hk, h.lr.same hk, h.newg, h.newl, h.ne, h.inv⟩
theorem Nev.start {w0 w : World} {b n : Nat} (h : TS w0 noC w b n 0 [] []) : Nev w0 w b n 0 (.slice none 0 0) (.slice none 0 0) [] [] [] :=
  ⟨h.put (Kp.refl _ _) (fun q hq => by rcases hq with hq | hq <;> cases hq), Lw.nil _, Lw.nil _, fun q hq => (by cases hq), fun q hq => (by cases hq), fun q hq => (by cases hq), ⟨h.ok, List.Perm.refl _, fun g hg => by simp at hg⟩⟩
/-- what Add makes of it; the rows are still to be turned -/
theorem nev_add (h : Nev w0 w b n B gv lvv sl given live) (hn : n ≤ 64) (hf : freeAt sl < n) (hB : B + 64 ≤ 2305843009213693952) :
    Calls Try.prog 11 #[.pointer (some ⟨b, 0, none⟩)] w (fun e w' => e = .returned (.tuple #[.int .i64 (addPid sl : Nat), .nilIface]) ∧ (TS w0 (fun q => gv.ownBlock = some q ∨ lvv.ownBlock = some q) w' b n (B + 64) (addTo sl) [] ∧ Lw w' gv given ∧ Lw w' lvv live)) := by
  refine (ts_add h.ts hf hB).mono ?_
  rintro e w' ⟨rfl, h1, hk⟩
  exact ⟨rfl, h1, h.gr.kp hk (fun q hq e => e (.inl hq)), h.lr.kp hk (fun q hq e => e (.inr hq))⟩
/-- both rows are pushed -/
theorem nev_push (h : Nev w0 w b n B gv lvv sl given live) (hn : n ≤ 64) (hf : freeAt sl < n) {w1 : World} (h1 : TS w0 (fun q => gv.ownBlock = some q ∨ lvv.ownBlock = some q) w1 b n (B + 64) (addTo sl) []) (h2 : Lw w1 gv given) (h3 : Lw w1 lvv live) (hl : given.length ≤ 4096) :
    ∃ gv' w2, (Builtin.append_ #[50, 50] 50 #[gv, .slice (some ⟨w1.heap.size, 0, none⟩) 1 1]).run Try.prog (w1.alloc (.cells #[.int .i64 (addPid sl : Nat)] 2)) = .ok gv' w2 ∧
      ∃ lvv' w3, (Builtin.append_ #[50, 50] 50 #[lvv, .slice (some ⟨w2.heap.size, 0, none⟩) 1 1]).run Try.prog (w2.alloc (.cells #[.int .i64 (addPid sl : Nat)] 2)) = .ok lvv' w3 ∧
        Nev w0 w3 b n (B + 64) gv' lvv' (addTo sl) (given ++ [(addPid sl : Int)]) (live ++ [(addPid sl : Int)]) := by
  have hll : live.length ≤ 64 := by
    rw [h.inv.len]
    have := livesOf_len sl
    have := h.ts.fit
    omega
  have hz0 := h1.kp0.size
  obtain ⟨g, cap, w2, hr2, ho2, hk2, hg2, hl2⟩ := longs_push h2 (by omega) (addPid sl : Nat)
  have hz2 := hk2.size
  have h3' := h3.kp hk2 (fun q hq e => h.ne q e hq)
  obtain ⟨g3, cap3, w3, hr3, ho3, hk3, hg3, hl3⟩ := longs_push h3' (by omega) (addPid sl : Nat)
  have hz3 := hk3.size
  refine ⟨_, w2, hr2, _, w3, hr3, ?_⟩
  have a2 : TS w0 (fun q => (Value.slice (some ⟨g, 0, none⟩) (given.length + 1) cap).ownBlock = some q ∨ lvv.ownBlock = some q) w2 b n (B + 64) (addTo sl) [] := by
    refine h1.turn hk2 (fun q hq => ⟨.inl hq, h.newg q hq⟩) (fun q hq => ?_)
    rcases hq with hq | hq
    · have e : g = q := by injection hq
      subst e
      rcases hg2 with e | e
      · exact .inl (.inl e)
      · exact .inr ⟨e, hl2⟩
    · exact .inl (.inr hq)
  have gnew : w0.heap.size ≤ g := by
    rcases hg2 with e | e
    · exact h.newg g e
    · omega
  have gne : lvv.ownBlock ≠ some g := by
    rcases hg2 with e | e
    · exact h.ne g e
    · intro e2
      have := h3.lt g e2
      omega
  have g3new : w0.heap.size ≤ g3 := by
    rcases hg3 with e | e
    · exact h.newl g3 e
    · omega
  have hne3 : g ≠ g3 := by
    rcases hg3 with e | e
    · intro e2; rw [e2] at gne; exact gne e
    · omega
  refine ⟨a2.turn hk3 (fun q hq => ⟨.inr hq, h.newl q hq⟩) (fun q hq => ?_), ?_, ho3, fun q hq => ?_, fun q hq => ?_, fun q hq e => ?_, h.inv.add (by omega)⟩
  · rcases hq with hq | hq
    · exact .inl (.inl hq)
    · have e : g3 = q := by injection hq
      subst e
      rcases hg3 with e | e
      · exact .inl (.inr e)
      · exact .inr ⟨e, hl3⟩
  · exact ho2.kp hk3 (fun q hq e => by
      have e2 : g = q := by injection hq
      subst e2
      exact gne e)
  · have e : g = q := by injection hq
    omega
  · have e : g3 = q := by injection hq
    omega
  · have e1 : g = q := by injection hq
    have e2 : g3 = q := by injection e
    omega
theorem nev_drop (h : Nev w0 w b n B gv lvv sl given live) {j p : Nat} (hj : live[j]? = some (p : Int)) :
    Calls Try.prog 14 #[.pointer (some ⟨b, 0, none⟩), .int .i64 (p : Nat)] w (fun e w' => ∃ u, e = .returned (.tuple #[u, .nilIface]) ∧
      (TS w0 (fun q => gv.ownBlock = some q ∨ lvv.ownBlock = some q) w' b n B (dropAt sl (p % 64)) [] ∧ Lw w' gv given ∧ Lw w' lvv live ∧ kindAt (dropAt sl (p % 64)) (p : Nat) ≠ 0)) := by
  have hk := h.inv.kind (List.mem_of_getElem? hj)
  refine (ts_drop h.ts p hk).mono ?_
  rintro e w' ⟨u, rfl, -, -, h1, hkp⟩
  refine ⟨u, rfl, h1, h.gr.kp hkp (fun q hq e => e (.inl hq)), h.lr.kp hkp (fun q hq e => e (.inr hq)), fun e => ?_⟩
  have h2 := (livesOf_mem (dropAt_ok h.inv.ok _)).2 e
  rw [(livesOf_drop h.inv.ok hk).mem_iff, (livesOf_nodup h.inv.ok).mem_erase_iff] at h2
  exact h2.1 rfl
theorem nev_cut (h : Nev w0 w b n B gv lvv sl given live) {j p g cap : Nat} (hj : live[j]? = some (p : Int)) (hlv : lvv = .slice (some ⟨g, 0, none⟩) live.length cap) (hn : n ≤ 64) {w1 : World}
    (h1 : TS w0 (fun q => gv.ownBlock = some q ∨ lvv.ownBlock = some q) w1 b n B (dropAt sl (p % 64)) []) (h2 : Lw w1 gv given) (h3 : Lw w1 lvv live) :
    ∃ lvv' w2, (Builtin.append_ #[50, 50] 50 #[.slice (some ⟨g, 0, none⟩) j j, .slice (if cap = j + 1 then some ⟨g, 0, none⟩ else some ⟨g, j + 1, none⟩) (live.length - (j + 1)) (cap - (j + 1))]).run Try.prog w1 = .ok lvv' w2 ∧
      Nev w0 w2 b n B gv lvv' (dropAt sl (p % 64)) given (live.eraseIdx j) := by
  have hll : live.length ≤ 64 := by
    rw [h.inv.len]
    have := livesOf_len sl
    have := h.ts.fit
    omega
  have hlt := (List.getElem?_eq_some_iff.1 hj).1
  subst hlv
  obtain ⟨v', w2, hr, ho, hk, hq⟩ := longs_cut h3 (by omega) j hlt
  have hz0 := h1.kp0.size
  refine ⟨v', w2, hr, h1.put hk (fun q hq2 => ?_), h2.same hk, ho, h.newg, fun q hq2 => ?_, fun q hq2 e => ?_, h.inv.drop hj⟩
  · rcases hq2 with hq2 | hq2
    · exact .inl (.inl hq2)
    · rcases hq q hq2 with e | e
      · exact .inl (.inr (by rw [e]; rfl))
      · exact .inr ⟨e, ho.lt q hq2⟩
  · rcases hq q hq2 with e | e
    · exact h.newl q (by rw [e]; rfl)
    · omega
  · rcases hq q e with e2 | e2
    · exact h.ne q hq2 (by rw [e2]; rfl)
    · have := h2.lt q hq2; omega
end
end Go.Proofs.Ytdcmdidikengbaa
