/- A wheel's Tick. -/
import Derived.Test.YtmekhijmghddiaaWhTick2
import Derived.WalkLawsBesides
import Derived.WalkSpells
namespace Go.Proofs.Ytmekhijmghddiaa
open Go.RowKit

section
variable {F G : Nat → Prop} {w w' wr w2 w3 : World} {b mb most now0 endt now fresh k n : Nat} {ch ch2 : Nat → List Tm} {ts ts0 o c : List Tm} {v : Value}
/-- so many ticks a Tick goes on -/
def ticksOf (n : Int) : Nat := if n < 0 then 0 else if n > 1048576 then 1048576 else n.toNat
theorem ticksOf_le (n : Int) : ticksOf n ≤ 1048576 := by unfold ticksOf; split; · omega
                                                         · split <;> omega
theorem ticksOf_eq (now : Nat) (n : Int) : (now : Int) + min (max n 0) 1048576 = ((now + ticksOf n : Nat) : Int) := by
  unfold ticksOf
  split
  · omega
  · split <;> omega
/-- what the search handed back -/
def NextR (ch : Nat → List Tm) (now : Nat) (a : Int) (ok : Bool) : Prop :=
  (ok = false ∧ ∀ k, k < 5 → IsAhead ch k (now / whLg k) 0) ∨ (ok = true ∧ ∃ k n, k < 5 ∧ 1 ≤ n ∧ IsAhead ch k (now / whLg k) n ∧ (∀ k', k' < k → IsAhead ch k' (now / whLg k') 0) ∧ a = (((now / whLg k + n) * whLg k : Nat) : Int))
theorem nextR_of {e : Ending} (h : NextIs ch now w e w') : (∃ m, w' = w.drewN m) ∧ ∃ a ok, e = .returned (.tuple #[.int .i64 a, .bool ok]) ∧ NextR ch now a ok := by
  obtain ⟨h1, h2⟩ := h
  refine ⟨h1, ?_⟩
  rcases h2 with ⟨rfl, h3⟩ | ⟨k, n, h3, h4, h5, h6, rfl⟩
  · exact ⟨_, _, rfl, .inl ⟨rfl, h3⟩⟩
  · exact ⟨_, _, rfl, .inr ⟨rfl, k, n, h3, h4, h5, h6, rfl⟩⟩
def TickTo (F : Nat → Prop) (b mb most fresh : Nat) (ts0 : List Tm) (endt : Nat) (w : World) (e : Ending) (w' : World) : Prop :=
  ∃ v' o ts ch, e = .returned v' ∧ Lw w' v' (idsOf o) ∧ (∀ g, v'.ownBlock = some g → w.heap.size ≤ g) ∧ DueBy ts0 endt o ts ∧ Wh w' F b mb most endt fresh ch ts ∧ Kp (fun q => F q ∨ q = mb) w w'
/-- as far as a Tick has come -/
structure Ticking (F : Nat → Prop) (b mb most fresh : Nat) (ts0 : List Tm) (w wr : World) (endt now : Nat) (v : Value) (o ts : List Tm) (ch : Nat → List Tm) : Prop where
  wh : Wh wr F b mb most now fresh ch ts
  inv0 : ChInv 0 now ch
  due : DueBy ts0 now o ts
  row : Lw wr v (idsOf o)
  own : ∀ g, v.ownBlock = some g → w.heap.size ≤ g
  kp : Kp (fun q => F q ∨ q = mb) w wr
  le : now ≤ endt
  ltF : ∀ q, F q ∨ q = mb → q < w.heap.size
  nd : (ts0.map Tm.id).Nodup
  endB : endt ≤ 2305843009213693952
  len : ts0.length ≤ 17592186044416

theorem idsOf_len (l : List Tm) : (idsOf l).length = l.length := by simp [idsOf]
theorem idsOf_app (l m : List Tm) : idsOf (l ++ m) = idsOf l ++ idsOf m := by simp [idsOf]
theorem tick_start {e : Ending} (h : Wh w F b mb most now fresh ch ts) (hend : now ≤ endt) (hb : endt ≤ 2305843009213693952) (hl : ts.length ≤ 17592186044416) (hx : ExpTo F b mb (whv most now fresh mb) ch (now % 64) ts (.slice none 0 0) [] w e w') :
    ∃ v' o ts' ch', e = .returned v' ∧ Ticking F b mb most fresh ts w w' endt now v' o ts' ch' := by
  obtain ⟨v', he, h1, h2, h3, h4, h5⟩ := wh_expired h hx
  obtain ⟨hc, hcn, -⟩ := h.nows
  refine ⟨v', _, _, _, he, h1, h2, DueBy.start h.le _ hc hcn, by rw [List.nil_append] at h3; exact h3, fun g hg => (h4 g hg).elim (fun e => by cases e) (fun e => e), h5.mono fun q _ e => e.elim (fun e => e) (fun e => by cases e), hend, fun q hq => ?_, h.nodup, hb, hl⟩
  rcases hq with hq | rfl
  · exact h.chn.lt q hq
  · exact h.mp.lt
theorem Ticking.sep (T : Ticking F b mb most fresh ts0 w wr endt now v o ts ch) : ∀ g, v.ownBlock = some g → ¬ F g ∧ g ≠ mb := by
  intro g hg
  have h1 := T.own g hg
  exact ⟨fun e => by have := T.ltF g (.inl e); omega, fun e => by have := T.ltF mb (.inr rfl); omega⟩
theorem Ticking.fell {nxt : Nat} (T : Ticking F b mb most fresh ts0 w wr endt now v o ts ch) (hle : nxt ≤ endt) (hf : Falling F b (whv most nxt fresh mb) ch nxt 1 (wr.setCell ⟨b, 1, none⟩ (.int .i64 (nxt : Nat))) w2) :
    ∃ ch2, Wh w2 F b mb most nxt fresh ch2 ts ∧ Lw w2 v (idsOf o) ∧ Kp F wr w2 := by
  obtain ⟨ch2, h1, h2, h3, h4, h5⟩ := hf
  have hk : Kp F wr w2 := ((Kp.refl F wr).setCell ⟨b, 1, none⟩ _ (.inl T.wh.chn.inb)).trans' h2
  exact ⟨ch2, ⟨h1, T.wh.mp.kp hk T.wh.nF, T.wh.nF, fun t => (h5 t).trans (T.wh.mem t), h4, T.wh.ids, T.wh.dueB, by have := T.endB; omega, T.wh.freshB⟩, T.row.kp hk (fun g hg e => (T.sep g hg).1 e), hk⟩
theorem Ticking.room {nxt : Nat} (T : Ticking F b mb most fresh ts0 w wr endt now v o ts ch) (hlt : now < nxt) (hn : ∀ t ∈ ts, nxt ≤ t.due) (hw : Wh w2 F b mb most nxt fresh ch2 ts) : (idsOf o).length + (ch2 (nxt % 64)).length ≤ 17592186044416 := by
  obtain ⟨hc, hcn, -⟩ := hw.nows
  have h1 := (T.due.more hlt hn _ hc hcn).length T.nd
  rw [List.length_append, List.length_mergeSort] at h1
  have := T.len
  rw [idsOf_len]
  omega
theorem Ticking.more {nxt : Nat} {e : Ending} (T : Ticking F b mb most fresh ts0 w wr endt now v o ts ch) (hlt : now < nxt) (hle : nxt ≤ endt) (hn : ∀ t ∈ ts, nxt ≤ t.due) (hw : Wh w2 F b mb most nxt fresh ch2 ts) (hk : Kp F wr w2)
    (hx : ExpTo F b mb (whv most nxt fresh mb) ch2 (nxt % 64) ts v (idsOf o) w2 e w3) :
    ∃ v' o' ts' ch', e = .returned v' ∧ Ticking F b mb most fresh ts0 w w3 endt nxt v' o' ts' ch' := by
  obtain ⟨v', he, h1, h2, h3, h4, h5⟩ := wh_expired hw hx
  obtain ⟨hc, hcn, -⟩ := hw.nows
  have hz := T.kp.size
  have hz2 := hk.size
  refine ⟨v', _, _, _, he, h1, h2, T.due.more hlt hn _ hc hcn, by rw [idsOf_app]; exact h3, fun g hg => (h4 g hg).elim (T.own g) (fun e => by omega), ?_, hle, T.ltF, T.nd, T.endB, T.len⟩
  refine (T.kp.trans (hk.mono fun q _ e => .inl (.inl e))).trans (h5.mono fun q hq e => ?_)
  rcases e with e | e
  · exact .inl e
  · exact .inr ⟨T.own q e, hq⟩
theorem Ticking.exit (T : Ticking F b mb most fresh ts0 w wr endt now v o ts ch) (hn : ∀ t ∈ ts, endt < t.due) (hinv : ChInv 0 endt ch) :
    TickTo F b mb most fresh ts0 endt w (.returned v) (wr.setCell ⟨b, 1, none⟩ (.int .i64 (endt : Nat))) := by
  have hk : Kp F wr (wr.setCell ⟨b, 1, none⟩ (.int .i64 (endt : Nat))) := (Kp.refl F wr).setCell ⟨b, 1, none⟩ _ (.inl T.wh.chn.inb)
  refine ⟨v, o, ts, ch, rfl, T.row.kp hk (fun g hg e => (T.sep g hg).1 e), T.own, T.due.skip T.le hn, ⟨T.wh.chn.setHead 1 _ (by omega), T.wh.mp.kp hk T.wh.nF, T.wh.nF, T.wh.mem, fun s hs t ht => ⟨(hinv s hs t ht).1, wh_st_mono (hinv s hs t ht).2 (by omega) (by omega)⟩, T.wh.ids, T.wh.dueB, T.endB, T.wh.freshB⟩, T.kp.trans' (hk.mono fun q _ e => .inl e)⟩
theorem Ticking.exit_none (T : Ticking F b mb most fresh ts0 w wr endt now v o ts ch) (he : ∀ k, k < 5 → IsAhead ch k (now / whLg k) 0) :
    TickTo F b mb most fresh ts0 endt w (.returned v) (wr.setCell ⟨b, 1, none⟩ (.int .i64 (endt : Nat))) :=
  T.exit (fun t ht => absurd ((T.wh.mem t).2 ht) (all_empty he t)) (fun s hs t ht => absurd ⟨s, hs, ht⟩ (all_empty he t))
theorem Ticking.exit_some (T : Ticking F b mb most fresh ts0 w wr endt now v o ts ch) (hk : k < 5) (hn : 1 ≤ n) (hA : IsAhead ch k (now / whLg k) n) (hE : ∀ k', k' < k → IsAhead ch k' (now / whLg k') 0) (hlt : endt < (now / whLg k + n) * whLg k) :
    TickTo F b mb most fresh ts0 endt w (.returned v) (wr.setCell ⟨b, 1, none⟩ (.int .i64 (endt : Nat))) := by
  obtain ⟨h1, h2⟩ := next_all T.inv0 hk hn hA hE
  refine T.exit (fun t ht => ?_) (fun s hs t ht => (h2 s hs t ht).2.2.2 endt T.le hlt)
  obtain ⟨s, hs, hin⟩ := (T.wh.mem t).2 ht
  have := (h2 s hs t hin).1
  omega

set_option maxRecDepth 100000 in
set_option maxHeartbeats 4000000 in
theorem tick_any (h : Wh w F b mb most now fresh ch ts) (n : Int) (hn1 : -9223372036854775808 ≤ n) (hn2 : n ≤ 9223372036854775807) (hend : now + 1048576 ≤ 2305843009213693952) (hlen : ts.length ≤ 17592186044416) :
    Calls Try.prog 22 #[.pointer (some ⟨b, 0, none⟩), .int .i64 n] w (TickTo F b mb most fresh ts (now + ticksOf n) w) := by
  have c1 := h.chn.head (i := 1) (v := .int .i64 (now : Nat)) rfl
  have fb := h.chn.fz
  have hidb : ∀ t, ChMem ch t → t.id ≤ 4611686018427387904 := fun t ht => by have := h.ids t ((h.mem t).1 ht); have := h.freshB; omega
  have hE1 := Lib.hid (expire_any (v := .slice none 0 0) (due := []) h.chn h.mp (h.sep (fun g hg => by cases hg)) (ownsW_nil _ _ _) h.nowB (by
    obtain ⟨hc, hcn, -⟩ := h.nows
    have := (DueBy.start h.le _ hc hcn).length h.nodup
    rw [List.length_mergeSort] at this
    simp
    omega) (fun t ht => hidb t ⟨_, by omega, ht⟩))
  obtain ⟨E, hE2⟩ : ∃ E : Nat, now + ticksOf n = E := ⟨_, rfl⟩
  have hE := ticksOf_eq now n
  rw [hE2] at hE
  rw [hE2]
  have hEb : E ≤ 2305843009213693952 := by have := ticksOf_le n; omega
  have hEi : (E : Int) ≤ 2305843009213693952 := by omega
  have hEn : now ≤ E := by omega
  have HE := Lib.hid hE
  have hw := Lib.hid (And.intro h (And.intro hlen hidb))
  clear h hE hE2 hend hlen hidb
  go_enter Try.func22, Try.ntmps22
  go_wp2_with fail
  rw [HE.out]
  clear HE
  refine hE1.out.mono ?_
  rintro e w1 hx
  obtain ⟨v1, o1, ts1, ch1, rfl, T⟩ := tick_start hw.out.1 hEn hEb hw.out.2.1 hx
  have HN := Lib.hid (next_any T.wh.chn (now := now) rfl T.wh.nowB)
  have HT := Lib.hid T
  clear hx T hE1 c1 fb hn1 hn2
  go_wp2_with fail
  refine HN.out.mono ?_
  rintro e w2 hx
  obtain ⟨⟨m, hm⟩, a, ok, rfl, hr⟩ := nextR_of hx
  have HS : Hid (Ticking F b mb most fresh ts w w2 E now v1 o1 ts1 ch1 ∧ NextR ch1 now a ok) := by
    refine Lib.hid ⟨?_, hr⟩
    rw [hm]
    have hk := kp_drewN (Kp.refl (fun _ => False) w1) m
    exact ⟨HT.out.wh.same hk, HT.out.inv0, HT.out.due, HT.out.row.same hk, HT.out.own, HT.out.kp.trans' (hk.mono fun q _ e => e.elim), HT.out.le, HT.out.ltF, HT.out.nd, HT.out.endB, HT.out.len⟩
  clear hx hm hr HN HT
  go_wp2_with fail
  go_loopg [6, 7, 8] (E - now) (fun gk s6 s7 s8 wr => ∃ now' v o ts' ch' a ok, gk = E - now' ∧ s6 = v ∧ s7 = .int .i64 a ∧ s8 = .bool ok ∧ Ticking F b mb most fresh ts w wr E now' v o ts' ch' ∧ NextR ch' now' a ok)
  case atStart => exact ⟨now, v1, o1, ts1, ch1, a, ok, rfl, rfl, rfl, rfl, HS.out.1, HS.out.2⟩
  case round =>
    obtain ⟨now', v, o, ts', ch', a, ok, rfl, hv, rfl, rfl, T, hr⟩ := hrel
    obtain rfl := hv.symm
    clear HS
    have c1 := T.wh.chn.head (i := 1) (v := .int .i64 (now' : Nat)) rfl
    have fb := T.wh.chn.fz
    rcases hr with ⟨rfl, hE⟩ | ⟨rfl, k, n, hk, hn, hA, hE, rfl⟩
    · have HX := Lib.hid (T.exit_none hE)
      clear T hE
      go_wp2_with fail
      go_ret
      exact HX.out
    · obtain ⟨X, hX⟩ : ∃ X, (now' / whLg k + n) * whLg k = X := ⟨_, rfl⟩
      rw [hX]
      by_cases hle : X ≤ E
      · have hlei : (X : Int) ≤ E := by omega
        have hna := next_all T.inv0 hk hn hA hE
        rw [hX] at hna
        have hge : ∀ t ∈ ts', X ≤ t.due := fun t ht => by
          obtain ⟨s, hs, hin⟩ := (T.wh.mem t).2 ht
          exact (hna.2 s hs t hin).1
        have hX61 : X ≤ 2305843009213693952 := by have := T.endB; omega
        have HF := Lib.hid (fall_any (now := X) (T.wh.chn.setHead 1 (.int .i64 (X : Nat)) (by omega)) rfl hX61 (fun t ht => T.wh.dueB t ((T.wh.mem t).1 ht)) (fun s hs t ht => ⟨(hna.2 s hs t ht).2.1, (hna.2 s hs t ht).2.2.1⟩))
        have HT := Lib.hid (And.intro T (And.intro hna.1 hge))
        have hXb : (X : Int) ≤ 2305843009213693952 := by omega
        clear T hna hge hX hA hE
        go_wp2_with fail
        refine HF.out.mono ?_
        rintro e w3 ⟨rfl, hf⟩
        obtain ⟨ch2, hw2, ho2, hk2⟩ := HT.out.1.fell hle hf
        have HEx := Lib.hid (expire_any (v := v) (due := idsOf o) hw2.chn hw2.mp (hw2.sep HT.out.1.sep) ho2 hX61 (HT.out.1.room HT.out.2.1 HT.out.2.2 hw2) (fun t ht => by have := hw2.ids t ((hw2.mem t).1 ⟨_, by omega, ht⟩); have := hw2.freshB; omega))
        have H2 := Lib.hid (And.intro hw2 hk2)
        clear hf hw2 ho2 hk2 HF c1 fb
        go_wp2_with fail
        refine HEx.out.mono ?_
        rintro e w4 hx
        obtain ⟨v4, o4, ts4, ch4, rfl, T4⟩ := HT.out.1.more HT.out.2.1 hle HT.out.2.2 H2.out.1 H2.out.2 hx
        have HN := Lib.hid (next_any T4.wh.chn (now := X) rfl T4.wh.nowB)
        have HT4 := Lib.hid T4
        clear hx T4 HEx H2
        go_wp2_with fail
        refine HN.out.mono ?_
        rintro e w5 hx
        obtain ⟨⟨m, hm⟩, a, ok, rfl, hr⟩ := nextR_of hx
        have HS : Hid (Ticking F b mb most fresh ts w w5 E X v4 o4 ts4 ch4 ∧ NextR ch4 X a ok) := by
          refine Lib.hid ⟨?_, hr⟩
          rw [hm]
          have hk := kp_drewN (Kp.refl (fun _ => False) w4) m
          exact ⟨HT4.out.wh.same hk, HT4.out.inv0, HT4.out.due, HT4.out.row.same hk, HT4.out.own, HT4.out.kp.trans' (hk.mono fun q _ e => e.elim), HT4.out.le, HT4.out.ltF, HT4.out.nd, HT4.out.endB, HT4.out.len⟩
        have hmeas : E - X < E - now' := by have := HT.out.2.1; omega
        clear hx hm hr HN HT4
        go_wp2_with fail
        go_roundg (E - X)
        case measure => exact hmeas
        case rel => exact ⟨X, v4, o4, ts4, ch4, a, ok, rfl, rfl, rfl, rfl, HS.out.1, HS.out.2⟩
      · have hlei : ¬ (X : Int) ≤ E := by omega
        have HX := Lib.hid (T.exit_some hk hn hA hE (by omega))
        clear T hE hA hX
        go_wp2_with fail
        go_ret
        exact HX.out
end
end Go.Proofs.Ytmekhijmghddiaa
