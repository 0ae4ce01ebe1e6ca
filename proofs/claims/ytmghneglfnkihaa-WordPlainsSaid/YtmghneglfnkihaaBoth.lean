/- The program's table and the document's, side by side: the same names in both. -/
import Derived.Test.YtmghneglfnkihaaRefNum
import Derived.Test.YtmghneglfnkihaaIn
namespace Go.Proofs.Ytmghneglfnkihaa
open Go.RowKit Go.Maps

/-- what becomes of a table with the names t that is asked for s: the number c, the error l, the names t' -/
def NumIs (t : List ByteArray) (s : ByteArray) (c : Int) (l : List Lk) (t' : List ByteArray) : Prop :=
  ((s.size = 0 ∨ 255 < s.size) ∧ c = -1 ∧ l = [Lk.fault atomS s.size, Lk.kind 1] ∧ t' = t) ∨
  (1 ≤ s.size ∧ s.size ≤ 255 ∧ ((∃ i : Nat, t[i]? = some s ∧ c = i ∧ l = [] ∧ t' = t) ∨
    (s ∉ t ∧ ((t.length = 1024 ∧ c = -1 ∧ l = [Lk.fault atomS s.size, Lk.kind 2] ∧ t' = t) ∨ (t.length < 1024 ∧ c = t.length ∧ l = [] ∧ t' = t ++ [s])))))

theorem numIs_any (t : List ByteArray) (s : ByteArray) (ht : t.length ≤ 1024) : ∃ c l t', NumIs t s c l t' := by
  by_cases h : s.size = 0 ∨ 255 < s.size
  · exact ⟨_, _, _, .inl ⟨h, rfl, rfl, rfl⟩⟩
  · have h1 : 1 ≤ s.size := by omega
    have h2 : s.size ≤ 255 := by omega
    by_cases hm : s ∈ t
    · obtain ⟨i, hi, e⟩ := List.mem_iff_getElem.1 hm
      exact ⟨_, _, _, .inr ⟨h1, h2, .inl ⟨i, by rw [List.getElem?_eq_getElem hi, e], rfl, rfl, rfl⟩⟩⟩
    · by_cases hl : t.length = 1024
      · exact ⟨_, _, _, .inr ⟨h1, h2, .inr ⟨hm, .inl ⟨hl, rfl, rfl, rfl⟩⟩⟩⟩
      · exact ⟨_, _, _, .inr ⟨h1, h2, .inr ⟨hm, .inr ⟨by omega, rfl, rfl, rfl⟩⟩⟩⟩

theorem NumIs.short {t : List ByteArray} {s : ByteArray} {c : Int} {l : List Lk} {t' : List ByteArray} (h : NumIs t s c l t') : l.length ≤ 9000 ∧ -1 ≤ c ∧ (t.length ≤ 1024 → c ≤ 1024) := by
  rcases h with ⟨_, rfl, rfl, _⟩ | ⟨_, _, ⟨i, hi, rfl, rfl, _⟩ | ⟨_, ⟨_, rfl, rfl, _⟩ | ⟨_, rfl, rfl, _⟩⟩⟩
  · simp
  · have := (List.getElem?_eq_some_iff.1 hi).1
    exact ⟨by simp, by omega, fun _ => by omega⟩
  · simp
  · exact ⟨by simp, by omega, fun _ => by omega⟩

theorem AtRep.wide {w w' : World} {F : Nat → Prop} {b : Nat} {names : List ByteArray} (h : AtRep w F b names) (hk : Kp (fun _ => False) w w') : AtRep w' (Ext F w w') b names := by
  rcases h with ⟨h1, h2, h3, h4⟩ | ⟨mb, D, v, h⟩
  · refine .inl ⟨.inl h1, fun k e => ?_, h3, (hk.block b (h2 b h1) (fun e => e)).trans h4⟩
    rcases e with e | e
    · exact Nat.lt_of_lt_of_le (h2 k e) hk.size
    · exact e.2
  · refine .inr ⟨mb, D, v, (h.kp hk (fun _ _ e => e)).more (fun q e => .inl e) (fun k e => ?_)⟩
    rcases e with e | e
    · exact Nat.lt_of_lt_of_le (h.lt k e) hk.size
    · exact e.2
theorem XAtRep.wide {w w' : World} {F : Nat → Prop} {b : Nat} {names : List ByteArray} (h : XAtRep w F b names) (hk : Kp (fun _ => False) w w') : XAtRep w' (Ext F w w') b names := by
  obtain ⟨v, h⟩ := h
  have h1 := h.kp hk (fun _ _ e => e)
  refine ⟨v, .inl h1.fb, fun k e => ?_, h1.main, h1.row, fun g hg => ⟨.inl (h1.inn g hg).1, (h1.inn g hg).2⟩⟩
  rcases e with e | e
  · exact h1.lt k e
  · exact e.2

theorem number_any {w : World} {F : Nat → Prop} {b : Nat} {t : List ByteArray} (h : AtRep w F b t) (s : ByteArray) (hs : s.size ≤ maxLen) {c : Int} {l : List Lk} {t' : List ByteArray} (hN : NumIs t s c l t') :
    Calls Try.prog 29 #[.pointer (some ⟨b, 0, none⟩), .string s] w fun e w' => ∃ v, e = .returned (.tuple #[.int .i64 c, v]) ∧ ChainB w.heap.size w' v l ∧ AtRep w' (Ext F w w') b t' ∧ Kp F w w' := by
  rcases hN with ⟨hb, rfl, rfl, rfl⟩ | ⟨h1, h2, ⟨i, hi, rfl, rfl, rfl⟩ | ⟨hn, ⟨hl, rfl, rfl, rfl⟩ | ⟨hl, rfl, rfl, rfl⟩⟩⟩
  · refine (number_bad _ s w hs hb).mono ?_
    rintro e w' ⟨v, he, hc, hk⟩
    exact ⟨v, he, hc, h.wide hk, hk.mono fun _ _ e => e.elim⟩
  · refine (number_old h s h1 h2 i hi).mono ?_
    rintro e w' ⟨he, hr, hk⟩
    exact ⟨.nilIface, he, rfl, hr, hk.mono fun _ _ e => e.elim⟩
  · refine (number_full h s h1 h2 hn hl).mono ?_
    rintro e w' ⟨⟨v, he, hc⟩, hr, hk⟩
    exact ⟨v, he, hc, hr, hk.mono fun _ _ e => e.elim⟩
  · refine (number_new h s h1 h2 hn hl).mono ?_
    rintro e w' ⟨he, hr, hk⟩
    exact ⟨.nilIface, he, rfl, hr, hk⟩

theorem xnumber_any {w : World} {F : Nat → Prop} {b : Nat} {t : List ByteArray} (h : XAtRep w F b t) (hm : t.length ≤ 1024) (hnd : t.Nodup) (s : ByteArray) (hs : s.size ≤ maxLen) {c : Int} {l : List Lk} {t' : List ByteArray} (hN : NumIs t s c l t') :
    Calls Try.prog 33 #[.pointer (some ⟨b, 0, none⟩), .string s] w fun e w' => ∃ v, e = .returned (.tuple #[.int .i64 c, v]) ∧ XCh w' v l ∧ XAtRep w' (Ext F w w') b t' ∧ Kp F w w' := by
  rcases hN with ⟨hb, rfl, rfl, rfl⟩ | ⟨h1, h2, ⟨i, hi, rfl, rfl, rfl⟩ | ⟨hn, ⟨hl, rfl, rfl, rfl⟩ | ⟨hl, rfl, rfl, rfl⟩⟩⟩
  · refine (xnumber_bad _ s w hs hb).mono ?_
    rintro e w' ⟨v, he, hc, hk⟩
    exact ⟨v, he, hc, h.wide hk, hk.mono fun _ _ e => e.elim⟩
  · refine (xnumber_old h hm hnd s h1 h2 i hi).mono ?_
    rintro e w' ⟨he, rfl⟩
    exact ⟨.pointer none, he, rfl, h.wide (Kp.refl _ _), Kp.refl _ _⟩
  · refine (xnumber_full h s h1 h2 hn hl).mono ?_
    rintro e w' ⟨v, he, hc, hk⟩
    exact ⟨v, he, hc, h.wide hk, hk.mono fun _ _ e => e.elim⟩
  · refine (xnumber_new h s h1 h2 hn hl).mono ?_
    rintro e w' ⟨he, hr, hk⟩
    exact ⟨.pointer none, he, rfl, hr, hk⟩

/-- two tables, apart from one another, both new since w -/
structure PairS (w wr : World) (F G : Nat → Prop) (pa pb : Nat) (t u : List ByteArray) : Prop where
  nf : ∀ q, F q → w.heap.size ≤ q
  ng : ∀ q, G q → w.heap.size ≤ q
  lf : ∀ q, F q → q < wr.heap.size
  lg : ∀ q, G q → q < wr.heap.size
  ap : ∀ q, F q → ¬ G q
  ra : AtRep wr F pa t
  rx : XAtRep wr G pb u
  kp : Kp (fun _ => False) w wr

section
variable {w wr w' : World} {F G : Nat → Prop} {pa pb : Nat} {t u t' u' : List ByteArray}
theorem PairS.stepA (h : PairS w wr F G pa pb t u) (hr : AtRep w' (Ext F wr w') pa t') (hk : Kp F wr w') : PairS w w' (Ext F wr w') G pa pb t' u := by
  have hz := h.kp.size
  refine ⟨?_, h.ng, ?_, fun q e => Nat.lt_of_lt_of_le (h.lg q e) hk.size, ?_, hr, h.rx.kp hk (fun q e e2 => h.ap q e2 e), h.kp.trans (hk.mono fun q hq hF => .inr ⟨h.nf q hF, hq⟩)⟩
  · intro q hq
    rcases hq with hq | hq
    · exact h.nf q hq
    · omega
  · intro q hq
    rcases hq with hq | hq
    · exact Nat.lt_of_lt_of_le (h.lf q hq) hk.size
    · exact hq.2
  · intro q hq hG
    rcases hq with hq | hq
    · exact h.ap q hq hG
    · have := h.lg q hG; omega
theorem PairS.stepX (h : PairS w wr F G pa pb t u) (hr : XAtRep w' (Ext G wr w') pb u') (hk : Kp G wr w') : PairS w w' F (Ext G wr w') pa pb t u' := by
  have hz := h.kp.size
  refine ⟨h.nf, ?_, fun q e => Nat.lt_of_lt_of_le (h.lf q e) hk.size, ?_, ?_, h.ra.kp hk (fun q e e2 => h.ap q e e2), hr, h.kp.trans (hk.mono fun q hq hF => .inr ⟨h.ng q hF, hq⟩)⟩
  · intro q hq
    rcases hq with hq | hq
    · exact h.ng q hq
    · omega
  · intro q hq
    rcases hq with hq | hq
    · exact Nat.lt_of_lt_of_le (h.lg q hq) hk.size
    · exact hq.2
  · intro q hq hG
    rcases hG with hG | hG
    · exact h.ap q hq hG
    · have := h.lf q hq; omega
theorem PairS.same (h : PairS w wr F G pa pb t u) (hk : Kp (fun _ => False) wr w') : PairS w w' F G pa pb t u :=
  ⟨h.nf, h.ng, fun q e => Nat.lt_of_lt_of_le (h.lf q e) hk.size, fun q e => Nat.lt_of_lt_of_le (h.lg q e) hk.size, h.ap, h.ra.kp hk (fun _ _ e => e), h.rx.kp hk (fun _ _ e => e), h.kp.trans' hk⟩
end
def Pair (w wr : World) (pa pb : Nat) (t : List ByteArray) : Prop := ∃ F G, PairS w wr F G pa pb t t

/-- a name is put into both: the same comes of it -/
theorem numIs_next {t t' : List ByteArray} {s : ByteArray} {c : Int} {l : List Lk} (h : NumIs t s c l t') (ht : t.length ≤ 1024) : t'.length ≤ 1024 := by
  rcases h with ⟨_, _, _, rfl⟩ | ⟨_, _, ⟨i, _, _, _, rfl⟩ | ⟨_, ⟨_, _, _, rfl⟩ | ⟨hl, _, _, rfl⟩⟩⟩
  · exact ht
  · exact ht
  · exact ht
  · simp; omega

/-- one table, new since w -/
structure SoloS (w wr : World) (F : Nat → Prop) (pa : Nat) (t : List ByteArray) : Prop where
  nf : ∀ q, F q → w.heap.size ≤ q
  ra : AtRep wr F pa t
  kp : Kp (fun _ => False) w wr
theorem SoloS.step {w wr w' : World} {F : Nat → Prop} {pa : Nat} {t t' : List ByteArray} (h : SoloS w wr F pa t) (hr : AtRep w' (Ext F wr w') pa t') (hk : Kp F wr w') : SoloS w w' (Ext F wr w') pa t' := by
  have hz := h.kp.size
  refine ⟨fun q hq => ?_, hr, h.kp.trans (hk.mono fun q hq hF => .inr ⟨h.nf q hF, hq⟩)⟩
  rcases hq with hq | hq
  · exact h.nf q hq
  · omega
theorem SoloS.same {w wr w' : World} {F : Nat → Prop} {pa : Nat} {t : List ByteArray} (h : SoloS w wr F pa t) (hk : Kp (fun _ => False) wr w') : SoloS w w' F pa t :=
  ⟨h.nf, h.ra.kp hk (fun _ _ e => e), h.kp.trans' hk⟩
theorem solo_new (w : World) : SoloS w (w.alloc (.cells #[.int .u32 0, .int .i32 0, .int .u32 0, .map none, .slice none 0 0] 95)) (fun q => q = w.heap.size) w.heap.size [] :=
  ⟨fun q e => by omega, .inl ⟨rfl, fun q e => by simp; omega, rfl, heap_alloc_new w _⟩, (Kp.refl _ w).alloc _⟩

theorem kp_drewN (F : Nat → Prop) (w : World) (n : Nat) : Kp F w (w.drewN n) := ⟨rfl, rfl, rfl, Nat.le_refl _, fun _ _ _ => rfl⟩

set_option maxHeartbeats 1000000 in
set_option maxRecDepth 100000 in
/-- two new tables that were asked for the same names -/
theorem both_any {w : World} {a : Option Addr} {len cap : Nat} {f : Nat → ByteArray} (hin : StrIn w a len f) :
    Calls Try.prog 11 #[.slice a len cap] w fun e w' => ∃ pa pb t, e = .returned (.tuple #[.pointer (some ⟨pa, 0, none⟩), .pointer (some ⟨pb, 0, none⟩), .bool true]) ∧ Pair w w' pa pb t := by
  have hlen := hin.1
  go_enter Try.func11, Try.ntmps11
  go_wp2_with fail
  refine (newAtoms_any w).mono ?_
  rintro e w1 ⟨rfl, rfl⟩
  have hstart : Pair w ((w.alloc (.cells #[.int .u32 0, .int .i32 0, .int .u32 0, .map none, .slice none 0 0] 95)).alloc (.cells #[.slice none 0 0] 50)) w.heap.size (w.heap.size + 1) [] := by
    obtain ⟨wa, hwa⟩ : ∃ wa, w.alloc (.cells #[.int .u32 0, .int .i32 0, .int .u32 0, .map none, .slice none 0 0] 95) = wa := ⟨_, rfl⟩
    have hza : wa.heap.size = w.heap.size + 1 := by rw [← hwa]; simp
    have hma : wa.heap[w.heap.size]? = some (.cells (atCells 0 (.map none) (.slice none 0 0)) 95 (0, 0)) := by rw [← hwa]; exact heap_alloc_new w _
    have hka : Kp (fun _ => False) w wa := by rw [← hwa]; exact (Kp.refl _ w).alloc _
    rw [hwa]
    have hmb := heap_alloc_new wa (.cells #[.slice none 0 0] 50)
    rw [hza] at hmb
    refine ⟨fun q => q = w.heap.size, fun q => q = w.heap.size + 1, ⟨fun q e => by omega, fun q e => by omega, fun q e => by simp; omega, fun q e => by simp; omega, fun q e e2 => by omega, .inl ⟨rfl, fun q e => by simp; omega, rfl, ?_⟩, ⟨.slice none 0 0, rfl, fun q e => by simp; omega, hmb, World.ownsRow_nil _ _ _ _, fun g hg => by simp [Value.ownBlock] at hg⟩, hka.alloc _⟩⟩
    rw [Below.heap_alloc _ _ _ (by omega)]
    exact hma
  have Hs := Lib.hid hstart
  clear hstart
  go_wp2_with fail
  go_loopg [7] len (fun gk i wr => ∃ (k : Nat) (t : List ByteArray), k ≤ len ∧ gk = len - k ∧ i = .int .i64 k ∧ Pair w wr w.heap.size (w.heap.size + 1) t)
  case atStart => exact ⟨0, [], by omega, rfl, rfl, Hs.out⟩
  case round =>
    obtain ⟨k, t, hk, rfl, rfl, F, G, hP⟩ := hrel
    by_cases hlt : k < len
    · obtain ⟨bx, off, rfl, hc, hsz⟩ := hin.at' hP.kp k hlt
      obtain ⟨s, hs⟩ : ∃ s, f k = s := ⟨_, rfl⟩
      rw [hs] at hc hsz
      have Hsk := Lib.hid (And.intro hs hsz)
      clear hs hsz
      have hm := hP.ra.many
      obtain ⟨c, l, t', hN⟩ := numIs_any t s hm.1
      have hcl := hN.short
      have hc0 : -1 ≤ c := hcl.2.1
      have hc1 : c ≤ 1024 := hcl.2.2 hm.1
      have HP := Lib.hid (And.intro hP (And.intro hN (And.intro hcl hm)))
      clear hP hN hcl hm Hs
      have hli : (k : Int) < len := by omega
      go_wp2_with fail
      refine (number_any HP.out.1.ra s Hsk.out.2 HP.out.2.1).mono ?_
      rintro e w1 ⟨v1, rfl, hch1, hr1, hk1⟩
      have hP1 := HP.out.1.stepA hr1 hk1
      obtain ⟨bx2, off2, e1, hcA, _⟩ := hin.at' hP1.kp k hlt
      have hcB : w1.cell? ⟨bx, off + k, none⟩ = some (.string s) := by
        injection e1 with e1
        injection e1 with e1 e2
        subst e1
        subst e2
        rw [← Hsk.out.1]
        exact hcA
      have HP1 := Lib.hid (And.intro hP1 hch1)
      clear hP1 hch1 hr1 hk1 hcA e1 hc
      go_wp2_with fail
      refine (xnumber_any HP1.out.1.rx HP.out.2.2.2.1 HP.out.2.2.2.2.1 s Hsk.out.2 HP.out.2.1).mono ?_
      rintro e w2 ⟨v2, rfl, hch2, hr2, hk2⟩
      have hP2 := HP1.out.1.stepX hr2 hk2
      have hch3 : Chain w2 v1 l := (HP1.out.2.kp hk2 (fun q hq => HP.out.1.lg q hq)).out
      have HP2 := Lib.hid (And.intro hP2 (And.intro hch3 hch2))
      clear hP2 hch3 hch2 hr2 hk2
      go_wp2_with fail
      refine (ref_any l v1 v2 _ HP.out.2.2.1.1 HP2.out.2.1 HP2.out.2.2).mono ?_
      rintro e w3 ⟨rfl, hk3⟩
      have hP3 := HP2.out.1.same hk3
      go_wp2_with fail
      go_roundg (len - (k + 1))
      case measure => omega
      case rel => exact ⟨k + 1, t', by omega, rfl, by go_num, _, _, hP3⟩
    · obtain rfl : k = len := by omega
      obtain ⟨po, cap2, c0, _⟩ := hP.rx.names_at
      have hra := hP.ra
      have HP := Lib.hid hP
      have hm := (hP.ra.many).1
      clear hP Hs
      have hcall : ∀ n, Calls Try.prog 19 #[.pointer (some ⟨w.heap.size, 0, none⟩)] (wr.drewN n) fun e w' => e = .returned (.int .i64 t.length) ∧ w' = wr.drewN n := fun n => by
        refine (len_any (hra.kp (kp_drewN (fun _ => False) wr n) (fun _ _ e => e))).mono ?_
        rintro e w' ⟨h1, rfl⟩
        exact ⟨h1, rfl⟩
      have Hcall := Lib.hid hcall
      clear hcall hra
      go_wp2_with fail
      go_quiet ((go_at_call 19; exact Calls.quiet_of_same (Hcall.out _)))
      go_wp2_with fail
      go_ret3
      exact ⟨_, _, t, rfl, F, G, HP.out.same (kp_drewN _ wr _)⟩
end Go.Proofs.Ytmghneglfnkihaa
