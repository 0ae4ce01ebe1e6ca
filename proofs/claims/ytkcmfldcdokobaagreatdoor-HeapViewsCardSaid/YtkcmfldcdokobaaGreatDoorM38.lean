/- Store: whole, tellNames, and all of it. Store of any term. -/
import Derived.Test.YtkcmfldcdokobaaGreatDoorM37
/- Store: whole, tellNames, and all of it. -/
namespace Go.Proofs.YtkcmfldcdokobaaGreatDoor
open Go.RowKit Go.Maps

/-- v is a Fault of this name and number, of no colour -/
def FErr (col : Nat → Nat) (w : World) (op : ByteArray) (n : Int) (v : Value) : Prop :=
  ∃ g inner, v = .iface 95 (.pointer (some ⟨g, 0, none⟩)) ∧ w.heap[g]? = some (.cells #[.string op, .int .i64 n, inner] 181 (0, 0)) ∧ col g = 0
theorem ChainB.err {B : Nat} {w : World} {v : Value} {op : ByteArray} {n : Int} {r : List Lk} (h : ChainB B w v (Lk.fault op n :: r)) {col : Nat → Nat} (hc : ∀ q, B ≤ q → col q = 0) : FErr col w op n v := by
  rcases h with ⟨_, _, _, _, hbad⟩ | ⟨_, g, inner, hg, rfl, hh, _⟩
  · exact absurd rfl hbad
  · exact ⟨g, inner, rfl, hh, hc g hg⟩

section
variable {w0 w : World} {col : Nat → Nat} {lb hb ab tb bb least N mb : Nat} {sv : Value} {sl : List (Int × Bool)} {names : List ByteArray} {S : St}
set_option maxRecDepth 100000 in
set_option maxHeartbeats 1000000 in
theorem whole_any {F : Nat → Prop} {h : Nat} {T : Tm} {cs : List Value} (hT : TermAt F w h T cs) (hL : LAt w0 w col lb hb ab tb bb sv least sl names N mb S) (hF : ∀ q, F q → q < w.heap.size → col q = 0) (hN : N ≤ 90000000000000) (hN1 : 1 ≤ N) (hK : S.K = 0) :
    Calls Tryz.prog 46 #[.pointer (some ⟨lb, 0, none⟩), .agg cs.toArray] w fun e w' =>
      ((tok 200 T ∧ tsz h T ≤ 65536) ∧ LEnds w0 w col lb hb ab tb bb sv least sl names N mb S (Lays names h S T) 200000 (fun i => pot S i + cost h T i) e w') ∨
      (¬ (tok 200 T ∧ tsz h T ≤ 65536) ∧ ∃ col' v n, e = .returned (.tuple #[.int .u64 0, v]) ∧ FErr col' w' termS n v ∧ LAt w0 w' col' lb hb ab tb bb sv least sl names N mb S ∧ Go0 col w col' w') := by
  obtain ⟨k, n, s, a, l, c, a2, l2, d, a3, l3, e, rfl⟩ := hT.form
  obtain ⟨w1, hw1⟩ : ∃ w1, w.alloc (.cells #[.int .i64 k, .int .i64 n, .string s, .slice a l c, .slice a2 l2 d, .slice a3 l3 e] 41) = w1 := ⟨_, rfl⟩
  have hk1 : Kp (fun _ => False) w w1 := by rw [← hw1]; exact (Kp.refl _ w).alloc _
  have hr1 : w1.heap[w.heap.size]? = some (.cells #[.int .i64 k, .int .i64 n, .string s, .slice a l c, .slice a2 l2 d, .slice a3 l3 e] 41 (0, 0)) := by rw [← hw1]; exact heap_alloc_new w _
  have hlow := hT.low.kp hk1 (fun _ _ e => e)
  have b0 : w1.cell? ⟨w.heap.size, 0, none⟩ = some (.int .i64 k) := cell_of hr1 0
  have b1 : w1.cell? ⟨w.heap.size, 1, none⟩ = some (.int .i64 n) := cell_of hr1 1
  have b2 : w1.cell? ⟨w.heap.size, 2, none⟩ = some (.string s) := cell_of hr1 2
  have b3 : w1.cell? ⟨w.heap.size, 3, none⟩ = some (.slice a l c) := cell_of hr1 3
  have b4 : w1.cell? ⟨w.heap.size, 4, none⟩ = some (.slice a2 l2 d) := cell_of hr1 4
  have b5 : w1.cell? ⟨w.heap.size, 5, none⟩ = some (.slice a3 l3 e) := cell_of hr1 5
  have H := Lib.hid (And.intro hL (And.intro hF (And.intro hk1 (And.intro hr1 hlow))))
  clear hT hL hF hk1 hr1 hlow
  go_enter Tryz.func46, Tryz.ntmps46
  go_wp2_with fail
  refine (tright_deep H.out.2.2.2.2).mono ?_
  rintro e w2 ⟨⟨rfl, hok, hsz⟩ | ⟨⟨v, nn, kk, rfl, hch⟩, hno⟩, hk2⟩
  · obtain ⟨hL, hF, hk1, hr1, hlow⟩ := H.out
    have hk12 := hk1.trans' hk2
    have hr2 := (hk2.block _ (Array.getElem?_eq_some_iff.1 hr1).1 (fun e => e)).trans hr1
    have d0 : w2.cell? ⟨w.heap.size, 0, none⟩ = some (.int .i64 k) := cell_of hr2 0
    have d1 : w2.cell? ⟨w.heap.size, 1, none⟩ = some (.int .i64 n) := cell_of hr2 1
    have d2 : w2.cell? ⟨w.heap.size, 2, none⟩ = some (.string s) := cell_of hr2 2
    have d3 : w2.cell? ⟨w.heap.size, 3, none⟩ = some (.slice a l c) := cell_of hr2 3
    have d4 : w2.cell? ⟨w.heap.size, 4, none⟩ = some (.slice a2 l2 d) := cell_of hr2 4
    have d5 : w2.cell? ⟨w.heap.size, 5, none⟩ = some (.slice a3 l3 e) := cell_of hr2 5
    have hg := Go0.same (col := col) hk12
    have hcall := term_all (w0 := w0) (lb := lb) (hb := hb) (ab := ab) (tb := tb) (bb := bb) (least := least) (sv := sv) (sl := sl) (names := names) (mb := mb) hN hN1 h (fun q => F q ∧ q < w.heap.size) T w2 _ _ S (hlow.kp hk2 (fun _ _ e => e)) (hL.same hk12) (fun q hq _ => (hg.old q hq.2).trans (hF q hq.1 hq.2)) hok hsz (by omega)
    have HC := Lib.hid (And.intro hcall (And.intro hg (And.intro hok hsz)))
    clear hL hF hk1 hr1 hlow hk12 hr2 hg hcall hok hsz hk2
    go_wp2_with (go_at_call 84; refine HC.out.1.mono ?_; intro e4 w4 hE; obtain ⟨S4, col4, m1, m2, m3, m4, ⟨x4, rfl, m5, m6, m7, mV⟩ | ⟨v, op, nn, rfl, m5, mS⟩⟩ := id hE <;> refine Hid.out ?_)
    · refine Lib.hid ?_
      have HE := Lib.hid hE
      clear hE m1 m2 m3 m4 m7 mV
      go_wp2_with fail
      go_ret2
      exact .inl ⟨HC.out.2.2, HE.out.from .none HC.out.2.1 (by have := HC.out.2.2.2; omega) (fun _ _ h => h) (fun _ => Nat.le_refl _)⟩
    · refine Lib.hid ?_
      obtain ⟨g, rfl, _, _⟩ := m5
      have HE := Lib.hid hE
      clear hE m1 m2 m3 m4 mS
      go_wp2_with fail
      go_ret2
      exact .inl ⟨HC.out.2.2, HE.out.from .none HC.out.2.1 (by have := HC.out.2.2.2; omega) (fun _ _ h => h) (fun _ => Nat.le_refl _)⟩
  · obtain ⟨hL, hF, hk1, hr1, hlow⟩ := H.out
    have hk12 := hk1.trans' hk2
    have hfe := hch.err (col := recol col w 0) (fun q hq => recol_new q (by have := hk1.size; omega))
    obtain ⟨g, inner, rfl, hh, h0⟩ := id hfe
    have HK := Lib.hid (And.intro hk12 (And.intro hfe (And.intro hno hL)))
    clear hL hF hk1 hr1 hlow hk12 hfe hh h0 hno hch hk2
    go_wp2_with fail
    go_ret2
    exact .inr ⟨HK.out.2.2.1, _, _, nn, rfl, HK.out.2.1, HK.out.2.2.2.same HK.out.1, Go0.same HK.out.1⟩

/-- the names that were noted are told -/
theorem ltell_any {tv fv : Value} {tks : List Int} {nn : Nat} {D : DataW Unit} {fresh : List ByteArray} {A : Ar} {a : Bn} (h : Hs w0 w col hb ab tb bb sv least sl A names N a) (hL : LOwn (Fi col w 5) w lb hb tv tks mb nn D fv fresh)
    (hnd : (names ++ fresh).Nodup) (hlen : (names ++ fresh).length ≤ 1024) (hs1 : ∀ s ∈ fresh, 1 ≤ s.size) (hs2 : ∀ s ∈ fresh, s.size ≤ 255) :
    Calls Tryz.prog 50 #[.pointer (some ⟨lb, 0, none⟩)] w fun e w' => e = .returned (.tuple #[]) ∧ ∃ col', ((∀ q, q < w.heap.size → col' q = col q) ∧ Kp (fun q => col q ≠ 0) w w') ∧ Hs w0 w' col' hb ab tb bb sv least sl A (names ++ fresh) N a := by
  obtain ⟨_, _, _, c3, _⟩ := hL.cells
  have hfr := hL.fr
  obtain ⟨po, cap, rfl⟩ := slice_form hfr
  obtain ⟨n, hn⟩ : ∃ n, fresh.length = n := ⟨_, rfl⟩
  have H := Lib.hid (And.intro h (And.intro hL (And.intro hnd (And.intro hlen (And.intro hs1 (And.intro hs2 hn))))))
  rw [hn] at c3
  have hn2 : n ≤ 1024 := by rw [List.length_append] at hlen; omega
  clear h hL hnd hlen hs1 hs2 hfr hn
  go_enter Tryz.func50, Tryz.ntmps50
  go_wp2_with fail
  go_loopg [9] n (fun gk i wr => ∃ (j : Nat) (col' : Nat → Nat), j ≤ n ∧ gk = n - j ∧ i = Value.int .i64 j ∧ ((∀ q, q < w.heap.size → col' q = col q) ∧ Kp (fun q => col q ≠ 0) w wr) ∧ Hs w0 wr col' hb ab tb bb sv least sl A (names ++ fresh.take j) N a ∧ LOwn (Fi col' wr 5) wr lb hb tv tks mb nn D (.slice po fresh.length cap) fresh)
  case atStart => exact ⟨0, col, by omega, rfl, rfl, ⟨fun _ _ => rfl, Kp.refl _ _⟩, by simpa using H.out.1, H.out.2.1⟩
  case round =>
    obtain ⟨j, col', hj, rfl, rfl, ⟨g1, g2⟩, g3, g4⟩ := hrel
    by_cases hlt : j < n
    · obtain ⟨_, _, hnd, hlen, hs1, hs2, hn⟩ := H.out
      obtain ⟨s, hs⟩ : ∃ s, fresh[j]? = some s := ⟨_, List.getElem?_eq_getElem (by omega)⟩
      obtain ⟨po2, cap2, hpo, hel⟩ := str_at g4.fr
      injection hpo with hpo _ hcap
      subst hpo hcap
      obtain ⟨g, rfl, hx⟩ := hel j s hs
      obtain ⟨e0, _⟩ := g4.cells
      have e1 := g3.hr.cells.2.1
      have hmem := List.mem_of_getElem? hs
      have htk : fresh.take (j + 1) = fresh.take j ++ [s] := by rw [List.take_add_one, hs]; rfl
      have hsp : names ++ fresh = (names ++ fresh.take (j + 1)) ++ fresh.drop (j + 1) := by rw [List.append_assoc, List.take_append_drop]
      have hnd1 : (names ++ fresh.take j ++ [s]).Nodup := by
        rw [List.append_assoc, ← htk]
        rw [hsp] at hnd
        exact (List.nodup_append.1 hnd).1
      have hni : s ∉ names ++ fresh.take j := fun hm => (List.nodup_append.1 hnd1).2.2 s hm s (by simp) rfl
      have hl1 : (names ++ fresh.take j).length < 1024 := by
        have := congrArg List.length hsp
        rw [htk] at this
        simp only [List.length_append, List.length_singleton] at this hlen ⊢
        omega
      have hcall := number_new g3.at' s (hs1 s hmem) (hs2 s hmem) hni hl1
      have HC := Lib.hid (And.intro hcall (And.intro (And.intro g1 g2) (And.intro g3 (And.intro g4 htk))))
      have hli : (j : Int) < n := by omega
      clear hnd hlen hs1 hs2 hn hel hmem hsp hnd1 hni hl1 hcall g1 g2 g3 g4 htk hs
      go_wp2_with (go_at_call 92; refine HC.out.1.mono ?_; rintro e w3 ⟨rfl, hT3, hk3⟩)
      have HK := Lib.hid (And.intro hT3 hk3)
      clear hT3 hk3
      go_roundg (n - (j + 1))
      case measure => omega
      case rel =>
        obtain ⟨hT3, hk3⟩ := HK.out
        obtain ⟨_, ⟨g1, g2⟩, g3, g4, htk⟩ := HC.out
        have h3 := g3.stepT hT3 hk3
        rw [List.append_assoc, ← htk] at h3
        refine ⟨j + 1, _, by omega, rfl, by go_num, ⟨fun q hq => ?_, g2.trans (hk3.mono fun q hq e => ?_)⟩, h3, g4.step (by omega) hk3⟩
        · unfold recol
          rw [if_pos (Nat.lt_of_lt_of_le hq g2.size)]
          exact g1 q hq
        · rcases Nat.lt_or_ge q w.heap.size with h1 | h1
          · left
            have := g1 q h1
            have := e.1
            omega
          · exact .inr ⟨h1, hq⟩
    · obtain rfl : n = j := by omega
      have HK := Lib.hid (And.intro (And.intro g1 g2) g3)
      clear g1 g2 g3 g4
      go_wp2_with fail
      refine bodyPost_end (results_none rfl _ _ _) rfl ?_
      obtain ⟨g12, g3⟩ := HK.out
      rw [← H.out.2.2.2.2.2.2, List.take_length] at g3
      exact ⟨rfl, _, g12, g3⟩
end
end Go.Proofs.YtkcmfldcdokobaaGreatDoor

/- Store of any term. -/
namespace Go.Proofs.YtkcmfldcdokobaaGreatDoor
open Go.RowKit Go.Maps

def storeS : ByteArray := ⟨#[115, 116, 111, 114, 101]⟩
/-- the type that errors.As asks for is laid -/
def Laid0 (w : World) : Prop := w.cell? ⟨0, 0, none⟩ = some (.iface 241 (.agg #[.pointer (some ⟨1, 29, none⟩)]))
/-- some blocks of no colour become a Store's own -/
def paint (P : Nat → Bool) (col : Nat → Nat) : Nat → Nat := fun q => if P q then 5 else col q
section
variable {w0 w : World} {col : Nat → Nat} {lb hb ab tb bb least N : Nat} {sv : Value} {sl : List (Int × Bool)} {names : List ByteArray} {A : Ar} {a : Bn}
theorem Hs.paint {P : Nat → Bool} (h : Hs w0 w col hb ab tb bb sv least sl A names N a) (hP : ∀ q, P q = true → col q = 0 ∧ w0.heap.size ≤ q) : Hs w0 w (paint P col) hb ab tb bb sv least sl A names N a := by
  have hi : ∀ i, i ≠ 0 → ∀ q, Fi col w i q → Fi (Go.Proofs.YtkcmfldcdokobaaGreatDoor.paint P col) w i q := fun i hi q hq => ⟨by
    unfold Go.Proofs.YtkcmfldcdokobaaGreatDoor.paint
    split
    · rename_i hp
      have := (hP q hp).1
      have := hq.1
      omega
    · exact hq.1, hq.2⟩
  exact ⟨h.hr.more (hi 1 (by omega)) Fi_lt, h.ar.more (hi 2 (by omega)) Fi_lt, h.at'.more (hi 3 (by omega)) Fi_lt, h.bn.more (hi 4 (by omega)) Fi_lt, h.bi, fun q hq => by
    unfold Go.Proofs.YtkcmfldcdokobaaGreatDoor.paint
    split
    · rename_i hp
      have := (hP q hp).2
      omega
    · exact h.old q hq, h.kp⟩

/-- what Store comes to -/
def StoreTo (w0 w : World) (col : Nat → Nat) (hb ab tb bb : Nat) (sv : Value) (least : Nat) (sl : List (Int × Bool)) (A : Ar) (names : List ByteArray) (N : Nat) (a : Bn) (h : Nat) (T : Tm) (e : Ending) (w' : World) : Prop :=
  ∃ col', ((∀ q, q < w.heap.size → col' q = col q) ∧ Kp (fun q => col q ≠ 0) w w') ∧
    (((tok 200 T ∧ tsz h T ≤ 65536) ∧ ∃ x S', e = .returned (.tuple #[.int .u64 x, .nilIface]) ∧ (0 ≤ x ∧ x ≤ 18446744073709551615) ∧ Steps names ⟨A, a, 0, [], []⟩ S' ∧ Lays names h ⟨A, a, 0, [], []⟩ T x S' ∧ (∀ i, pot S' i ≤ pot ⟨A, a, 0, [], []⟩ i + cost h T i) ∧ S'.K ≤ 200000 ∧
        Hs w0 w' col' hb ab tb bb sv least sl S'.A (names ++ S'.fresh) (N + 3000000) S'.a) ∨
      ∃ A' a' v, e = .returned (.tuple #[.int .u64 0, v]) ∧ ALike A A' ∧ BLike a a' ∧ Hs w0 w' col' hb ab tb bb sv least sl A' names (N + 3000000) a' ∧
        ∃ g inner, v = .iface 95 (.pointer (some ⟨g, 0, none⟩)) ∧ w'.heap[g]? = some (.cells #[.string storeS, .int .i64 0, inner] 181 (0, 0)) ∧ col' g = 0 ∧
          (¬ (tok 200 T ∧ tsz h T ≤ 65536) ∨ ((tok 200 T ∧ tsz h T ≤ 65536) ∧ (∃ op n, CBad col' w' op n inner) ∧ ∃ S', Steps names ⟨A, a, 0, [], []⟩ S' ∧ Stuck names (fun i => pot ⟨A, a, 0, [], []⟩ i + cost h T i) S')))

/-- what is of no colour is kept -/
def Go1 (col : Nat → Nat) (w : World) (col' : Nat → Nat) (w' : World) : Prop := (∀ q, q < w.heap.size → col' q = col q) ∧ Kp (fun q => col q ≠ 0) w w'
theorem Go0.go1 {w w' : World} {col col' : Nat → Nat} (h : Go0 col w col' w') : Go1 col w col' w' := ⟨h.old, h.kp⟩
theorem Go1.trans {w w1 w2 : World} {col col1 col2 : Nat → Nat} (h1 : Go1 col w col1 w1) (h2 : Go1 col1 w1 col2 w2) : Go1 col w col2 w2 :=
  ⟨fun q hq => (h2.1 q (Nat.lt_of_lt_of_le hq h1.2.size)).trans (h1.1 q hq), h1.2.trans (h2.2.mono fun q hq e => by
    rcases Nat.lt_or_ge q w.heap.size with h | h
    · rw [h1.1 q h] at e; exact .inl e
    · exact .inr ⟨h, hq⟩)⟩
theorem Steps.sizes {names : List ByteArray} {S S1 : St} (h : Steps names S S1) (h0 : S.fresh = []) : ∀ s ∈ S1.fresh, 1 ≤ s.size := by
  induction h with
  | none => intro s hs; rw [h0] at hs; cases hs
  | block _ _ hb ih =>
    obtain ⟨own, A', _, _, rfl⟩ := hb
    exact ih
  | put _ _ ih => exact ih
  | name _ h1 _ _ ih =>
    intro s hs
    rcases List.mem_append.1 hs with h | h
    · exact ih s h
    · rw [List.mem_singleton.1 h]; exact h1
  | more _ ih => exact ih
theorem as_met (g : Nat) (w : World) (hg : Laid0 w) : Calls Tryz.prog 47 #[.iface 95 (.pointer (some ⟨g, 0, none⟩)), .iface 97 (.pointer (some ⟨w.heap.size, 0, none⟩))] (w.alloc (.cells #[.pointer none] 95)) fun ev w' =>
    ev = .returned (.bool true) ∧ Kp (fun _ => False) w w' ∧ w'.heap[w.heap.size]? = some (.cells #[.pointer (some ⟨g, 0, none⟩)] 95 (0, 0)) := by
  have hlt : 0 < w.heap.size := World.block_lt_of_cell? _ _ hg
  have hn := heap_alloc_new w (.cells #[.pointer none] 95)
  have hz : (w.alloc (.cells #[.pointer none] 95)).heap.size = w.heap.size + 1 := by simp
  refine (as_fault ⟨g, 0, none⟩ ⟨w.heap.size, 0, none⟩ (.pointer none) _ ((((Kp.refl (fun _ => False) w).alloc _).cell hlt (fun e => e)).trans hg) (cell_of hn 0) (World.frozen?_alloc_new w _ _ 0)).mono ?_
  rintro _ _ ⟨rfl, rfl⟩
  refine ⟨rfl, ((((((Kp.refl _ w).alloc _).alloc _).alloc _).alloc _).alloc _).setCell _ _ (.inr (Nat.le_refl _)), ?_⟩
  refine heap_setCell_same _ w.heap.size 0 #[.pointer none] 95 _ ?_
  exact ((((((Kp.refl (fun _ => False) (w.alloc (.cells #[.pointer none] 95))).alloc _).alloc _).alloc _).alloc _).block w.heap.size (by omega) (fun e => e)).trans hn

set_option maxRecDepth 100000 in
set_option maxHeartbeats 1000000 in
theorem store_any {F : Nat → Prop} {h : Nat} {T : Tm} {cs : List Value} (hT : TermAt F w h T cs) (hH : Hs w0 w col hb ab tb bb sv least sl A names N a) (hF : ∀ q, F q → q < w.heap.size → col q = 0) (hN : N ≤ 70000000000000) (hN1 : 1 ≤ N) (hg0 : Laid0 w0) :
    Calls Tryz.prog 14 #[.pointer (some ⟨hb, 0, none⟩), .agg cs.toArray] w (StoreTo w0 w col hb ab tb bb sv least sl A names N a h T) := by
  obtain ⟨k, n, s, p1, l, c, p2, l2, d, p3, l3, e, rfl⟩ := hT.form
  obtain ⟨w1, hw1⟩ : ∃ w1, w.alloc (.cells #[.int .i64 k, .int .i64 n, .string s, .slice p1 l c, .slice p2 l2 d, .slice p3 l3 e] 41) = w1 := ⟨_, rfl⟩
  have hk1 : Kp (fun _ => False) w w1 := by rw [← hw1]; exact (Kp.refl _ w).alloc _
  have hr1 : w1.heap[w.heap.size]? = some (.cells #[.int .i64 k, .int .i64 n, .string s, .slice p1 l c, .slice p2 l2 d, .slice p3 l3 e] 41 (0, 0)) := by rw [← hw1]; exact heap_alloc_new w _
  have hz1 : w1.heap.size = w.heap.size + 1 := by rw [← hw1]; simp
  have H := Lib.hid (And.intro hT (And.intro hH (And.intro hF (And.intro hg0 (And.intro hk1 (And.intro hr1 hz1))))))
  clear hT hH hF hg0 hk1 hr1 hz1
  obtain ⟨w3, hw3⟩ : ∃ w3, (w1.alloc (.map #[] 0)).alloc (.cells #[.pointer (some ⟨hb, 0, none⟩), .slice none 0 0, .map (some w1.heap.size), .slice none 0 0] 94) = w3 := ⟨_, rfl⟩
  have hk3 : Kp (fun _ => False) w1 w3 := by rw [← hw3]; exact ((Kp.refl _ w1).alloc _).alloc _
  have hz3 : w3.heap.size = w1.heap.size + 2 := by rw [← hw3]; simp
  have hmap : w3.heap[w1.heap.size]? = some (.map #[] 0) := by
    rw [← hw3, Below.heap_alloc _ _ _ (by simp)]
    exact World.alloc_heap_new w1 _
  have hlay : w3.heap[w1.heap.size + 1]? = some (.cells #[.pointer (some ⟨hb, 0, none⟩), .slice none 0 0, .map (some w1.heap.size), .slice none 0 0] 94 (0, 0)) := by
    have := heap_alloc_new (w1.alloc (.map #[] 0)) (.cells #[.pointer (some ⟨hb, 0, none⟩), .slice none 0 0, .map (some w1.heap.size), .slice none 0 0] 94)
    rw [World.size_alloc] at this
    rw [← hw3]
    exact this
  have hr3 := (hk3.block _ (Array.getElem?_eq_some_iff.1 H.out.2.2.2.2.2.1).1 (fun e => e)).trans H.out.2.2.2.2.2.1
  have d0 : ((w1.alloc (.map #[] 0)).alloc (.cells #[.pointer (some ⟨hb, 0, none⟩), .slice none 0 0, .map (some w1.heap.size), .slice none 0 0] 94)).cell? ⟨w.heap.size, 0, none⟩ = some (.int .i64 k) := by rw [hw3]; exact cell_of hr3 0
  have d1 : ((w1.alloc (.map #[] 0)).alloc (.cells #[.pointer (some ⟨hb, 0, none⟩), .slice none 0 0, .map (some w1.heap.size), .slice none 0 0] 94)).cell? ⟨w.heap.size, 1, none⟩ = some (.int .i64 n) := by rw [hw3]; exact cell_of hr3 1
  have d2 : ((w1.alloc (.map #[] 0)).alloc (.cells #[.pointer (some ⟨hb, 0, none⟩), .slice none 0 0, .map (some w1.heap.size), .slice none 0 0] 94)).cell? ⟨w.heap.size, 2, none⟩ = some (.string s) := by rw [hw3]; exact cell_of hr3 2
  have d3 : ((w1.alloc (.map #[] 0)).alloc (.cells #[.pointer (some ⟨hb, 0, none⟩), .slice none 0 0, .map (some w1.heap.size), .slice none 0 0] 94)).cell? ⟨w.heap.size, 3, none⟩ = some (.slice p1 l c) := by rw [hw3]; exact cell_of hr3 3
  have d4 : ((w1.alloc (.map #[] 0)).alloc (.cells #[.pointer (some ⟨hb, 0, none⟩), .slice none 0 0, .map (some w1.heap.size), .slice none 0 0] 94)).cell? ⟨w.heap.size, 4, none⟩ = some (.slice p2 l2 d) := by rw [hw3]; exact cell_of hr3 4
  have d5 : ((w1.alloc (.map #[] 0)).alloc (.cells #[.pointer (some ⟨hb, 0, none⟩), .slice none 0 0, .map (some w1.heap.size), .slice none 0 0] 94)).cell? ⟨w.heap.size, 5, none⟩ = some (.slice p3 l3 e) := by rw [hw3]; exact cell_of hr3 5
  obtain ⟨hT, hH, hF, hg0, hk1, hr1, hz1⟩ := H.out
  have hk13 := hk1.trans' hk3
  have h0w := hH.kp.size
  obtain ⟨col3, hcol3⟩ : ∃ col3, paint (fun q => q == w1.heap.size || q == w1.heap.size + 1) (recol col w 0) = col3 := ⟨_, rfl⟩
  have hc3 : ∀ q, q < w.heap.size → col3 q = col q := fun q hq => by
    rw [← hcol3]
    unfold paint recol
    rw [if_neg (by simp; omega), if_pos hq]
  have hc5 : col3 w1.heap.size = 5 ∧ col3 (w1.heap.size + 1) = 5 := by
    rw [← hcol3]
    unfold paint
    constructor <;> rw [if_pos (by simp)]
  have h3 := (hH.same hk13).paint (P := fun q => q == w1.heap.size || q == w1.heap.size + 1) (fun q hq => by
    have hq' : q = w1.heap.size ∨ q = w1.heap.size + 1 := by simpa using hq
    exact ⟨recol_new q (by omega), by omega⟩)
  rw [hcol3] at h3
  have hmany := hH.at'.many
  have hLA : LAt w0 w3 col3 (w1.heap.size + 1) hb ab tb bb sv least sl names N w1.heap.size ⟨A, a, 0, [], []⟩ :=
    ⟨.slice none 0 0, .slice none 0 0, 0, .map [], [], h3, ⟨⟨hc5.2, by omega⟩, Fi_lt, hlay, World.ownsRow_nil _ _ _ _, fun g hg => by simp [Value.ownBlock] at hg, owns_new hmap, ⟨⟨hc5.1, by omega⟩, by omega⟩, World.ownsRow_nil _ _ _ _, fun g hg => by simp [Value.ownBlock] at hg⟩,
      ⟨NumD.empty _, by simp, by simp, Nat.le_refl _, by simp, by simpa using hmany.2.1, by simpa using hmany.1, by simpa using hmany.2.2⟩⟩
  have hcall := whole_any (hT.low.kp hk13 (fun _ _ e => e)) hLA (fun q hq _ => (hc3 q hq.2).trans (hF q hq.1 hq.2)) (by omega) hN1 rfl
  have HC := Lib.hid (And.intro hcall (And.intro hc3 (And.intro hk13 (And.intro h3.ar.inv (And.intro h3.bi (And.intro hg0 (And.intro h0w (And.intro hz1 hz3))))))))
  have HW3 := Lib.hid hw3
  clear hw3 hT hH hF hg0 hk1 hr1 hz1 hk13 h0w hcol3 hc3 hc5 h3 hmany hLA hcall hr3 hlay hmap hk3 hz3
  have hmm := @run_makeMap Tryz.prog
  go_enter Tryz.func14, Tryz.ntmps14
  go_wp2_with fail
  rw [HW3.out]
  refine HC.out.1.mono ?_
  rintro e4 w4 (⟨hok, S4, col4, m1, m2, m3, m4, ⟨x4, rfl, m5, m6, m7, mV⟩ | ⟨v, op, nn, rfl, m5, mS⟩⟩ | ⟨hno, col4, v, nn, rfl, m5, m3, m4⟩)
  · have HE := Lib.hid (And.intro hok (And.intro m1 (And.intro m2 (And.intro m3 (And.intro m4 (And.intro m7 mV))))))
    clear hok m1 m2 m3 m4 m7 mV d0 d1 d2 d3 d4 d5
    go_wp2_with fail
    refine (as_nil _ _).mono ?_
    rintro _ _ ⟨rfl, rfl⟩
    obtain ⟨w5, hw5⟩ : ∃ w5, w4.alloc (.cells #[.pointer none] 95) = w5 := ⟨_, rfl⟩
    rw [hw5]
    have hk5 : Kp (fun _ => False) w4 w5 := by rw [← hw5]; exact (Kp.refl _ w4).alloc _
    clear hw5
    obtain ⟨hok, m1, m2, ⟨tv, fv, nn, D, ks, q1, q2, q3⟩, m4, m7, mV⟩ := HE.out
    have hcall := ltell_any (q1.same hk5) (q2.same hk5) q3.nodup q3.len (m1.sizes rfl) (fun s hs => q3.short s (List.mem_append_right _ hs))
    have H5 := Lib.hid (And.intro hcall hk5)
    clear hok m1 m2 q1 q2 q3 m4 m7 mV hcall hk5
    go_wp2_with (go_at_call 50; refine H5.out.1.mono ?_; rintro e w6 ⟨rfl, col6, hg6, h6⟩)
    have H6 := Lib.hid (And.intro hg6 h6)
    clear hg6 h6
    go_wp2_with fail
    go_ret2
    obtain ⟨hok, m1, m2, _, m4, m7, mV⟩ := HE.out
    obtain ⟨hg6, h6⟩ := H6.out
    have hg3 : Go1 col w col3 w3 := ⟨HC.out.2.1, HC.out.2.2.1.mono fun _ _ e => e.elim⟩
    refine ⟨col6, (hg3.trans m4.go1).trans ((Go0.same H5.out.2).go1.trans hg6), .inl ⟨hok, x4, S4, rfl, ⟨m5, m6⟩, m1, m7, mV, m2, ⟨h6.hr, h6.ar, h6.at', h6.bn, h6.bi.mono (by omega), h6.old, h6.kp⟩⟩⟩
  · obtain ⟨g, rfl, hg1, hg2⟩ := m5
    have hg4 : Laid0 w4 := by
      obtain ⟨tv, fv, nn', D, ks, q1, q2, q3⟩ := id m3
      have hg0 := HC.out.2.2.2.2.2.1
      exact (q1.kp.cell (World.block_lt_of_cell? _ _ hg0) (fun e => e)).trans hg0
    have hcall := as_met g w4 hg4
    have HE := Lib.hid (And.intro hok (And.intro m1 (And.intro m2 (And.intro m3 (And.intro m4 (And.intro mS (And.intro hg1 (And.intro hg2 hcall))))))))
    clear hok m1 m2 m3 m4 mS d0 d1 d2 d3 d4 d5 hg1 hg2 hg4 hcall
    go_wp2_with fail
    refine HE.out.2.2.2.2.2.2.2.2.mono ?_
    rintro _ w5 ⟨rfl, hk5, hr5⟩
    have hcall := lgive_any (HE.out.2.2.2.1.same hk5) HE.out.2.1 rfl HC.out.2.2.2.1 (HC.out.2.2.2.2.1) (Nat.le_trans HE.out.2.2.1 (by omega)) (by omega)
    have H5 := Lib.hid (And.intro hcall (And.intro hk5 hr5))
    clear hcall hk5 hr5
    go_wp2_with (go_at_call 48; refine H5.out.1.mono ?_; rintro e w6 ⟨rfl, col6, A6, a6, g6, l6, b6, h6⟩; have c6 : w6.cell? ⟨w4.heap.size, 0, none⟩ = some (.pointer (some ⟨g, 0, none⟩)) := cell_of (g6.block H5.out.2.2 (recol_new _ (Nat.le_refl _))).1 0)
    have H6 := Lib.hid (And.intro g6 (And.intro l6 (And.intro b6 h6)))
    clear g6 l6 b6 h6
    refine (at_any _ _ _ _ _).mono ?_
    rintro _ _ ⟨rfl, rfl⟩
    obtain ⟨w7, hw7⟩ : ∃ w7, w6.alloc (.cells #[.string storeS, .int .i64 0, .iface 95 (.pointer (some ⟨g, 0, none⟩))] 181) = w7 := ⟨_, rfl⟩
    have hw7' := hw7
    unfold storeS at hw7'
    rw [hw7']
    have hk7 : Kp (fun _ => False) w6 w7 := by rw [← hw7]; exact (Kp.refl _ w6).alloc _
    have hr7 := heap_alloc_new w6 (.cells #[.string storeS, .int .i64 0, .iface 95 (.pointer (some ⟨g, 0, none⟩))] 181)
    rw [hw7] at hr7
    clear hw7 hw7'
    have H7 := Lib.hid (And.intro hk7 hr7)
    clear hk7 hr7
    go_wp2_with fail
    go_ret2
    obtain ⟨g6, l6, b6, h6⟩ := H6.out
    obtain ⟨hok, m1, m2, _, m4, mS, hg1, hg2, _⟩ := HE.out
    have hg3 : Go1 col w col3 w3 := ⟨HC.out.2.1, HC.out.2.2.1.mono fun _ _ e => e.elim⟩
    have hcb : CBad _ w7 op nn (.iface 95 (.pointer (some ⟨g, 0, none⟩))) := (((show CBad col4 w4 op nn (.iface 95 (.pointer (some ⟨g, 0, none⟩))) from ⟨g, rfl, hg1, hg2⟩).go (Go0.same H5.out.2.1)).go g6).go (Go0.same H7.out.1)
    exact ⟨recol col6 w6 0, ((hg3.trans m4.go1).trans (Go0.same H5.out.2.1).go1).trans (g6.go1.trans (Go0.same H7.out.1).go1), .inr ⟨A6, a6, _, rfl, l6, b6, h6.same H7.out.1, _, _, rfl, H7.out.2, recol_new _ (Nat.le_refl _), .inr ⟨hok, ⟨_, _, hcb⟩, S4, m1, mS⟩⟩⟩
  · obtain ⟨g, inner, rfl, hg1, hg2⟩ := m5
    have hg4 : Laid0 w4 := by
      obtain ⟨tv, fv, nn', D, ks, q1, q2, q3⟩ := id m3
      have hg0 := HC.out.2.2.2.2.2.1
      exact (q1.kp.cell (World.block_lt_of_cell? _ _ hg0) (fun e => e)).trans hg0
    have hcall := as_met g w4 hg4
    have HE := Lib.hid (And.intro hno (And.intro m3 (And.intro m4 hcall)))
    clear hno m3 m4 d0 d1 d2 d3 d4 d5 hg1 hg2 hg4 hcall
    go_wp2_with fail
    refine HE.out.2.2.2.mono ?_
    rintro _ w5 ⟨rfl, hk5, hr5⟩
    have hcall := lgive_any (HE.out.2.1.same hk5) .none rfl HC.out.2.2.2.1 (HC.out.2.2.2.2.1) (by show 0 ≤ 1000000; omega) (by omega)
    have H5 := Lib.hid (And.intro hcall (And.intro hk5 hr5))
    clear hcall hk5 hr5
    go_wp2_with (go_at_call 48; refine H5.out.1.mono ?_; rintro e w6 ⟨rfl, col6, A6, a6, g6, l6, b6, h6⟩; have c6 : w6.cell? ⟨w4.heap.size, 0, none⟩ = some (.pointer (some ⟨g, 0, none⟩)) := cell_of (g6.block H5.out.2.2 (recol_new _ (Nat.le_refl _))).1 0)
    have H6 := Lib.hid (And.intro g6 (And.intro l6 (And.intro b6 h6)))
    clear g6 l6 b6 h6
    refine (at_any _ _ _ _ _).mono ?_
    rintro _ _ ⟨rfl, rfl⟩
    obtain ⟨w7, hw7⟩ : ∃ w7, w6.alloc (.cells #[.string storeS, .int .i64 0, .iface 95 (.pointer (some ⟨g, 0, none⟩))] 181) = w7 := ⟨_, rfl⟩
    have hw7' := hw7
    unfold storeS at hw7'
    rw [hw7']
    have hk7 : Kp (fun _ => False) w6 w7 := by rw [← hw7]; exact (Kp.refl _ w6).alloc _
    have hr7 := heap_alloc_new w6 (.cells #[.string storeS, .int .i64 0, .iface 95 (.pointer (some ⟨g, 0, none⟩))] 181)
    rw [hw7] at hr7
    clear hw7 hw7'
    have H7 := Lib.hid (And.intro hk7 hr7)
    clear hk7 hr7
    go_wp2_with fail
    go_ret2
    obtain ⟨g6, l6, b6, h6⟩ := H6.out
    obtain ⟨hno, _, m4, _⟩ := HE.out
    have hg3 : Go1 col w col3 w3 := ⟨HC.out.2.1, HC.out.2.2.1.mono fun _ _ e => e.elim⟩
    exact ⟨recol col6 w6 0, ((hg3.trans m4.go1).trans (Go0.same H5.out.2.1).go1).trans (g6.go1.trans (Go0.same H7.out.1).go1), .inr ⟨A6, a6, _, rfl, l6, b6, h6.same H7.out.1, _, _, rfl, H7.out.2, recol_new _ (Nat.le_refl _), .inl hno⟩⟩
end
end Go.Proofs.YtkcmfldcdokobaaGreatDoor
