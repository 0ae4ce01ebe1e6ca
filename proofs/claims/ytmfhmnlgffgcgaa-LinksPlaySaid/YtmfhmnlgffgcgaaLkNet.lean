/- A net in memory: its head, its three tables, its monitors; the other side of a link or a monitor. -/
import Derived.Test.YtmfhmnlgffgcgaaLkAdd2
import Derived.Test.YtmfhmnlgffgcgaaLkDrop2
namespace Go.Proofs.Ytmfhmnlgffgcgaa
open Go.RowKit Go.Maps
set_option linter.unusedVariables false

/-- the monitors: none yet, or a map -/
def Mon (w : World) (G : Nat → Prop) (v : Value) (ms : List Mo) : Prop := (v = .map none ∧ ms = []) ∨ ∃ mb, v = .map (some mb) ∧ G mb ∧ Mm w mb ms
/-- a net at b; col: whose each block is (1: its own cells; 2, 3, 4: its tables; 5: its monitors; 0: nobody's here) -/
structure Nx (w : World) (b : Nat) (col : Nat → Nat) (h : Nat → Value) (S : Nat → List (Int × Int)) (ms : List Mo) : Prop where
  head : HeadAt w b h
  b1 : col b = 1
  tb : ∀ k, k < 3 → Tbl w (fun q => col q = 2 + k) (h (2 * k)) (h (2 * k + 1)) (S k)
  mon : Mon w (fun q => col q = 5) (h 6) ms
  fr : ∀ q, w.heap.size ≤ q → col q = 0
/-- only a net's own blocks are turned -/
def NxStep (w : World) (col : Nat → Nat) (w' : World) (col' : Nat → Nat) : Prop := (∀ q, q < w.heap.size → col' q = col q) ∧ Kp (fun q => col q ≠ 0) w w'
section
variable {F G : Nat → Prop} {w w' w'' : World} {b : Nat} {col col' col'' : Nat → Nat} {h h' : Nat → Value} {S : Nat → List (Int × Int)} {ms : List Mo} {k : Nat} {a x r : Int} {v : Value}
theorem Mon.kp (H : Mon w G v ms) (hk : Kp F w w') (hF : ∀ q, G q → ¬ F q) : Mon w' G v ms := by
  rcases H with H | ⟨mb, h1, h2, h3⟩
  · exact .inl H
  · exact .inr ⟨mb, h1, h2, h3.kp hk (hF _ h2)⟩
theorem Mon.re (H : Mon w G v ms) (hG : ∀ q, q < w.heap.size → G q → F q) : Mon w F v ms := by
  rcases H with H | ⟨mb, h1, h2, h3⟩
  · exact .inl H
  · exact .inr ⟨mb, h1, hG _ (map_lt h3.block) h2, h3⟩
theorem NxStep.refl (w : World) (col : Nat → Nat) : NxStep w col w col := ⟨fun _ _ => rfl, Kp.refl _ _⟩
theorem NxStep.quiet (col : Nat → Nat) (hk : Kp (fun _ => False) w w') : NxStep w col w' col := ⟨fun _ _ => rfl, hk.mono fun _ _ e => e.elim⟩
theorem NxStep.trans (h1 : NxStep w col w' col') (h2 : NxStep w' col' w'' col'') : NxStep w col w'' col'' :=
  ⟨fun q hq => (h2.1 q (Nat.lt_of_lt_of_le hq h1.2.size)).trans (h1.1 q hq), h1.2.trans (h2.2.mono fun q hq e => by
    by_cases hl : q < w.heap.size
    · exact .inl (fun e2 => e ((h1.1 q hl).trans e2))
    · exact .inr ⟨by omega, hq⟩)⟩
theorem Nx.same (H : Nx w b col h S ms) (hk : Kp (fun _ => False) w w') : Nx w' b col h S ms :=
  ⟨H.head.same hk, H.b1, fun k hk2 => (H.tb k hk2).same hk, H.mon.kp hk (fun _ _ e => e), fun q hq => H.fr q (Nat.le_trans hk.size hq)⟩
/-- the new blocks are table k's -/
def colTo (col : Nat → Nat) (w w' : World) (c : Nat) : Nat → Nat := fun q => if w.heap.size ≤ q ∧ q < w'.heap.size then c else col q
theorem colTo_old {c : Nat} {q : Nat} (hq : q < w.heap.size) : colTo col w w' c q = col q := if_neg (by omega)
/-- a table's way turned it -/
theorem nx_turn {e : Ending} {S' : List (Int × Int)} (H : Nx w b col h S ms) (hk : k < 3) (ht : TabTo (fun q => col q = 2 + k) w b (2 * k) h S' e w') :
    e = .returned (.tuple #[]) ∧ ∃ col' h', Nx w' b col' h' (upd S k S') ms ∧ h' 7 = h 7 ∧ NxStep w col w' col' := by
  obtain ⟨he, h', h1, h2, h3, h4⟩ := ht
  have hz := h4.size
  have hne : ∀ c, c ≠ 2 + k → c ≠ 1 → ∀ q, q < w.heap.size → col q = c → ¬ (col q = 2 + k ∨ q = b) := by
    intro c hc hc1 q hq e e2
    rcases e2 with e2 | e2
    · omega
    · subst e2; have := H.b1; omega
  have hkp : NxStep w col w' (colTo col w w' (2 + k)) := ⟨fun q hq => colTo_old hq, h4.mono fun q _ e => by
    rcases e with e | e
    · omega
    · subst e; have := H.b1; omega⟩
  refine ⟨he, colTo col w w' (2 + k), h', ⟨h1, ?_, fun j hj => ?_, ?_, fun q hq => ?_⟩, h2 7 (by omega) (by omega), hkp⟩
  · rw [colTo_old H.head.lt]; exact H.b1
  · by_cases e : j = k
    · subst e
      rw [upd_same]
      refine h3.re fun q hq e => ?_
      unfold colTo
      by_cases hw : w.heap.size ≤ q
      · rw [if_pos ⟨hw, hq⟩]
      · rw [if_neg (by omega)]
        exact e.elim id (fun e => absurd e hw)
    · rw [upd_other _ _ e, h2 (2 * j) (by omega) (by omega), h2 (2 * j + 1) (by omega) (by omega)]
      have h5 := (H.tb j hj).re (G' := fun q => col q = 2 + j ∧ q < w.heap.size) fun q h6 h7 => ⟨h7, h6⟩
      refine (h5.kp h4 (fun q e2 => hne (2 + j) (by omega) (by omega) q e2.2 e2.1)).re fun q hq e2 => ?_
      rw [colTo_old e2.2]
      exact e2.1
  · rw [h2 6 (by omega) (by omega)]
    have h5 := H.mon.re (F := fun q => col q = 5 ∧ q < w.heap.size) fun q h6 h7 => ⟨h7, h6⟩
    refine (h5.kp h4 (fun q e2 => hne 5 (by omega) (by omega) q e2.2 e2.1)).re fun q hq e2 => ?_
    rw [colTo_old e2.2]
    exact e2.1
  · unfold colTo
    rw [if_neg (by omega)]
    exact H.fr q (by omega)
/-- what a net's way leaves -/
def NxTo (w : World) (b : Nat) (col : Nat → Nat) (h : Nat → Value) (S' : Nat → List (Int × Int)) (ms' : List Mo) (e : Ending) (w' : World) : Prop :=
  e = .returned (.tuple #[]) ∧ ∃ col' h', Nx w' b col' h' S' ms' ∧ h' 7 = h 7 ∧ NxStep w col w' col'
theorem nx_add (H : Nx w b col h S ms) (hk : k < 3) (hno : (a, x) ∉ S k) (ha : I64 a) (hx : I64 x) (hlen : (S k).length + 1 ≤ 17592186044416) :
    Calls Try.prog 43 #[.pointer (some ⟨b, 2 * k, none⟩), pv a x] w (NxTo w b col h (upd S k (S k ++ [(a, x)])) ms) :=
  (add_any H.head (by omega) (by show ¬ col b = 2 + k; rw [H.b1]; omega) (H.tb k hk) hno ha hx hlen).mono fun e w' ht => nx_turn H hk ht
theorem nx_drop (H : Nx w b col h S ms) (hk : k < 3) (hm : (a, x) ∈ S k) (hlen : (S k).length ≤ 17592186044416) :
    Calls Try.prog 45 #[.pointer (some ⟨b, 2 * k, none⟩), pv a x] w (NxTo w b col h (upd S k (butPair (S k) (a, x))) ms) :=
  (drop_any H.head (by omega) (by show ¬ col b = 2 + k; rw [H.b1]; omega) (H.tb k hk) hm hlen).mono fun e w' ht => nx_turn H hk ht
theorem nx_there (H : Nx w b col h S ms) (hk : k < 3) (ha : I64 a) (hx : I64 x) :
    Calls Try.prog 35 #[.pointer (some ⟨b, 2 * k, none⟩), pv a x] w fun e w' => e = .returned (.bool (decide ((a, x) ∈ S k))) ∧ Kp (fun _ => False) w w' :=
  there_any H.head (by omega) (H.tb k hk) ha hx
theorem nx_of (H : Nx w b col h S ms) (hk : k < 3) (ha : I64 a) (hlen : (S k).length ≤ 17592186044416) :
    Calls Try.prog 34 #[.pointer (some ⟨b, 2 * k, none⟩), .int .i64 a] w (FreshRow w (srt (colOf (S k) a))) :=
  of_any H.head (by omega) (H.tb k hk) ha hlen

theorem Try.lkWatch0 (w : World) (a c : Int) : (Instr.field 67 (.agg #[.int .i64 a, .int .i64 c]) 0).run Try.prog w = .ok (.int .i64 a) w := by kernel_rfl
theorem Try.lkWatch1 (w : World) (a c : Int) : (Instr.field 67 (.agg #[.int .i64 a, .int .i64 c]) 1).run Try.prog w = .ok (.int .i64 c) w := by kernel_rfl
theorem Mon.look (H : Mon w G v ms) (hr : I64 r) (c : Bool) : (Instr.lookup 29 v (.int .i64 r) c).run Try.prog w = .ok (if c then .tuple #[waV (moOf ms r), .bool (moOf ms r).isSome] else waV (moOf ms r)) w := by
  rcases H with ⟨h1, h2⟩ | ⟨mb, h1, h2, h3⟩
  · subst h1 h2
    exact Maps.look_nil c Try.keyedLk Try.underlying29 (Try.zeroLkWatch w) (keyOf_int_mk Try.underlying2 hr.wf)
  · subst h1
    cases c
    · exact h3.look1 hr
    · exact h3.look hr
theorem Mon.form (H : Mon w G v ms) : ∃ mq, v = .map mq := by
  rcases H with ⟨h1, h2⟩ | ⟨mb, h1, h2, h3⟩
  · exact ⟨_, h1⟩
  · exact ⟨_, h1⟩
theorem two_cells (w : World) (a x c d : Int) : ((w.alloc (.cells #[.int .i64 a, .int .i64 x] 70)).alloc (.cells #[.int .i64 c, .int .i64 d] 70)).cell? ⟨w.heap.size + 1, 0, none⟩ = some (.int .i64 c) ∧
    ((w.alloc (.cells #[.int .i64 a, .int .i64 x] 70)).alloc (.cells #[.int .i64 c, .int .i64 d] 70)).cell? ⟨w.heap.size + 1, 1, none⟩ = some (.int .i64 d) := by
  have h := heap_alloc_new (w.alloc (.cells #[.int .i64 a, .int .i64 x] 70)) (.cells #[.int .i64 c, .int .i64 d] 70)
  rw [show (w.alloc (.cells #[.int .i64 a, .int .i64 x] 70)).heap.size = w.heap.size + 1 by simp] at h
  exact ⟨by rw [cell_of_row _ _ 0 _ _ _ h]; rfl, by rw [cell_of_row _ _ 1 _ _ _ h]; rfl⟩
def OsTo (k2 : Nat) (a2 x2 : Int) (w : World) (e : Ending) (w' : World) : Prop := e = .returned (.tuple #[.int .i64 (k2 : Nat), pv a2 x2]) ∧ Kp (fun _ => False) w w'
set_option maxRecDepth 100000 in
set_option maxHeartbeats 2000000 in
theorem other_link (w : World) (b : Nat) (a x : Int) : Calls Try.prog 42 #[.pointer (some ⟨b, 0, none⟩), .int .i64 0, pv a x] w (OsTo 0 x a w) := by
  unfold pv
  go_enter Try.func42, Try.ntmps42
  go_wp2_with fail
  go_region
  go_wp2_with fail
  obtain ⟨i0, i1⟩ := two_cells w a x x a
  refine bodyPost_ret (v := .tuple #[.int .i64 0, .agg #[.int .i64 x, .int .i64 a]]) (by simp [results, Try.results42, go_sem, i0, i1]) rfl ?_
  exact ⟨rfl, (((Kp.refl (fun _ => False) w).alloc _).alloc _).drew⟩
set_option maxRecDepth 100000 in
set_option maxHeartbeats 2000000 in
theorem other_who (H : HeadAt w b h) (hM : Mon w G (h 6) ms) {m : Mo} (hr : I64 r) (hm : moOf ms r = some m) (a : Int) : Calls Try.prog 42 #[.pointer (some ⟨b, 0, none⟩), .int .i64 1, pv a r] w (OsTo 2 m.whom r w) := by
  have kq : Kp (fun _ => False) w ((w.alloc (.cells #[.int .i64 a, .int .i64 r] 70)).alloc (.cells #[.int .i64 0, .int .i64 0] 70)) := ((Kp.refl _ w).alloc _).alloc _
  obtain ⟨mq, hmq⟩ := hM.form
  have c6 : ((w.alloc (.cells #[.int .i64 a, .int .i64 r] 70)).alloc (.cells #[.int .i64 0, .int .i64 0] 70)).cell? ⟨b, 6, none⟩ = some (.map mq) := by rw [← hmq]; exact (H.same kq).cell (by omega)
  have hlk := (hM.kp kq.drew.drew (fun _ _ e => e)).look hr false
  rw [hmq, hm] at hlk
  have hlk2 : (Instr.lookup 29 (.map mq) (.int .i64 r) false).run Try.prog ((w.alloc (.cells #[.int .i64 a, .int .i64 r] 70)).alloc (.cells #[.int .i64 0, .int .i64 0] 70)).drew.drew = .ok (.agg #[.int .i64 m.who, .int .i64 m.whom]) ((w.alloc (.cells #[.int .i64 a, .int .i64 r] 70)).alloc (.cells #[.int .i64 0, .int .i64 0] 70)).drew.drew := hlk
  obtain ⟨m1, e1⟩ : ∃ m1, m.who = m1 := ⟨_, rfl⟩
  obtain ⟨m2, e2⟩ : ∃ m2, m.whom = m2 := ⟨_, rfl⟩
  rw [e1, e2] at hlk2
  rw [e2]
  have hf0 := Try.lkWatch0
  have hf1 := Try.lkWatch1
  unfold pv
  clear hlk hM H kq hmq hm e1 e2
  go_enter Try.func42, Try.ntmps42
  go_wp2_with fail
  go_region
  go_wp2_with fail
  go_region
  go_wp2_with fail
  obtain ⟨i0, i1⟩ := two_cells w a r m2 r
  refine bodyPost_ret (v := .tuple #[.int .i64 2, .agg #[.int .i64 m2, .int .i64 r]]) (by simp [results, Try.results42, go_sem, i0, i1]) rfl ?_
  exact ⟨rfl, ((((Kp.refl (fun _ => False) w).alloc _).alloc _).drew).drew⟩
set_option maxRecDepth 100000 in
set_option maxHeartbeats 2000000 in
theorem other_whom (H : HeadAt w b h) (hM : Mon w G (h 6) ms) {m : Mo} (hr : I64 r) (hm : moOf ms r = some m) (a : Int) : Calls Try.prog 42 #[.pointer (some ⟨b, 0, none⟩), .int .i64 2, pv a r] w (OsTo 1 m.who r w) := by
  have kq : Kp (fun _ => False) w ((w.alloc (.cells #[.int .i64 a, .int .i64 r] 70)).alloc (.cells #[.int .i64 0, .int .i64 0] 70)) := ((Kp.refl _ w).alloc _).alloc _
  obtain ⟨mq, hmq⟩ := hM.form
  have c6 : ((w.alloc (.cells #[.int .i64 a, .int .i64 r] 70)).alloc (.cells #[.int .i64 0, .int .i64 0] 70)).cell? ⟨b, 6, none⟩ = some (.map mq) := by rw [← hmq]; exact (H.same kq).cell (by omega)
  have hlk := (hM.kp kq.drew.drew (fun _ _ e => e)).look hr false
  rw [hmq, hm] at hlk
  have hlk2 : (Instr.lookup 29 (.map mq) (.int .i64 r) false).run Try.prog ((w.alloc (.cells #[.int .i64 a, .int .i64 r] 70)).alloc (.cells #[.int .i64 0, .int .i64 0] 70)).drew.drew = .ok (.agg #[.int .i64 m.who, .int .i64 m.whom]) ((w.alloc (.cells #[.int .i64 a, .int .i64 r] 70)).alloc (.cells #[.int .i64 0, .int .i64 0] 70)).drew.drew := hlk
  obtain ⟨m1, e1⟩ : ∃ m1, m.who = m1 := ⟨_, rfl⟩
  obtain ⟨m2, e2⟩ : ∃ m2, m.whom = m2 := ⟨_, rfl⟩
  rw [e1, e2] at hlk2
  rw [e1]
  have hf0 := Try.lkWatch0
  have hf1 := Try.lkWatch1
  unfold pv
  clear hlk hM H kq hmq hm e1 e2
  go_enter Try.func42, Try.ntmps42
  go_wp2_with fail
  go_region
  go_wp2_with fail
  go_region
  go_wp2_with fail
  obtain ⟨i0, i1⟩ := two_cells w a r m1 r
  refine bodyPost_ret (v := .tuple #[.int .i64 1, .agg #[.int .i64 m1, .int .i64 r]]) (by simp [results, Try.results42, go_sem, i0, i1]) rfl ?_
  exact ⟨rfl, ((((Kp.refl (fun _ => False) w).alloc _).alloc _).drew).drew⟩
end
end Go.Proofs.Ytmfhmnlgffgcgaa
