/- The document's own table: in memory; New, kind, Live, Slot. -/
import Derived.Test.YtdcmdidikengbaaTbSlots
import Derived.Test.YtdcmdidikengbaaXs
import Derived.Test.YtdcmdidikengbaaEBad
namespace Go.Proofs.Ytdcmdidikengbaa
open Go.RowKit
set_option linter.unusedVariables false

/-- how often a slot was given, and whether it is -/
def givenAt (sl : List Sg) (k : Nat) : Nat := match sl[k]? with | some s => s.pid / 64 + 1 | none => 0
def onAt (sl : List Sg) (k : Nat) : Bool := match sl[k]? with | some s => s.on | none => false
def givenL (size : Nat) (sl : List Sg) : List Int := (List.range size).map fun k => (givenAt sl k : Int)
def onL (size : Nat) (sl : List Sg) : List Bool := (List.range size).map (onAt sl)
/-- truth values of one's own -/
def Bw (w : World) (v : Value) (l : List Bool) : Prop := w.ownsW 0 4 v l.length (l.map Value.bool)
def nmCells (ns : List Nm) : List Value := ns.flatMap fun n => [.string n.txt, .int .i64 (n.pid : Nat)]
theorem nmCells_len (ns : List Nm) : (nmCells ns).length = ns.length * 2 := by
  induction ns with
  | nil => rfl
  | cons a l ih => simp [nmCells] at ih ⊢; omega
theorem nmCells_app (l m : List Nm) : nmCells (l ++ m) = nmCells l ++ nmCells m := by simp [nmCells]
theorem nmCells_one (ns : List Nm) : ∀ u ∈ nmCells ns, u.oneCell' = true := by
  intro u hu
  unfold nmCells at hu
  obtain ⟨t, _, ht⟩ := List.mem_flatMap.1 hu
  simp at ht
  rcases ht with rfl | rfl <;> rfl
theorem nmCells_get : ∀ (ns : List Nm) (i : Nat) (n : Nm), ns[i]? = some n → (nmCells ns)[i * 2]? = some (.string n.txt) ∧ (nmCells ns)[i * 2 + 1]? = some (.int .i64 (n.pid : Nat))
  | [], i, s, h => by simp at h
  | a :: l, 0, s, h => by
    obtain rfl : a = s := by simpa using h
    exact ⟨rfl, rfl⟩
  | a :: l, i + 1, s, h => by
    have h1 := nmCells_get l i s (by simpa using h)
    have e : ∀ k, (nmCells (a :: l))[(i + 1) * 2 + k]? = (nmCells l)[i * 2 + k]? := by
      intro k
      show ([Value.string a.txt, .int .i64 (a.pid : Nat)] ++ nmCells l)[(i + 1) * 2 + k]? = _
      rw [List.getElem?_append_right (by simp; omega)]
      congr 1
      simp
      omega
    exact ⟨(e 0).trans h1.1, (e 1).trans h1.2⟩
theorem nmCells_take (ns : List Nm) (j : Nat) : (nmCells ns).take (j * 2) = nmCells (ns.take j) := by
  rcases Nat.lt_or_ge ns.length j with h | h
  · rw [List.take_of_length_le (by rw [nmCells_len]; omega), List.take_of_length_le (by omega)]
  · have h1 : nmCells ns = nmCells (ns.take j) ++ nmCells (ns.drop j) := by rw [← nmCells_app, List.take_append_drop]
    rw [h1, List.take_append_of_le_length (by rw [nmCells_len, List.length_take]; omega), List.take_of_length_le (by rw [nmCells_len, List.length_take]; omega)]
theorem givenL_len (size : Nat) (sl : List Sg) : (givenL size sl).length = size := by simp [givenL]
theorem onL_len (size : Nat) (sl : List Sg) : (onL size sl).length = size := by simp [onL]
theorem givenL_get {size k : Nat} (h : k < size) (sl : List Sg) : (givenL size sl)[k]? = some (givenAt sl k : Int) := by simp [givenL, h]
theorem onL_get {size k : Nat} (h : k < size) (sl : List Sg) : (onL size sl)[k]? = some (onAt sl k) := by simp [onL, h]

/-- the document's table at block b: given in g1, on in g2, names v -/
structure RT (w : World) (b g1 g2 : Nat) (v : Value) (size : Nat) (sl : List Sg) (ns : List Nm) : Prop where
  main : w.heap[b]? = some (.cells #[.int .i64 (size : Nat), .slice (some ⟨g1, 0, none⟩) size size, .slice (some ⟨g2, 0, none⟩) size size, v] 99 (0, 0))
  giv : Lw w (.slice (some ⟨g1, 0, none⟩) (givenL size sl).length size) (givenL size sl)
  on : Bw w (.slice (some ⟨g2, 0, none⟩) (onL size sl).length size) (onL size sl)
  nms : w.ownsS 103 2 v ns.length (nmCells ns)
section
variable {F : Nat → Prop} {w w' : World} {b g1 g2 size B : Nat} {v : Value} {sl : List Sg} {ns : List Nm}
theorem RT.facts (h : RT w b g1 g2 v size sl ns) : w.cell? ⟨b, 0, none⟩ = some (.int .i64 (size : Nat)) ∧ w.cell? ⟨b, 1, none⟩ = some (.slice (some ⟨g1, 0, none⟩) size size) ∧ w.cell? ⟨b, 2, none⟩ = some (.slice (some ⟨g2, 0, none⟩) size size) ∧ w.cell? ⟨b, 3, none⟩ = some v ∧ ∀ j, w.frozen? ⟨b, j, none⟩ = false :=
  ⟨by rw [cell_of_row w b 0 _ _ _ h.main]; rfl, by rw [cell_of_row w b 1 _ _ _ h.main]; rfl, by rw [cell_of_row w b 2 _ _ _ h.main]; rfl, by rw [cell_of_row w b 3 _ _ _ h.main]; rfl, fun j => by simp [World.frozen?, h.main]⟩
theorem RT.kp (h : RT w b g1 g2 v size sl ns) (hk : Kp F w w') (hb : ¬ F b) (h1 : ¬ F g1) (h2 : ¬ F g2) (hv : ∀ g, v.ownBlock = some g → ¬ F g) : RT w' b g1 g2 v size sl ns :=
  ⟨(hk.block b (Array.getElem?_eq_some_iff.1 h.main).1 hb).trans h.main, h.giv.kp hk (fun g hg => by injection hg with hg; subst hg; exact h1), hk.roww h.on (fun g hg => by injection hg with hg; subst hg; exact h2), hk.rowS h.nms hv⟩
theorem RT.same (h : RT w b g1 g2 v size sl ns) (hk : Kp (fun _ => False) w w') : RT w' b g1 g2 v size sl ns := h.kp hk (fun e => e) (fun e => e) (fun e => e) (fun _ _ e => e)
theorem RT.gcell (h : RT w b g1 g2 v size sl ns) {k : Nat} (hk : k < size) : w.cell? ⟨g1, k, none⟩ = some (.int .i64 (givenAt sl k : Nat)) := by
  obtain ⟨g, c, e, -, -, hc⟩ := h.giv.get (givenL_get hk sl)
  injection e with e
  injection e with e
  injection e with e
  rw [e]; exact hc
theorem RT.ocell (h : RT w b g1 g2 v size sl ns) {k : Nat} (hk : k < size) : w.cell? ⟨g2, k, none⟩ = some (.bool (onAt sl k)) := by
  obtain ⟨g, c, e, -, -, hc⟩ := ownsW_get h.on k (.bool (onAt sl k)) (by simp [onL_get hk])
  injection e with e
  injection e with e
  injection e with e
  rw [e]; exact hc
theorem f14_any (op : ByteArray) (n : Int) (po : Option Addr) (w : World) :
    Calls Try.prog 46 #[.string op, .int .i64 n, .pointer po] w fun e' w' => e' = .returned (.pointer (some ⟨w.heap.size, 0, none⟩)) ∧ w' = w.alloc (.cells #[.string op, .int .i64 n, .pointer po, .int .i64 0] 111) := by
  go_enter Try.func46, Try.ntmps46
  go_wp2_with fail
  go_ret
  exact ⟨rfl, rfl⟩
theorem xtslot_any (p : Int) (w : World) : Calls Try.prog 50 #[.int .i64 p] w fun e w' => e = .returned (.int .i64 (slotAt p)) ∧ w = w' := by
  unfold slotAt
  by_cases h : p < 0
  · rw [if_pos h]
    go_enter Try.func50, Try.ntmps50
    go_wp2_with fail
    go_ret
    exact ⟨rfl, rfl⟩
  · rw [if_neg h]
    have e : p.tmod 64 = p % 64 := Int.tmod_eq_emod_of_nonneg (by omega)
    go_enter Try.func50, Try.ntmps50
    go_wp2_with fail
    go_ret
    exact ⟨by first | rfl | rw [e], rfl⟩
theorem givenAt_lt {k p : Nat} (h : SlOk B sl) (hk : k = p % 64) {s : Sg} (hs : sl[k]? = some s) : (p / 64 < givenAt sl k ↔ p ≤ s.pid) ∧ (p / 64 + 1 = givenAt sl k ↔ p = s.pid) := by
  have hm := h.at_ k s hs
  unfold givenAt
  rw [hs]
  simp only []
  omega
set_option maxRecDepth 100000 in
set_option maxHeartbeats 4000000 in
theorem xkind_any (h : RT w b g1 g2 v size sl ns) (hok : SlOk B sl) (hB : B ≤ 2305843009213693952) (hfit : sl.length ≤ size) (hs64 : size ≤ 64) (p : Int) (hp2 : p ≤ 9223372036854775807) :
    Calls Try.prog 49 #[.pointer (some ⟨b, 0, none⟩), .int .i64 p] w fun e w' => e = .returned (.int .i64 (kindAt sl p)) ∧ w = w' := by
  obtain ⟨c0, c1, c2, -, -⟩ := h.facts
  by_cases hp : p < 0
  · rw [kindAt_neg sl hp]
    clear h c1 c2
    go_enter Try.func49, Try.ntmps49
    go_wp2_with fail
    go_ret
    exact ⟨rfl, rfl⟩
  · obtain ⟨P, rfl⟩ : ∃ P : Nat, p = P := ⟨p.toNat, by omega⟩
    obtain ⟨k, hk⟩ : ∃ k, P % 64 = k := ⟨_, rfl⟩
    obtain ⟨q, hq⟩ : ∃ q, P / 64 = q := ⟨_, rfl⟩
    have e1 : (P : Int).tmod 64 = (k : Nat) := by rw [Int.tmod_eq_emod_of_nonneg (by omega)]; omega
    have e1b : (P : Int) % 64 = (k : Nat) := by omega
    have e2 : (P : Int).tdiv 64 = (q : Nat) := by rw [Int.tdiv_eq_ediv_of_nonneg (by omega)]; omega
    have e2b : (P : Int) / 64 = (q : Nat) := by omega
    have e3 : slotAt (P : Int) = (k : Nat) := by rw [slotAt_nat, hk]
    by_cases hl : size ≤ k
    · rw [kindAt_out sl (by rw [e3]; omega)]
      have hl2 : (size : Int) ≤ k := by omega
      clear h c1 c2 hk hq e3
      go_enter Try.func49, Try.ntmps49
      go_wp2_with fail
      go_ret
      exact ⟨rfl, rfl⟩
    · have hlt : k < size := by omega
      have hl2 : ¬ (size : Int) ≤ k := by omega
      have hli : (k : Int) < size := by omega
      have dg := h.gcell hlt
      have d_o := h.ocell hlt
      have hkind : kindAt sl (P : Int) = if givenAt sl k ≤ q then 3 else if q + 1 ≠ givenAt sl k ∨ onAt sl k = false then 4 else 0 := by
        cases hs : sl[k]? with
        | none =>
          have h1 := List.getElem?_eq_none_iff.1 hs
          rw [kindAt_out sl (by rw [e3]; omega)]
          unfold givenAt
          rw [hs, if_pos (Nat.zero_le _)]
        | some s =>
          obtain ⟨f1, f2⟩ := givenAt_lt hok hk.symm hs
          rw [kindAt_in hp (by rw [e3]; exact hs)]
          rw [hq] at f1 f2
          have ho : onAt sl k = s.on := by unfold onAt; rw [hs]
          have f3 : givenAt sl k ≤ q ↔ s.pid < P := by rw [← Nat.not_lt, f1, Nat.not_le]
          by_cases g1' : (s.pid : Int) < P
          · rw [if_pos g1', if_pos (f3.2 (by omega))]
          · rw [if_neg g1', if_neg (show ¬ givenAt sl k ≤ q from fun e => g1' (by have := f3.1 e; omega))]
            by_cases g2' : (P : Int) < s.pid ∨ s.on = false
            · rw [if_pos g2', if_pos]
              rw [ho]
              rcases g2' with e | e
              · exact .inl (fun e2 => by have := f2.1 e2; omega)
              · exact .inr e
            · rw [if_neg g2', if_neg]
              rw [ho]
              rintro (e | e)
              · exact e (f2.2 (by
                  have : ¬ (P : Int) < s.pid := fun e2 => g2' (.inl e2)
                  omega))
              · exact g2' (.inr e)
      have hgB : givenAt sl k ≤ 2305843009213693953 := by
        unfold givenAt
        cases hs : sl[k]? with
        | none => exact Nat.zero_le _
        | some s => have := hok.le s (List.mem_of_getElem? hs); simp only []; omega
      rw [hkind]
      obtain ⟨gv, hgv⟩ : ∃ gv, givenAt sl k = gv := ⟨_, rfl⟩
      obtain ⟨ov, hov⟩ : ∃ ov, onAt sl k = ov := ⟨_, rfl⟩
      rw [hgv] at dg hgB ⊢
      rw [hov] at d_o ⊢
      clear h hk hq e3 hkind hgv hov hok
      by_cases h1 : gv ≤ q
      · rw [if_pos h1]
        have h1i : (gv : Int) ≤ q := by omega
        go_enter Try.func49, Try.ntmps49
        go_wp2_with fail
        go_ret
        exact ⟨rfl, rfl⟩
      · rw [if_neg h1]
        have h1i : ¬ (gv : Int) ≤ q := by omega
        have hgi : (gv : Int) ≤ 2305843009213693953 := by omega
        by_cases h2 : q + 1 = gv
        · have h2b : ((q : Int) == (gv : Int) - 1) = true := by rw [beq_iff_eq]; omega
          have h2c : (q : Int) = (gv : Int) - 1 := by omega
          cases ov with
          | false =>
            rw [if_pos (.inr rfl)]
            clear h2
            go_enter Try.func49, Try.ntmps49
            go_wp2_with fail
            go_ret
            exact ⟨rfl, rfl⟩
          | true =>
            rw [if_neg (by rintro (e | e); exact e h2; cases e)]
            clear h2
            go_enter Try.func49, Try.ntmps49
            go_wp2_with fail
            go_ret
            exact ⟨rfl, rfl⟩
        · rw [if_pos (.inl h2)]
          have h2b : ((q : Int) == (gv : Int) - 1) = false := by rw [beq_eq_false_iff_ne]; omega
          have h2c : ¬ (q : Int) = (gv : Int) - 1 := by omega
          clear h2
          go_enter Try.func49, Try.ntmps49
          go_wp2_with fail
          go_ret
          exact ⟨rfl, rfl⟩
end
end Go.Proofs.Ytdcmdidikengbaa
