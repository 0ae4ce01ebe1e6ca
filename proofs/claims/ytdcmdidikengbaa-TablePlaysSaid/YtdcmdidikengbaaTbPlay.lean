/- What a script of calls holds of both tables. -/
import Derived.Test.YtdcmdidikengbaaTbSim
namespace Go.Proofs.Ytdcmdidikengbaa
open Go.RowKit
set_option linter.unusedVariables false

theorem place_huge (w : World) (v n : Int) (_h1 : -9223372036854775808 ≤ v) (_h2 : v ≤ 9223372036854775807) (hn : 0 < n) (hn2 : n ≤ 8796093022208) :
    Calls Try.prog 10 #[.int .i64 v, .int .i64 n] w fun e w' => e = .returned (.int .i64 (v % n)) ∧ w = w' := by
  have HE := Lib.hid (place_emod v n hn)
  have h3 := Int.lt_tmod_of_pos v hn
  have h4 := Int.tmod_lt_of_pos v hn
  by_cases hneg : v.tmod n < 0
  · go_enter Try.func10, Try.ntmps10
    go_wp2_with fail
    go_ret
    exact ⟨by rw [HE.out.1 hneg]; rfl, rfl⟩
  · go_enter Try.func10, Try.ntmps10
    go_wp2_with fail
    go_ret
    exact ⟨by rw [HE.out.2 (by omega)]; rfl, rfl⟩
theorem addPid_le {B : Nat} {sl : List Sg} (h : SlOk B sl) (hl : sl.length ≤ 64) : addPid sl ≤ B + 64 := by
  unfold addPid
  have hf := freeAt_le sl
  cases hs : sl[freeAt sl]? with
  | some s => have := h.le s (List.mem_of_getElem? hs); simp; omega
  | none => simp; omega
theorem top_cells {w : World} {X : Nat} {k pl n : Int} {raw : Bool} {s : ByteArray} {T : TypeId} (h : w.heap[X]? = some (.cells #[.int .i64 k, .int .i64 pl, .bool raw, .int .i64 n, .string s] T (0, 0))) :
    w.cell? ⟨X, 0, none⟩ = some (.int .i64 k) ∧ w.cell? ⟨X, 1, none⟩ = some (.int .i64 pl) ∧ w.cell? ⟨X, 2, none⟩ = some (.bool raw) ∧ w.cell? ⟨X, 3, none⟩ = some (.int .i64 n) ∧ w.cell? ⟨X, 4, none⟩ = some (.string s) := by
  refine ⟨?_, ?_, ?_, ?_, ?_⟩ <;> (rw [cell_of_row w X _ _ _ _ h]; rfl)
/-- both tables with the same slots and names, and the numbers given so far, beside the blocks E -/
def Pl (w0 : World) (E : Nat → Prop) (w : World) (b1 b2 size i : Nat) (lv : Value) (l : List Int) (B : Nat) (sl : List Sg) (ns : List Nm) : Prop :=
  B ≤ 64 * i ∧ l.length ≤ i ∧ PT w0 (fun q => lv.ownBlock = some q ∨ E q) w b1 b2 size B sl ns sl ns ∧ Lw w lv l ∧ (∀ g, lv.ownBlock = some g → w0.heap.size ≤ g ∧ ¬ E g) ∧ ∀ x ∈ l, 0 ≤ x ∧ x ≤ 64 * i
def noE : Nat → Prop := fun _ => False
section
variable {w0 w w' : World} {E E' : Nat → Prop} {b1 b2 size i B : Nat} {lv : Value} {l : List Int} {sl sl' : List Sg} {ns ns' : List Nm} {p : Int} {s : ByteArray}
theorem Pl.put (h : Pl w0 E w b1 b2 size i lv l B sl ns) (hk : Kp (fun _ => False) w w') (hE : ∀ q, E' q → E q ∨ (w.heap.size ≤ q ∧ q < w'.heap.size)) : Pl w0 E' w' b1 b2 size i lv l B sl ns := by
  obtain ⟨h1, h2, h3, h4, h5, h6⟩ := h
  refine ⟨h1, h2, h3.put hk (fun q hq => ?_), h4.same hk, fun g hg => ⟨(h5 g hg).1, fun e => ?_⟩, h6⟩
  · rcases hq with hq | hq
    · exact .inl (.inl hq)
    · exact (hE q hq).imp .inr (fun e => e)
  · have := h4.lt g hg
    rcases hE g e with e2 | e2
    · exact (h5 g hg).2 e2
    · omega
theorem Pl.same (h : Pl w0 E w b1 b2 size i lv l B sl ns) (hk : Kp (fun _ => False) w w') : Pl w0 E w' b1 b2 size i lv l B sl ns := h.put hk (fun _ e => .inl e)
theorem Pl.le {j : Nat} (h : Pl w0 E w b1 b2 size i lv l B sl ns) (hj : i ≤ j) : Pl w0 E w b1 b2 size j lv l B sl ns := by
  obtain ⟨h1, h2, h3, h4, h5, h6⟩ := h
  exact ⟨by omega, by omega, h3, h4, h5, fun x hx => ⟨(h6 x hx).1, by have := (h6 x hx).2; omega⟩⟩
theorem pl_new {wa wb : World} {g1 g2 : Nat} (h1 : TS w0 noC wa b1 size 0 [] []) (hk : Kp (fun _ => False) wa wb) (h2 : RT wb b2 g1 g2 (.slice none 0 0) size [] []) (z1 : wa.heap.size ≤ b2) (z2 : wa.heap.size ≤ g1) (z3 : wa.heap.size ≤ g2) :
    Pl w0 noE wb b1 b2 size 0 (.slice none 0 0) [] 0 [] [] := by
  have hz := h1.kp0.size
  obtain ⟨l1, l2, l3, l4⟩ := h2.lt
  refine ⟨Nat.le_refl _, Nat.le_refl _, ⟨g1, g2, _, h1.put hk (fun q hq => ?_), h2, fun q hq => ?_⟩, Lw.nil _, fun g hg => (by cases hg), fun x hx => (by cases hx)⟩
  · rcases hq with (hq | hq) | rfl | rfl | rfl | hq
    · cases hq
    · exact hq.elim
    · exact .inr ⟨z1, l1⟩
    · exact .inr ⟨z2, l2⟩
    · exact .inr ⟨z3, l3⟩
    · cases hq
  · refine ⟨?_, fun e => e.elim (fun e => by cases e) (fun e => e)⟩
    rcases hq with rfl | rfl | rfl | hq
    · omega
    · omega
    · omega
    · cases hq
theorem dropTx_len (h : ns.length ≤ 64) : (dropTx sl ns p).length ≤ 4096 := by
  unfold dropTx
  split
  · have : (txts (ofPid ns p.toNat)).length ≤ ns.length := by
      unfold txts ofPid
      rw [List.length_map]
      exact List.length_filter_le _ _
    omega
  · simp
/-- the tables are turned, both alike -/
theorem Pl.step (h : Pl w0 E w b1 b2 size i lv l B sl ns) (hp : PT w0 (fun q => lv.ownBlock = some q ∨ E q) w' b1 b2 size B sl' ns' sl' ns') (hk : Kp (fun q => ¬ (lv.ownBlock = some q ∨ E q)) w w') : Pl w0 E w' b1 b2 size i lv l B sl' ns' := by
  obtain ⟨h1, h2, h3, h4, h5, h6⟩ := h
  exact ⟨h1, h2, hp, h4.kp hk (fun g hg e => e (.inl hg)), h5, h6⟩
/-- a number more -/
theorem pl_push (h : Pl w0 E w b1 b2 size i lv l B sl ns) (hp : PT w0 (fun q => lv.ownBlock = some q ∨ E q) w' b1 b2 size (B + 64) sl' ns sl' ns) (hk : Kp (fun q => ¬ (lv.ownBlock = some q ∨ E q)) w w') (hi : i ≤ 4398046511104) (x : Nat) (hx : x ≤ B + 64) :
    ∃ lv' w2, (Builtin.append_ #[50, 50] 50 #[lv, .slice (some ⟨w'.heap.size, 0, none⟩) 1 1]).run Try.prog (w'.alloc (.cells #[.int .i64 (x : Nat)] 2)) = .ok lv' w2 ∧
      Pl w0 E w2 b1 b2 size (i + 1) lv' (l ++ [(x : Int)]) (B + 64) sl' ns := by
  obtain ⟨h1, h2, h3, h4, h5, h6⟩ := h
  have h4' := h4.kp hk (fun g hg e => e (.inl hg))
  have hz := hp.kp0.size
  obtain ⟨g, cap, w2, hr2, ho2, hk2, hg2, hl2⟩ := longs_push h4' (by omega) (x : Nat)
  have hz2 := hk2.size
  refine ⟨_, w2, hr2, by omega, by simp; omega, hp.turn hk2 (fun q hq => ⟨.inl hq, (h5 q hq).1⟩) (fun q hq => ?_), ?_, fun q hq => ?_, fun y hy => ?_⟩
  · rcases hq with hq | hq
    · have e : g = q := by injection hq
      subst e
      rcases hg2 with e | e
      · exact .inl (.inl e)
      · exact .inr ⟨e, hl2⟩
    · exact .inl (.inr hq)
  · exact ho2
  · have e : g = q := by injection hq
    subst e
    rcases hg2 with e | e
    · exact h5 g e
    · exact ⟨by omega, fun e2 => by have := hp.ltC g (.inr e2); omega⟩
  · rcases List.mem_append.1 hy with hy | hy
    · exact ⟨(h6 y hy).1, by have := (h6 y hy).2; omega⟩
    · obtain rfl : y = (x : Int) := by simpa using hy
      omega
end
end Go.Proofs.Ytdcmdidikengbaa
