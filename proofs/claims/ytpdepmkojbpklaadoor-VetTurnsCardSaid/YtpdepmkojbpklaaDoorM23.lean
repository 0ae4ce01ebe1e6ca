/- Functions in a row of one's own, their instructions in rows of their own. -/
import Derived.Test.YtpdepmkojbpklaaDoorM22
/- Functions in a row of one's own, their instructions in rows of their own. -/
namespace Go.Proofs.YtpdepmkojbpklaaDoor
open Go.RowKit

theorem Tryd.vinfoFunc : (Tryd.prog.info? 32).map (fun i => (i.zero, i.size, i.bytes)) = some (some (.agg #[.string ByteArray.empty, .int .i64 0, .int .i64 0, .slice none 0 0]), 4, 56) := by kernel_rfl
def fnCells (l : List Fn4) (cl : List Value) : List Value := (l.zip cl).flatMap fun x => [.string x.1.name, .int .i64 x.1.args, .int .i64 x.1.slots, x.2]
theorem fnCells_len {l : List Fn4} : ∀ {cl : List Value}, cl.length = l.length → (fnCells l cl).length = l.length * 4 := by
  induction l with
  | nil => intro cl h; rfl
  | cons f l ih =>
    intro cl h
    cases cl with
    | nil => cases h
    | cons u cl =>
      have := ih (cl := cl) (by simpa using h)
      simp only [fnCells, List.zip_cons_cons, List.flatMap_cons, List.length_append, List.length_cons, List.length_nil] at this ⊢
      omega
theorem fnCells_at {l : List Fn4} : ∀ {cl : List Value} {i k : Nat} {f : Fn4} {u : Value}, l[i]? = some f → cl[i]? = some u → k < 4 → (fnCells l cl)[i * 4 + k]? = [Value.string f.name, .int .i64 f.args, .int .i64 f.slots, u][k]? := by
  induction l with
  | nil => intro cl i k f u h; simp at h
  | cons g l ih =>
    intro cl i k f u hf hu hk
    cases cl with
    | nil => simp at hu
    | cons v cl =>
      have e5 : fnCells (g :: l) (v :: cl) = [Value.string g.name, .int .i64 g.args, .int .i64 g.slots, v] ++ fnCells l cl := rfl
      cases i with
      | zero =>
        obtain rfl : g = f := by simpa using hf
        obtain rfl : v = u := by simpa using hu
        rw [e5, Nat.zero_mul, Nat.zero_add, List.getElem?_append_left (by simpa using hk)]
      | succ i =>
        have h4 := ih (cl := cl) (i := i) (k := k) (by simpa using hf) (by simpa using hu) hk
        have e6 : (i + 1) * 4 + k - [Value.string g.name, .int .i64 g.args, .int .i64 g.slots, v].length = i * 4 + k := by
          simp only [List.length_cons, List.length_nil]; omega
        rw [e5, List.getElem?_append_right (by simp only [List.length_cons, List.length_nil]; omega), e6, h4]
def fnWf (f : Fn4) : Prop := isI64 f.args ∧ isI64 f.slots ∧ f.name.size ≤ maxLen ∧ f.code.length * 32 ≤ 140737488351232 ∧ ∀ x ∈ f.code, x.wf
structure FOwn (W0 : Nat) (w : World) (v : Value) (l : List Fn4) (cl : List Value) : Prop where
  clen : cl.length = l.length
  frow : w.ownsRow W0 32 4 v l.length (fnCells l cl)
  crow : ∀ (i : Nat) (f : Fn4) (u : Value), l[i]? = some f → cl[i]? = some u → (∃ p c, u = .slice p f.code.length c) ∧ w.ownsRow W0 29 4 u f.code.length (vinsCells f.code)
  capart : ∀ (i j : Nat) (u u' : Value) (g : Nat), cl[i]? = some u → cl[j]? = some u' → i ≠ j → u.ownBlock = some g → u'.ownBlock ≠ some g
  coff : ∀ (i : Nat) (u : Value) (g : Nat), cl[i]? = some u → u.ownBlock = some g → v.ownBlock ≠ some g
  fwf : ∀ f ∈ l, fnWf f
theorem FOwn.nil (W0 : Nat) (w : World) : FOwn W0 w (.slice none 0 0) [] [] :=
  ⟨rfl, World.ownsRow_nil _ _ _ _, fun i f u h => by simp at h, fun i j u u' g h => by simp at h, fun i u g h => by simp at h, fun f h => by simp at h⟩
theorem FOwn.kpB {W0 : Nat} {w w' : World} {v : Value} {l : List Fn4} {cl : List Value} (h : FOwn W0 w v l cl) {F : Nat → Prop} (hk : Kp F w w') (hF : ∀ q, F q → q < W0) : FOwn W0 w' v l cl :=
  ⟨h.clen, hk.row h.frow (fun g e e2 => by have := (h.frow.lt g e).1; have := hF g e2; omega), fun i f u hf hu => ⟨(h.crow i f u hf hu).1, hk.row (h.crow i f u hf hu).2 (fun g e e2 => by have := ((h.crow i f u hf hu).2.lt g e).1; have := hF g e2; omega)⟩, h.capart, h.coff, h.fwf⟩
theorem FOwn.blk {W0 : Nat} {w : World} {v : Value} {l : List Fn4} {cl : List Value} (h : FOwn W0 w v l cl) {i : Nat} {u : Value} {g : Nat} (hu : cl[i]? = some u) (hg : u.ownBlock = some g) : W0 ≤ g ∧ g < w.heap.size := by
  have hi : i < l.length := by have := (List.getElem?_eq_some_iff.1 hu).1; have := h.clen; omega
  exact (h.crow i l[i] u (List.getElem?_eq_getElem hi) hu).2.lt g hg
/-- one more -/
theorem FOwn.push {W0 : Nat} {w : World} {v : Value} {l : List Fn4} {cl : List Value} (h : FOwn W0 w v l cl) (hW : W0 ≤ w.heap.size) {f : Fn4} (hf : fnWf f) (hl : (l.length + 1) * 56 ≤ 140737488351232) {p : Option Addr} {c : Nat}
    (hc : w.ownsRow W0 29 4 (.slice p f.code.length c) f.code.length (vinsCells f.code)) (hn : ∀ g, (Value.slice p f.code.length c).ownBlock = some g → v.ownBlock ≠ some g ∧ ∀ (i : Nat) (u : Value), cl[i]? = some u → u.ownBlock ≠ some g) :
    ∃ g cap w', (Builtin.append_ #[24, 24] 24 #[v, .slice (some ⟨w.heap.size, 0, none⟩) 1 1]).run Tryd.prog (w.alloc (.cells #[.string f.name, .int .i64 f.args, .int .i64 f.slots, .slice p f.code.length c] 32)) = .ok (.slice (some ⟨g, 0, none⟩) (l.length + 1) cap) w' ∧
      FOwn W0 w' (.slice (some ⟨g, 0, none⟩) (l.length + 1) cap) (l ++ [f]) (cl ++ [.slice p f.code.length c]) ∧ Kp (fun q => v.ownBlock = some q) w w' ∧ (v.ownBlock = some g ∨ w.heap.size ≤ g) := by
  obtain ⟨i0, hi, hz0, hz1, hz2⟩ := info_parts Tryd.vinfoFunc
  have hka : Kp (fun _ => False) w (w.alloc (.cells #[.string f.name, .int .i64 f.args, .int .i64 f.slots, .slice p f.code.length c] 32)) := (Kp.refl _ w).alloc _
  obtain ⟨g, cap, w', h1, h2, h3, h4, h5⟩ := run_append_lies (P := Tryd.prog) _ 24 24 W0 32 i0 (.agg #[.string ByteArray.empty, .int .i64 0, .int .i64 0, .slice none 0 0]) 4 56 Tryd.underlying24 hi hz0 hz1 hz2 rfl (by omega) v l.length _ (hka.row h.frow (fun _ _ e => e)) ⟨w.heap.size, 0, none⟩ 1 1 [.string f.name, .int .i64 f.args, .int .i64 f.slots, .slice p f.code.length c] rfl
    (World.news_of_block (cs := #[.string f.name, .int .i64 f.args, .int .i64 f.slots, .slice p f.code.length c]) (heap_alloc_new w _)) (by intro u hu; simp at hu; rcases hu with rfl | rfl | rfl | rfl <;> rfl) (by omega) (by unfold maxLen; omega) (by omega) (by simp; omega) (w.heap.size + 1) (by simp)
  have hk' : Kp (fun q => v.ownBlock = some q) w w' := ((Kp.refl _ w).alloc _).grown h3 (fun q hq => .inl hq)
  have h4' : v.ownBlock = some g ∨ w.heap.size ≤ g := h4.imp id (fun e => by omega)
  refine ⟨g, cap, w', h1, ⟨by simp [h.clen], ?_, fun i k u hk hu => ?_, fun i j u u' q hu hu' hij hq hq' => ?_, fun i u q hu hq hq' => ?_, fun k hk => ?_⟩, hk', h4'⟩
  · rw [show (l ++ [f]).length = l.length + 1 from by simp]
    rw [show fnCells (l ++ [f]) (cl ++ [.slice p f.code.length c]) = fnCells l cl ++ [.string f.name, .int .i64 f.args, .int .i64 f.slots, .slice p f.code.length c] by unfold fnCells; rw [List.zip_append h.clen.symm, List.flatMap_append]; rfl]
    exact h2
  · by_cases hil : i < l.length
    · rw [List.getElem?_append_left hil] at hk
      rw [List.getElem?_append_left (by rw [h.clen]; exact hil)] at hu
      exact ⟨(h.crow i k u hk hu).1, hk'.row (h.crow i k u hk hu).2 fun q e e2 => h.coff i u q hu e e2⟩
    · rw [List.getElem?_append_right (by omega)] at hk
      rw [List.getElem?_append_right (by rw [h.clen]; omega), h.clen] at hu
      cases hd : i - l.length with
      | zero =>
        rw [hd] at hk hu
        obtain rfl := Option.some.inj hk
        obtain rfl := Option.some.inj hu
        exact ⟨⟨p, c, rfl⟩, hk'.row hc fun q e e2 => (hn q e).1 e2⟩
      | succ m => rw [hd] at hk; simp at hk
  · have key : ∀ (i : Nat) (u : Value), (cl ++ [Value.slice p f.code.length c])[i]? = some u → (i < cl.length ∧ cl[i]? = some u) ∨ (i = cl.length ∧ u = .slice p f.code.length c) := fun i u e => by
      by_cases hil : i < cl.length
      · rw [List.getElem?_append_left hil] at e; exact .inl ⟨hil, e⟩
      · rw [List.getElem?_append_right (by omega)] at e
        cases hd : i - cl.length with
        | zero => rw [hd] at e; exact .inr ⟨by omega, (Option.some.inj e).symm⟩
        | succ m => rw [hd] at e; simp at e
    rcases key i u hu with ⟨-, e1⟩ | ⟨e1, rfl⟩
    · rcases key j u' hu' with ⟨-, e2⟩ | ⟨e2, rfl⟩
      · exact h.capart i j u u' q e1 e2 hij hq hq'
      · exact (hn q hq').2 i u e1 hq
    · rcases key j u' hu' with ⟨-, e2⟩ | ⟨e2, rfl⟩
      · exact (hn q hq).2 j u' e2 hq'
      · omega
  · have hq2 := Option.some.inj hq'
    simp only at hq2
    subst hq2
    by_cases hil : i < cl.length
    · rw [List.getElem?_append_left hil] at hu
      rcases h4' with e | e
      · exact h.coff i u g hu hq e
      · have := (h.blk hu hq).2; omega
    · rw [List.getElem?_append_right (by omega)] at hu
      cases hd : i - cl.length with
      | zero =>
        rw [hd] at hu
        obtain rfl := Option.some.inj hu
        rcases h4' with e | e
        · exact (hn g hq).1 e
        · have := (hc.lt g hq).2; omega
      | succ m => rw [hd] at hu; simp at hu
  · rcases List.mem_append.1 hk with e | e
    · exact h.fwf k e
    · rw [List.mem_singleton] at e; subst e; exact hf
/-- as others see it -/
theorem FOwn.fns {W0 : Nat} {w : World} {po : Option Addr} {n c : Nat} {l : List Fn4} {cl : List Value} (h : FOwn W0 w (.slice po n c) l cl) (hl : l.length * 56 ≤ 140737488351232) : FnsAt (fun q => q < w.heap.size) w l (.slice po n c) := by
  have hrow := h.frow
  rcases h.frow.2 with ⟨e, h0⟩ | ⟨g, cap, cur, e, hb, hg, hn, _⟩
  · obtain rfl := List.eq_nil_of_length_eq_zero h0
    exact ⟨none, 0, by rw [e]; rfl, by simp, by simp, fun i x hi => by simp at hi⟩
  · rw [e] at hrow
    refine ⟨some ⟨g, 0, none⟩, cap, e, hn, hl, fun i f hi => ?_⟩
    have hlt := (List.getElem?_eq_some_iff.1 hi).1
    obtain ⟨u, hu⟩ : ∃ u, cl[i]? = some u := ⟨cl[i]'(by rw [h.clen]; exact hlt), List.getElem?_eq_getElem _⟩
    have hc : ∀ k u', k < 4 → [Value.string f.name, .int .i64 f.args, .int .i64 f.slots, u][k]? = some u' → w.cell? ⟨g, 0 + i * 4 + k, none⟩ = some u' := fun k u' hk e2 => by
      rw [Nat.zero_add, hrow.cellAt _ (by omega), fnCells_at hi hu hk]; exact e2
    obtain ⟨w1, w2, w3, w4, w5⟩ := h.fwf f (List.mem_of_getElem? hi)
    exact ⟨g, 0, _, _, _, _, rfl, (Array.getElem?_eq_some_iff.1 hg).1, hc 0 _ (by omega) rfl, hc 1 _ (by omega) rfl, hc 2 _ (by omega) rfl, hc 3 _ (by omega) rfl, _, rfl, w1, w2, w3, (vinsCells_at (h.crow i f u hi hu).2 w4 w5).imp (fun q e => e.2) (fun _ _ _ _ e => e)⟩
end Go.Proofs.YtpdepmkojbpklaaDoor
