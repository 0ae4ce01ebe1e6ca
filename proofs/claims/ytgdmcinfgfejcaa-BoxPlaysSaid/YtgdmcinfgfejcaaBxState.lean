/- A box by its messages; a box beside rows of words: what each call makes of them. -/
import Derived.Test.YtgdmcinfgfejcaaBxTake
namespace Go.Proofs.Ytgdmcinfgfejcaa
open Go.RowKit

/-- a box at block b, in the blocks F: so many words are gone, these messages are there, so far it has looked -/
def BxM (w : World) (b : Nat) (F : Nat → Prop) (gone : Nat) (ms : List Int) (p : Nat) : Prop :=
  ∃ v xs, BxL w b v xs gone p ∧ xs.drop gone = ms ∧ gone ≤ ms.length ∧ p ≤ ms.length ∧ (∀ q, BxF b v q → F q) ∧ ∀ q, F q → q < w.heap.size

section
variable {F G : Nat → Prop} {w w' : World} {b gone p : Nat} {ms ys : List Int}
theorem BxM.kp (h : BxM w b F gone ms p) (hk : Kp G w w') (hd : ∀ q, F q → ¬ G q) : BxM w' b F gone ms p := by
  obtain ⟨v, xs, h1, h2, h3, h4, h5, h6⟩ := h
  exact ⟨v, xs, h1.kp hk (hd b (h5 b (.inl rfl))) (fun g hg => hd g (h5 g (.inr hg))), h2, h3, h4, h5, fun q hq => Nat.lt_of_lt_of_le (h6 q hq) hk.size⟩
theorem BxM.same (h : BxM w b F gone ms p) (hk : Kp (fun _ => False) w w') : BxM w' b F gone ms p := h.kp hk (fun _ _ e => e)
theorem bxm_new (h : w.heap[b]? = some (.cells #[.slice none 0 0, .int .i64 0, .int .i64 0] 26 (0, 0))) : BxM w b (fun q => q = b) 0 [] 0 := by
  refine ⟨.slice none 0 0, [], ⟨h, Wr.nil w, Nat.zero_le _, by simp⟩, rfl, by simp, by simp, fun q hq => ?_, fun q hq => by rw [hq]; exact (Array.getElem?_eq_some_iff.1 h).1⟩
  rcases hq with hq | hq
  · exact hq
  · cases hq
theorem len_of_drop {xs ms : List Int} {gone : Nat} (h : xs.drop gone = ms) : xs.length - gone = ms.length := by rw [← h, List.length_drop]
theorem BxM.more (h : BxM w b F gone ms p) (hF : ∀ q, F q → G q) (hG : ∀ q, G q → q < w.heap.size) : BxM w b G gone ms p := by
  obtain ⟨v, xs, h1, h2, h3, h4, h5, h6⟩ := h
  exact ⟨v, xs, h1, h2, h3, h4, fun q hq => hF q (h5 q hq), hG⟩

theorem m_push (h : BxM w b F gone ms p) (x : Int) (hm : gone + ms.length + 1 ≤ 17592186044416) : Calls Try.prog 9 #[.pointer (some ⟨b, 0, none⟩), .int .u64 x] w fun e w' =>
    e = .returned (.tuple #[]) ∧ BxM w' b (Ext F w w') gone (ms ++ [x]) p ∧ Kp F w w' := by
  obtain ⟨v, xs, h1, h2, h3, h4, h5, h6⟩ := h
  have hl := len_of_drop h2
  have hg := h1.2.2.1
  refine (push_any h1 x (by omega)).mono ?_
  rintro e w' ⟨he, v', hb, hf, hk⟩
  have hkF : Kp F w w' := hk.mono fun q _ hq => h5 q hq
  refine ⟨he, ⟨v', _, hb, ?_, by simp; omega, by simp; omega, fun q hq => ?_, fun q hq => ?_⟩, hkF⟩
  · rw [List.drop_append_of_le_length hg, h2]
  · rcases hq with hq | hq
    · exact .inl (h5 q (.inl hq))
    · rcases hf q hq with e | e
      · exact .inl (h5 q (.inr e))
      · exact .inr ⟨e, hb.2.1.lt q hq⟩
  · rcases hq with hq | hq
    · exact Nat.lt_of_lt_of_le (h6 q hq) hkF.size
    · exact hq.2
theorem m_peek_some (h : BxM w b F gone ms p) {x : Int} (hx : ms[p]? = some x) : Calls Try.prog 10 #[.pointer (some ⟨b, 0, none⟩)] w fun e w' => e = .returned (.tuple #[.int .u64 x, .bool true]) ∧ ∃ m, w' = w.drewN m := by
  obtain ⟨v, xs, h1, h2, h3, h4, h5, h6⟩ := h
  exact peek_some h1 (by rw [← h2, List.getElem?_drop] at hx; exact hx)
theorem m_peek_none (h : BxM w b F gone ms p) (hx : ms.length ≤ p) : Calls Try.prog 10 #[.pointer (some ⟨b, 0, none⟩)] w fun e w' => e = .returned (.tuple #[.int .u64 0, .bool false]) ∧ ∃ m, w' = w.drewN m := by
  obtain ⟨v, xs, h1, h2, h3, h4, h5, h6⟩ := h
  have hl := len_of_drop h2
  exact peek_none h1 (by omega)
theorem m_next (h : BxM w b F gone ms p) (p' : Nat) (hp : p' = if p < ms.length then p + 1 else p) : Calls Try.prog 11 #[.pointer (some ⟨b, 0, none⟩)] w fun e w' => e = .returned (.bool (decide (p' < ms.length))) ∧ BxM w' b F gone ms p' ∧ Kp F w w' := by
  obtain ⟨v, xs, h1, h2, h3, h4, h5, h6⟩ := h
  have hl := len_of_drop h2
  have hn := next_any h1 (by omega) p' (by rw [hl]; exact hp)
  rw [hl] at hn
  refine hn.mono ?_
  rintro e w' ⟨he, hb, hk⟩
  have hkF : Kp F w w' := hk.mono fun q _ hq => h5 q (.inl hq)
  refine ⟨he, ⟨v, xs, hb, h2, h3, ?_, h5, fun q hq => Nat.lt_of_lt_of_le (h6 q hq) hkF.size⟩, hkF⟩
  rw [hp]; split <;> omega
theorem m_first (h : BxM w b F gone ms p) : Calls Try.prog 13 #[.pointer (some ⟨b, 0, none⟩)] w fun e w' => e = .returned (.tuple #[]) ∧ BxM w' b F gone ms 0 ∧ Kp F w w' := by
  obtain ⟨v, xs, h1, h2, h3, h4, h5, h6⟩ := h
  refine (first_any h1).mono ?_
  rintro e w' ⟨he, hb, hk⟩
  have hkF : Kp F w w' := hk.mono fun q _ hq => h5 q (.inl hq)
  exact ⟨he, ⟨v, xs, hb, h2, h3, Nat.zero_le _, h5, fun q hq => Nat.lt_of_lt_of_le (h6 q hq) hkF.size⟩, hkF⟩
theorem m_len (h : BxM w b F gone ms p) : Calls Try.prog 16 #[.pointer (some ⟨b, 0, none⟩)] w fun e w' => e = .returned (.int .i64 (ms.length : Nat)) ∧ ∃ m, w' = w.drewN m := by
  obtain ⟨v, xs, h1, h2, h3, h4, h5, h6⟩ := h
  have := len_q h1
  rw [len_of_drop h2] at this
  exact this
theorem m_at (h : BxM w b F gone ms p) : Calls Try.prog 17 #[.pointer (some ⟨b, 0, none⟩)] w fun e w' => e = .returned (.int .i64 p) ∧ ∃ m, w' = w.drewN m := by
  obtain ⟨v, xs, h1, h2, h3, h4, h5, h6⟩ := h
  exact at_q h1
theorem m_words (h : BxM w b F gone ms p) : Calls Try.prog 19 #[.pointer (some ⟨b, 0, none⟩)] w fun e w' => ∃ v', e = .returned v' ∧ Wr w' v' ms ∧ (∀ g, v'.ownBlock = some g → w.heap.size ≤ g) ∧ Kp (fun _ => False) w w' := by
  obtain ⟨v, xs, h1, h2, h3, h4, h5, h6⟩ := h
  refine (words_any h1).mono ?_
  rintro e w' ⟨v', he, ho, hf, -, hk⟩
  rw [h2] at ho
  exact ⟨v', he, ho, hf, hk⟩
theorem m_swap_ok (h : BxM w b F gone ms p) {u : Value} (hu : Rd w u ys) (hl : ys.length = ms.length) : Calls Try.prog 15 #[.pointer (some ⟨b, 0, none⟩), u] w fun e w' => e = .returned (.bool true) ∧ BxM w' b F gone ys p ∧ Kp F w w' := by
  obtain ⟨v, xs, h1, h2, h3, h4, h5, h6⟩ := h
  have hd := len_of_drop h2
  have hg := h1.2.2.1
  refine (swap_ok h1 hu (by omega)).mono ?_
  rintro e w' ⟨he, hb, hk⟩
  have hkF : Kp F w w' := hk.mono fun q _ hq => h5 q (.inr hq)
  refine ⟨he, ⟨v, _, hb, ?_, by omega, by omega, h5, fun q hq => Nat.lt_of_lt_of_le (h6 q hq) hkF.size⟩, hkF⟩
  unfold splice
  have h7 : (xs.take gone).length = gone := by simp; omega
  rw [List.drop_append, h7, Nat.sub_self, List.drop_zero, List.drop_eq_nil_of_le (Nat.le_of_eq h7), List.nil_append, List.drop_eq_nil_of_le (by omega), List.append_nil]
theorem m_swap_bad (h : BxM w b F gone ms p) {u : Value} (hu : Rd w u ys) (hl : ys.length ≠ ms.length) : Calls Try.prog 15 #[.pointer (some ⟨b, 0, none⟩), u] w fun e w' => e = .returned (.bool false) ∧ ∃ m, w' = w.drewN m := by
  obtain ⟨v, xs, h1, h2, h3, h4, h5, h6⟩ := h
  have hd := len_of_drop h2
  exact swap_bad h1 hu (by omega)
theorem m_take_some (h : BxM w b F gone ms p) {x : Int} (hx : ms[p]? = some x) : Calls Try.prog 12 #[.pointer (some ⟨b, 0, none⟩)] w fun e w' =>
    e = .returned (.tuple #[.int .u64 x, .bool true]) ∧ ∃ gone', BxM w' b (Ext F w w') gone' (ms.eraseIdx p) 0 ∧ Kp F w w' := by
  obtain ⟨v, xs, h1, h2, h3, h4, h5, h6⟩ := h
  refine (take_some h1 (by rw [← h2, List.getElem?_drop] at hx; exact hx)).mono ?_
  rintro e w' ⟨he, v', xs', gone', hb, hd, hg, hf, hk⟩
  have hkF : Kp F w w' := hk.mono fun q _ hq => h5 q hq
  rw [h2] at hd
  have hl := len_of_drop hd
  refine ⟨he, gone', ⟨v', xs', hb, hd, by omega, Nat.zero_le _, fun q hq => ?_, fun q hq => ?_⟩, hkF⟩
  · rcases hq with hq | hq
    · exact .inl (h5 q (.inl hq))
    · rcases hf q hq with e | e
      · exact .inl (h5 q (.inr e))
      · exact .inr ⟨e, hb.2.1.lt q hq⟩
  · rcases hq with hq | hq
    · exact Nat.lt_of_lt_of_le (h6 q hq) hkF.size
    · exact hq.2
theorem m_take_none (h : BxM w b F gone ms p) (hx : ms.length ≤ p) : Calls Try.prog 12 #[.pointer (some ⟨b, 0, none⟩)] w fun e w' => e = .returned (.tuple #[.int .u64 0, .bool false]) ∧ ∃ m, w' = w.drewN m := by
  obtain ⟨v, xs, h1, h2, h3, h4, h5, h6⟩ := h
  have hl := len_of_drop h2
  exact take_none h1 (by omega)
theorem BxM.at_le (h : BxM w b F gone ms p) : p ≤ ms.length ∧ gone ≤ ms.length := by
  obtain ⟨v, xs, h1, h2, h3, h4, h5, h6⟩ := h
  exact ⟨h4, h3⟩
end

/-- a box beside n rows of words, all of them newer than w0 -/
structure BsA (A : Nat → Prop) (w0 w : World) (b gone : Nat) (ms : List Int) (p n : Nat) (sl : Nat → Value) (rows : Nat → List Int) : Prop where
  box : ∃ F, BxM w b F gone ms p ∧ (∀ q, F q → A q ∨ w0.heap.size ≤ q) ∧ ∀ k, k < n → ∀ g, (sl k).ownBlock = some g → ¬ F g
  own : ∀ k, k < n → Wr w (sl k) (rows k)
  new : ∀ k, k < n → ∀ g, (sl k).ownBlock = some g → A g ∨ w0.heap.size ≤ g
  apart : ∀ j k, j < n → k < n → ∀ g, (sl j).ownBlock = some g → (sl k).ownBlock = some g → j = k
  kp : Kp A w0 w
/-- .. and the box too -/
abbrev Bs := BsA (fun _ => False)

section
variable {A : Nat → Prop} {w0 w w' : World} {b gone p n : Nat} {ms ys : List Int} {sl : Nat → Value} {rows : Nat → List Int}
theorem BsA.at_le (h : BsA A w0 w b gone ms p n sl rows) : p ≤ ms.length ∧ gone ≤ ms.length := by
  obtain ⟨F, h1, -⟩ := h.box
  exact h1.at_le
theorem kp_new {A : Nat → Prop} {w0 w w' : World} {F : Nat → Prop} (h : Kp A w0 w) (hk : Kp F w w') (hF : ∀ q, F q → A q ∨ w0.heap.size ≤ q) : Kp A w0 w' :=
  h.trans (hk.mono fun q hq hf => (hF q hf).elim .inl (fun e => .inr ⟨e, hq⟩))
theorem BsA.same (h : BsA A w0 w b gone ms p n sl rows) (hk : Kp (fun _ => False) w w') : BsA A w0 w' b gone ms p n sl rows := by
  obtain ⟨F, h1, h2, h3⟩ := h.box
  exact ⟨⟨F, h1.same hk, h2, h3⟩, fun k hk' => (h.own k hk').same hk, h.new, h.apart, kp_new h.kp hk (fun _ e => e.elim)⟩
theorem BsA.drewN (h : BsA A w0 w b gone ms p n sl rows) (m : Nat) : BsA A w0 (w.drewN m) b gone ms p n sl rows := h.same (kp_drewN (Kp.refl _ w) m)
theorem Bs.below (h : Bs w0 w b gone ms p n sl rows) : Below w0.heap.size w0 w := h.kp.below _ (Nat.le_refl _) (fun _ e => e.elim)
/-- the box was turned -/
theorem BsA.boxed {gone' p' : Nat} {ms' : List Int} (h : BsA A w0 w b gone ms p n sl rows) {F : Nat → Prop} (h2 : ∀ q, F q → A q ∨ w0.heap.size ≤ q) (h3 : ∀ k, k < n → ∀ g, (sl k).ownBlock = some g → ¬ F g)
    (hb : BxM w' b (Ext F w w') gone' ms' p') (hk : Kp F w w') : BsA A w0 w' b gone' ms' p' n sl rows := by
  refine ⟨⟨_, hb, fun q hq => ?_, fun k hk' g hg hq => ?_⟩, fun k hk' => (h.own k hk').kp hk (h3 k hk'), h.new, h.apart, kp_new h.kp hk h2⟩
  · rcases hq with hq | hq
    · exact h2 q hq
    · exact .inr (Nat.le_trans h.kp.size hq.1)
  · rcases hq with hq | hq
    · exact h3 k hk' g hg hq
    · have := (h.own k hk').lt g hg
      omega
theorem BxM.ext {F : Nat → Prop} (h : BxM w' b F gone ms p) (w : World) : BxM w' b (Ext F w w') gone ms p := by
  have h0 := h
  obtain ⟨v, xs, h1, h2, h3, h4, h5, h6⟩ := h
  exact h0.more (fun q hq => .inl hq) (fun q hq => hq.elim (h6 q) (fun e => e.2))

theorem s_push (h : BsA A w0 w b gone ms p n sl rows) (x : Int) (hm : gone + ms.length + 1 ≤ 17592186044416) : Calls Try.prog 9 #[.pointer (some ⟨b, 0, none⟩), .int .u64 x] w fun e w' =>
    e = .returned (.tuple #[]) ∧ BsA A w0 w' b gone (ms ++ [x]) p n sl rows := by
  obtain ⟨F, h1, h2, h3⟩ := h.box
  refine (m_push h1 x hm).mono ?_
  rintro e w' ⟨he, hb, hk⟩
  exact ⟨he, h.boxed h2 h3 hb hk⟩
theorem s_peek_some (h : BsA A w0 w b gone ms p n sl rows) {x : Int} (hx : ms[p]? = some x) : Calls Try.prog 10 #[.pointer (some ⟨b, 0, none⟩)] w fun e w' => e = .returned (.tuple #[.int .u64 x, .bool true]) ∧ BsA A w0 w' b gone ms p n sl rows := by
  obtain ⟨F, h1, h2, h3⟩ := h.box
  refine (m_peek_some h1 hx).mono ?_
  rintro e w' ⟨he, m, rfl⟩
  exact ⟨he, h.drewN m⟩
theorem s_peek_none (h : BsA A w0 w b gone ms p n sl rows) (hx : ms.length ≤ p) : Calls Try.prog 10 #[.pointer (some ⟨b, 0, none⟩)] w fun e w' => e = .returned (.tuple #[.int .u64 0, .bool false]) ∧ BsA A w0 w' b gone ms p n sl rows := by
  obtain ⟨F, h1, h2, h3⟩ := h.box
  refine (m_peek_none h1 hx).mono ?_
  rintro e w' ⟨he, m, rfl⟩
  exact ⟨he, h.drewN m⟩
theorem s_next (h : BsA A w0 w b gone ms p n sl rows) (p' : Nat) (hp : p' = if p < ms.length then p + 1 else p) : Calls Try.prog 11 #[.pointer (some ⟨b, 0, none⟩)] w fun e w' => e = .returned (.bool (decide (p' < ms.length))) ∧ BsA A w0 w' b gone ms p' n sl rows := by
  obtain ⟨F, h1, h2, h3⟩ := h.box
  refine (m_next h1 p' hp).mono ?_
  rintro e w' ⟨he, hb, hk⟩
  exact ⟨he, h.boxed h2 h3 (hb.ext w) hk⟩
theorem s_first (h : BsA A w0 w b gone ms p n sl rows) : Calls Try.prog 13 #[.pointer (some ⟨b, 0, none⟩)] w fun e w' => e = .returned (.tuple #[]) ∧ BsA A w0 w' b gone ms 0 n sl rows := by
  obtain ⟨F, h1, h2, h3⟩ := h.box
  refine (m_first h1).mono ?_
  rintro e w' ⟨he, hb, hk⟩
  exact ⟨he, h.boxed h2 h3 (hb.ext w) hk⟩
theorem s_len (h : BsA A w0 w b gone ms p n sl rows) : Calls Try.prog 16 #[.pointer (some ⟨b, 0, none⟩)] w fun e w' => e = .returned (.int .i64 (ms.length : Nat)) ∧ BsA A w0 w' b gone ms p n sl rows := by
  obtain ⟨F, h1, h2, h3⟩ := h.box
  refine (m_len h1).mono ?_
  rintro e w' ⟨he, m, rfl⟩
  exact ⟨he, h.drewN m⟩
theorem s_at (h : BsA A w0 w b gone ms p n sl rows) : Calls Try.prog 17 #[.pointer (some ⟨b, 0, none⟩)] w fun e w' => e = .returned (.int .i64 p) ∧ BsA A w0 w' b gone ms p n sl rows := by
  obtain ⟨F, h1, h2, h3⟩ := h.box
  refine (m_at h1).mono ?_
  rintro e w' ⟨he, m, rfl⟩
  exact ⟨he, h.drewN m⟩
theorem s_words (h : BsA A w0 w b gone ms p n sl rows) : Calls Try.prog 19 #[.pointer (some ⟨b, 0, none⟩)] w fun e w' => ∃ v', e = .returned v' ∧ Wr w' v' ms ∧ (∀ g, v'.ownBlock = some g → w.heap.size ≤ g) ∧ Kp (fun _ => False) w w' := by
  obtain ⟨F, h1, h2, h3⟩ := h.box
  exact m_words h1
theorem s_swap_ok (h : BsA A w0 w b gone ms p n sl rows) {u : Value} (hu : Rd w u ys) (hl : ys.length = ms.length) : Calls Try.prog 15 #[.pointer (some ⟨b, 0, none⟩), u] w fun e w' => e = .returned (.bool true) ∧ BsA A w0 w' b gone ys p n sl rows := by
  obtain ⟨F, h1, h2, h3⟩ := h.box
  refine (m_swap_ok h1 hu hl).mono ?_
  rintro e w' ⟨he, hb, hk⟩
  exact ⟨he, h.boxed h2 h3 (hb.ext w) hk⟩
theorem s_swap_bad (h : BsA A w0 w b gone ms p n sl rows) {u : Value} (hu : Rd w u ys) (hl : ys.length ≠ ms.length) : Calls Try.prog 15 #[.pointer (some ⟨b, 0, none⟩), u] w fun e w' => e = .returned (.bool false) ∧ BsA A w0 w' b gone ms p n sl rows := by
  obtain ⟨F, h1, h2, h3⟩ := h.box
  refine (m_swap_bad h1 hu hl).mono ?_
  rintro e w' ⟨he, m, rfl⟩
  exact ⟨he, h.drewN m⟩
theorem s_take_some (h : BsA A w0 w b gone ms p n sl rows) {x : Int} (hx : ms[p]? = some x) : Calls Try.prog 12 #[.pointer (some ⟨b, 0, none⟩)] w fun e w' =>
    e = .returned (.tuple #[.int .u64 x, .bool true]) ∧ ∃ gone', BsA A w0 w' b gone' (ms.eraseIdx p) 0 n sl rows := by
  obtain ⟨F, h1, h2, h3⟩ := h.box
  refine (m_take_some h1 hx).mono ?_
  rintro e w' ⟨he, g', hb, hk⟩
  exact ⟨he, g', h.boxed h2 h3 hb hk⟩
theorem s_take_none (h : BsA A w0 w b gone ms p n sl rows) (hx : ms.length ≤ p) : Calls Try.prog 12 #[.pointer (some ⟨b, 0, none⟩)] w fun e w' => e = .returned (.tuple #[.int .u64 0, .bool false]) ∧ BsA A w0 w' b gone ms p n sl rows := by
  obtain ⟨F, h1, h2, h3⟩ := h.box
  refine (m_take_none h1 hx).mono ?_
  rintro e w' ⟨he, m, rfl⟩
  exact ⟨he, h.drewN m⟩

/-- from here on: what was there before stays -/
theorem BsA.rebase {w1 : World} (h : Bs w0 w b gone ms p n sl rows) (hk : Kp (fun _ => False) w w1) : ∃ A, (∀ q, A q → w0.heap.size ≤ q ∧ q < w.heap.size) ∧ BsA A w1 w1 b gone ms p n sl rows := by
  obtain ⟨F, h1, h2, h3⟩ := h.box
  have hF : ∀ q, F q → q < w.heap.size := by obtain ⟨v, xs, a1, a2, a3, a4, a5, a6⟩ := h1; exact a6
  refine ⟨fun q => F q ∨ ∃ k, k < n ∧ (sl k).ownBlock = some q, fun q hq => ?_, ⟨F, h1.same hk, fun q hq => .inl (.inl hq), h3⟩, fun k hk' => (h.own k hk').same hk, fun k hk' g hg => .inl (.inr ⟨k, hk', hg⟩), h.apart, Kp.refl _ _⟩
  rcases hq with hq | ⟨k, hk', hg⟩
  · exact ⟨(h2 q hq).elim (fun e => e.elim) (fun e => e), hF q hq⟩
  · exact ⟨(h.new k hk' q hg).elim (fun e => e.elim) (fun e => e), (h.own k hk').lt q hg⟩
theorem BsA.unbase {w1 : World} (h : BsA A w1 w b gone ms p n sl rows) (hk : Kp (fun _ => False) w0 w1) (hA : ∀ q, A q → w0.heap.size ≤ q) : Bs w0 w b gone ms p n sl rows := by
  obtain ⟨F, h1, h2, h3⟩ := h.box
  have hz := hk.size
  exact ⟨⟨F, h1, fun q hq => .inr ((h2 q hq).elim (hA q) (fun e => Nat.le_trans hz e)), h3⟩, h.own, fun k hk' g hg => .inr ((h.new k hk' g hg).elim (hA g) (fun e => Nat.le_trans hz e)), h.apart, kp_new hk h.kp (fun q e => .inr (hA q e))⟩
/-- three rows -/
def tri {α : Type} (a b c : α) : Nat → α
  | 0 => a
  | 1 => b
  | _ => c
theorem tri_upd {α : Type} (a b c x : α) : upd (tri a b c) 0 x = tri x b c ∧ upd (tri a b c) 1 x = tri a x c ∧ ∀ k, k < 3 → upd (tri a b c) 2 x k = tri a b x k := by
  refine ⟨?_, ?_, ?_⟩
  · funext k; rcases k with _ | _ | k <;> simp [upd, tri]
  · funext k; rcases k with _ | _ | k <;> simp [upd, tri]
  · intro k hk; rcases k with _ | _ | k
    · simp [upd, tri]
    · simp [upd, tri]
    · have : k = 0 := by omega
      subst this
      simp [upd, tri]
theorem BsA.congr {sl' : Nat → Value} {rows' : Nat → List Int} (h : BsA A w0 w b gone ms p n sl rows) (h1 : ∀ k, k < n → sl k = sl' k) (h2 : ∀ k, k < n → rows k = rows' k) : BsA A w0 w b gone ms p n sl' rows' := by
  obtain ⟨F, a1, a2, a3⟩ := h.box
  exact ⟨⟨F, a1, a2, fun k hk => by rw [← h1 k hk]; exact a3 k hk⟩, fun k hk => by rw [← h1 k hk, ← h2 k hk]; exact h.own k hk, fun k hk => by rw [← h1 k hk]; exact h.new k hk,
    fun j k hj hk => by rw [← h1 j hj, ← h1 k hk]; exact h.apart j k hj hk, h.kp⟩

/-- row k is another one now: a new one, or what was made of it -/
theorem BsA.put (h : BsA A w0 w b gone ms p n sl rows) (k : Nat) (hkn : k < n) {v : Value} {l : List Int} (hk : Kp (fun q => (sl k).ownBlock = some q) w w') (ho : Wr w' v l) (hf : ∀ g, v.ownBlock = some g → (sl k).ownBlock = some g ∨ w.heap.size ≤ g) :
    BsA A w0 w' b gone ms p n (upd sl k v) (upd rows k l) := by
  obtain ⟨F, h1, h2, h3⟩ := h.box
  have hlt : ∀ j, j < n → ∀ g, (sl j).ownBlock = some g → g < w.heap.size := fun j hj g hg => (h.own j hj).lt g hg
  have hFlt : ∀ q, F q → q < w.heap.size := by obtain ⟨v, xs, a1, a2, a3, a4, a5, a6⟩ := h1; exact a6
  refine ⟨⟨F, h1.kp hk (fun q hq e => h3 k hkn q e hq), h2, fun j hj g hg hq => ?_⟩, fun j hj => ?_, fun j hj g hg => ?_, fun i j hi hj g hgi hgj => ?_, kp_new h.kp hk (fun q hq => h.new k hkn q hq)⟩
  · by_cases e : j = k
    · subst e
      rw [upd_same] at hg
      rcases hf g hg with e | e
      · exact h3 j hj g e hq
      · have := hFlt g hq; omega
    · rw [upd_other _ _ e] at hg
      exact h3 j hj g hg hq
  · by_cases e : j = k
    · subst e
      rw [upd_same, upd_same]; exact ho
    · rw [upd_other _ _ e, upd_other _ _ e]
      exact (h.own j hj).kp hk (fun g hg hg2 => e (h.apart j k hj hkn g hg hg2))
  · by_cases e : j = k
    · subst e
      rw [upd_same] at hg
      rcases hf g hg with e | e
      · exact h.new j hj g e
      · have := h.kp.size; exact .inr (by omega)
    · rw [upd_other _ _ e] at hg
      exact h.new j hj g hg
  · by_cases ei : i = k <;> by_cases ej : j = k
    · omega
    · subst ei
      rw [upd_same] at hgi
      rw [upd_other _ _ ej] at hgj
      rcases hf g hgi with e | e
      · exact h.apart i j hi hj g e hgj
      · have := hlt j hj g hgj; omega
    · subst ej
      rw [upd_same] at hgj
      rw [upd_other _ _ ei] at hgi
      rcases hf g hgj with e | e
      · exact h.apart i j hi hj g hgi e
      · have := hlt i hi g hgi; omega
    · rw [upd_other _ _ ei] at hgi
      rw [upd_other _ _ ej] at hgj
      exact h.apart i j hi hj g hgi hgj
/-- row k is a new one now -/
theorem BsA.fresh (h : BsA A w0 w b gone ms p n sl rows) (k : Nat) (hkn : k < n) {v : Value} {l : List Int} (hk : Kp (fun _ => False) w w') (ho : Wr w' v l) (hf : ∀ g, v.ownBlock = some g → w.heap.size ≤ g) :
    BsA A w0 w' b gone ms p n (upd sl k v) (upd rows k l) := h.put k hkn (hk.mono fun _ _ e => e.elim) ho (fun g hg => .inr (hf g hg))
/-- one more in row k -/
theorem BsA.row_push (h : BsA A w0 w b gone ms p n sl rows) (k : Nat) (hkn : k < n) (hl : (rows k).length + 1 ≤ 17592186044416) (x : Int) :
    ∃ g cap w', (Builtin.append_ #[24, 24] 24 #[sl k, .slice (some ⟨w.heap.size, 0, none⟩) 1 1]).run Try.prog (w.alloc (.cells #[.int .u64 x] 27)) = .ok (.slice (some ⟨g, 0, none⟩) ((rows k).length + 1) cap) w' ∧
      BsA A w0 w' b gone ms p n (upd sl k (.slice (some ⟨g, 0, none⟩) ((rows k).length + 1) cap)) (upd rows k (rows k ++ [x])) := by
  obtain ⟨g, cap, w', h1, h2, h3, h4, h5⟩ := words_push (h.own k hkn) hl x
  refine ⟨g, cap, w', h1, h.put k hkn h3 h2 (fun g' hg => ?_)⟩
  have e : g = g' := by injection hg
  rw [← e]; exact h4
/-- one fewer in row k -/
theorem BsA.row_cut (h : BsA A w0 w b gone ms p n sl rows) (k : Nat) (hkn : k < n) {g cap : Nat} (hs : sl k = .slice (some ⟨g, 0, none⟩) (rows k).length cap) (hl : (rows k).length ≤ 17592186044416) (j : Nat) (hj : j < (rows k).length) (pa : Option Addr) (pc : Nat) (hpa : j + 1 < (rows k).length → pa = some ⟨g, j + 1, none⟩) :
    ∃ g' cap' w', (Builtin.append_ #[24, 24] 24 #[.slice (some ⟨g, 0, none⟩) j j, .slice pa ((rows k).length - (j + 1)) pc]).run Try.prog w = .ok (.slice (some ⟨g', 0, none⟩) ((rows k).length - 1) cap') w' ∧
      BsA A w0 w' b gone ms p n (upd sl k (.slice (some ⟨g', 0, none⟩) ((rows k).length - 1) cap')) (upd rows k ((rows k).eraseIdx j)) := by
  have ho := h.own k hkn
  rw [hs] at ho
  obtain ⟨g', cap', w', h1, h2, h3, h4⟩ := words_cut ho hl j hj pa pc hpa
  refine ⟨g', cap', w', h1, h.put k hkn (h3.mono fun _ _ e => e.elim) h2 (fun g2 hg => ?_)⟩
  have e : g' = g2 := by injection hg
  rw [← e, hs]
  rcases h4 with h4 | h4
  · left; rw [h4]; rfl
  · exact .inr h4
theorem BsA.new_box (hb : w'.heap[b]? = some (.cells #[.slice none 0 0, .int .i64 0, .int .i64 0] 26 (0, 0))) (hk : Kp A w0 w') (h0 : A b ∨ w0.heap.size ≤ b) : BsA A w0 w' b 0 [] 0 n (fun _ => .slice none 0 0) (fun _ => []) :=
  ⟨⟨_, bxm_new hb, fun q hq => (by rw [hq]; exact h0), fun k _ g hg => (by simp [Value.ownBlock] at hg)⟩, fun k _ => Wr.nil w', fun k _ g hg => (by simp [Value.ownBlock] at hg), fun j k _ _ g hg => (by simp [Value.ownBlock] at hg), hk⟩
theorem Bs.new_box (hb : w'.heap[b]? = some (.cells #[.slice none 0 0, .int .i64 0, .int .i64 0] 26 (0, 0))) (hk : Kp (fun _ => False) w0 w') (h0 : w0.heap.size ≤ b) : Bs w0 w' b 0 [] 0 n (fun _ => .slice none 0 0) (fun _ => []) := BsA.new_box hb hk (.inr h0)
end
end Go.Proofs.Ytgdmcinfgfejcaa
