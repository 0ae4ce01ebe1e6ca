/- A term that may be is one that bytes can tell. Plain data. A module under way: its literals in a row. A module under way: its functions in a row. A module under way: between the literals. A module under way: between the functions. -/
import Derived.Test.YtaeoohjgdkablaaDoorM27
/- A term that may be is one that bytes can tell. Plain data. -/
namespace Go.Proofs.YtaeoohjgdkablaaDoor
open Go.RowKit

theorem empty_of {s : ByteArray} (h : s.toList = []) : s = ByteArray.empty := by
  rw [ByteArray.toList_eq] at h
  exact strext (by rw [h]; rfl)
theorem len_tsizes : ∀ l : List Tm, l.length ≤ tsizes l := fun l => Nat.le_trans (len_cnts l) (cnts_le l)
theorem wfTs_of : ∀ l : List Tm, (∀ t ∈ l, wfT t) → wfTs l
  | [], _ => trivial
  | t :: l, h => ⟨h t List.mem_cons_self, wfTs_of l fun x hx => h x (List.mem_cons_of_mem _ hx)⟩
theorem tsize_mem : ∀ {l : List Tm} {t : Tm}, t ∈ l → tsize t ≤ tsizes l
  | a :: l, t, h => by
    rw [tsizes]
    rcases List.mem_cons.1 h with rfl | h
    · omega
    · have := tsize_mem h; omega
/-- a term in memory that may be -/
theorem wfT_of {F : Nat → Prop} {w : World} : ∀ {h : Nat} {T : Tm} {cs : List Value} {d : Nat}, TermAt F w h T cs → tok d T → tsize T ≤ 65536 → wfT T
  | 0, _, _, _, ht, _, _ => ht.elim
  | _, _, _, 0, _, hk, _ => hk.elim
  | h + 1, .mk k n s it re bys, _, d + 1, ht, hk, hs => by
    obtain ⟨vi, vr, vb, _, hr, ⟨_, _, _, _, _, h1⟩, ⟨_, _, _, _, _, h2⟩, _⟩ := ht
    obtain ⟨hf, k1, k2⟩ := hk
    replace hf : fitsK k n s it re bys = true := hf
    rw [tsize] at hs
    have hit := len_tsizes it
    have e1 : wfTs it := wfTs_of it fun t htm => by
      obtain ⟨i, hi, rfl⟩ := List.getElem_of_mem htm
      obtain ⟨_, _, _, _, _, _, _, _, _, _, _, _, _, _, _, _, hp⟩ := h1 i _ (List.getElem?_eq_getElem hi)
      exact wfT_of hp (k1 _ htm) (by have := tsize_mem htm; omega)
    have e2 : wfTs re := wfTs_of re fun t htm => by
      obtain ⟨i, hi, rfl⟩ := List.getElem_of_mem htm
      obtain ⟨_, _, _, _, _, _, _, _, _, _, _, _, _, _, _, _, hp⟩ := h2 i _ (List.getElem?_eq_getElem hi)
      exact wfT_of hp (k2 _ htm) (by have := tsize_mem htm; omega)
    have hz := zig_lt hr.2.2.1 hr.2.2.2.1
    have hz' : zig n ≤ 18446744073709551615 := by omega
    have hb0 : ((bys.length : Int) == 0) = true → bys = [] := fun e => List.eq_nil_of_length_eq_zero (by have := beq_iff_eq.1 e; omega)
    have hl0 : ∀ l : List Tm, l.length = 0 → l = [] := fun l e => List.eq_nil_of_length_eq_zero e
    have hs0 : s.toList = [] → s = ByteArray.empty := empty_of
    rw [wfT]
    refine ⟨?_, e1, e2, ?_⟩
    · unfold fitsK at hf
      unfold Hd.wf
      split at hf
      · rename_i e
        simp only [Bool.and_eq_true, decide_eq_true_eq] at hf
        exact .inl ⟨.inl e, hz', hs0 hf.1.1.1, hb0 hf.2, hf.1.1.2⟩
      · split at hf
        · rename_i e
          split at hf
          · rename_i e3
            simp only [Bool.and_eq_true, decide_eq_true_eq] at hf
            exact .inr (.inl ⟨e, (by simp only; omega), hf.1.1.1, hb0 hf.2, hf.1.1.2⟩)
          · cases hf
        · split at hf
          · rename_i e
            split at hf
            · simp only [Bool.and_eq_true, decide_eq_true_eq] at hf
              exact .inl ⟨.inr e, hz', hs0 hf.1.1.1, hb0 hf.2, hf.1.1.2⟩
            · cases hf
          · split at hf
            · rename_i e
              simp only [Bool.and_eq_true, decide_eq_true_eq] at hf
              exact .inr (.inr (.inl ⟨.inl e, (by simp only; omega), hf.1.1.1, hs0 hf.1.1.2, hb0 hf.2⟩))
            · split at hf
              · rename_i e
                simp only [Bool.and_eq_true, decide_eq_true_eq] at hf
                exact .inr (.inr (.inr (.inl ⟨e, hf.1.1.1.1, hs0 hf.1.1.1.2, hb0 hf.2, hf.1.1.2⟩)))
              · split at hf
                · rename_i e
                  simp only [Bool.and_eq_true, decide_eq_true_eq] at hf
                  exact .inr (.inr (.inl ⟨.inr e, (by simp only; omega), hf.1.1.2, hs0 hf.1.2, hb0 hf.2⟩))
                · split at hf
                  · rename_i e
                    simp only [Bool.and_eq_true, decide_eq_true_eq] at hf
                    exact .inr (.inr (.inr (.inr ⟨e, (by simp only; omega), hf.1.1.1, hs0 hf.1.1.2, hf.1.2⟩)))
                  · cases hf
    · by_cases h7 : k = 7
      · rw [if_pos h7]
        subst h7
        simp [fitsK] at hf
        match re, hf with
        | [], _ => simp
        | [_], _ => simp
        | _ :: _ :: _, hf => simp [endsB] at hf
      · rw [if_neg h7]
        unfold fitsK at hf
        apply hl0
        rw [if_neg h7] at hf
        (repeat' split at hf) <;> first | (simp only [Bool.and_eq_true, decide_eq_true_eq] at hf; first | exact hf.1.2 | exact hf.2) | cases hf
end Go.Proofs.YtaeoohjgdkablaaDoor

/- A module under way: its literals in a row. -/
namespace Go.Proofs.YtaeoohjgdkablaaDoor
open Go.RowKit

theorem TermAt.le {F : Nat → Prop} {w : World} {h h' : Nat} {t : Tm} {cs : List Value} (ht : TermAt F w h t cs) (hh : h ≤ h') : TermAt F w h' t cs := by
  induction hh with
  | refl => exact ht
  | step _ ih => exact ih.up
/-- a term more is put behind the others -/
theorem lit_row {W0 : Nat} {G : Nat → Prop} {w : World} {h : Nat} {v : Value} {l : List Tm} (hr : RowAt W0 G w h v l.length l) {T : Tm} {k n : Int} {s : ByteArray} {a1 a2 a3 : Option Addr} {l1 d1 l2 d2 l3 d3 : Nat}
    (ht : TermAt G w h T [.int .i64 k, .int .i64 n, .string s, .slice a1 l1 d1, .slice a2 l2 d2, .slice a3 l3 d3]) (hW : W0 ≤ w.heap.size) (hk : (l.length + 1) * 104 ≤ 140737488351232) (hv : ∀ g, v.ownBlock = some g → ¬ G g) :
    ∃ g cap w', (Builtin.append_ #[22, 22] 22 #[v, .slice (some ⟨w.heap.size, 0, none⟩) 1 1]).run Tryd.prog (w.alloc (.cells #[.int .i64 k, .int .i64 n, .string s, .slice a1 l1 d1, .slice a2 l2 d2, .slice a3 l3 d3] 25)) = .ok (.slice (some ⟨g, 0, none⟩) (l.length + 1) cap) w' ∧
      RowAt W0 G w' h (.slice (some ⟨g, 0, none⟩) (l.length + 1) cap) (l ++ [T]).length (l ++ [T]) ∧ Kp (fun q => v.ownBlock = some q) w w' ∧ (v.ownBlock = some g ∨ w.heap.size ≤ g) := by
  obtain ⟨_, _, xs, ho, hel⟩ := hr
  obtain ⟨i0, hi, hz0, hz1, hz2⟩ := info_parts Tryd.infoTerm
  have hka : Kp (fun _ => False) w (w.alloc (.cells #[.int .i64 k, .int .i64 n, .string s, .slice a1 l1 d1, .slice a2 l2 d2, .slice a3 l3 d3] 25)) := (Kp.refl _ w).alloc _
  obtain ⟨g, cap, w', h1, h2, h3, h4, h5⟩ := run_append_lies (P := Tryd.prog) _ 22 22 W0 25 i0 (.agg #[.int .i64 0, .int .i64 0, .string ByteArray.empty, .slice none 0 0, .slice none 0 0, .slice none 0 0]) 6 104 Tryd.underlying22 hi hz0 hz1 hz2 rfl (by omega) v l.length xs (hka.row ho (fun _ _ e => e)) ⟨w.heap.size, 0, none⟩ 1 1 [.int .i64 k, .int .i64 n, .string s, .slice a1 l1 d1, .slice a2 l2 d2, .slice a3 l3 d3] rfl
    (World.news_of_block (cs := #[.int .i64 k, .int .i64 n, .string s, .slice a1 l1 d1, .slice a2 l2 d2, .slice a3 l3 d3]) (heap_alloc_new w _)) (by intro u hu; simp at hu; rcases hu with rfl | rfl | rfl | rfl | rfl | rfl <;> rfl) (by omega) (by unfold maxLen; omega) (by omega) (by simp; omega) (w.heap.size + 1) (by simp)
  have hk' : Kp (fun q => v.ownBlock = some q) w w' := ((Kp.refl _ w).alloc _).grown h3 (fun q hq => .inl hq)
  refine ⟨g, cap, w', h1, ⟨Nat.le_refl _, by simpa using hk, xs ++ [.int .i64 k, .int .i64 n, .string s, .slice a1 l1 d1, .slice a2 l2 d2, .slice a3 l3 d3], by simpa using h2, fun i t hit => ?_⟩, hk', h4.imp id (fun e => by omega)⟩
  have hG : ∀ q, G q → ¬ v.ownBlock = some q := fun q e e2 => hv q e2 e
  by_cases hl : i < l.length
  · rw [List.getElem?_append_left hl] at hit
    obtain ⟨c0, c1, c2, c3, c4, c5, hs, htt⟩ := hel i t hit
    exact ⟨c0, c1, c2, c3, c4, c5, hs.more, htt.kp hk' hG⟩
  · rw [List.getElem?_append_right (by omega)] at hit
    obtain ⟨rfl, rfl⟩ : i = l.length ∧ t = T := by
      cases hd : i - l.length with
      | zero => rw [hd] at hit; simp at hit; exact ⟨by omega, hit.symm⟩
      | succ m => rw [hd] at hit; simp at hit
    exact ⟨_, _, _, _, _, _, Six.last ho.1 _ _ _ _ _ _, ht.kp hk' hG⟩
end Go.Proofs.YtaeoohjgdkablaaDoor

/- A module under way: its functions in a row. -/
namespace Go.Proofs.YtaeoohjgdkablaaDoor
open Go.RowKit

theorem Tryd.infoFunc : (Tryd.prog.info? 30).map (fun i => (i.zero, i.size, i.bytes)) = some (some (.agg #[.string ByteArray.empty, .int .i64 0, .int .i64 0, .slice none 0 0]), 4, 56) := by kernel_rfl
def Four (xs : List Value) (i : Nat) (c0 c1 c2 c3 : Value) : Prop := xs[i * 4]? = some c0 ∧ xs[i * 4 + 1]? = some c1 ∧ xs[i * 4 + 2]? = some c2 ∧ xs[i * 4 + 3]? = some c3
/-- a row of functions of one's own, whose instructions are of G -/
def FRowAt (W0 : Nat) (G : Nat → Prop) (w : World) (v : Value) (l : List Fn4) : Prop :=
  ∃ xs, w.ownsRow W0 30 4 v l.length xs ∧ ∀ i f, l[i]? = some f → ∃ c0 c1 c2 c3, Four xs i c0 c1 c2 c3 ∧ FnAt G w f [c0, c1, c2, c3]
theorem FnAt.kp {F G : Nat → Prop} {w w' : World} {f : Fn4} {cs : List Value} (h : FnAt F w f cs) (hk : Kp G w w') (hd : ∀ q, F q → ¬ G q) : FnAt F w' f cs := h.imp (fun _ e => e) (cells_kp hk hd)
theorem FRowAt.kp {W0 : Nat} {F G : Nat → Prop} {w w' : World} {v : Value} {l : List Fn4} (hr : FRowAt W0 G w v l) (hk : Kp F w w') (hv : ∀ g, v.ownBlock = some g → ¬ F g) (hG : ∀ q, G q → ¬ F q) : FRowAt W0 G w' v l := by
  obtain ⟨xs, h3, h4⟩ := hr
  refine ⟨xs, hk.row h3 hv, fun i t ht => ?_⟩
  obtain ⟨c0, c1, c2, c3, hs, hf⟩ := h4 i t ht
  exact ⟨c0, c1, c2, c3, hs, hf.kp hk hG⟩
/-- a function more is put behind the others -/
theorem fn_row {W0 : Nat} {G : Nat → Prop} {w : World} {v : Value} {l : List Fn4} (hr : FRowAt W0 G w v l) {f : Fn4} {po : Option Addr} {n c : Nat}
    (ht : FnAt G w f [.string f.name, .int .i64 f.args, .int .i64 f.slots, .slice po n c]) (hW : W0 ≤ w.heap.size) (hk : (l.length + 1) * 56 ≤ 140737488351232) (hv : ∀ g, v.ownBlock = some g → ¬ G g) :
    ∃ g cap w', (Builtin.append_ #[31, 31] 31 #[v, .slice (some ⟨w.heap.size, 0, none⟩) 1 1]).run Tryd.prog (w.alloc (.cells #[.string f.name, .int .i64 f.args, .int .i64 f.slots, .slice po n c] 30)) = .ok (.slice (some ⟨g, 0, none⟩) (l.length + 1) cap) w' ∧
      FRowAt W0 G w' (.slice (some ⟨g, 0, none⟩) (l.length + 1) cap) (l ++ [f]) ∧ Kp (fun q => v.ownBlock = some q) w w' ∧ (v.ownBlock = some g ∨ w.heap.size ≤ g) := by
  obtain ⟨xs, ho, hel⟩ := hr
  obtain ⟨i0, hi, hz0, hz1, hz2⟩ := info_parts Tryd.infoFunc
  have hka : Kp (fun _ => False) w (w.alloc (.cells #[.string f.name, .int .i64 f.args, .int .i64 f.slots, .slice po n c] 30)) := (Kp.refl _ w).alloc _
  obtain ⟨g, cap, w', h1, h2, h3, h4, h5⟩ := run_append_lies (P := Tryd.prog) _ 31 31 W0 30 i0 (.agg #[.string ByteArray.empty, .int .i64 0, .int .i64 0, .slice none 0 0]) 4 56 Tryd.underlying31 hi hz0 hz1 hz2 rfl (by omega) v l.length xs (hka.row ho (fun _ _ e => e)) ⟨w.heap.size, 0, none⟩ 1 1 [.string f.name, .int .i64 f.args, .int .i64 f.slots, .slice po n c] rfl
    (World.news_of_block (cs := #[.string f.name, .int .i64 f.args, .int .i64 f.slots, .slice po n c]) (heap_alloc_new w _)) (by intro u hu; simp at hu; rcases hu with rfl | rfl | rfl | rfl <;> rfl) (by omega) (by unfold maxLen; omega) (by omega) (by simp; omega) (w.heap.size + 1) (by simp)
  have hk' : Kp (fun q => v.ownBlock = some q) w w' := ((Kp.refl _ w).alloc _).grown h3 (fun q hq => .inl hq)
  have hx := ho.1
  refine ⟨g, cap, w', h1, ⟨xs ++ [.string f.name, .int .i64 f.args, .int .i64 f.slots, .slice po n c], by simpa using h2, fun i t hit => ?_⟩, hk', h4.imp id (fun e => by omega)⟩
  have hG : ∀ q, G q → ¬ v.ownBlock = some q := fun q e e2 => hv q e2 e
  by_cases hl : i < l.length
  · rw [List.getElem?_append_left hl] at hit
    obtain ⟨c0, c1, c2, c3, ⟨s0, s1, s2, s3⟩, htt⟩ := hel i t hit
    refine ⟨c0, c1, c2, c3, ⟨?_, ?_, ?_, ?_⟩, htt.kp hk' hG⟩ <;> (rw [List.getElem?_append_left (by omega)]; assumption)
  · rw [List.getElem?_append_right (by omega)] at hit
    obtain ⟨rfl, rfl⟩ : i = l.length ∧ t = f := by
      cases hd : i - l.length with
      | zero => rw [hd] at hit; simp at hit; exact ⟨by omega, hit.symm⟩
      | succ m => rw [hd] at hit; simp at hit
    refine ⟨_, _, _, _, ⟨?_, ?_, ?_, ?_⟩, ht.kp hk' hG⟩ <;> (rw [List.getElem?_append_right (by omega), hx]; simp)
/-- the row, as the others see it -/
theorem FRowAt.fns {W0 : Nat} {G G' : Nat → Prop} {w : World} {v : Value} {l : List Fn4} (hr : FRowAt W0 G w v l) (hk : l.length * 56 ≤ 140737488351232) (hG : ∀ q, G q → G' q) (hv : ∀ g, v.ownBlock = some g → G' g) : FnsAt G' w l v := by
  obtain ⟨xs, ho, hel⟩ := hr
  have hrow := ho
  rcases ho.2 with ⟨e, h0⟩ | ⟨g, cap, cur, e, hb, hg, hn, _⟩
  · obtain rfl := List.eq_nil_of_length_eq_zero h0
    exact ⟨none, 0, by rw [e]; rfl, by simp, by simp, fun i x hi => by simp at hi⟩
  · subst e
    refine ⟨some ⟨g, 0, none⟩, cap, rfl, hn, hk, fun i f hi => ?_⟩
    obtain ⟨c0, c1, c2, c3, ⟨s0, s1, s2, s3⟩, hf⟩ := hel i f hi
    have hlt := (List.getElem?_eq_some_iff.1 hi).1
    have hc : ∀ k u, k < 4 → xs[i * 4 + k]? = some u → w.cell? ⟨g, 0 + i * 4 + k, none⟩ = some u := fun k u hk e => by
      rw [Nat.zero_add, hrow.cellAt _ (by omega)]; exact e
    exact ⟨g, 0, c0, c1, c2, c3, rfl, hv g rfl, hc 0 _ (by omega) s0, hc 1 _ (by omega) s1, hc 2 _ (by omega) s2, hc 3 _ (by omega) s3, hf.imp hG (fun _ _ _ _ e => e)⟩
end Go.Proofs.YtaeoohjgdkablaaDoor

/- A module under way: between the literals. -/
namespace Go.Proofs.YtaeoohjgdkablaaDoor
open Go.RowKit

theorem RowAt.le {W0 : Nat} {G G' : Nat → Prop} {w : World} {h h' : Nat} {v : Value} {m : Nat} {l : List Tm} (hr : RowAt W0 G w h v m l) (hG : ∀ q, G q → G' q) (hh : h ≤ h') : RowAt W0 G' w h' v m l := by
  obtain ⟨h1, h2, xs, h3, h4⟩ := hr
  exact ⟨h1, h2, xs, h3, fun i t ht => six_imp (h4 i t ht) fun cs e => (TermAt.imp hG (fun _ _ _ _ e => e) h t _ e).le hh⟩
structure LitsAt (w1 : World) (R : Nat) (v : Value) (l : List UInt8) (a4 : Nat) (name : ByteArray) (lits : List Tm) (j q : Nat) (po : Option Addr) (n c : Nat) (hh : Nat) (G : Nat → Prop) (wx : World) : Prop where
  cells : wx.heap[a4]? = some (.cells #[.string name, .slice po n c, .slice none 0 0] 33 (0, 0))
  row : RowAt (a4 + 1) G wx hh (.slice po n c) (lits.take j).length (lits.take j)
  ap : ∀ g, (Value.slice po n c).ownBlock = some g → ¬ G g
  lo : ∀ x, G x → a4 + 1 ≤ x ∧ x < wx.heap.size
  rd : RAt wx R v l q
  kp : Kp (fun x => x = R) w1 wx
theorem LitsAt.lt {w1 wx : World} {R : Nat} {v : Value} {l : List UInt8} {a4 : Nat} {name : ByteArray} {lits : List Tm} {j q : Nat} {po : Option Addr} {n c hh : Nat} {G : Nat → Prop} (hS : LitsAt w1 R v l a4 name lits j q po n c hh G wx) (g : Nat) (e : (Value.slice po n c).ownBlock = some g) : a4 + 1 ≤ g ∧ g < wx.heap.size := by
  obtain ⟨_, _, xs, ho, _⟩ := hS.row
  exact ho.lt g e
theorem lits_next {w1 wr w5 : World} {R : Nat} {v : Value} {l : List UInt8} {a4 : Nat} {name : ByteArray} {lits : List Tm} {j q q' : Nat} {po : Option Addr} {n c hh : Nat} {G : Nat → Prop} (hS : LitsAt w1 R v l a4 name lits j q po n c hh G wr) (hk5 : Kp (fun x => x = R) wr w5) (hr5 : RAt w5 R v l q') {T : Tm} {h : Nat} {k m : Int} {s : ByteArray} {a1 a2 a3 : Option Addr} {l1 d1 l2 d2 l3 d3 : Nat}
    (hT : TermAt (Own wr.heap.size w5) w5 h T [.int .i64 k, .int .i64 m, .string s, .slice a1 l1 d1, .slice a2 l2 d2, .slice a3 l3 d3]) (hj : lits[j]? = some T) (hR : R < w1.heap.size) (hA : w1.heap.size ≤ a4) (hlen : j ≤ 1000000000) :
    w5.heap[a4]? = some (.cells #[.string name, .slice po n c, .slice none 0 0] 33 (0, 0)) ∧
    ∃ g cap w6, (Builtin.append_ #[22, 22] 22 #[.slice po n c, .slice (some ⟨w5.heap.size, 0, none⟩) 1 1]).run Tryd.prog (w5.alloc (.cells #[.int .i64 k, .int .i64 m, .string s, .slice a1 l1 d1, .slice a2 l2 d2, .slice a3 l3 d3] 25)) = .ok (.slice (some ⟨g, 0, none⟩) (j + 1) cap) w6 ∧
      w6.cell? ⟨a4, 1, none⟩ = some (.slice po n c) ∧ w6.frozen? ⟨a4, 1, none⟩ = false ∧
      LitsAt w1 R v l a4 name lits (j + 1) q' (some ⟨g, 0, none⟩) (j + 1) cap (max hh h) (fun x => G x ∨ Own wr.heap.size w5 x) (w6.setCell ⟨a4, 1, none⟩ (.slice (some ⟨g, 0, none⟩) (j + 1) cap)) := by
  have hal := (Array.getElem?_eq_some_iff.1 hS.cells).1
  have hjl := (List.getElem?_eq_some_iff.1 hj).1
  have hlj : (lits.take j).length = j := by rw [List.length_take]; omega
  have hz5 := hk5.size
  have hb5 := (hk5.block a4 hal (by omega)).trans hS.cells
  have hrow : RowAt (a4 + 1) (fun x => G x ∨ Own wr.heap.size w5 x) w5 (max hh h) (.slice po n c) (lits.take j).length (lits.take j) := (hS.row.kp hk5 (fun g e e2 => by have := (hS.lt g e).1; omega) (fun x e e2 => by have := (hS.lo x e).1; omega)).le (fun _ e => .inl e) (Nat.le_max_left _ _)
  have hT' := (TermAt.imp (G := fun x => G x ∨ Own wr.heap.size w5 x) (fun _ e => .inr e) (fun _ _ _ _ e => e) h T _ hT).le (Nat.le_max_right hh h)
  obtain ⟨g, cap, w6, h1, h2, h3, h4⟩ := lit_row hrow hT' (by omega) (by omega) (fun g e e2 => by
    rcases e2 with e2 | e2
    · exact hS.ap g e e2
    · have := (hS.lt g e).2; have := e2.1; omega)
  have hb6 := (h3.block a4 (by omega) (fun e => by have := (hS.lt _ e).1; omega)).trans hb5
  have hg : a4 + 1 ≤ g := by
    rcases h4 with e | e
    · exact (hS.lt g e).1
    · omega
  have hks : Kp (fun x => x = a4) w6 (w6.setCell ⟨a4, 1, none⟩ (.slice (some ⟨g, 0, none⟩) (j + 1) cap)) := (Kp.refl (fun x => x = a4) w6).setCell _ _ (.inl rfl)
  have hr6 : RAt w6 R v l q' := ⟨(h3.block R (Array.getElem?_eq_some_iff.1 hr5.cells).1 (fun e => by have := (hS.lt _ e).1; omega)).trans hr5.cells, bytes_kp hr5.bytes h3 (fun x e e2 => by have := (hS.lt _ e2).1; omega), hr5.le⟩
  have hz6 := h3.size
  rw [hlj] at h1 h2
  refine ⟨hb5, g, cap, w6, h1, by rw [cell_of_row w6 _ 1 _ _ _ hb6]; rfl, by simp [World.frozen?, hb6], ⟨heap_set_same hb6 _, ?_, fun g' e e2 => ?_, fun x e => ?_, ?_, ?_⟩⟩
  · rw [take_snoc hj]
    exact h2.kp hks (fun g' e e2 => by have e := Option.some.inj e; simp only at e; omega) (fun x e e2 => by
      rcases e with e | e
      · have := (hS.lo x e).1; omega
      · have := e.1; omega)
  · have e := Option.some.inj e
    simp only at e
    subst e
    rcases e2 with e2 | e2
    · rcases h4 with h4 | h4
      · exact hS.ap g h4 e2
      · have := (hS.lo g e2).2; omega
    · rcases h4 with h4 | h4
      · have := (hS.lt g h4).2; have := e2.1; omega
      · have := e2.2; omega
  · show _ ∧ x < (w6.setCell _ _).heap.size
    have hz7 := hks.size
    rcases e with e | e
    · have := hS.lo x e; omega
    · have e1 := e.1; have e2 := e.2; omega
  · exact ⟨(hks.block R (Array.getElem?_eq_some_iff.1 hr6.cells).1 (by omega)).trans hr6.cells, bytes_kp hr6.bytes hks (fun x e e2 => by omega), hr6.le⟩
  · exact kp_new (hS.kp.trans' hk5) (kp_new (F := fun x => x = R ∨ w1.heap.size ≤ x) (h3.mono fun x _ e => .inr (by have := (hS.lt _ e).1; omega)) (hks.mono fun x _ e => .inl (.inr (by omega))))
end Go.Proofs.YtaeoohjgdkablaaDoor

/- A module under way: between the functions. -/
namespace Go.Proofs.YtaeoohjgdkablaaDoor
open Go.RowKit

theorem encFs_len : ∀ l : List Fn4, l.length ≤ (encFs l).length
  | [] => by simp
  | f :: l => by
    have h1 : 1 ≤ (encF f).length := by
      have := encNat_pos f.args.toNat
      simp only [encF, List.length_append]; omega
    have := encFs_len l
    have e : encFs (f :: l) = encF f ++ encFs l := by simp [encFs]
    rw [e]
    simp; omega
theorem FRowAt.le {W0 : Nat} {G G' : Nat → Prop} {w : World} {v : Value} {l : List Fn4} (hr : FRowAt W0 G w v l) (hG : ∀ q, G q → G' q) : FRowAt W0 G' w v l := by
  obtain ⟨xs, h3, h4⟩ := hr
  refine ⟨xs, h3, fun i t ht => ?_⟩
  obtain ⟨c0, c1, c2, c3, hs, hf⟩ := h4 i t ht
  exact ⟨c0, c1, c2, c3, hs, hf.imp hG (fun _ _ _ _ e => e)⟩
structure FunsAt (w1 : World) (R : Nat) (v : Value) (l : List UInt8) (a4 W0 : Nat) (name : ByteArray) (vl : Value) (GL : Nat → Prop) (lits : List Tm) (hh : Nat) (funcs : List Fn4) (j q : Nat) (po : Option Addr) (n c : Nat) (G : Nat → Prop) (wx : World) : Prop where
  cells : wx.heap[a4]? = some (.cells #[.string name, vl, .slice po n c] 33 (0, 0))
  lits : ListAt GL wx (TermAt GL wx hh) lits vl
  gl : ∀ x, GL x → a4 + 1 ≤ x ∧ x < W0
  w0 : a4 + 1 ≤ W0 ∧ W0 ≤ wx.heap.size
  row : FRowAt W0 G wx (.slice po n c) (funcs.take j)
  ap : ∀ g, (Value.slice po n c).ownBlock = some g → ¬ G g
  lo : ∀ x, G x → W0 ≤ x ∧ x < wx.heap.size
  rd : RAt wx R v l q
  kp : Kp (fun x => x = R) w1 wx
section
variable {w1 wr w5 wx : World} {R : Nat} {v : Value} {l : List UInt8} {a4 W0 : Nat} {name : ByteArray} {vl : Value} {GL : Nat → Prop} {lits : List Tm} {hh : Nat} {funcs : List Fn4} {j q q' : Nat} {po : Option Addr} {n c : Nat} {G : Nat → Prop}
theorem FunsAt.lt (hS : FunsAt w1 R v l a4 W0 name vl GL lits hh funcs j q po n c G wx) (g : Nat) (e : (Value.slice po n c).ownBlock = some g) : W0 ≤ g ∧ g < wx.heap.size := by
  obtain ⟨xs, ho, _⟩ := hS.row
  exact ho.lt g e
theorem lits_kp {w w' : World} {F : Nat → Prop} (h : ListAt GL w (TermAt GL w hh) lits vl) (hk : Kp F w w') (hd : ∀ x, GL x → ¬ F x) : ListAt GL w' (TermAt GL w' hh) lits vl :=
  h.imp (fun _ e => e) (cells_kp hk hd) (fun _ _ e => TermAt.kp e hk hd)
theorem fns_next (hS : FunsAt w1 R v l a4 W0 name vl GL lits hh funcs j q po n c G wr) (hk5 : Kp (fun x => x = R) wr w5) (hr5 : RAt w5 R v l q') {f : Fn4} {p4 : Option Addr} {n4 c4 : Nat}
    (hT : FnAt (Own wr.heap.size w5) w5 f [.string f.name, .int .i64 f.args, .int .i64 f.slots, .slice p4 n4 c4]) (hj : funcs[j]? = some f) (hR : R < w1.heap.size) (hA : w1.heap.size ≤ a4) (hlen : j ≤ 1000000000) :
    w5.heap[a4]? = some (.cells #[.string name, vl, .slice po n c] 33 (0, 0)) ∧
    ∃ g cap w6, (Builtin.append_ #[31, 31] 31 #[.slice po n c, .slice (some ⟨w5.heap.size, 0, none⟩) 1 1]).run Tryd.prog (w5.alloc (.cells #[.string f.name, .int .i64 f.args, .int .i64 f.slots, .slice p4 n4 c4] 30)) = .ok (.slice (some ⟨g, 0, none⟩) (j + 1) cap) w6 ∧
      w6.cell? ⟨a4, 2, none⟩ = some (.slice po n c) ∧ w6.frozen? ⟨a4, 2, none⟩ = false ∧
      FunsAt w1 R v l a4 W0 name vl GL lits hh funcs (j + 1) q' (some ⟨g, 0, none⟩) (j + 1) cap (fun x => G x ∨ Own wr.heap.size w5 x) (w6.setCell ⟨a4, 2, none⟩ (.slice (some ⟨g, 0, none⟩) (j + 1) cap)) := by
  have hal := (Array.getElem?_eq_some_iff.1 hS.cells).1
  have hjl := (List.getElem?_eq_some_iff.1 hj).1
  have hlj : (funcs.take j).length = j := by rw [List.length_take]; omega
  have hz5 := hk5.size
  have hw0 := hS.w0
  have hb5 := (hk5.block a4 hal (by omega)).trans hS.cells
  have hl5 := lits_kp hS.lits hk5 (fun x e e2 => by have := (hS.gl x e).1; omega)
  have hrow : FRowAt W0 (fun x => G x ∨ Own wr.heap.size w5 x) w5 (.slice po n c) (funcs.take j) := (hS.row.kp hk5 (fun g e e2 => by have := (hS.lt g e).1; omega) (fun x e e2 => by have := (hS.lo x e).1; omega)).le (fun _ e => .inl e)
  have hT' := FnAt.imp hT (G := fun x => G x ∨ Own wr.heap.size w5 x) (fun _ e => .inr e) (fun _ _ _ _ e => e)
  obtain ⟨g, cap, w6, h1, h2, h3, h4⟩ := fn_row hrow hT' (by omega) (by omega) (fun g e e2 => by
    rcases e2 with e2 | e2
    · exact hS.ap g e e2
    · have := (hS.lt g e).2; have := e2.1; omega)
  have hb6 := (h3.block a4 (by omega) (fun e => by have := (hS.lt _ e).1; omega)).trans hb5
  have hl6 := lits_kp hl5 h3 (fun x e e2 => by have := (hS.lt _ e2).1; have := (hS.gl x e).2; omega)
  have hg : W0 ≤ g := by
    rcases h4 with e | e
    · exact (hS.lt g e).1
    · omega
  have hks : Kp (fun x => x = a4) w6 (w6.setCell ⟨a4, 2, none⟩ (.slice (some ⟨g, 0, none⟩) (j + 1) cap)) := (Kp.refl (fun x => x = a4) w6).setCell _ _ (.inl rfl)
  have hr6 : RAt w6 R v l q' := ⟨(h3.block R (Array.getElem?_eq_some_iff.1 hr5.cells).1 (fun e => by have := (hS.lt _ e).1; omega)).trans hr5.cells, bytes_kp hr5.bytes h3 (fun x e e2 => by have := (hS.lt _ e2).1; omega), hr5.le⟩
  have hz6 := h3.size
  rw [hlj] at h1 h2
  refine ⟨hb5, g, cap, w6, h1, by rw [cell_of_row w6 _ 2 _ _ _ hb6]; rfl, by simp [World.frozen?, hb6], ⟨heap_set_same hb6 _, lits_kp hl6 hks (fun x e e2 => by have := (hS.gl x e).1; omega), hS.gl, ⟨hw0.1, ?_⟩, ?_, fun g' e e2 => ?_, fun x e => ?_, ?_, ?_⟩⟩
  · have := hks.size; omega
  · rw [take_snoc hj]
    exact h2.kp hks (fun g' e e2 => by have e := Option.some.inj e; simp only at e; omega) (fun x e e2 => by
      rcases e with e | e
      · have := (hS.lo x e).1; omega
      · have := e.1; omega)
  · have e := Option.some.inj e
    simp only at e
    subst e
    rcases e2 with e2 | e2
    · rcases h4 with h4 | h4
      · exact hS.ap g h4 e2
      · have := (hS.lo g e2).2; omega
    · rcases h4 with h4 | h4
      · have := (hS.lt g h4).2; have := e2.1; omega
      · have := e2.2; omega
  · show _ ∧ x < (w6.setCell _ _).heap.size
    have hz7 := hks.size
    rcases e with e | e
    · have := hS.lo x e; omega
    · have e1 := e.1; have e2 := e.2; omega
  · exact ⟨(hks.block R (Array.getElem?_eq_some_iff.1 hr6.cells).1 (by omega)).trans hr6.cells, bytes_kp hr6.bytes hks (fun x e e2 => by omega), hr6.le⟩
  · exact kp_new (hS.kp.trans' hk5) (kp_new (F := fun x => x = R ∨ w1.heap.size ≤ x) (h3.mono fun x _ e => .inr (by have := (hS.lt _ e).1; omega)) (hks.mono fun x _ e => .inl (.inr (by omega))))
/-- behind the literals, and the count of the functions -/
theorem funs_first (hS : LitsAt w1 R v l a4 name lits lits.length q po n c hh G wr) (hk5 : Kp (fun x => x = R) wr w5) (hr5 : RAt w5 R v l q') (hR : R < w1.heap.size) (hA : w1.heap.size ≤ a4) :
    FunsAt w1 R v l a4 w5.heap.size name (.slice po n c) (fun x => a4 + 1 ≤ x ∧ x < w5.heap.size) lits hh funcs 0 q' none 0 0 (fun _ => False) w5 := by
  have hal := (Array.getElem?_eq_some_iff.1 hS.cells).1
  have hz5 := hk5.size
  have hrow := hS.row
  rw [List.take_length] at hrow
  refine ⟨(hk5.block a4 hal (by omega)).trans hS.cells, ?_, fun x e => e, ⟨by omega, Nat.le_refl _⟩, ⟨[], by simpa using World.ownsRow_nil _ _ _ _, fun i t hi => by simp at hi⟩, fun _ _ e => e, fun _ e => e.elim, hr5, hS.kp.trans' hk5⟩
  refine lits_kp (F := fun x => x = R) (RowAt.list hrow (G' := fun x => a4 + 1 ≤ x ∧ x < w5.heap.size) (fun x e => ?_) (fun g e => ?_)) hk5 (fun x e e2 => by have := e.1; omega)
  · have := hS.lo x e; omega
  · have := hS.lt g e; omega
end
def threeSet (w : World) (A : Nat) (c0 c1 c2 : Value) : World := ((w.setCell ⟨A, 0, none⟩ c0).setCell ⟨A, 1, none⟩ c1).setCell ⟨A, 2, none⟩ c2
theorem threeSet_any {w : World} {A : Nat} {d0 d1 d2 c0 c1 c2 : Value} {T : TypeId} (h : w.heap[A]? = some (.cells #[d0, d1, d2] T (0, 0))) :
    (threeSet w A c0 c1 c2).heap[A]? = some (.cells #[c0, c1, c2] T (0, 0)) ∧ Kp (fun q => q = A) w (threeSet w A c0 c1 c2) :=
  ⟨heap_set_same' (heap_set_same' (heap_set_same' h _) _) _, (((Kp.refl (fun q => q = A) w).setCell _ _ (.inl rfl)).setCell _ _ (.inl rfl)).setCell _ _ (.inl rfl)⟩
theorem three_facts {w : World} {A : Nat} {c0 c1 c2 : Value} {T : TypeId} (h : w.heap[A]? = some (.cells #[c0, c1, c2] T (0, 0))) :
    w.cell? ⟨A, 0, none⟩ = some c0 ∧ w.cell? ⟨A, 1, none⟩ = some c1 ∧ w.cell? ⟨A, 2, none⟩ = some c2 ∧ ∀ j, w.frozen? ⟨A, j, none⟩ = false :=
  ⟨by rw [cell_of_row w A 0 _ _ _ h]; rfl, by rw [cell_of_row w A 1 _ _ _ h]; rfl, by rw [cell_of_row w A 2 _ _ _ h]; rfl, fun j => by simp [World.frozen?, h]⟩
end Go.Proofs.YtaeoohjgdkablaaDoor
