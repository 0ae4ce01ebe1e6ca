/- A table's way add. -/
import Derived.Test.YtmfhmnlgffgcgaaLkOps
import Derived.Deep.RegionLaw
namespace Go
open Go.RowKit
section
variable {P : Program} {w : World}
theorem step_runm {ops : Array Oper} {o : Oper} {a : Act} {K : Act → World → Prop} {Q : Exit → Act → World → Prop} {E : Prop} (hgd : o.guard = none) (m x v : Operand) (t : TypeId)
    (ho : o.op = .mapUpdate t m x v) (mv xv vv : Value) (hm : a.eval m = mv) (hx : a.eval x = xv) (hv : a.eval v = vv) (w' : World)
    (hr : (Instr.mapUpdate t mv xv vv).run P w = .ok () w') (h : K (a.put o.dst undef) w') :
    if Region.wanted o (yielded ops a.tmps) = true then Oper.wp P o a w K Q else E := by
  have hw : Region.wanted o (yielded ops a.tmps) = true := by simp [Region.wanted, hgd]
  rw [if_pos hw]
  unfold Oper.wp
  simp [execOp, ho, hm, hx, hv, hr, Result.andThen]
  exact h
end
end Go
namespace Go.Proofs.Ytmfhmnlgffgcgaa
open Go.RowKit Go.Maps
set_option linter.unusedVariables false

section
variable {F G : Nat → Prop} {w w' : World} {b off m l : Nat} {h : Nat → Value} {S : List (Int × Int)} {f : Int → List Int} {ix : Int → Int → Nat} {vs : Int → Value} {ks : List Int} {a x : Int}
/-- what a table's way leaves -/
def TabTo (G : Nat → Prop) (w : World) (b off : Nat) (h : Nat → Value) (S' : List (Int × Int)) (e : Ending) (w' : World) : Prop :=
  e = .returned (.tuple #[]) ∧ ∃ h', HeadAt w' b h' ∧ (∀ k, k ≠ off → k ≠ off + 1 → h' k = h k) ∧ Tbl w' (fun q => G q ∨ w.heap.size ≤ q) (h' off) (h' (off + 1)) S' ∧ Kp (fun q => G q ∨ q = b) w w'
theorem nodup_len_le : ∀ {ks M : List Int}, ks.Nodup → (∀ c ∈ ks, c ∈ M) → ks.length ≤ M.length
  | [], M, _, _ => Nat.zero_le _
  | k :: ks, M, hn, hm => by
    rw [List.nodup_cons] at hn
    have h1 := hm k (by simp)
    have h2 := nodup_len_le (M := M.erase k) hn.2 (fun c hc => (List.mem_erase_of_ne (fun e => hn.1 (by rw [← e]; exact hc))).2 (hm c (by simp [hc])))
    rw [List.length_erase_of_mem h1] at h2
    have h3 := List.length_pos_of_mem h1
    rw [List.length_cons]
    omega
structure AddS (w : World) (G : Nat → Prop) (m l : Nat) (S : List (Int × Int)) (f : Int → List Int) (ix : Int → Int → Nat) (vs : Int → Value) (a x : Int) (W3 W4 : World) (g cap : Nat) (W7 W8 : World) : Prop where
  r4 : (Instr.mapUpdate 24 (.map (some m)) (pv a x) (.int .i64 ((f a).length : Nat))).run Try.prog W3 = .ok () W4
  r7 : (Builtin.append_ #[32, 32] 32 #[vs a, .slice (some ⟨W4.drew.heap.size, 0, none⟩) 1 1]).run Try.prog (W4.drew.alloc (.cells #[.int .i64 x] 2)) = .ok (.slice (some ⟨g, 0, none⟩) ((f a).length + 1) cap) W7
  r8 : (Instr.mapUpdate 25 (.map (some l)) (.int .i64 a) (.slice (some ⟨g, 0, none⟩) ((f a).length + 1) cap)).run Try.prog W7 = .ok () W8
  k4 : Kp (fun q => q = m) W3 W4
  k7 : Kp (fun q => (vs a).ownBlock = some q) W4.drew W7
  k8 : Kp (fun q => q = l) W7 W8
  z : w.heap.size ≤ W3.heap.size
  tb : TbIn W8 (fun q => G q ∨ w.heap.size ≤ q) m l (S ++ [(a, x)]) (fSet f a (f a ++ [x])) (ixSet ix a x (f a).length) (vsSet vs a (.slice (some ⟨g, 0, none⟩) ((f a).length + 1) cap)) (ksPut ks a)
theorem add_steps (hT : TbIn w G m l S f ix vs ks) (hno : (a, x) ∉ S) (ha : I64 a) (hx : I64 x) (hlen : S.length + 1 ≤ 17592186044416) {W3 : World} (hk3 : Kp (fun _ => False) w W3) :
    ∃ W4 g cap W7 W8, AddS (ks := ks) w G m l S f ix vs a x W3 W4 g cap W7 W8 := by
  have h3 := hT.kp hk3 (fun _ _ e => e)
  have hlf := hT.len a
  have hml := map_lt hT.pm.block
  have hll := map_lt hT.lm.block
  have hz3 := hk3.size
  obtain ⟨W4, r4, pm4, k4, z4⟩ := h3.pm.put ha hx hno (by unfold maxLen; omega) (f a).length
  have hvm : ∀ c g, (vs c).ownBlock = some g → ¬ g = m := fun c g hg => (hT.vne c g hg).1
  have hvl : ∀ c g, (vs c).ownBlock = some g → ¬ g = l := fun c g hg => (hT.vne c g hg).2
  have row5 : ∀ c, Lw W4.drew (vs c) (f c) := fun c => (h3.row c).kp k4.drew (hvm c)
  obtain ⟨g, cap, W7, r7, row7, k7, g7, l7⟩ := longs_push (row5 a) (by omega) x
  have lm7 : Lm W7 l ks vs := (h3.lm.kp k4.drew hT.ne.symm).kp k7 (fun e => hvl a l e rfl)
  have hkl : ks.length ≤ S.length := by
    have h1 : ∀ c ∈ ks, ∃ p ∈ S, p.1 = c := by
      intro c hc
      have h2 := (hT.keys c).1 hc
      obtain ⟨y, hy⟩ := List.exists_mem_of_ne_nil _ h2
      exact ⟨(c, y), hT.mem.1 hy, rfl⟩
    have := nodup_len_le (M := S.map Prod.fst) hT.lm.1 fun c hc => by
      obtain ⟨p, hp, e⟩ := h1 c hc
      exact List.mem_map.2 ⟨p, hp, e⟩
    simpa using this
  obtain ⟨W8, r8, lm8, k8, z8⟩ := lm7.put ha (by unfold maxLen; omega) (v := .slice (some ⟨g, 0, none⟩) ((f a).length + 1) cap) (.inr ⟨_, _, _, rfl⟩)
  have hg : g ≠ l := by
    rcases g7 with e | e
    · exact hvl a g e
    · have : W4.drew.heap.size = W4.heap.size := rfl
      omega
  have pm8 : Pm W8 m (S ++ [(a, x)]) (ixSet ix a x (f a).length) := ((pm4.kp (Kp.refl (fun _ => False) W4).drew id).kp k7 (fun e => hvm a m e rfl)).kp k8 hT.ne
  have hk : Kp (fun q => q = m ∨ q = l ∨ (vs a).ownBlock = some q) w W8 :=
    (((hk3.mono fun _ _ e => e.elim).trans' (k4.drew.mono fun _ _ e => .inl e)).trans' (k7.mono fun _ _ e => .inr (.inr e))).trans' (k8.mono fun _ _ e => .inr (.inl e))
  refine ⟨W4, g, cap, W7, W8, ⟨r4, r7, r8, k4, k7, k8, hz3, ?_⟩⟩
  refine hT.more hno hk pm8 lm8 (row7.kp k8 (fun q hq e => ?_)) (fun q hq => ?_)
  · have : g = q := by injection hq
    exact hg (by omega)
  · have : g = q := by injection hq
    subst this
    rcases g7 with e | e
    · exact .inl e
    · have : W4.drew.heap.size = W4.heap.size := rfl
      exact .inr (by omega)
end
end Go.Proofs.Ytmfhmnlgffgcgaa
