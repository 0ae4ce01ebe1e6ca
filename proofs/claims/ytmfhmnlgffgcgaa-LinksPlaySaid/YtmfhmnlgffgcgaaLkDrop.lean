/- A table's way shorten. -/
import Derived.Test.YtmfhmnlgffgcgaaLkAdd
namespace Go.Proofs.Ytmfhmnlgffgcgaa
open Go.RowKit Go.Maps
set_option linter.unusedVariables false

section
variable {F G : Nat → Prop} {w w' : World} {b off m l g n cap : Nat} {h : Nat → Value} {S : List (Int × Int)} {f : Int → List Int} {ix : Int → Int → Nat} {vs : Int → Value} {ks : List Int} {a x y : Int}
/-- the row that is left, the keys that are left, the cells that are left -/
def shV (g k cap : Nat) : Value := if k = 0 then .slice none 0 0 else .slice (some ⟨g, 0, none⟩) k cap
def shK (ks : List Int) (a : Int) (k : Nat) : List Int := if k = 0 then ksDel ks a else ks
def shH (h : Nat → Value) (off : Nat) (ks : List Int) : Nat → Value := if ks = [] then upd (upd h off (.map none)) (off + 1) (.map none) else h
def ShTo (b off l g cap : Nat) (h : Nat → Value) (vs : Int → Value) (ks : List Int) (a : Int) (k : Nat) (w : World) (e : Ending) (w' : World) : Prop :=
  e = .returned (.tuple #[]) ∧ HeadAt w' b (shH h off (shK ks a k)) ∧ Kp (fun q => q = l ∨ q = b) w w' ∧ Lm w' l (shK ks a k) (vsSet vs a (shV g k cap))
theorem Try.lkTable0 (w : World) : (zeroValue 27).run Try.prog w = .ok (.agg #[.map none, .map none]) w := by kernel_rfl
theorem ksPut_in (h : a ∈ ks) : ksPut ks a = ks := if_pos h
theorem vsSet_vsSet (vs : Int → Value) (a : Int) (u v : Value) : vsSet (vsSet vs a u) a v = vsSet vs a v := by
  funext c
  unfold vsSet
  split <;> rfl
set_option maxRecDepth 100000 in
set_option maxHeartbeats 4000000 in
theorem shorten_any (H : HeadAt w b h) (ho : off < 7) (e1 : h (off + 1) = .map (some l)) (hbl : b ≠ l) (hL : Lm w l ks vs) (hka : a ∈ ks) (hkl : ks.length < maxLen) (hva : vs a = .slice (some ⟨g, 0, none⟩) n cap) (ha : I64 a) {k : Nat} (hk : k ≤ n) (hn : n ≤ cap) (hc : cap ≤ 9223372036854775807) :
    Calls Try.prog 48 #[.pointer (some ⟨b, off, none⟩), .int .i64 a, .int .i64 (k : Nat)] w (ShTo b off l g cap h vs ks a k w) := by
  have kd : Kp (fun _ => False) w w.drew := (Kp.refl _ w).drew
  have hL1 := hL.kp kd (fun e => e)
  have hlk := hL.look ha
  have hlk2 := hL1.look ha
  rw [hva] at hlk hlk2
  obtain ⟨w1, r1, lm1, k1, z1⟩ := hL1.put ha hkl (v := .slice (some ⟨g, 0, none⟩) k cap) (.inr ⟨_, _, _, rfl⟩)
  rw [ksPut_in hka] at lm1
  have H1 := (H.same kd).kp k1 hbl
  have c1 : w.cell? ⟨b, off + 1, none⟩ = some (.map (some l)) := by rw [← e1]; exact H.cell (by omega)
  have d1 : w1.cell? ⟨b, off + 1, none⟩ = some (.map (some l)) := by rw [← e1]; exact H1.cell (by omega)
  have hkc : (k : Int) ≤ cap := by omega
  have R1 := Lib.hid r1
  have kw1 : Kp (fun q => q = l) w w1 := (kd.mono fun _ _ e => e.elim).trans' k1
  have hkc2 : k ≤ cap := by omega
  by_cases h0 : k = 0
  · subst h0
    obtain ⟨w2, r2, lm2, k2, z2⟩ := lm1.del ha 0
    have H2 := H1.kp k2 hbl
    have d2 : w2.cell? ⟨b, off + 1, none⟩ = some (.map (some l)) := by rw [← e1]; exact H2.cell (by omega)
    have d3 : w2.cell? ⟨b, off, none⟩ = some (h off) := H2.cell (by omega)
    have hln := lm2.len
    have hfz := H2.fz
    rw [vsSet_vsSet] at lm2
    by_cases hks : ksDel ks a = []
    · rw [hks] at hln
      have hln2 : (Builtin.len_ #[25] 3 #[.map (some l)]).run Try.prog w2 = .ok (.int .i64 0) w2 := hln
      have HF : Hid (ShTo b off l g cap h vs ks a 0 w (.returned (.tuple #[])) ((w2.setCell ⟨b, off, none⟩ (.map none)).setCell ⟨b, off + 1, none⟩ (.map none))) := by
        have k3 : Kp (fun q => q = b) w2 ((w2.setCell ⟨b, off, none⟩ (.map none)).setCell ⟨b, off + 1, none⟩ (.map none)) := ((Kp.refl (fun q => q = b) w2).setCell _ _ (.inl rfl)).setCell _ _ (.inl rfl)
        refine Lib.hid ⟨rfl, ?_, ((kw1.trans' k2).mono fun _ _ e => .inl e).trans' (k3.mono fun _ _ e => .inr e), ?_⟩
        · unfold shK shH
          rw [if_pos rfl, if_pos hks]
          exact (H2.set (by omega) _).set (by omega) _
        · unfold shK shV
          rw [if_pos rfl, if_pos rfl]
          exact lm2.kp k3 (fun e => hbl e.symm)
      have hz := Try.lkTable0
      clear hL hL1 hln lm1 lm2 k1 k2 H H1 H2 kw1 kd e1 r1 hka ha hva hks
      go_enter Try.func48, Try.ntmps48
      go_wp2_with fail
      go_still_tail 13, (by kernel_rfl)
      refine wpList_runm rfl _ _ _ 25 rfl (.map (some l)) (.int .i64 a) (.slice (some ⟨g, 0, none⟩) 0 cap) rfl rfl rfl w1 R1.out ?_
      go_wp2_with fail
      refine bodyPost_end (results_none rfl _ _ _) rfl ?_
      exact HF.out
    · have hl0 : ((ksDel ks a).length : Int) ≠ 0 := by
        have := List.length_pos_iff.2 hks
        omega
      obtain ⟨M, hM⟩ : ∃ M, (ksDel ks a).length = M := ⟨_, rfl⟩
      rw [hM] at hln hl0
      have hlb : ((M : Int) == 0) = false := by rw [beq_eq_false_iff_ne]; exact hl0
      have HF : Hid (ShTo b off l g cap h vs ks a 0 w (.returned (.tuple #[])) w2) := by
        refine Lib.hid ⟨rfl, ?_, ((kw1.trans' k2).mono fun _ _ e => .inl e), ?_⟩
        · unfold shK shH
          rw [if_pos rfl, if_neg hks]
          exact H2
        · unfold shK shV
          rw [if_pos rfl, if_pos rfl]
          exact lm2
      clear hL hL1 lm1 lm2 k1 k2 H H1 H2 kw1 kd e1 r1 hka ha hva hks hM hl0
      go_enter Try.func48, Try.ntmps48
      go_wp2_with fail
      go_still_tail 13, (by kernel_rfl)
      refine wpList_runm rfl _ _ _ 25 rfl (.map (some l)) (.int .i64 a) (.slice (some ⟨g, 0, none⟩) 0 cap) rfl rfl rfl w1 R1.out ?_
      go_wp2_with fail
      refine bodyPost_end (results_none rfl _ _ _) rfl ?_
      exact HF.out
  · have hkb : ((k : Int) == 0) = false := by rw [beq_eq_false_iff_ne]; omega
    have hln := lm1.len
    have hl0 : ((ks.length : Nat) : Int) ≠ 0 := by
      have := List.length_pos_of_mem hka
      omega
    obtain ⟨M, hM⟩ : ∃ M, ks.length = M := ⟨_, rfl⟩
    rw [hM] at hln hl0
    have hlb : ((M : Int) == 0) = false := by rw [beq_eq_false_iff_ne]; exact hl0
    have HF : Hid (ShTo b off l g cap h vs ks a k w (.returned (.tuple #[])) w1) := by
      refine Lib.hid ⟨rfl, ?_, (kw1.mono fun _ _ e => .inl e), ?_⟩
      · unfold shK shH
        rw [if_neg h0, if_neg (fun e => by rw [e] at hka; cases hka)]
        exact H1
      · unfold shK shV
        rw [if_neg h0, if_neg h0]
        exact lm1
    clear hL hL1 lm1 k1 H H1 kw1 kd e1 r1 hka ha hva hM hl0 hkl
    go_enter Try.func48, Try.ntmps48
    go_wp2_with fail
    go_still_tail 13, (by kernel_rfl)
    refine wpList_runm rfl _ _ _ 25 rfl (.map (some l)) (.int .i64 a) (.slice (some ⟨g, 0, none⟩) k cap) rfl rfl rfl w1 R1.out ?_
    go_wp2_with fail
    refine bodyPost_end (results_none rfl _ _ _) rfl ?_
    exact HF.out
end
end Go.Proofs.Ytmfhmnlgffgcgaa
