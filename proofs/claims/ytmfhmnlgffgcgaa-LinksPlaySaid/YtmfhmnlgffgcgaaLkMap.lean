/- The maps of a net: places by pairs, rows by numbers, watches by references. -/
import Derived.Test.YtmfhmnlgffgcgaaLkPure
import Derived.Test.YtmfhmnlgffgcgaaRun
import Derived.Test.YtmfhmnlgffgcgaaRunM
import Derived.Test.YtmfhmnlgffgcgaaProg
import Derived.Maps.Keyed
import Derived.Maps.OwnSet
import Derived.Maps.OwnOps
import Derived.DeepKeys4
import Derived.WideKeyPair
import Derived.WalkSpells
import Derived.WalkArith
namespace Go.Proofs.Ytmfhmnlgffgcgaa
open Go.RowKit Go.Maps
set_option linter.unusedVariables false

/-- a number of 64 bits -/
def I64 (a : Int) : Prop := -9223372036854775808 ≤ a ∧ a ≤ 9223372036854775807
theorem I64.wf {a : Int} (h : I64 a) : (Lit.int .i64 a).wf = true := WalkArith.wf_i64 h
theorem Try.keyedLk : Keyed Try.prog 2 := int_keyed Try.underlying2
theorem Try.lkLaidOut : laidOutB Try.prog = true := by kernel_rfl
theorem Try.keyedPair : Keyed Try.prog 70 := Keyed.of_law (deep_law_laid Try.lkLaidOut (m := 2) (by omega) (of_decide_eq_true (by kernel_rfl)) (by kernel_rfl) (by kernel_rfl))
theorem Try.arrPair : WideMaps.ArrKey Try.prog 70 2 2 := ⟨Try.underlying70, by kernel_rfl, by kernel_rfl, by kernel_rfl⟩
theorem Try.zeroLkInt (w : World) : (zeroValue 3).run Try.prog w = .ok (.int .i64 0) w := by kernel_rfl
theorem Try.zeroLkRow (w : World) : (zeroValue 32).run Try.prog w = .ok (.slice none 0 0) w := by kernel_rfl
theorem Try.zeroLkWatch (w : World) : (zeroValue 67).run Try.prog w = .ok (.agg #[.int .i64 0, .int .i64 0]) w := by kernel_rfl

/-- a pair as a key, as a value -/
def pk (a x : Int) : Lit := .string (keyBytes [.int .i64 a, .int .i64 x])
def pv (a x : Int) : Value := .agg #[.int .i64 a, .int .i64 x]
theorem Try.lkTypes0 : 1 ≤ Try.prog.types.size := of_decide_eq_true (by kernel_rfl)
theorem Try.lkTypes : ∃ m, Try.prog.types.size = m + 1 := ⟨_, (Nat.sub_add_cancel Try.lkTypes0).symm⟩
theorem key_pair {a x : Int} (ha : I64 a) (hx : I64 x) : keyOf Try.prog 70 (pv a x) = some (pk a x) :=
  WideMaps.keyOf_pair Try.arrPair Try.underlying2 Try.lkTypes ha.wf hx.wf
theorem pk_inj {a x c y : Int} (ha : I64 a) (hx : I64 x) (hc : I64 c) (hy : I64 y) (h : pk a x = pk c y) : (a, x) = (c, y) := by
  have := Try.keyedPair.inj (key_pair ha hx) (h ▸ key_pair hc hy)
  unfold pv at this
  injection this with this
  injection this with this
  injection this with h1 h2
  injection h2 with h2 _
  injection h1 with _ h1
  injection h2 with _ h2
  rw [h1, h2]
/-- how a number reads -/
def lkElem : Value → Option (DataW Unit × List MemPlace)
  | .int .i64 n => some (.lit (.int .i64 n), [])
  | _ => none
theorem lkElem_some (n : Int) : lkElem (.int .i64 n) = some (.lit (.int .i64 n), []) := rfl
theorem lkElem_inv {v : Value} {n : Int} {ps : List MemPlace} (h : lkElem v = some (.lit (.int .i64 n), ps)) : v = .int .i64 n := by
  unfold lkElem at h
  split at h
  · injection h with h
    injection h with h _
    injection h with h
    injection h with _ h
    rw [h]
  · cases h
/-- how a row reads -/
def rwData : Value → DataW Unit
  | .slice (some ⟨g, 0, none⟩) n c => .agg [.lit (.int .i64 (g : Nat)), .lit (.int .i64 (n : Nat)), .lit (.int .i64 (c : Nat))]
  | _ => .agg []
/-- a row: none, or one at its block's beginning -/
def RwForm (v : Value) : Prop := v = .slice none 0 0 ∨ ∃ g n c, v = .slice (some ⟨g, 0, none⟩) n c
def rwElem : Value → Option (DataW Unit × List MemPlace)
  | .slice none 0 0 => some (.agg [], [])
  | .slice (some ⟨g, 0, none⟩) n c => some (.agg [.lit (.int .i64 (g : Nat)), .lit (.int .i64 (n : Nat)), .lit (.int .i64 (c : Nat))], [])
  | _ => none
theorem rwElem_some {v : Value} (h : RwForm v) : rwElem v = some (rwData v, []) := by
  rcases h with rfl | ⟨g, n, c, rfl⟩ <;> rfl
theorem rwElem_inv {u v : Value} {ps : List MemPlace} (hv : RwForm v) (h : rwElem u = some (rwData v, ps)) : u = v := by
  unfold rwElem at h
  split at h
  · rcases hv with rfl | ⟨g, n, c, rfl⟩
    · rfl
    · injection h with h
      injection h with h _
      injection h with h
      cases h
  · rcases hv with rfl | ⟨g2, n2, c2, rfl⟩
    · injection h with h
      injection h with h _
      injection h with h
      cases h
    · injection h with h
      injection h with h _
      injection h with h
      injection h with h1 h
      injection h with h2 h
      injection h with h3 h
      injection h1 with h1
      injection h1 with _ h1
      injection h2 with h2
      injection h2 with _ h2
      injection h3 with h3
      injection h3 with _ h3
      rw [Int.ofNat_inj.1 h1, Int.ofNat_inj.1 h2, Int.ofNat_inj.1 h3]
  · cases h
/-- how a watch reads -/
def waData (a c : Int) : DataW Unit := .agg [.lit (.int .i64 a), .lit (.int .i64 c)]
def waElem : Value → Option (DataW Unit × List MemPlace)
  | .agg ⟨[.int .i64 a, .int .i64 c]⟩ => some (waData a c, [])
  | _ => none
theorem waElem_some (a c : Int) : waElem (.agg #[.int .i64 a, .int .i64 c]) = some (waData a c, []) := rfl
theorem waElem_inv {v : Value} {a c : Int} {ps : List MemPlace} (h : waElem v = some (waData a c, ps)) : v = .agg #[.int .i64 a, .int .i64 c] := by
  unfold waElem at h
  split at h
  · injection h with h
    injection h with h _
    unfold waData at h
    injection h with h
    injection h with h1 h
    injection h with h2 h
    injection h1 with h1
    injection h1 with _ h1
    injection h2 with h2
    injection h2 with _ h2
    rw [h1, h2]
  · cases h

theorem lk_lit_ne {a c : Int} (h : a ≠ c) : (Lit.int .i64 a) ≠ .int .i64 c := fun e => by cases e; exact h rfl
section
variable {F : Nat → Prop} {w w' : World} {mb : Nat}
theorem lkm_kp {k : TypeId} {R : Value → Option (DataW Unit × List MemPlace)} {n : Nat} {D : DataW Unit} (h : w.ownsMap Try.prog k R mb n D) (hk : Kp F w w') (hF : ¬ F mb) : w'.ownsMap Try.prog k R mb n D := by
  obtain ⟨es, clock, hb, r⟩ := h
  exact ⟨es, clock, (hk.block mb (Array.getElem?_eq_some_iff.1 hb).1 hF).trans hb, r⟩
theorem lkm_size {k : TypeId} {R : Value → Option (DataW Unit × List MemPlace)} {n : Nat} {D : DataW Unit} (h : w.ownsMap Try.prog k R mb n D) {m : Nat} (hm : Maps.size D ≤ m) : w.ownsMap Try.prog k R mb m D := by
  obtain ⟨es, clock, hb, F, hs, rfl⟩ := h
  refine ⟨es, clock, hb, F, ?_, rfl⟩
  have e1 : Maps.size (DataW.map ((es.toList.map (Go.WideElems.rg Try.prog k R)).foldr DataW.insert [])) = es.size := by simp [Maps.size, length_sorted]
  omega
theorem lkm_turned (h : w.mapTurned w' mb) : Kp (fun q => q = mb) w w' := (Kp.refl _ w).grown h.grown (fun k e => .inl (by injection e with e; exact e.symm))
theorem lkm_tsize (h : w.mapTurned w' mb) : w'.heap.size = w.heap.size := by
  obtain ⟨es, clock, es', clock', _, rfl⟩ := h
  simp [ChangeMaps.setBlock]

/-- the map in block mb tells of each pair its place -/
def Pm (w : World) (mb : Nat) (S : List (Int × Int)) (ix : Int → Int → Nat) : Prop :=
  (∀ p ∈ S, I64 p.1 ∧ I64 p.2) ∧ S.Nodup ∧ ∃ D, w.ownsMap Try.prog 70 lkElem mb S.length D ∧ Maps.size D = S.length ∧
    (∀ a x, I64 a → I64 x → Maps.has D (pk a x) = decide ((a, x) ∈ S)) ∧ ∀ p ∈ S, D.atKey (pk p.1 p.2) (.lit (.int .i64 0)) = .lit (.int .i64 (ix p.1 p.2 : Nat))
/-- the map in block mb tells of each number its row -/
def Lm (w : World) (mb : Nat) (ks : List Int) (vs : Int → Value) : Prop :=
  ks.Nodup ∧ (∀ a, RwForm (vs a)) ∧ (∀ a, a ∉ ks → vs a = .slice none 0 0) ∧ ∃ D, w.ownsMap Try.prog 2 rwElem mb ks.length D ∧ Maps.size D = ks.length ∧
    (∀ a : Int, Maps.has D (.int .i64 a) = decide (a ∈ ks)) ∧ ∀ a ∈ ks, D.atKey (.int .i64 a) (.agg []) = rwData (vs a)
/-- the map in block mb tells of each reference whose it is -/
def Mm (w : World) (mb : Nat) (ms : List Mo) : Prop :=
  (ms.map Mo.ref).Nodup ∧ ∃ D, w.ownsMap Try.prog 2 waElem mb ms.length D ∧ Maps.size D = ms.length ∧
    (∀ r : Int, Maps.has D (.int .i64 r) = (moOf ms r).isSome) ∧ ∀ m ∈ ms, D.atKey (.int .i64 m.ref) (waData 0 0) = waData m.who m.whom

theorem Pm.block {S ix} (h : Pm w mb S ix) : ∃ es clock, w.heap[mb]? = some (.map es clock) := by obtain ⟨-, -, D, ⟨es, clock, hb, -⟩, -⟩ := h; exact ⟨es, clock, hb⟩
theorem Lm.block {ks vs} (h : Lm w mb ks vs) : ∃ es clock, w.heap[mb]? = some (.map es clock) := by obtain ⟨-, -, -, D, ⟨es, clock, hb, -⟩, -⟩ := h; exact ⟨es, clock, hb⟩
theorem Mm.block {ms} (h : Mm w mb ms) : ∃ es clock, w.heap[mb]? = some (.map es clock) := by obtain ⟨-, D, ⟨es, clock, hb, -⟩, -⟩ := h; exact ⟨es, clock, hb⟩
theorem map_lt (h : ∃ es clock, w.heap[mb]? = some (.map es clock)) : mb < w.heap.size := by obtain ⟨es, c, h⟩ := h; exact (Array.getElem?_eq_some_iff.1 h).1
theorem Pm.kp {S ix} (h : Pm w mb S ix) (hk : Kp F w w') (hF : ¬ F mb) : Pm w' mb S ix := by obtain ⟨h1, h2, D, h3, h4⟩ := h; exact ⟨h1, h2, D, lkm_kp h3 hk hF, h4⟩
theorem Lm.kp {ks vs} (h : Lm w mb ks vs) (hk : Kp F w w') (hF : ¬ F mb) : Lm w' mb ks vs := by obtain ⟨h1, h2, h0, D, h3, h4⟩ := h; exact ⟨h1, h2, h0, D, lkm_kp h3 hk hF, h4⟩
theorem Mm.kp {ms} (h : Mm w mb ms) (hk : Kp F w w') (hF : ¬ F mb) : Mm w' mb ms := by obtain ⟨h1, D, h3, h4⟩ := h; exact ⟨h1, D, lkm_kp h3 hk hF, h4⟩
theorem Pm.new (w : World) (ix : Int → Int → Nat) : Pm (w.alloc (.map #[] 0)) w.heap.size [] ix := ⟨fun p hp => by simp at hp, by simp, _, World.ownsMap_made _ _ _ _, rfl, fun a x _ _ => by simp; rfl, fun p hp => by simp at hp⟩
theorem Lm.new (w : World) : Lm (w.alloc (.map #[] 0)) w.heap.size [] (fun _ => .slice none 0 0) := ⟨by simp, fun _ => .inl rfl, fun _ _ => rfl, _, World.ownsMap_made _ _ _ _, rfl, fun a => by simp; rfl, fun p hp => by simp at hp⟩
theorem Mm.new (w : World) : Mm (w.alloc (.map #[] 0)) w.heap.size [] := ⟨by simp, _, World.ownsMap_made _ _ _ _, rfl, fun a => rfl, fun p hp => by simp at hp⟩

section
variable {S : List (Int × Int)} {ix : Int → Int → Nat} {a x : Int}
theorem Pm.look (h : Pm w mb S ix) (ha : I64 a) (hx : I64 x) :
    ∃ n : Nat, (Instr.lookup 24 (.map (some mb)) (pv a x) true).run Try.prog w = .ok (.tuple #[.int .i64 (n : Nat), .bool (decide ((a, x) ∈ S))]) w := by
  obtain ⟨hb, hn, D, h1, h2, h3, h4⟩ := h
  obtain ⟨v, ps, hr, hv⟩ := h1.look_ok Try.keyedPair Try.underlying24 (Try.zeroLkInt w) (lkElem_some 0) (key_pair ha hx)
  rw [hr, h3 a x ha hx]
  by_cases hm : (a, x) ∈ S
  · rw [h4 _ hm] at hv
    rw [lkElem_inv hv]
    exact ⟨_, rfl⟩
  · have hh : Maps.has D (pk a x) = false := by rw [h3 a x ha hx]; simpa using hm
    rw [atKey_of_not_has hh] at hv
    rw [lkElem_inv hv]
    exact ⟨0, rfl⟩
theorem Pm.look1 (h : Pm w mb S ix) (hm : (a, x) ∈ S) :
    (Instr.lookup 24 (.map (some mb)) (pv a x) false).run Try.prog w = .ok (.int .i64 (ix a x : Nat)) w := by
  obtain ⟨hb, hn, D, h1, h2, h3, h4⟩ := h
  obtain ⟨v, ps, hr, hv⟩ := h1.lookup Try.keyedPair Try.underlying24 (Try.zeroLkInt w) (lkElem_some 0) (key_pair (hb _ hm).1 (hb _ hm).2)
  rw [hr]
  rw [h4 _ hm] at hv
  rw [lkElem_inv hv]
theorem Pm.len (h : Pm w mb S ix) : (Builtin.len_ #[24] 3 #[.map (some mb)]).run Try.prog w = .ok (.int .i64 (S.length : Nat)) w := by
  obtain ⟨hb, hn, D, h1, h2, h3, h4⟩ := h
  rw [← h2]
  exact h1.len Try.underlying24 _
/-- another place for one pair -/
def ixSet (ix : Int → Int → Nat) (a x : Int) (i : Nat) : Int → Int → Nat := fun c y => if c = a ∧ y = x then i else ix c y
/-- a new pair -/
theorem Pm.put (h : Pm w mb S ix) (ha : I64 a) (hx : I64 x) (hm : (a, x) ∉ S) (hl : S.length < maxLen) (i : Nat) :
    ∃ w', (Instr.mapUpdate 24 (.map (some mb)) (pv a x) (.int .i64 (i : Nat))).run Try.prog w = .ok () w' ∧ Pm w' mb (S ++ [(a, x)]) (ixSet ix a x i) ∧ Kp (fun q => q = mb) w w' ∧ w'.heap.size = w.heap.size := by
  obtain ⟨hb, hn, D, h1, h2, h3, h4⟩ := h
  obtain ⟨w', hr, ho, ht⟩ := h1.store Try.keyedPair Try.underlying24 hl (key_pair ha hx) (lkElem_some (i : Nat))
  have hk : WideAt.IsKeyLit (pk a x) := trivial
  have hno : Maps.has D (pk a x) = false := by rw [h3 a x ha hx]; simpa using hm
  refine ⟨w', hr, ⟨fun p hp => ?_, List.nodup_append.2 ⟨hn, by simp, ?_⟩, _, by rw [List.length_append]; exact ho, ?_, fun c y hc hy => ?_, fun p hp => ?_⟩, lkm_turned ht, lkm_tsize ht⟩
  · rcases List.mem_append.1 hp with hp | hp
    · exact hb p hp
    · simp at hp
      rw [hp]
      exact ⟨ha, hx⟩
  · intro p hp q hq e
    simp at hq
    exact hm (by rw [← hq, ← e]; exact hp)
  · rw [size_put (h1.tidy Try.keyedPair), hno, h2]; simp
  · by_cases e : (c, y) = (a, x)
    · obtain ⟨rfl, rfl⟩ := Prod.mk.inj e
      rw [has_put_same h1.isMap hk]
      simp
    · rw [has_put_other (fun e2 => e (pk_inj hc hy ha hx e2)), h3 c y hc hy]
      simp [e]
  · rcases List.mem_append.1 hp with hp | hp
    · have hne : p ≠ (a, x) := fun e => hm (e ▸ hp)
      rw [atKey_put_other (fun e2 => hne (pk_inj (hb p hp).1 (hb p hp).2 ha hx e2)), h4 p hp]
      unfold ixSet
      rw [if_neg (fun e => hne (Prod.ext e.1 e.2))]
    · simp at hp
      subst hp
      rw [atKey_put_same h1.isMap hk]
      unfold ixSet
      rw [if_pos ⟨rfl, rfl⟩]
/-- a pair gets another place -/
theorem Pm.set (h : Pm w mb S ix) (hm : (a, x) ∈ S) (hl : S.length < maxLen) (i : Nat) :
    ∃ w', (Instr.mapUpdate 24 (.map (some mb)) (pv a x) (.int .i64 (i : Nat))).run Try.prog w = .ok () w' ∧ Pm w' mb S (ixSet ix a x i) ∧ Kp (fun q => q = mb) w w' ∧ w'.heap.size = w.heap.size := by
  obtain ⟨hb, hn, D, h1, h2, h3, h4⟩ := h
  obtain ⟨ha, hx⟩ := hb _ hm
  obtain ⟨w', hr, ho, ht⟩ := h1.store Try.keyedPair Try.underlying24 hl (key_pair ha hx) (lkElem_some (i : Nat))
  have hk : WideAt.IsKeyLit (pk a x) := trivial
  have hyes : Maps.has D (pk a x) = true := by rw [h3 a x ha hx]; simpa using hm
  have hsz : Maps.size (D.put (pk a x) (.lit (.int .i64 (i : Nat)))) = S.length := by rw [size_put (h1.tidy Try.keyedPair), hyes, h2]; simp
  refine ⟨w', hr, ⟨hb, hn, _, lkm_size ho (Nat.le_of_eq hsz), hsz, fun c y hc hy => ?_, fun p hp => ?_⟩, lkm_turned ht, lkm_tsize ht⟩
  · by_cases e : (c, y) = (a, x)
    · obtain ⟨rfl, rfl⟩ := Prod.mk.inj e
      rw [has_put_same h1.isMap hk]
      simpa using hm
    · rw [has_put_other (fun e2 => e (pk_inj hc hy ha hx e2)), h3 c y hc hy]
  · by_cases e : p = (a, x)
    · subst e
      rw [atKey_put_same h1.isMap hk]
      unfold ixSet
      rw [if_pos ⟨rfl, rfl⟩]
    · rw [atKey_put_other (fun e2 => e (pk_inj (hb p hp).1 (hb p hp).2 ha hx e2)), h4 p hp]
      unfold ixSet
      rw [if_neg (fun e2 => e (Prod.ext e2.1 e2.2))]
theorem Pm.del (h : Pm w mb S ix) (hm : (a, x) ∈ S) (ty : TypeId) :
    ∃ w', (Builtin.delete_ #[24, 70] ty #[.map (some mb), pv a x]).run Try.prog w = .ok (.tuple #[]) w' ∧ Pm w' mb (butPair S (a, x)) ix ∧ Kp (fun q => q = mb) w w' ∧ w'.heap.size = w.heap.size := by
  obtain ⟨hb, hn, D, h1, h2, h3, h4⟩ := h
  obtain ⟨ha, hx⟩ := hb _ hm
  obtain ⟨w', hr, ho, ht⟩ := h1.drop Try.keyedPair Try.underlying24 (key_pair ha hx) ty
  have hyes : Maps.has D (pk a x) = true := by rw [h3 a x ha hx]; simpa using hm
  have hsz : Maps.size (D.del (pk a x)) = (butPair S (a, x)).length := by
    have h5 := size_del (k := pk a x) (h1.tidy Try.keyedPair)
    rw [hyes, h2] at h5
    have h6 := butPair_len hn hm
    simp at h5
    omega
  refine ⟨w', hr, ⟨fun p hp => hb p (mem_butPair.1 hp).1, butPair_nodup hn _, _, lkm_size ho (Nat.le_of_eq hsz), hsz, fun c y hc hy => ?_, fun p hp => ?_⟩, lkm_turned ht, lkm_tsize ht⟩
  · by_cases e : (c, y) = (a, x)
    · obtain ⟨rfl, rfl⟩ := Prod.mk.inj e
      rw [has_del_same]
      symm
      rw [decide_eq_false_iff_not, mem_butPair]
      exact fun e => e.2 rfl
    · rw [has_del_other (fun e2 => e (pk_inj hc hy ha hx e2)), h3 c y hc hy, Bool.eq_iff_iff, decide_eq_true_iff, decide_eq_true_iff, mem_butPair]
      exact ⟨fun h => ⟨h, e⟩, fun h => h.1⟩
  · obtain ⟨hp1, hp2⟩ := mem_butPair.1 hp
    rw [atKey_del_other (fun e2 => hp2 (pk_inj (hb p hp1).1 (hb p hp1).2 ha hx e2))]
    exact h4 p hp1
end
section
variable {ks : List Int} {vs : Int → Value} {a : Int}
/-- another row for one number -/
def vsSet (vs : Int → Value) (a : Int) (v : Value) : Int → Value := fun c => if c = a then v else vs c
def ksPut (ks : List Int) (a : Int) : List Int := if a ∈ ks then ks else ks ++ [a]
def ksDel (ks : List Int) (a : Int) : List Int := ks.filter fun c => !decide (c = a)
theorem mem_ksPut {c : Int} : c ∈ ksPut ks a ↔ c ∈ ks ∨ c = a := by
  unfold ksPut
  split
  · rename_i h
    exact ⟨.inl, fun e => e.elim id (fun e => e ▸ h)⟩
  · simp
theorem mem_ksDel {c : Int} : c ∈ ksDel ks a ↔ c ∈ ks ∧ c ≠ a := by
  unfold ksDel
  rw [List.mem_filter]
  simp
theorem Lm.look (h : Lm w mb ks vs) (ha : I64 a) : (Instr.lookup 25 (.map (some mb)) (.int .i64 a) false).run Try.prog w = .ok (vs a) w := by
  obtain ⟨hn, hf, h0, D, h1, h2, h3, h4⟩ := h
  obtain ⟨v, ps, hr, hv⟩ := h1.lookup Try.keyedLk Try.underlying25 (Try.zeroLkRow w) (rwElem_some (.inl rfl)) (keyOf_int_mk Try.underlying2 ha.wf)
  rw [hr]
  by_cases hm : a ∈ ks
  · rw [show rwData (.slice none 0 0) = .agg [] from rfl, h4 _ hm] at hv
    rw [rwElem_inv (hf a) hv]
  · have hh : Maps.has D (.int .i64 a) = false := by rw [h3 a]; simpa using hm
    rw [atKey_of_not_has hh] at hv
    rw [rwElem_inv (.inl rfl) hv, h0 a hm]
theorem Lm.len (h : Lm w mb ks vs) : (Builtin.len_ #[25] 3 #[.map (some mb)]).run Try.prog w = .ok (.int .i64 (ks.length : Nat)) w := by
  obtain ⟨hn, hf, h0, D, h1, h2, h3, h4⟩ := h
  rw [← h2]
  exact h1.len Try.underlying25 _
theorem Lm.put (h : Lm w mb ks vs) (ha : I64 a) (hl : ks.length < maxLen) {v : Value} (hv : RwForm v) :
    ∃ w', (Instr.mapUpdate 25 (.map (some mb)) (.int .i64 a) v).run Try.prog w = .ok () w' ∧ Lm w' mb (ksPut ks a) (vsSet vs a v) ∧ Kp (fun q => q = mb) w w' ∧ w'.heap.size = w.heap.size := by
  obtain ⟨hn, hf, h0, D, h1, h2, h3, h4⟩ := h
  obtain ⟨w', hr, ho, ht⟩ := h1.store Try.keyedLk Try.underlying25 hl (keyOf_int_mk Try.underlying2 ha.wf) (rwElem_some hv)
  have hk : WideAt.IsKeyLit (.int .i64 a) := trivial
  have hsz : Maps.size (D.put (.int .i64 a) (rwData v)) = (ksPut ks a).length := by
    rw [size_put (h1.tidy Try.keyedLk), h3, h2]
    unfold ksPut
    by_cases e : a ∈ ks <;> simp [e]
  refine ⟨w', hr, ⟨?_, fun c => ?_, fun c hc => ?_, _, lkm_size ho (Nat.le_of_eq hsz), hsz, fun c => ?_, fun c hc => ?_⟩, lkm_turned ht, lkm_tsize ht⟩
  · unfold ksPut
    split
    · exact hn
    · rename_i e
      refine List.nodup_append.2 ⟨hn, by simp, fun x hx y hy e2 => ?_⟩
      simp at hy
      exact e (by rw [← hy, ← e2]; exact hx)
  · unfold vsSet
    split
    · exact hv
    · exact hf c
  · rw [mem_ksPut] at hc
    unfold vsSet
    rw [if_neg (fun e => hc (.inr e))]
    exact h0 c (fun e => hc (.inl e))
  · by_cases e : c = a
    · subst e
      rw [has_put_same h1.isMap hk]
      symm
      rw [decide_eq_true_iff, mem_ksPut]
      exact .inr rfl
    · rw [has_put_other (lk_lit_ne e), h3, Bool.eq_iff_iff, decide_eq_true_iff, decide_eq_true_iff, mem_ksPut]
      exact ⟨.inl, fun h => h.elim id (fun h => absurd h e)⟩
  · unfold vsSet
    by_cases e : c = a
    · subst e
      rw [atKey_put_same h1.isMap hk, if_pos rfl]
    · rw [atKey_put_other (lk_lit_ne e), if_neg e]
      exact h4 c ((mem_ksPut.1 hc).elim id (fun h => absurd h e))
theorem nodup_del_len {ks : List Int} (hn : ks.Nodup) (a : Int) : (ksDel ks a).length + (if a ∈ ks then 1 else 0) = ks.length := by
  unfold ksDel
  induction ks with
  | nil => rfl
  | cons k ks ih =>
    rw [List.nodup_cons] at hn
    have ih := ih hn.2
    by_cases e : k = a
    · subst e
      rw [if_neg hn.1] at ih
      rw [List.filter_cons_of_neg (by simp), if_pos (by simp), List.length_cons]
      omega
    · rw [List.filter_cons_of_pos (by simpa using e)]
      have : (a ∈ k :: ks) ↔ a ∈ ks := by simp; exact fun h => absurd h.symm e
      by_cases e2 : a ∈ ks
      · rw [if_pos e2] at ih
        rw [if_pos (this.2 e2), List.length_cons, List.length_cons]
        omega
      · rw [if_neg e2] at ih
        rw [if_neg (fun e3 => e2 (this.1 e3)), List.length_cons, List.length_cons]
        omega
theorem Lm.del (h : Lm w mb ks vs) (ha : I64 a) (ty : TypeId) :
    ∃ w', (Builtin.delete_ #[25, 2] ty #[.map (some mb), .int .i64 a]).run Try.prog w = .ok (.tuple #[]) w' ∧ Lm w' mb (ksDel ks a) (vsSet vs a (.slice none 0 0)) ∧ Kp (fun q => q = mb) w w' ∧ w'.heap.size = w.heap.size := by
  obtain ⟨hn, hf, h0, D, h1, h2, h3, h4⟩ := h
  obtain ⟨w', hr, ho, ht⟩ := h1.drop Try.keyedLk Try.underlying25 (keyOf_int_mk Try.underlying2 ha.wf) ty
  have hsz : Maps.size (D.del (.int .i64 a)) = (ksDel ks a).length := by
    have h5 := size_del (k := .int .i64 a) (h1.tidy Try.keyedLk)
    rw [h3, h2] at h5
    have h6 := nodup_del_len hn a
    by_cases e : a ∈ ks <;> simp [e] at h5 h6 <;> omega
  refine ⟨w', hr, ⟨hn.filter _, fun c => ?_, fun c hc => ?_, _, lkm_size ho (Nat.le_of_eq hsz), hsz, fun c => ?_, fun c hc => ?_⟩, lkm_turned ht, lkm_tsize ht⟩
  · unfold vsSet
    split
    · exact .inl rfl
    · exact hf c
  · unfold vsSet
    by_cases e : c = a
    · rw [if_pos e]
    · rw [if_neg e]
      exact h0 c (fun e2 => hc (mem_ksDel.2 ⟨e2, e⟩))
  · by_cases e : c = a
    · subst e
      rw [has_del_same]
      symm
      rw [decide_eq_false_iff_not, mem_ksDel]
      exact fun e => e.2 rfl
    · rw [has_del_other (lk_lit_ne e), h3, Bool.eq_iff_iff, decide_eq_true_iff, decide_eq_true_iff, mem_ksDel]
      exact ⟨fun h => ⟨h, e⟩, fun h => h.1⟩
  · obtain ⟨hc1, hc2⟩ := mem_ksDel.1 hc
    rw [atKey_del_other (lk_lit_ne hc2)]
    unfold vsSet
    rw [if_neg hc2]
    exact h4 c hc1
end
section
variable {ms : List Mo} {r : Int}
/-- a watch, of a map -/
def waV : Option Mo → Value
  | some m => .agg #[.int .i64 m.who, .int .i64 m.whom]
  | none => .agg #[.int .i64 0, .int .i64 0]
theorem mm_uniq (hn : (ms.map Mo.ref).Nodup) {m n : Mo} (hm : m ∈ ms) (hn2 : n ∈ ms) (e : m.ref = n.ref) : m = n := by
  induction ms with
  | nil => cases hm
  | cons k ms ih =>
    rw [List.map_cons, List.nodup_cons] at hn
    rcases List.mem_cons.1 hm with e1 | m1
    · rcases List.mem_cons.1 hn2 with e2 | n1
      · rw [e1, e2]
      · exact absurd (List.mem_map.2 ⟨n, n1, by rw [← e, e1]⟩) hn.1
    · rcases List.mem_cons.1 hn2 with e2 | n1
      · exact absurd (List.mem_map.2 ⟨m, m1, by rw [e, e2]⟩) hn.1
      · exact ih hn.2 m1 n1
theorem mm_of (hn : (ms.map Mo.ref).Nodup) {m : Mo} (hm : m ∈ ms) : moOf ms m.ref = some m := by
  cases hf : moOf ms m.ref with
  | none => exact absurd rfl (moOf_none hf m hm)
  | some n =>
    obtain ⟨h1, h2⟩ := moOf_some hf
    rw [mm_uniq hn h1 hm h2]
theorem Mm.atk (h : Mm w mb ms) (r : Int) : ∃ D, w.ownsMap Try.prog 2 waElem mb ms.length D ∧ (∀ v ps, waElem v = some (D.atKey (.int .i64 r) (waData 0 0), ps) → v = waV (moOf ms r)) ∧ Maps.has D (.int .i64 r) = (moOf ms r).isSome := by
  obtain ⟨hn, D, h1, h2, h3, h4⟩ := h
  refine ⟨D, h1, fun v ps hv => ?_, h3 r⟩
  cases hf : moOf ms r with
  | none =>
    have hh : Maps.has D (.int .i64 r) = false := by rw [h3, hf]; rfl
    rw [atKey_of_not_has hh] at hv
    exact waElem_inv hv
  | some m =>
    obtain ⟨hm, he⟩ := moOf_some hf
    rw [← he, h4 m hm] at hv
    exact waElem_inv hv
theorem Mm.look (h : Mm w mb ms) (hr : I64 r) : (Instr.lookup 29 (.map (some mb)) (.int .i64 r) true).run Try.prog w = .ok (.tuple #[waV (moOf ms r), .bool (moOf ms r).isSome]) w := by
  obtain ⟨D, h1, h2, h3⟩ := h.atk r
  obtain ⟨v, ps, hr, hv⟩ := h1.look_ok Try.keyedLk Try.underlying29 (Try.zeroLkWatch w) (waElem_some 0 0) (keyOf_int_mk Try.underlying2 hr.wf)
  rw [hr, h3, h2 v ps hv]
theorem Mm.look1 (h : Mm w mb ms) (hr : I64 r) : (Instr.lookup 29 (.map (some mb)) (.int .i64 r) false).run Try.prog w = .ok (waV (moOf ms r)) w := by
  obtain ⟨D, h1, h2, h3⟩ := h.atk r
  obtain ⟨v, ps, hr, hv⟩ := h1.lookup Try.keyedLk Try.underlying29 (Try.zeroLkWatch w) (waElem_some 0 0) (keyOf_int_mk Try.underlying2 hr.wf)
  rw [hr, h2 v ps hv]
theorem Mm.len (h : Mm w mb ms) : (Builtin.len_ #[29] 3 #[.map (some mb)]).run Try.prog w = .ok (.int .i64 (ms.length : Nat)) w := by
  obtain ⟨hn, D, h1, h2, h3, h4⟩ := h
  rw [← h2]
  exact h1.len Try.underlying29 _
theorem Mm.put (h : Mm w mb ms) (n : Mo) (hr : I64 n.ref) (hno : ∀ m ∈ ms, m.ref ≠ n.ref) (hl : ms.length < maxLen) :
    ∃ w', (Instr.mapUpdate 29 (.map (some mb)) (.int .i64 n.ref) (.agg #[.int .i64 n.who, .int .i64 n.whom])).run Try.prog w = .ok () w' ∧ Mm w' mb (ms ++ [n]) ∧ Kp (fun q => q = mb) w w' ∧ w'.heap.size = w.heap.size := by
  obtain ⟨hn, D, h1, h2, h3, h4⟩ := h
  obtain ⟨w', hr, ho, ht⟩ := h1.store Try.keyedLk Try.underlying29 hl (keyOf_int_mk Try.underlying2 hr.wf) (waElem_some n.who n.whom)
  have hk : WideAt.IsKeyLit (.int .i64 n.ref) := trivial
  have hnone : moOf ms n.ref = none := by
    cases hf : moOf ms n.ref with
    | none => rfl
    | some m => exact absurd (moOf_some hf).2 (hno m (moOf_some hf).1)
  have hh : Maps.has D (.int .i64 n.ref) = false := by rw [h3, hnone]; rfl
  have hnd : ((ms ++ [n]).map Mo.ref).Nodup := by
    rw [List.map_append]
    refine List.nodup_append.2 ⟨hn, by simp, fun x hx y hy e => ?_⟩
    simp at hy
    obtain ⟨m, hm, rfl⟩ := List.mem_map.1 hx
    exact hno m hm (e.trans hy)
  refine ⟨w', hr, ⟨hnd, _, by rw [List.length_append]; exact ho, ?_, fun c => ?_, fun m hm => ?_⟩, lkm_turned ht, lkm_tsize ht⟩
  · rw [size_put (h1.tidy Try.keyedLk), hh, h2]; simp
  · unfold moOf
    rw [List.find?_append]
    by_cases e : c = n.ref
    · subst e
      rw [has_put_same h1.isMap hk]
      simp
    · rw [has_put_other (lk_lit_ne e), h3]
      unfold moOf
      cases List.find? (fun m => decide (m.ref = c)) ms with
      | some m => rfl
      | none =>
        have : n.ref ≠ c := fun e2 => e e2.symm
        simp [this]
  · rcases List.mem_append.1 hm with hm | hm
    · rw [atKey_put_other (lk_lit_ne (hno m hm))]
      exact h4 m hm
    · simp at hm
      subst hm
      rw [atKey_put_same h1.isMap hk]
theorem Mm.del (h : Mm w mb ms) {m : Mo} (hm : m ∈ ms) (hr : I64 m.ref) (ty : TypeId) :
    ∃ w', (Builtin.delete_ #[29, 2] ty #[.map (some mb), .int .i64 m.ref]).run Try.prog w = .ok (.tuple #[]) w' ∧ Mm w' mb (butRef ms m.ref) ∧ Kp (fun q => q = mb) w w' ∧ w'.heap.size = w.heap.size := by
  obtain ⟨hn, D, h1, h2, h3, h4⟩ := h
  obtain ⟨w', hr, ho, ht⟩ := h1.drop Try.keyedLk Try.underlying29 (keyOf_int_mk Try.underlying2 hr.wf) ty
  have hnd : ((butRef ms m.ref).map Mo.ref).Nodup := List.Nodup.sublist (List.Sublist.map _ List.filter_sublist) hn
  have hlen : (butRef ms m.ref).length + 1 = ms.length := by
    have h5 := nodup_del_len hn m.ref
    rw [if_pos (List.mem_map.2 ⟨m, hm, rfl⟩), List.length_map] at h5
    rw [← h5]
    unfold ksDel butRef
    rw [List.filter_map, List.length_map]
    rfl
  have hsz : Maps.size (D.del (.int .i64 m.ref)) = (butRef ms m.ref).length := by
    have h5 := size_del (k := .int .i64 m.ref) (h1.tidy Try.keyedLk)
    rw [h3, h2, mm_of hn hm] at h5
    simp at h5
    omega
  have hyes := mm_of hn hm
  refine ⟨w', hr, ⟨hnd, _, lkm_size ho (Nat.le_of_eq hsz), hsz, fun c => ?_, fun n hn2 => ?_⟩, lkm_turned ht, lkm_tsize ht⟩
  · by_cases e : c = m.ref
    · subst e
      rw [has_del_same]
      symm
      rw [Bool.eq_false_iff]
      intro e2
      obtain ⟨n, h5⟩ := Option.isSome_iff_exists.1 e2
      obtain ⟨h6, h7⟩ := moOf_some h5
      exact (mem_butRef.1 h6).2 h7
    · rw [has_del_other (lk_lit_ne e), h3, Bool.eq_iff_iff, Option.isSome_iff_exists, Option.isSome_iff_exists]
      constructor
      · rintro ⟨n, h5⟩
        obtain ⟨h6, h7⟩ := moOf_some h5
        exact ⟨n, by rw [← h7]; exact mm_of hnd (mem_butRef.2 ⟨h6, by rw [h7]; exact e⟩)⟩
      · rintro ⟨n, h5⟩
        obtain ⟨h6, h7⟩ := moOf_some h5
        exact ⟨n, by rw [← h7]; exact mm_of hn (mem_butRef.1 h6).1⟩
  · obtain ⟨h5, h6⟩ := mem_butRef.1 hn2
    rw [atKey_del_other (lk_lit_ne h6)]
    exact h4 n h5
end
end
end Go.Proofs.Ytmfhmnlgffgcgaa
