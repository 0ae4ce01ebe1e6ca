/- A table's names: a map of numbers by texts. -/
import Derived.Test.YtdcmdidikengbaaTbPure
import Derived.Test.YtdcmdidikengbaaRun
import Derived.Test.YtdcmdidikengbaaRunM
import Derived.Test.YtdcmdidikengbaaProg
import Derived.Maps.Keyed
import Derived.Maps.OwnSet
import Derived.Maps.OwnOps
import Derived.Sort.KeysCollected
namespace Go.Proofs.Ytdcmdidikengbaa
open Go.RowKit Go.Maps

theorem Try.keyedStr : Keyed Try.prog 9 := string_keyed Try.underlying9
theorem Try.zeroLong (w : World) : (zeroValue 2).run Try.prog w = .ok (.int .i64 0) w := by kernel_rfl
/-- how a number reads -/
def longElem : Value → Option (DataW Unit × List MemPlace)
  | .int .i64 n => some (.lit (.int .i64 n), [])
  | _ => none
theorem longElem_some (n : Int) : longElem (.int .i64 n) = some (.lit (.int .i64 n), []) := rfl
theorem longElem_inv {v : Value} {n : Int} {ps : List MemPlace} (h : longElem v = some (.lit (.int .i64 n), ps)) : v = .int .i64 n := by
  unfold longElem at h
  split at h
  · injection h with h
    injection h with h _
    injection h with h
    injection h with _ h
    rw [h]
  · cases h

/-- the map in block mb says whose each name is -/
def Mn (w : World) (mb : Nat) (ns : List Nm) : Prop :=
  ∃ D, w.ownsMap Try.prog 9 longElem mb ns.length D ∧ Maps.size D = ns.length ∧ ns.Pairwise NmLt ∧ (∀ s : ByteArray, Maps.has D (.string s.data.toList) = (whose ns s).isSome) ∧
    ∀ n ∈ ns, D.atKey (.string n.txt.data.toList) (.lit (.int .i64 0)) = .lit (.int .i64 (n.pid : Nat))

theorem str_ne {s t : ByteArray} (h : s ≠ t) : (Lit.string s.data.toList) ≠ .string t.data.toList := fun e => by
  injection e with e
  exact h (txt_ext e)
theorem key_str {s : ByteArray} (hs : s.size ≤ maxLen) : keyOf Try.prog 9 (.string s) = some (.string s.data.toList) := WideMaps.keyOf_string_mk Try.underlying9 hs

section
variable {F : Nat → Prop} {w w' : World} {mb : Nat} {ns : List Nm}
theorem Mn.kp (h : Mn w mb ns) (hk : Kp F w w') (hF : ¬ F mb) : Mn w' mb ns := by
  obtain ⟨D, ⟨es, clock, hb, r⟩, h2⟩ := h
  exact ⟨D, ⟨es, clock, (hk.block mb (Array.getElem?_eq_some_iff.1 hb).1 hF).trans hb, r⟩, h2⟩
theorem Mn.same (h : Mn w mb ns) (hk : Kp (fun _ => False) w w') : Mn w' mb ns := h.kp hk (fun e => e)
theorem Mn.lt (h : Mn w mb ns) : mb < w.heap.size := by obtain ⟨D, h1, -⟩ := h; exact h1.lt
theorem Mn.block (h : Mn w mb ns) : ∃ es clock, w.heap[mb]? = some (.map es clock) := by obtain ⟨D, ⟨es, clock, hb, -⟩, -⟩ := h; exact ⟨es, clock, hb⟩
theorem Mn.ord (h : Mn w mb ns) : ns.Pairwise NmLt := by obtain ⟨D, -, -, h1, -⟩ := h; exact h1
theorem Mn.new (w : World) : Mn (w.alloc (.map #[] 0)) w.heap.size [] := ⟨_, World.ownsMap_made _ _ _ _, rfl, by simp, fun _ => rfl, fun t ht => by simp at ht⟩
theorem mn_size {k : TypeId} {R : Value → Option (DataW Unit × List MemPlace)} {b n : Nat} {D : DataW Unit} (h : w.ownsMap Try.prog k R b n D) {m : Nat} (hm : Maps.size D ≤ m) : w.ownsMap Try.prog k R b m D := by
  obtain ⟨es, clock, hb, F, hs, rfl⟩ := h
  refine ⟨es, clock, hb, F, ?_, rfl⟩
  have e1 : Maps.size (DataW.map ((es.toList.map (Go.WideElems.rg Try.prog k R)).foldr DataW.insert [])) = es.size := by simp [Maps.size, length_sorted]
  omega
theorem mn_turned {b : Nat} (h : w.mapTurned w' b) : Kp (fun q => q = b) w w' := (Kp.refl _ w).grown h.grown (fun k e => .inl (by injection e with e; exact e.symm))
theorem mn_tsize {b : Nat} (h : w.mapTurned w' b) : w'.heap.size = w.heap.size := by
  obtain ⟨es, clock, es', clock', _, rfl⟩ := h
  simp [ChangeMaps.setBlock]

/-- whose name it is, of a map -/
def whoseV : Option Nat → Value
  | some p => .int .i64 (p : Nat)
  | none => .int .i64 0
theorem Mn.look (h : Mn w mb ns) (s : ByteArray) (hs : s.size ≤ maxLen) :
    (Instr.lookup 76 (.map (some mb)) (.string s) true).run Try.prog w = .ok (.tuple #[whoseV (whose ns s), .bool (whose ns s).isSome]) w := by
  obtain ⟨D, h1, h2, ho, h3, h4⟩ := h
  obtain ⟨v, ps, hr, hv⟩ := h1.look_ok Try.keyedStr Try.underlying76 (Try.zeroLong w) (longElem_some 0) (key_str hs)
  rw [hr, h3 s]
  cases hf : whose ns s with
  | none =>
    have hh : Maps.has D (.string s.data.toList) = false := by rw [h3, hf]; rfl
    rw [atKey_of_not_has hh] at hv
    rw [longElem_inv hv]
    rfl
  | some p =>
    have hm := whose_some hf
    have := h4 _ hm
    rw [this] at hv
    rw [longElem_inv hv]
    rfl
theorem Mn.look1 (h : Mn w mb ns) (s : ByteArray) (hs : s.size ≤ maxLen) :
    (Instr.lookup 76 (.map (some mb)) (.string s) false).run Try.prog w = .ok (whoseV (whose ns s)) w := by
  obtain ⟨D, h1, h2, ho, h3, h4⟩ := h
  obtain ⟨v, ps, hr, hv⟩ := h1.lookup Try.keyedStr Try.underlying76 (Try.zeroLong w) (longElem_some 0) (key_str hs)
  rw [hr]
  cases hf : whose ns s with
  | none =>
    have hh : Maps.has D (.string s.data.toList) = false := by rw [h3, hf]; rfl
    rw [atKey_of_not_has hh] at hv
    rw [longElem_inv hv]
    rfl
  | some p =>
    have hm := whose_some hf
    have := h4 _ hm
    rw [this] at hv
    rw [longElem_inv hv]
    rfl
theorem Mn.len (h : Mn w mb ns) : (Builtin.len_ #[76] 3 #[.map (some mb)]).run Try.prog w = .ok (.int .i64 (ns.length : Nat)) w := by
  obtain ⟨D, h1, h2, -⟩ := h
  rw [← h2]
  exact h1.len Try.underlying76 _
theorem whose_putNm {x : Nm} (ho : ns.Pairwise NmLt) (hn : whose ns x.txt = none) (s : ByteArray) : whose (putNm ns x) s = if s = x.txt then some x.pid else whose ns s := by
  have hne := whose_none hn
  have ho2 := putNm_ord ho hne
  by_cases e : s = x.txt
  · rw [if_pos e, e]
    exact whose_mem ho2 (putNm_mem.2 (.inl rfl))
  · rw [if_neg e]
    cases hw : whose ns s with
    | some p =>
      have hm := whose_some hw
      exact whose_mem ho2 (putNm_mem.2 (.inr hm))
    | none =>
      cases hw2 : whose (putNm ns x) s with
      | none => rfl
      | some p =>
        have hm := whose_some hw2
        rcases putNm_mem.1 hm with e2 | e2
        · exact absurd (congrArg Nm.txt e2) e
        · exact absurd rfl (whose_none hw _ e2)
theorem whose_filter {f : Nm → Bool} (ho : ns.Pairwise NmLt) (s : ByteArray) : whose (ns.filter f) s = match whose ns s with | some p => if f ⟨s, p⟩ then some p else none | none => none := by
  cases hw : whose ns s with
  | none =>
    cases hw2 : whose (ns.filter f) s with
    | none => rfl
    | some p => exact absurd rfl (whose_none hw _ (List.mem_filter.1 (whose_some hw2)).1)
  | some p =>
    have hm := whose_some hw
    by_cases e : f ⟨s, p⟩ = true
    · simp only [e, if_true]
      exact whose_mem (n := ⟨s, p⟩) (ord_filter ho f) (List.mem_filter.2 ⟨hm, e⟩)
    · simp only [e]
      cases hw2 : whose (ns.filter f) s with
      | none => rfl
      | some p2 =>
        obtain ⟨h1, h2⟩ := List.mem_filter.1 (whose_some hw2)
        have h3 := whose_mem ho h1
        simp only at h3
        rw [hw] at h3
        rw [Option.some.inj h3] at e
        exact absurd h2 e
theorem Mn.put (h : Mn w mb ns) (x : Nm) (hs : x.txt.size ≤ maxLen) (hn : whose ns x.txt = none) (hm : ns.length < maxLen) :
    ∃ w', (Instr.mapUpdate 76 (.map (some mb)) (.string x.txt) (.int .i64 (x.pid : Nat))).run Try.prog w = .ok () w' ∧ Mn w' mb (putNm ns x) ∧ Kp (fun q => q = mb) w w' ∧ w'.heap.size = w.heap.size := by
  obtain ⟨D, h1, h2, ho, h3, h4⟩ := h
  obtain ⟨w', hr, hown, ht⟩ := h1.store Try.keyedStr Try.underlying76 hm (key_str hs) (longElem_some (x.pid : Nat))
  have hk : WideAt.IsKeyLit (.string x.txt.data.toList) := trivial
  have hno : Maps.has D (.string x.txt.data.toList) = false := by rw [h3, hn]; rfl
  refine ⟨w', hr, ⟨_, by rw [putNm_len]; exact hown, ?_, putNm_ord ho (whose_none hn), fun s => ?_, fun y hy => ?_⟩, mn_turned ht, mn_tsize ht⟩
  · rw [size_put (h1.tidy Try.keyedStr), hno, h2, putNm_len]; simp
  · rw [whose_putNm ho hn]
    by_cases e : s = x.txt
    · rw [e, has_put_same h1.isMap hk, if_pos rfl]
      rfl
    · rw [has_put_other (str_ne e), h3, if_neg e]
  · rcases putNm_mem.1 hy with e | hy
    · subst e
      rw [atKey_put_same h1.isMap hk]
    · rw [atKey_put_other (str_ne (whose_none hn y hy))]
      exact h4 y hy
theorem length_filter_txt (ho : ns.Pairwise NmLt) (s : ByteArray) : (butFor ns s).length + (if (whose ns s).isSome = true then 1 else 0) = ns.length := by
  unfold butFor whose
  induction ns with
  | nil => rfl
  | cons a l ih =>
    rw [List.pairwise_cons] at ho
    have ih := ih ho.2
    by_cases e : a.txt = s
    · have hl : l.find? (fun n => decide (n.txt = s)) = none := by
        rw [List.find?_eq_none]
        intro n hn
        have := (ho.1 n hn).ne
        rw [e] at this
        simpa using fun e2 => this e2.symm
      rw [hl] at ih
      simp [e] at ih ⊢
      exact ih
    · simp [e] at ih ⊢
      omega
theorem Mn.del (h : Mn w mb ns) (s : ByteArray) (hs : s.size ≤ maxLen) (ty : TypeId) :
    ∃ w', (Builtin.delete_ #[76, 9] ty #[.map (some mb), .string s]).run Try.prog w = .ok (.tuple #[]) w' ∧ Mn w' mb (butFor ns s) ∧ Kp (fun q => q = mb) w w' ∧ w'.heap.size = w.heap.size := by
  obtain ⟨D, h1, h2, ho, h3, h4⟩ := h
  obtain ⟨w', hr, hown, ht⟩ := h1.drop Try.keyedStr Try.underlying76 (key_str hs) ty
  have hsz : Maps.size (D.del (.string s.data.toList)) = (butFor ns s).length := by
    have h5 := size_del (k := .string s.data.toList) (h1.tidy Try.keyedStr)
    rw [h3, h2] at h5
    have h6 := length_filter_txt ho s
    omega
  refine ⟨w', hr, ⟨_, mn_size hown (Nat.le_of_eq hsz), hsz, ord_filter ho _, fun t => ?_, fun y hy => ?_⟩, mn_turned ht, mn_tsize ht⟩
  · show _ = (whose (ns.filter _) t).isSome
    rw [whose_filter ho]
    by_cases e : t = s
    · subst e
      rw [has_del_same]
      cases whose ns t with
      | none => rfl
      | some p => simp
    · rw [has_del_other (str_ne e), h3]
      cases whose ns t with
      | none => rfl
      | some p => simp [e]
  · obtain ⟨hy1, hy2⟩ := List.mem_filter.1 hy
    rw [atKey_del_other (str_ne (fun e2 => by simp [e2] at hy2))]
    exact h4 y hy1
/-- the keys, sorted, are the names -/
theorem mn_sorted {D : DataW Unit} (h1 : w.ownsMap Try.prog 9 longElem mb ns.length D) (ho : ns.Pairwise NmLt) (h3 : ∀ s : ByteArray, Maps.has D (.string s.data.toList) = (whose ns s).isSome)
    {ss : List (List UInt8)} (hp : ss.Perm (strKeys D)) : ss.mergeSort (fun x y => decide (x ≤ y)) = ns.map (fun n => n.txt.data.toList) := by
  have hnd : (ns.map (fun n => n.txt.data.toList)).Pairwise (fun x y => x < y) := List.pairwise_map.2 ho
  have hmem : ∀ x, x ∈ ns.map (fun n => n.txt.data.toList) ↔ Maps.has D (.string x) = true := by
    intro x
    have hx := h3 ⟨x.toArray⟩
    rw [hx, Option.isSome_iff_exists]
    constructor
    · intro h
      obtain ⟨n, hn, e⟩ := List.mem_map.1 h
      have e2 : n.txt = ⟨x.toArray⟩ := txt_ext (by rw [e])
      exact ⟨n.pid, by rw [← e2]; exact whose_mem ho hn⟩
    · rintro ⟨p, hp⟩
      exact List.mem_map.2 ⟨_, whose_some hp, rfl⟩
  have hperm : (ns.map (fun n => n.txt.data.toList)).Perm (strKeys D) := by
    obtain ⟨es, hD, hpw, _⟩ := h1.entries Try.keyedStr
    obtain ⟨es', hD', hko⟩ := h1.keysOf
    obtain rfl : es = es' := by rw [hD] at hD'; simpa using hD'
    subst hD
    exact perm_strKeys hpw (fun p hp => by obtain ⟨v, hv⟩ := hko p hp; obtain ⟨x, _, hx, _⟩ := Maps.keyOf_str Try.underlying9 hv; exact ⟨x, hx⟩) (hnd.imp (fun {a b} h e => by rw [e] at h; exact List.lt_irrefl _ h)) hmem
  show ss.mergeSort leB = _
  rw [mergeSort_of_perm (hp.trans hperm.symm)]
  refine List.mergeSort_of_pairwise ?_
  exact hnd.imp (fun {a b} h => by simpa [leB] using List.le_of_lt h)
end
end Go.Proofs.Ytdcmdidikengbaa
