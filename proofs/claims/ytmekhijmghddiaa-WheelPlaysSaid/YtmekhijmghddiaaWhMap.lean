/- A wheel's timers by their ids: a map of pointers. -/
import Derived.Test.YtmekhijmghddiaaWhFall
import Derived.Maps.Keyed
import Derived.Maps.OwnSet
import Derived.Maps.OwnOps
namespace Go.Proofs.Ytmekhijmghddiaa
open Go.RowKit Go.Maps

theorem Try.keyedLong : Keyed Try.prog 2 := int_keyed Try.underlying2
theorem Try.zeroTimer (w : World) : (zeroValue 69).run Try.prog w = .ok (.pointer none) w := by kernel_rfl
/-- how a pointer to a timer reads -/
def ptrElem : Value → Option (DataW Unit × List MemPlace)
  | .pointer none => some (.agg [], [])
  | .pointer (some ⟨g, 0, none⟩) => some (.lit (.int .i64 (g : Nat)), [])
  | _ => none
theorem ptrElem_some (g : Nat) : ptrElem (.pointer (some ⟨g, 0, none⟩)) = some (.lit (.int .i64 (g : Nat)), []) := rfl
theorem ptrElem_inv {v : Value} {g : Nat} {ps : List MemPlace} (h : ptrElem v = some (.lit (.int .i64 (g : Nat)), ps)) : v = .pointer (some ⟨g, 0, none⟩) := by
  unfold ptrElem at h
  split at h
  · injection h with h
    injection h with h
    cases h
  · injection h with h
    injection h with h _
    injection h with h
    injection h with _ h
    rw [Int.ofNat_inj.1 h]
  · cases h
theorem ptrElem_nil {v : Value} {ps : List MemPlace} (h : ptrElem v = some (.agg [], ps)) : v = .pointer none := by
  unfold ptrElem at h
  split at h
  · rfl
  · injection h with h
    injection h with h
    cases h
  · cases h

theorem lit_ne {a c : Int} (h : a ≠ c) : (Lit.int .i64 a) ≠ .int .i64 c := fun e => by cases e; exact h rfl
/-- the map in block mb names these timers by their ids -/
def Mp (w : World) (mb : Nat) (ts : List Tm) : Prop :=
  ∃ D, w.ownsMap Try.prog 2 ptrElem mb ts.length D ∧ Maps.size D = ts.length ∧ (ts.map Tm.id).Nodup ∧ (∀ id : Int, Maps.has D (.int .i64 id) = ts.any (fun t => decide ((t.id : Int) = id))) ∧
    ∀ t ∈ ts, D.atKey (.int .i64 (t.id : Nat)) (.agg []) = .lit (.int .i64 (t.blk : Nat))
/-- the timer of that id -/
def tmOf (ts : List Tm) (id : Int) : Option Tm := ts.find? (fun t => decide ((t.id : Int) = id))

section
variable {F : Nat → Prop} {w w' : World} {mb : Nat} {ts : List Tm}
theorem Mp.kp (h : Mp w mb ts) (hk : Kp F w w') (hF : ¬ F mb) : Mp w' mb ts := by
  obtain ⟨D, ⟨es, clock, hb, r⟩, h2⟩ := h
  exact ⟨D, ⟨es, clock, (hk.block mb (Array.getElem?_eq_some_iff.1 hb).1 hF).trans hb, r⟩, h2⟩
theorem Mp.same (h : Mp w mb ts) (hk : Kp (fun _ => False) w w') : Mp w' mb ts := h.kp hk (fun e => e)
theorem Mp.lt (h : Mp w mb ts) : mb < w.heap.size := by obtain ⟨D, h1, -⟩ := h; exact h1.lt
theorem Mp.block (h : Mp w mb ts) : ∃ es clock, w.heap[mb]? = some (.map es clock) := by obtain ⟨D, ⟨es, clock, hb, -⟩, -⟩ := h; exact ⟨es, clock, hb⟩
theorem Mp.new (w : World) : Mp (w.alloc (.map #[] 0)) w.heap.size [] := ⟨_, World.ownsMap_made _ _ _ _, rfl, by simp, fun _ => rfl, fun t ht => by simp at ht⟩
theorem tmOf_mem {id : Int} {t : Tm} (h : tmOf ts id = some t) : t ∈ ts ∧ (t.id : Int) = id := by
  refine ⟨List.mem_of_find?_eq_some h, ?_⟩
  have := List.find?_some h
  simpa using this
theorem tmOf_none {id : Int} (h : tmOf ts id = none) : ∀ t ∈ ts, (t.id : Int) ≠ id := by
  intro t ht
  have := List.find?_eq_none.1 h t ht
  simpa using this
theorem tmOf_any (ts : List Tm) (id : Int) : ts.any (fun t => decide ((t.id : Int) = id)) = (tmOf ts id).isSome := by
  rw [Bool.eq_iff_iff, List.any_eq_true]
  unfold tmOf
  rw [List.find?_isSome]

theorem Mp.look (h : Mp w mb ts) (id : Int) (hid : (Lit.int .i64 id).wf = true) :
    (Instr.lookup 68 (.map (some mb)) (.int .i64 id) true).run Try.prog w = .ok (.tuple #[tptr ((tmOf ts id).map Tm.blk), .bool (tmOf ts id).isSome]) w := by
  obtain ⟨D, h1, h2, hn, h3, h4⟩ := h
  obtain ⟨v, ps, hr, hv⟩ := h1.look_ok Try.keyedLong Try.underlying68 (Try.zeroTimer w) (show ptrElem (.pointer none) = some (.agg [], []) from rfl) (keyOf_int_mk Try.underlying2 hid)
  rw [hr, h3 id, tmOf_any]
  cases hf : tmOf ts id with
  | none =>
    have hh : Maps.has D (.int .i64 id) = false := by rw [h3, tmOf_any, hf]; rfl
    rw [atKey_of_not_has hh] at hv
    rw [ptrElem_nil hv]
    rfl
  | some t =>
    obtain ⟨ht, he⟩ := tmOf_mem hf
    rw [← he, h4 t ht] at hv
    rw [ptrElem_inv hv]
    rfl
theorem Mp.len (h : Mp w mb ts) : (Builtin.len_ #[68] 3 #[.map (some mb)]).run Try.prog w = .ok (.int .i64 (ts.length : Nat)) w := by
  obtain ⟨D, h1, h2, -⟩ := h
  rw [← h2]
  exact h1.len Try.underlying68 _
theorem ownsMap_size {k : TypeId} {R : Value → Option (DataW Unit × List MemPlace)} {b n : Nat} {D : DataW Unit} (h : w.ownsMap Try.prog k R b n D) {m : Nat} (hm : Maps.size D ≤ m) : w.ownsMap Try.prog k R b m D := by
  obtain ⟨es, clock, hb, F, hs, rfl⟩ := h
  refine ⟨es, clock, hb, F, ?_, rfl⟩
  have e1 : Maps.size (DataW.map ((es.toList.map (Go.WideElems.rg Try.prog k R)).foldr DataW.insert [])) = es.size := by simp [Maps.size, length_sorted]
  omega
theorem turned_kp {b : Nat} (h : w.mapTurned w' b) : Kp (fun q => q = b) w w' := (Kp.refl _ w).grown h.grown (fun k e => .inl (by injection e with e; exact e.symm))
theorem turned_size {b : Nat} (h : w.mapTurned w' b) : w'.heap.size = w.heap.size := by
  obtain ⟨es, clock, es', clock', _, rfl⟩ := h
  simp [ChangeMaps.setBlock]

theorem Mp.put (h : Mp w mb ts) (t : Tm) (hid : (Lit.int .i64 (t.id : Nat)).wf = true) (hn : ∀ x ∈ ts, x.id ≠ t.id) (hm : ts.length < maxLen) :
    ∃ w', (Instr.mapUpdate 68 (.map (some mb)) (.int .i64 (t.id : Nat)) (.pointer (some ⟨t.blk, 0, none⟩))).run Try.prog w = .ok () w' ∧ Mp w' mb (ts ++ [t]) ∧ Kp (fun q => q = mb) w w' ∧ w'.heap.size = w.heap.size := by
  obtain ⟨D, h1, h2, hnd, h3, h4⟩ := h
  obtain ⟨w', hr, ho, ht⟩ := h1.store Try.keyedLong Try.underlying68 hm (keyOf_int_mk Try.underlying2 hid) (ptrElem_some t.blk)
  have hk : WideAt.IsKeyLit (.int .i64 (t.id : Nat)) := trivial
  have hno : Maps.has D (.int .i64 (t.id : Nat)) = false := by
    rw [h3, Bool.eq_false_iff]
    intro e
    obtain ⟨x, hx, e2⟩ := List.any_eq_true.1 e
    have e3 : (x.id : Int) = (t.id : Int) := by simpa using e2
    exact hn x hx (by omega)
  refine ⟨w', hr, ⟨_, by rw [List.length_append]; exact ho, ?_, ?_, fun id => ?_, fun x hx => ?_⟩, turned_kp ht, turned_size ht⟩
  · rw [size_put (h1.tidy Try.keyedLong), hno, h2]; simp
  · rw [List.map_append]
    refine List.nodup_append.2 ⟨hnd, by simp, ?_⟩
    intro a ha c hc e
    obtain ⟨x, hx, rfl⟩ := List.mem_map.1 ha
    simp at hc
    exact hn x hx (e.trans hc)
  · rw [List.any_append]
    by_cases e : (t.id : Int) = id
    · rw [← e, has_put_same h1.isMap hk]
      simp
    · rw [has_put_other (lit_ne (fun e2 => e e2.symm)), h3]
      simp [e]
  · rcases List.mem_append.1 hx with hx | hx
    · rw [atKey_put_other (lit_ne (fun e2 => hn x hx (by omega)))]
      exact h4 x hx
    · obtain rfl : x = t := by simpa using hx
      rw [atKey_put_same h1.isMap hk]
theorem Mp.del (h : Mp w mb ts) (id : Int) (hid : (Lit.int .i64 id).wf = true) (ty : TypeId) :
    ∃ w', (Builtin.delete_ #[68, 2] ty #[.map (some mb), .int .i64 id]).run Try.prog w = .ok (.tuple #[]) w' ∧ Mp w' mb (ts.filter fun t => !decide ((t.id : Int) = id)) ∧ Kp (fun q => q = mb) w w' ∧ w'.heap.size = w.heap.size := by
  obtain ⟨D, h1, h2, hnd, h3, h4⟩ := h
  obtain ⟨w', hr, ho, ht⟩ := h1.drop Try.keyedLong Try.underlying68 (keyOf_int_mk Try.underlying2 hid) ty
  have hsz : Maps.size (D.del (.int .i64 id)) = (ts.filter fun t => !decide ((t.id : Int) = id)).length := by
    have h5 := size_del (k := .int .i64 id) (h1.tidy Try.keyedLong)
    rw [h3, h2] at h5
    clear h3 h4 ho hr h1 h2
    have key : (ts.filter fun t => !decide ((t.id : Int) = id)).length + (if ts.any (fun t => decide ((t.id : Int) = id)) = true then 1 else 0) = ts.length := by
      clear h5
      induction ts with
      | nil => rfl
      | cons a l ih =>
        simp only [List.map_cons, List.nodup_cons] at hnd
        by_cases e : (a.id : Int) = id
        · have hl : l.any (fun t => decide ((t.id : Int) = id)) = false := by
            rw [Bool.eq_false_iff]
            intro e2
            obtain ⟨x, hx, e3⟩ := List.any_eq_true.1 e2
            exact hnd.1 (List.mem_map.2 ⟨x, hx, by have : (x.id : Int) = id := by simpa using e3
                                                   omega⟩)
          have := ih hnd.2
          rw [hl] at this
          simp [e] at this ⊢
          omega
        · have := ih hnd.2
          simp [e] at this ⊢
          omega
    omega
  refine ⟨w', hr, ⟨_, ownsMap_size ho (Nat.le_of_eq hsz), hsz, ?_, fun id' => ?_, fun x hx => ?_⟩, turned_kp ht, turned_size ht⟩
  · exact List.Nodup.sublist (List.Sublist.map _ (List.filter_sublist)) hnd
  · by_cases e : id' = id
    · subst e
      rw [has_del_same]
      symm
      rw [Bool.eq_false_iff]
      intro e2
      obtain ⟨x, hx, e3⟩ := List.any_eq_true.1 e2
      have h6 := (List.mem_filter.1 hx).2
      rw [e3] at h6
      cases h6
    · rw [has_del_other (lit_ne e), h3]
      rw [Bool.eq_iff_iff, List.any_eq_true, List.any_eq_true]
      constructor
      · rintro ⟨x, hx, e3⟩
        refine ⟨x, List.mem_filter.2 ⟨hx, ?_⟩, e3⟩
        have : (x.id : Int) = id' := by simpa using e3
        simp; omega
      · rintro ⟨x, hx, e3⟩
        exact ⟨x, (List.mem_filter.1 hx).1, e3⟩
  · obtain ⟨hx1, hx2⟩ := List.mem_filter.1 hx
    rw [atKey_del_other (lit_ne (fun e2 => by simp [e2] at hx2))]
    exact h4 x hx1
end
end Go.Proofs.Ytmekhijmghddiaa
