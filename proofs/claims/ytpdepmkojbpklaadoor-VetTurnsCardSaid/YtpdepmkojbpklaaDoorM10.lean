/- A term's bytes; writeTerm. Functions and their instructions: as plain data, in memory, as bytes; within, fits. A heap of places: the row it lies in, and what each of its methods does. -/
import Derived.Test.YtpdepmkojbpklaaDoorM01
import Derived.Test.YtpdepmkojbpklaaDoorM03
import Derived.Test.YtpdepmkojbpklaaDoorM05
import Derived.Test.YtpdepmkojbpklaaDoorM09
import Derived.Deep.LoopGhost
import Derived.LoopN
import Derived.Deep.DeepCutAuto
import Derived.Deep.CutBlock
import Derived.Deep.RegionLaw
import Derived.Deep.RegionWith
/- A term's bytes; writeTerm. -/
namespace Go.Proofs.YtpdepmkojbpklaaDoor
open Go.RowKit

mutual
/-- a term's bytes -/
def encT : Tm → List UInt8
  | .mk k n s it re bys => UInt8.ofNat k.toNat :: (if k = 1 ∨ k = 3 ∨ k = 4 then encNat (zig n) else if k = 2 then encB s.data.toList else if k = 5 then encNat it.length ++ encTs it
      else if k = 7 then (encNat it.length ++ encTs it) ++ (encNat re.length ++ encTs re) else if k = 8 then encB bys else [])
/-- the bytes of terms, one behind the other -/
def encTs : List Tm → List UInt8
  | [] => []
  | t :: ts => encT t ++ encTs ts
end
/-- how many, and these -/
def encL (ts : List Tm) : List UInt8 := encNat ts.length ++ encTs ts
theorem encTs_append (a b : List Tm) : encTs (a ++ b) = encTs a ++ encTs b := by
  induction a with
  | nil => simp [encTs]
  | cons t a ih => simp [encTs, ih]
theorem encTs_take {ts : List Tm} {j : Nat} {t : Tm} (h : ts[j]? = some t) : encTs (ts.drop j) = encT t ++ encTs (ts.drop (j + 1)) := by
  obtain ⟨hl, rfl⟩ := List.getElem?_eq_some_iff.1 h
  rw [List.drop_eq_getElem_cons hl]
  simp [encTs]

theorem tok_kind {d : Nat} {k n : Int} {s : ByteArray} {it re : List Tm} {bys : List UInt8} (h : tok d (.mk k n s it re bys)) : k = 1 ∨ k = 2 ∨ k = 3 ∨ k = 4 ∨ k = 5 ∨ k = 6 ∨ k = 7 ∨ k = 8 := by
  have hf := tok_fits h
  unfold fitsB fitsK at hf
  by_cases h1 : k = 1
  · exact .inl h1
  by_cases h2 : k = 2
  · exact .inr (.inl h2)
  by_cases h3 : k = 3
  · exact .inr (.inr (.inl h3))
  by_cases h4 : k = 4
  · exact .inr (.inr (.inr (.inl h4)))
  by_cases h5 : k = 5
  · exact .inr (.inr (.inr (.inr (.inl h5))))
  by_cases h6 : k = 6
  · exact .inr (.inr (.inr (.inr (.inr (.inl h6)))))
  by_cases h7 : k = 7
  · exact .inr (.inr (.inr (.inr (.inr (.inr (.inl h7))))))
  by_cases h8 : k = 8
  · exact .inr (.inr (.inr (.inr (.inr (.inr (.inr h8))))))
  simp [h1, h2, h3, h4, h5, h6, h7, h8] at hf

end Go.Proofs.YtpdepmkojbpklaaDoor

/- Functions and their instructions: as plain data, in memory, as bytes; within, fits. -/
namespace Go.Proofs.YtpdepmkojbpklaaDoor
open Go.RowKit

/-- an instruction -/
structure In4 where
  op : Int
  a : Int
  b : Int
  c : Int
/-- a function -/
structure Fn4 where
  name : ByteArray
  args : Int
  slots : Int
  code : List In4
/-- a module -/
structure Md where
  name : ByteArray
  lits : List Tm
  funcs : List Fn4

def isI64 (x : Int) : Prop := -9223372036854775808 ≤ x ∧ x ≤ 9223372036854775807
def In4.wf (x : In4) : Prop := isI64 x.op ∧ isI64 x.a ∧ isI64 x.b ∧ isI64 x.c
/-- a slice of instructions -/
def CodeAt (F : Nat → Prop) (w : World) (l : List In4) (v : Value) : Prop :=
  ∃ po cap, v = .slice po l.length cap ∧ l.length ≤ cap ∧ l.length * 32 ≤ 140737488351232 ∧
    ∀ (i : Nat) (x : In4), l[i]? = some x → ∃ b off, po = some ⟨b, off, none⟩ ∧ F b ∧ w.cell? ⟨b, off + i * 4, none⟩ = some (.int .i64 x.op) ∧ w.cell? ⟨b, off + i * 4 + 1, none⟩ = some (.int .i64 x.a) ∧
      w.cell? ⟨b, off + i * 4 + 2, none⟩ = some (.int .i64 x.b) ∧ w.cell? ⟨b, off + i * 4 + 3, none⟩ = some (.int .i64 x.c) ∧ x.wf
def FnAt (F : Nat → Prop) (w : World) (f : Fn4) (cs : List Value) : Prop :=
  ∃ vc, cs = [.string f.name, .int .i64 f.args, .int .i64 f.slots, vc] ∧ isI64 f.args ∧ isI64 f.slots ∧ f.name.size ≤ maxLen ∧ CodeAt F w f.code vc
/-- a slice of functions -/
def FnsAt (F : Nat → Prop) (w : World) (l : List Fn4) (v : Value) : Prop :=
  ∃ po cap, v = .slice po l.length cap ∧ l.length ≤ cap ∧ l.length * 56 ≤ 140737488351232 ∧
    ∀ (i : Nat) (f : Fn4), l[i]? = some f → ∃ b off c0 c1 c2 c3, po = some ⟨b, off, none⟩ ∧ F b ∧ w.cell? ⟨b, off + i * 4, none⟩ = some c0 ∧ w.cell? ⟨b, off + i * 4 + 1, none⟩ = some c1 ∧
      w.cell? ⟨b, off + i * 4 + 2, none⟩ = some c2 ∧ w.cell? ⟨b, off + i * 4 + 3, none⟩ = some c3 ∧ FnAt F w f [c0, c1, c2, c3]
/-- a module, in three cells: its terms are of a height below h -/
def MdAt (F : Nat → Prop) (w : World) (h : Nat) (m : Md) (cs : List Value) : Prop :=
  ∃ vl vf, cs = [.string m.name, vl, vf] ∧ m.name.size ≤ maxLen ∧ ListAt F w (TermAt F w h) m.lits vl ∧ FnsAt F w m.funcs vf

section
variable {F G : Nat → Prop} {w w' : World}
theorem CodeAt.imp {l : List In4} {v : Value} (h : CodeAt F w l v) (hF : ∀ b, F b → G b) (hc : ∀ b j u, F b → w.cell? ⟨b, j, none⟩ = some u → w'.cell? ⟨b, j, none⟩ = some u) : CodeAt G w' l v := by
  obtain ⟨po, cap, h1, h2, h3, h4⟩ := h
  refine ⟨po, cap, h1, h2, h3, fun i x hi => ?_⟩
  obtain ⟨b, off, e, hb, d0, d1, d2, d3, hw⟩ := h4 i x hi
  exact ⟨b, off, e, hF b hb, hc _ _ _ hb d0, hc _ _ _ hb d1, hc _ _ _ hb d2, hc _ _ _ hb d3, hw⟩
theorem FnAt.imp {f : Fn4} {cs : List Value} (h : FnAt F w f cs) (hF : ∀ b, F b → G b) (hc : ∀ b j u, F b → w.cell? ⟨b, j, none⟩ = some u → w'.cell? ⟨b, j, none⟩ = some u) : FnAt G w' f cs := by
  obtain ⟨vc, e, h1, h2, h3, h4⟩ := h
  exact ⟨vc, e, h1, h2, h3, h4.imp hF hc⟩
theorem FnsAt.imp {l : List Fn4} {v : Value} (h : FnsAt F w l v) (hF : ∀ b, F b → G b) (hc : ∀ b j u, F b → w.cell? ⟨b, j, none⟩ = some u → w'.cell? ⟨b, j, none⟩ = some u) : FnsAt G w' l v := by
  obtain ⟨po, cap, h1, h2, h3, h4⟩ := h
  refine ⟨po, cap, h1, h2, h3, fun i f hi => ?_⟩
  obtain ⟨b, off, c0, c1, c2, c3, e, hb, d0, d1, d2, d3, hf⟩ := h4 i f hi
  exact ⟨b, off, c0, c1, c2, c3, e, hF b hb, hc _ _ _ hb d0, hc _ _ _ hb d1, hc _ _ _ hb d2, hc _ _ _ hb d3, hf.imp hF hc⟩
theorem MdAt.imp {h : Nat} {m : Md} {cs : List Value} (hm : MdAt F w h m cs) (hF : ∀ b, F b → G b) (hc : ∀ b j u, F b → w.cell? ⟨b, j, none⟩ = some u → w'.cell? ⟨b, j, none⟩ = some u) : MdAt G w' h m cs := by
  obtain ⟨vl, vf, e, h0, h1, h2⟩ := hm
  exact ⟨vl, vf, e, h0, h1.imp hF hc (fun t cs e => TermAt.imp hF hc _ t cs e), h2.imp hF hc⟩
theorem CodeAt.form {l : List In4} {v : Value} (h : CodeAt F w l v) : ∃ po n cap, v = .slice po n cap := by
  obtain ⟨po, cap, e, _⟩ := h
  exact ⟨po, _, cap, e⟩
theorem FnsAt.form {l : List Fn4} {v : Value} (h : FnsAt F w l v) : ∃ po n cap, v = .slice po n cap := by
  obtain ⟨po, cap, e, _⟩ := h
  exact ⟨po, _, cap, e⟩
end

/-- an instruction's bytes -/
def encI (x : In4) : List UInt8 := UInt8.ofNat x.op.toNat :: (encNat (zig x.a) ++ (encNat (zig x.b) ++ encNat (zig x.c)))
def encIs (l : List In4) : List UInt8 := l.flatMap encI
/-- a function's bytes -/
def encF (f : Fn4) : List UInt8 := encB f.name.data.toList ++ (encNat f.args.toNat ++ (encNat f.slots.toNat ++ (encNat f.code.length ++ encIs f.code)))
def encFs (l : List Fn4) : List UInt8 := l.flatMap encF
/-- a module's bytes -/
def encM (m : Md) : List UInt8 := [84, 82, 80, 69] ++ (encB m.name.data.toList ++ (encL m.lits ++ (encNat m.funcs.length ++ encFs m.funcs)))

/-- is it from lo to hi? -/
def wi (n lo hi : Int) : Bool := decide (lo ≤ n) && decide (n ≤ hi)
theorem wi_true {n lo hi : Int} : wi n lo hi = true ↔ lo ≤ n ∧ n ≤ hi := by simp [wi]
def fitsI (x : In4) : Bool := wi x.op 0 255 && (wi x.a (-549755813888) 549755813888 && (wi x.b (-549755813888) 549755813888 && wi x.c (-549755813888) 549755813888))
/-- may a function be written? -/
def fitsF (f : Fn4) : Bool := wi f.args 0 1099511627776 && wi f.slots 0 1099511627776 && f.code.all fitsI

theorem three0 (x y z : Value) (w : World) : (Instr.index 113 (.agg #[x, y, z]) (.int .i64 0)).run Tryd.prog w = .ok x w := by kernel_rfl
theorem three1 (x y z : Value) (w : World) : (Instr.index 113 (.agg #[x, y, z]) (.int .i64 1)).run Tryd.prog w = .ok y w := by kernel_rfl
theorem three2 (x y z : Value) (w : World) : (Instr.index 113 (.agg #[x, y, z]) (.int .i64 2)).run Tryd.prog w = .ok z w := by kernel_rfl

theorem all_take {l : List In4} {p : In4 → Bool} {j : Nat} {x : In4} (h : l[j]? = some x) (hx : p x = false) : l.all p = false := by
  rw [List.all_eq_false]
  exact ⟨x, List.mem_of_getElem? h, by simp [hx]⟩

end Go.Proofs.YtpdepmkojbpklaaDoor

/- A heap of places: the row it lies in, and what each of its methods does. -/
namespace Go.Proofs.YtpdepmkojbpklaaDoor
open Go.RowKit

theorem Tryd.infoIntV : (Tryd.prog.info? 3).map (fun i => (i.zero, i.size, i.bytes)) = some (some (.int .i64 0), 1, 8) := by kernel_rfl
/-- integers in a row of one's own -/
def Ir (w : World) (g cap : Nat) (l : List Int) : Prop :=
  ∃ cur, w.heap[g]? = some (.cells cur 3 (0, 0)) ∧ cur.size = cap ∧ l.length ≤ cap ∧ cap ≤ maxLen ∧ cur.toList.take l.length = l.map (Value.int .i64)
theorem Ir.lt {w : World} {g cap : Nat} {l : List Int} (h : Ir w g cap l) : g < w.heap.size := by
  obtain ⟨cur, h, _⟩ := h
  exact (Array.getElem?_eq_some_iff.1 h).1
theorem Ir.kp {F : Nat → Prop} {w w' : World} {g cap : Nat} {l : List Int} (h : Ir w g cap l) (hk : Kp F w w') (hg : ¬ F g) : Ir w' g cap l := by
  obtain ⟨cur, h0, h⟩ := h
  exact ⟨cur, (hk.block g (Array.getElem?_eq_some_iff.1 h0).1 hg).trans h0, h⟩
theorem Ir.cell {w : World} {g cap : Nat} {l : List Int} (h : Ir w g cap l) {i : Nat} {x : Int} (hi : l[i]? = some x) : w.cell? ⟨g, i, none⟩ = some (.int .i64 x) ∧ w.frozen? ⟨g, i, none⟩ = false := by
  obtain ⟨cur, h0, h1, h2, h3, h4⟩ := h
  have hl := (List.getElem?_eq_some_iff.1 hi).1
  refine ⟨?_, by simp [World.frozen?, h0]⟩
  rw [cell_of_row _ _ _ _ _ _ h0]
  have h5 : (cur.toList.take l.length)[i]? = some (.int .i64 x) := by rw [h4, List.getElem?_map, hi]; rfl
  rw [List.getElem?_take_of_lt hl] at h5
  simpa using h5
theorem take_set {α : Type} (l : List α) (n i : Nat) (x : α) : (l.set i x).take n = (l.take n).set i x := by
  apply List.ext_getElem?
  intro j
  by_cases hj : j < n
  · rw [List.getElem?_take_of_lt hj, List.getElem?_set, List.getElem?_set, List.getElem?_take_of_lt hj, List.length_take]
    by_cases hij : i = j
    · subst hij
      rw [if_pos rfl, if_pos rfl]
      by_cases hl : i < l.length
      · rw [if_pos hl, if_pos (by omega)]
      · rw [if_neg hl, if_neg (by omega)]
    · rw [if_neg hij, if_neg hij]
  · rw [List.getElem?_eq_none (by simp; omega), List.getElem?_eq_none (by simp; omega)]
theorem Ir.set {w : World} {g cap : Nat} {l : List Int} (h : Ir w g cap l) (i : Nat) (x : Int) : Ir (w.setCell ⟨g, i, none⟩ (.int .i64 x)) g cap (l.set i x) := by
  obtain ⟨cur, h0, h1, h2, h3, h4⟩ := h
  refine ⟨_, heap_set_same h0 _, by simpa using h1, by rw [List.length_set]; exact h2, h3, ?_⟩
  rw [List.length_set, Array.toList_setIfInBounds, take_set, h4, List.map_set]
theorem Ir.of_heap {w w' : World} {g cap : Nat} {l : List Int} (h : Ir w g cap l) (e : w'.heap = w.heap) : Ir w' g cap l := by
  unfold Ir; rw [e]; exact h
theorem Ir.pop {w : World} {g cap : Nat} {l : List Int} {x : Int} (h : Ir w g cap (l ++ [x])) : Ir w g cap l := by
  obtain ⟨cur, h0, h1, h2, h3, h4⟩ := h
  rw [List.length_append] at h2 h4
  refine ⟨cur, h0, h1, by omega, h3, ?_⟩
  have h5 := congrArg (List.take l.length) h4
  rw [List.take_take, List.map_append, List.take_append_of_le_length (by simp), Nat.min_eq_left (by omega)] at h5
  rw [h5, List.take_of_length_le (by simp)]
theorem Ir.own {w : World} {g cap : Nat} {l : List Int} (h : Ir w g cap l) {B : Nat} (hB : B ≤ g) : w.ownsRow B 3 1 (.slice (some ⟨g, 0, none⟩) l.length cap) l.length (l.map (Value.int .i64)) := by
  obtain ⟨cur, h0, h1, h2, h3, h4⟩ := h
  exact ⟨by simp, .inr ⟨g, cap, cur, rfl, hB, h0, h2, h3, by omega, by rw [Nat.mul_one]; exact h4⟩⟩

set_option maxRecDepth 100000 in
set_option maxHeartbeats 1000000 in
theorem less_any {w : World} {g cap : Nat} {l : List Int} (h : Ir w g cap l) {i j : Nat} {x y : Int} (hi : l[i]? = some x) (hj : l[j]? = some y) :
    Calls Tryd.prog 96 #[.slice (some ⟨g, 0, none⟩) l.length cap, .int .i64 i, .int .i64 j] w fun e w' => e = .returned (.bool (decide (x < y))) ∧ Kp (fun _ => False) w w' := by
  obtain ⟨c1, -⟩ := h.cell hi
  obtain ⟨c2, -⟩ := h.cell hj
  have l1 := (List.getElem?_eq_some_iff.1 hi).1
  have l2 := (List.getElem?_eq_some_iff.1 hj).1
  have l3 : (i : Int) < l.length := by omega
  have l4 : (j : Int) < l.length := by omega
  clear h hi hj l1 l2
  go_enter Tryd.func96, Tryd.ntmps96
  go_wp2_with fail
  go_region_law fail
  all_goals
    go_wp2_with fail
    go_ret
    exact ⟨rfl, (Kp.refl _ w).drew⟩
set_option maxRecDepth 100000 in
set_option maxHeartbeats 4000000 in
theorem swap_any {w : World} {g cap : Nat} {l : List Int} (h : Ir w g cap l) {i j : Nat} {x y : Int} (hi : l[i]? = some x) (hj : l[j]? = some y) :
    Calls Tryd.prog 97 #[.slice (some ⟨g, 0, none⟩) l.length cap, .int .i64 i, .int .i64 j] w fun e w' => e = .returned (.tuple #[]) ∧ Ir w' g cap ((l.set i y).set j x) ∧ Kp (fun q => q = g) w w' := by
  obtain ⟨c1, f1⟩ := h.cell hi
  obtain ⟨c2, f2⟩ := h.cell hj
  have l1 := (List.getElem?_eq_some_iff.1 hi).1
  have l2 := (List.getElem?_eq_some_iff.1 hj).1
  have l3 : (i : Int) < l.length := by omega
  have l4 : (j : Int) < l.length := by omega
  have H := Lib.hid h
  have HJ := Lib.hid hj
  clear h hi hj l1 l2
  go_enter Tryd.func97, Tryd.ntmps97
  have d1 : ∃ u, (w.setCell ⟨g, i, none⟩ (.int .i64 y)).cell? ⟨g, j, none⟩ = some u ∧ (w.setCell ⟨g, i, none⟩ (.int .i64 y)).frozen? ⟨g, j, none⟩ = false := by
    by_cases e : i = j
    · subst e
      exact ⟨_, ((H.out.set i y).cell (i := i) (x := y) (by rw [List.getElem?_set_self (by omega)])).1, ((H.out.set i y).cell (i := i) (x := y) (by rw [List.getElem?_set_self (by omega)])).2⟩
    · exact ⟨_, ((H.out.set i y).cell (i := j) (x := y) (by rw [List.getElem?_set_ne e]; exact HJ.out)).1, ((H.out.set i y).cell (i := j) (x := y) (by rw [List.getElem?_set_ne e]; exact HJ.out)).2⟩
  obtain ⟨u1, d1, d1f⟩ := d1
  go_wp2_with fail
  go_region_law fail
  all_goals
    go_wp2_with fail
    go_end0
    refine ⟨rfl, ?_, (((Kp.refl (fun q => q = g) w).setCell _ _ (.inl rfl)).setCell _ _ (.inl rfl)).drew⟩
    exact ((H.out.set i y).set j x).of_heap rfl

/-- what goes through a function's instructions: its third field is a heap of places -/
def PlAt (w : World) (W : Nat) (c0 c1 : Value) (g cap : Nat) (l : List Int) : Prop := w.heap[W]? = some (.cells #[c0, c1, .slice (some ⟨g, 0, none⟩) l.length cap] 86 (0, 0)) ∧ g ≠ W ∧ Ir w g cap l
section
variable {w w' : World} {W : Nat} {c0 c1 : Value} {g cap : Nat} {l : List Int}
theorem PlAt.kp {F : Nat → Prop} (h : PlAt w W c0 c1 g cap l) (hk : Kp F w w') (h1 : ¬ F W) (h2 : ¬ F g) : PlAt w' W c0 c1 g cap l :=
  ⟨(hk.block W (Array.getElem?_eq_some_iff.1 h.1).1 h1).trans h.1, h.2.1, h.2.2.kp hk h2⟩
theorem PlAt.facts (h : PlAt w W c0 c1 g cap l) : w.cell? ⟨W, 0, none⟩ = some c0 ∧ w.cell? ⟨W, 1, none⟩ = some c1 ∧ w.cell? ⟨W, 2, none⟩ = some (.slice (some ⟨g, 0, none⟩) l.length cap) ∧ ∀ o, w.frozen? ⟨W, o, none⟩ = false :=
  ⟨by rw [cell_of_row w W 0 _ _ _ h.1]; rfl, by rw [cell_of_row w W 1 _ _ _ h.1]; rfl, by rw [cell_of_row w W 2 _ _ _ h.1]; rfl, fun o => by simp [World.frozen?, h.1]⟩
end
/-- the same values -/
def Alikes (l l' : List Int) : Prop := l.length = l'.length ∧ ∀ y, y ∈ l ↔ y ∈ l'
theorem swap_alike {l : List Int} {i j : Nat} {x y : Int} (hi : l[i]? = some x) (hj : l[j]? = some y) : Alikes l ((l.set i y).set j x) := by
  refine ⟨by simp, fun z => ?_⟩
  have l1 := (List.getElem?_eq_some_iff.1 hi).1
  have l2 := (List.getElem?_eq_some_iff.1 hj).1
  have hg : ∀ k, ((l.set i y).set j x)[k]? = if k = j then some x else if k = i then some y else l[k]? := by
    intro k
    by_cases e1 : k = j
    · subst e1
      rw [if_pos rfl, List.getElem?_set_self (by simpa using l2)]
    · rw [if_neg e1, List.getElem?_set_ne (Ne.symm e1)]
      by_cases e2 : k = i
      · subst e2
        rw [if_pos rfl, List.getElem?_set_self l1]
      · rw [if_neg e2, List.getElem?_set_ne (Ne.symm e2)]
  constructor
  · intro h
    obtain ⟨k, hk, rfl⟩ := List.getElem_of_mem h
    by_cases e1 : k = j
    · subst e1
      have e3 : l[k] = y := by rw [List.getElem?_eq_getElem hk] at hj; simpa using hj
      by_cases e4 : i = k
      · subst e4
        have e5 := hg i
        rw [if_pos rfl] at e5
        rw [hi] at hj
        obtain rfl : x = y := by simpa using hj
        rw [e3]
        exact List.mem_of_getElem? e5
      · have e5 := hg i
        rw [if_neg e4, if_pos rfl] at e5
        rw [e3]
        exact List.mem_of_getElem? e5
    · by_cases e2 : k = i
      · subst e2
        have e3 : l[k] = x := by rw [List.getElem?_eq_getElem hk] at hi; simpa using hi
        have e5 := hg j
        rw [if_pos rfl] at e5
        rw [e3]
        exact List.mem_of_getElem? e5
      · have e5 := hg k
        rw [if_neg e1, if_neg e2, List.getElem?_eq_getElem hk] at e5
        exact List.mem_of_getElem? e5
  · intro h
    obtain ⟨k, hk, e⟩ := List.getElem_of_mem h
    have h5 := List.getElem?_eq_getElem hk
    rw [hg, e] at h5
    split at h5
    · rw [← Option.some.inj h5]
      exact List.mem_of_getElem? hi
    · split at h5
      · rw [← Option.some.inj h5]
        exact List.mem_of_getElem? hj
      · exact List.mem_of_getElem? h5
theorem Alikes.trans {a b c : List Int} (h : Alikes a b) (k : Alikes b c) : Alikes a c := ⟨h.1.trans k.1, fun y => (h.2 y).trans (k.2 y)⟩
theorem Alikes.refl (l : List Int) : Alikes l l := ⟨rfl, fun _ => Iff.rfl⟩

set_option maxRecDepth 100000 in
set_option maxHeartbeats 4000000 in
theorem pop_any {w : World} {W : Nat} {c0 c1 : Value} {g cap : Nat} {l : List Int} {x : Int} (h : PlAt w W c0 c1 g cap (l ++ [x])) :
    Calls Tryd.prog 98 #[.pointer (some ⟨W, 2, none⟩)] w fun e w' => e = .returned (.iface 3 (.int .i64 x)) ∧ PlAt w' W c0 c1 g cap l ∧ Kp (fun q => q = W) w w' := by
  obtain ⟨f0, f1, h1, h2⟩ := h.facts
  obtain ⟨h0, h3, h4⟩ := h
  obtain ⟨d1, -⟩ := h4.cell (i := l.length) (x := x) (by simp)
  have hcap : l.length + 1 ≤ cap := by obtain ⟨_, _, _, h, _⟩ := h4; simpa using h
  obtain ⟨n, hn⟩ : ∃ n, l.length = n := ⟨_, rfl⟩
  rw [List.length_append, List.length_singleton, hn] at h1 h0
  rw [hn] at d1 hcap
  have hcm : cap ≤ maxLen := by obtain ⟨_, _, _, _, h, _⟩ := h4; exact h
  unfold maxLen at hcm
  have H := Lib.hid (And.intro h4 (And.intro hn (And.intro h3 h0)))
  have hni : (n : Int) ≤ cap := by omega
  have hnw : wrap64 ((n : Int) + 1 - 1) = n := by unfold wrap64; omega
  clear h4 hn h3 h0 f0 f1
  go_enter Tryd.func98, Tryd.ntmps98
  go_wp2_with fail
  go_ret
  have hk : Kp (fun q => q = W) w (w.setCell ⟨W, 2, none⟩ (.slice (some ⟨g, 0, none⟩) n cap)) := (Kp.refl (fun q => q = W) w).setCell _ _ (.inl rfl)
  refine ⟨rfl, ⟨?_, H.out.2.2.1, (H.out.1.pop).kp hk H.out.2.2.1⟩, hk⟩
  rw [H.out.2.1]
  exact heap_set_same H.out.2.2.2 _
/-- a place is put behind the others -/
theorem push_any {w : World} {W : Nat} {c0 c1 : Value} {g cap : Nat} {l : List Int} {x : Int} (h : PlAt w W c0 c1 g cap l) (hl : l.length ≤ 1000000) :
    Calls Tryd.prog 99 #[.pointer (some ⟨W, 2, none⟩), .iface 3 (.int .i64 x)] w fun e w' => e = .returned (.tuple #[]) ∧ ∃ g' cap', PlAt w' W c0 c1 g' cap' (l ++ [x]) ∧ (g' = g ∨ w.heap.size ≤ g') ∧ Kp (fun q => q = W ∨ q = g) w w' := by
  obtain ⟨f0, f1, h1, h2⟩ := h.facts
  obtain ⟨h0, h3, h4⟩ := h
  have hta : ∀ w : World, (Instr.typeAssert (.iface 3 (.int .i64 x)) 20 3 false).run Tryd.prog w = .ok (.int .i64 x) w := fun w => by kernel_rfl
  obtain ⟨i0, hi, hz0, hz1, hz2⟩ := info_parts Tryd.infoIntV
  have hWl := (Array.getElem?_eq_some_iff.1 h0).1
  obtain ⟨wa, hwa⟩ : ∃ wa, (w.alloc (.cells #[.int .i64 x] 3)).drew = wa := ⟨_, rfl⟩
  have hka : Kp (fun _ => False) w wa := by rw [← hwa]; exact ((Kp.refl _ w).alloc _).drew
  have hza : wa.heap.size = w.heap.size + 1 := by rw [← hwa]; show (w.alloc _).heap.size = _; simp
  have hnew : wa.heap[w.heap.size]? = some (.cells #[.int .i64 x] 3 (0, 0)) := by rw [← hwa]; exact heap_alloc_new w _
  obtain ⟨g', cap', w6, e1, e2, e3, e4, e5⟩ := run_append_lies (P := Tryd.prog) (w := wa) 84 84 0 3 i0 (.int .i64 0) 1 8 Tryd.underlying84 hi hz0 hz1 hz2 rfl (by omega) (.slice (some ⟨g, 0, none⟩) l.length cap) l.length (l.map (Value.int .i64)) ((h4.kp hka fun e => e).own (Nat.zero_le _)) ⟨w.heap.size, 0, none⟩ 1 1 [.int .i64 x] rfl
    (fun j u hj => by
      have hjl := (List.getElem?_eq_some_iff.1 hj).1
      simp only [List.length_singleton] at hjl
      obtain rfl : j = 0 := by omega
      rw [show ((⟨w.heap.size, 0, none⟩ : Addr).add 0) = ⟨w.heap.size, 0, none⟩ from by simp [Addr.add], cell_of_row _ _ _ _ _ _ hnew]
      simpa using hj) (by intro u hu; simp at hu; subst hu; rfl) (by omega) (by unfold maxLen; omega) (by omega) (Nat.zero_le _) wa.heap.size rfl
  have hk6 : Kp (fun q => q = g) wa w6 := (Kp.refl _ wa).grown e3 fun k hk => by
    have hk := Option.some.inj hk
    exact .inl hk.symm
  have h06 := (hk6.block W (by omega) (Ne.symm h3)).trans ((hka.block W hWl (fun e => e)).trans h0)
  have g6 : w6.cell? ⟨W, 2, none⟩ = some (.slice (some ⟨g, 0, none⟩) l.length cap) := by rw [cell_of_row w6 W 2 _ _ _ h06]; rfl
  have f6 : w6.frozen? ⟨W, 2, none⟩ = false := by simp [World.frozen?, h06]
  have hgg : g' = g ∨ w.heap.size ≤ g' := by
    rcases e4 with e4 | e4
    · exact .inl (Option.some.inj e4).symm
    · exact .inr (by omega)
  have hgl := h4.lt
  have hIr : Ir w6 g' cap' (l ++ [x]) := by
    rcases e2.2 with ⟨e, _⟩ | ⟨g2, cap2, cur, e, _, q1, q2, q3, q4, q5⟩
    · cases e
    · injection e with a1 a2 a3
      injection a1 with a1
      injection a1 with a1
      subst a1 a3
      exact ⟨cur, q1, by omega, by simpa using q2, q3, by simpa using q5⟩
  have hgW : g' ≠ W := by
    rcases hgg with e | e
    · rw [e]; exact h3
    · omega
  have ga : (w.alloc (.cells #[.int .i64 x] 3)).cell? ⟨W, 2, none⟩ = some (.slice (some ⟨g, 0, none⟩) l.length cap) := by rw [World.cell?_alloc_past _ _ _ hWl]; exact h1
  have H := Lib.hid (And.intro e1 (And.intro hIr (And.intro hgg (And.intro hgW (And.intro h06 (hka.mono fun _ _ e => e.elim : Kp (fun q => q = W ∨ q = g) w wa))))))
  have HK := Lib.hid hk6
  have HW := Lib.hid hwa
  clear e1 e2 e3 e4 e5 hIr hgg hgW h06 hka hk6 hza hnew hwa hgl f0 f1 h0 h4 hWl
  go_enter Tryd.func99, Tryd.ntmps99
  go_wp2_with fail
  go_region_law (refine step_run (by rfl) (.tmp 7) (.tmp 10) 84 (by rfl) (.slice (some ⟨g, 0, none⟩) l.length cap) (.slice (some ⟨w.heap.size, 0, none⟩) 1 1) (by first | (simp [Act.eval]; done) | simp [Act.eval, Act.put]) (by first | (simp [Act.eval]; done) | simp [Act.eval, Act.put]) _ _ (by rw [HW.out]; exact H.out.1) ?_)
  all_goals
    go_wp2_with fail
    go_end0
    have hkS : Kp (fun q => q = W) w6 (w6.setCell ⟨W, 2, none⟩ (.slice (some ⟨g', 0, none⟩) (l.length + 1) cap')) := (Kp.refl (fun q => q = W) w6).setCell _ _ (.inl rfl)
    refine ⟨rfl, g', cap', ⟨?_, H.out.2.2.2.1, H.out.2.1.kp hkS H.out.2.2.2.1⟩, H.out.2.2.1, (H.out.2.2.2.2.2.trans' (HK.out.mono fun _ _ e => .inr e)).trans' (hkS.mono fun _ _ e => .inl e)⟩
    rw [List.length_append]
    exact heap_set_same H.out.2.2.2.2.1 _
end Go.Proofs.YtpdepmkojbpklaaDoor
