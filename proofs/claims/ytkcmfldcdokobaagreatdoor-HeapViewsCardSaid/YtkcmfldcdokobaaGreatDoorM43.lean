/- View: of a part that there is, where there is room; of more than there is. The one variable that is laid: the handle of the type error; a world that has it. A script of steps that came in: a slice of structs of six cells, each of which is one field (four numbers, a bool, bytes). A term that came in: its reading opened, of whatever depth. -/
import Derived.Test.YtkcmfldcdokobaaGreatDoorRows
import Derived.Test.YtkcmfldcdokobaaGreatDoorM11
import Derived.Test.YtkcmfldcdokobaaGreatDoorM20
import Derived.Test.YtkcmfldcdokobaaGreatDoorM25
import Derived.Test.YtkcmfldcdokobaaGreatDoorM38
import Derived.Test.YtkcmfldcdokobaaGreatDoorM42
import Derived.ChangeSame
import Derived.ChangeVars
import Derived.JoinedOf
import Derived.RowKit
import Derived.RowKitTokens
import Derived.LaidLaws
import Derived.LaidHandle
import Derived.Handed
import Derived.Stop.Joined
import Derived.Deep.Slices
import Derived.Deep.Fields
import Derived.SizedLaws
/- View: of a part that there is, where there is room; of more than there is. -/
namespace Go.Proofs.YtkcmfldcdokobaaGreatDoor
open Go.RowKit Go.Maps

theorem handleOf_bin (x f m : Int) : handleOf [103, x * 8 + 6, f, m] = some x := by
  have h1 : formOf [103, x * 8 + 6, f, m] = 4 := by
    unfold formOf
    have : markOf (([103, x * 8 + 6, f, m] : List Int)[0]?.getD 0) = some (4, 1) := by
      show markOf 103 = some (4, 1)
      decide
    rw [this]
    rfl
  unfold handleOf
  rw [if_pos ⟨h1, by show (x * 8 + 6) % 8 = 6; omega⟩]
  show some ((x * 8 + 6) / 8) = some x
  congr 1
  omega

section
variable {w0 w w' : World} {col : Nat → Nat} {hb ab tb bb least N : Nat} {sv : Value} {sl : List (Int × Bool)} {A : Ar} {names : List ByteArray} {a : Bn} {q : Nat}
/-- one that holds the handle more -/
def moreOf (a : Bn) (i : Nat) (s : Sl) : Bn := { a with slots := a.slots.set i ⟨s.bs, s.count + 1, s.gen⟩ }

set_option maxRecDepth 100000 in
set_option maxHeartbeats 4000000 in
theorem view_ok (h : Hs w0 w col hb ab tb bb sv least sl A names N a) (hN : N ≤ 90000000000000) (hq : A.tk q 4) {x : Int} {i : Nat} {s : Sl} (hf : FOk a x i s) (f m : Nat) (hblk : blkW A q 4 = [103, x * 8 + 6, (f : Int), (m : Int)]) (hfm : f + m ≤ s.bs.length) (hs : s.bs.length ≤ 1000000000000)
    (f' m' : Nat) (hp : f' + m' ≤ m) (hroom : A.used + 8 ≤ A.quota) (hroom2 : ¬ Nowhere A 3) :
    Calls Tryz.prog 24 #[.pointer (some ⟨hb, 0, none⟩), .int .u64 (((q : Int) + 1) * 8 + 5), .int .i64 f', .int .i64 m'] w fun e w' => ∃ own A' col', e = .returned (.tuple #[.int .u64 (((own : Nat) + 1 : Int) * 8 + 5), .nilIface]) ∧ Laid A [103, x * 8 + 6, (f : Int) + f', (m' : Int)] own A' ∧ Go1 col w col' w' ∧ Hs w0 w' col' hb ab tb bb sv least sl A' names (N + 1) (moreOf a i s) := by
  have hx : handleOf (blkW A q 4) = some x := by rw [hblk]; exact handleOf_bin _ _ _
  obtain ⟨x0, x1⟩ := handle_range h.ar hq hx
  have hb0 := hbytes_ok h hq hx hf f m (by rw [hblk]; rfl) (by rw [hblk]; rfl) hfm hs
  have hn := named_ok h.ar hq (((q : Int) + 1) * 8 + 5) rfl
  have hread : ∀ (w1 : World), Kp (fun _ => False) w w1 → Calls Tryz.prog 57 #[.pointer (some ⟨hb, 0, none⟩), .int .i64 (q + 1), .int .i64 1] w1 (fun e w' => e = .returned (.int .u64 (x * 8 + 6)) ∧ w1 = w') ∧ Calls Tryz.prog 57 #[.pointer (some ⟨hb, 0, none⟩), .int .i64 (q + 1), .int .i64 2] w1 (fun e w' => e = .returned (.int .u64 f) ∧ w1 = w') := fun w1 hk => by
    have hd := h.same hk
    exact ⟨read_ok hd.ar hq 1 (x * 8 + 6) (by rw [hblk]; rfl), read_ok hd.ar hq 2 (f : Int) (by rw [hblk]; rfl)⟩
  have hlay : ∀ (w1 : World) (v : Value), Kp (fun _ => False) w w1 → WordsAt (fun q => w.heap.size ≤ q) w1 [x * 8 + 6, (f : Int) + f', (m' : Int)] v → Calls Tryz.prog 56 #[.pointer (some ⟨hb, 0, none⟩), .int .i64 4, .int .i64 1, v] w1 fun e w2 => ∃ own A' col2, e = .returned (.tuple #[.int .u64 (((own : Nat) + 1 : Int) * 8 + 5), .nilIface]) ∧ Laid A [103, x * 8 + 6, (f : Int) + f', (m' : Int)] own A' ∧ Go1 col w col2 w2 ∧ Hs w0 w2 col2 hb ab tb bb sv least sl A' names N a := fun w1 v hk hv => by
    have hd := h.same hk
    refine (lay_any hd.ar hd.notA 4 1 (by omega) (by omega) (by omega) (by omega) hv (fun q hq e => by have := e.1; unfold recol at this; rw [if_neg (by omega)] at this; omega) (by simp) ?_).mono ?_
    · intro y hy
      simp only [List.mem_cons, List.not_mem_nil, or_false] at hy
      omega
    · rintro e w2 (⟨own, A', hl, rfl, hA, hk2⟩ | ⟨hno, _⟩)
      · exact ⟨own, A', _, rfl, hl, (Go0.same hk).go1.trans (Go0.of (by omega) hk2).go1, hd.stepA hA hk2⟩
      · rw [show ([x * 8 + 6, (f : Int) + f', (m' : Int)] : List Int).length + 1 = 4 from rfl, cls_4] at hno
        rcases hno with e | e
        · omega
        · exact absurd e hroom2
  have hkeep : ∀ (w2 : World) (own : Nat) (A' : Ar) (col2 : Nat → Nat), Laid A [103, x * 8 + 6, (f : Int) + f', (m' : Int)] own A' → Hs w0 w2 col2 hb ab tb bb sv least sl A' names N a → Calls Tryz.prog 58 #[.pointer (some ⟨hb, 0, none⟩), .int .i64 (q + 1)] w2 fun e w3 => e = .returned (.tuple #[.int .i64 x, .bool true]) ∧ Kp (fun _ => False) w2 w3 ∧ w3.cell? ⟨hb, 2, none⟩ = some (.pointer (some ⟨bb, 0, none⟩)) ∧
      Calls Tryz.prog 59 #[.pointer (some ⟨bb, 0, none⟩), .int .i64 x] w3 fun e w4 => e = .returned .nilIface ∧ ∃ col4, Go1 col2 w2 col4 w4 ∧ Hs w0 w4 col4 hb ab tb bb sv least sl A' names (N + 1) (moreOf a i s) := fun w2 own A' col2 hl hH => by
    have hto := hl.to h.ar.inv (by simp)
    have hq' : A'.tk q 4 := (hto.tk q 4).2 (.inr ⟨fun e => hto.was 4 (e ▸ hq), hq⟩)
    have hx' : handleOf (blkW A' q 4) = some x := by rw [hto.word q 4 hq]; exact hx
    refine (handle_yes hH.ar hq' hx').mono ?_
    rintro e w3 ⟨rfl, hk3⟩
    have h3 := hH.same hk3
    refine ⟨rfl, hk3, h3.hr.cells.2.2.1, ?_⟩
    obtain ⟨ss, fs, ps, hB⟩ := h3.bn
    have hbd := h3.bi.bd i s hf.slot
    refine (keep_ok hB (by have := h3.bi.len; have := h3.bi.most; omega) hf (by omega) (by omega)).mono ?_
    rintro e w4 ⟨rfl, hg⟩
    have hI := h3.bi.held (M := N + 1) hf.slot hf.held (s.count + 1) (by omega) (by omega) (by omega)
    exact ⟨rfl, _, (Go0.same hk3).go1.trans (Go0.of (by omega) hg.1).go1, h3.stepB hg hI⟩
  have HF := Lib.hid (And.intro hn (And.intro hb0 (And.intro hread (And.intro hlay hkeep))))
  have c2 := h.hr.cells.2.2.1
  have hml : (m : Int) ≤ 1000000000000 := by omega
  have hfl : (f : Int) ≤ 1000000000000 := by omega
  have hf'l : (f' : Int) ≤ 1000000000000 := by omega
  have hm'l : (m' : Int) ≤ 1000000000000 := by omega
  have hgt : ¬ ((m : Int) - f' < m') := by omega
  clear h hN hq hf hblk hfm hs hroom hroom2 hx x0 x1 hb0 hn hread hlay hkeep hp
  go_enter Tryz.func24, Tryz.ntmps24
  go_wp2_with fail
  refine HF.out.1.mono ?_
  rintro e w' ⟨rfl, rfl⟩
  go_wp2_with fail
  refine HF.out.2.1.mono ?_
  rintro e w1 ⟨po, cap, rfl, _, hk1⟩
  have hr := HF.out.2.2.1 w1 hk1
  have hka : Kp (fun _ => False) w1 (w1.alloc (.cells #[.int .u64 (x * 8 + 6), .int .u64 ((f : Int) + f'), .int .u64 m'] 27)) := (Kp.refl _ w1).alloc _
  have hcell := heap_alloc_new w1 (.cells #[.int .u64 (x * 8 + 6), .int .u64 ((f : Int) + f'), .int .u64 m'] 27)
  have hz1 := hk1.size
  have hws : WordsAt (fun q => w.heap.size ≤ q) (w1.alloc (.cells #[.int .u64 (x * 8 + 6), .int .u64 ((f : Int) + f'), .int .u64 m'] 27)) [x * 8 + 6, (f : Int) + f', (m' : Int)] (.slice (some ⟨w1.heap.size, 0, none⟩) 3 3) :=
    ⟨_, 3, rfl, Nat.le_refl _, fun i y hi => ⟨_, 0, rfl, hz1, by
      rw [Nat.zero_add]
      match i, hi with
      | 0, hi => injection hi with hi; subst hi; exact cell_of hcell 0
      | 1, hi => injection hi with hi; subst hi; exact cell_of hcell 1
      | 2, hi => injection hi with hi; subst hi; exact cell_of hcell 2⟩⟩
  have hl := HF.out.2.2.2.1 _ _ (hk1.trans' hka) hws
  have HL := Lib.hid (And.intro hr hl)
  clear hr hl hws hcell hka hz1 hk1
  go_wp2_with (first
    | (go_at_call 57; with_reducible refine HL.out.1.1.mono ?_; rintro e w' ⟨rfl, rfl⟩)
    | (go_at_call 57; refine HL.out.1.2.mono ?_; rintro e w' ⟨rfl, rfl⟩)
    | (go_at_call 56; refine HL.out.2.mono ?_; rintro e w2 ⟨own, A', col2, rfl, hl, hg2, h2⟩; have H2 := Lib.hid (And.intro hl (And.intro hg2 h2)); clear hl hg2 h2)
    | (go_at_call 58; refine (HF.out.2.2.2.2 _ own A' col2 H2.out.1 H2.out.2.2).mono ?_; rintro e w3 ⟨rfl, hk3, c3, hkp⟩; have H3 := Lib.hid hkp; clear hkp hk3)
    | (go_at_call 59; refine H3.out.mono ?_; rintro e w4 ⟨rfl, col4, hg4, h4⟩; have H4 := Lib.hid (And.intro hg4 h4); clear hg4 h4))
  go_ret2
  exact ⟨own, A', col4, rfl, H2.out.1, H2.out.2.1.trans H4.out.1, H4.out.2⟩

def viewS : ByteArray := ⟨#[118, 105, 101, 119]⟩
set_option maxRecDepth 100000 in
set_option maxHeartbeats 4000000 in
/-- View of more than there is behind from -/
theorem view_over (h : Hs w0 w col hb ab tb bb sv least sl A names N a) (hq : A.tk q 4) {x : Int} {i : Nat} {s : Sl} (hf : FOk a x i s) (f m : Nat) (hblk : blkW A q 4 = [103, x * 8 + 6, (f : Int), (m : Int)]) (hfm : f + m ≤ s.bs.length) (hs : s.bs.length ≤ 1000000000000)
    (f' m' : Nat) (hm' : (m' : Int) ≤ 1000000000000) (hf' : (f' : Int) ≤ 1000000000000) (hp : m < f' + m') :
    Calls Tryz.prog 24 #[.pointer (some ⟨hb, 0, none⟩), .int .u64 (((q : Int) + 1) * 8 + 5), .int .i64 f', .int .i64 m'] w (EBad w (fun v => .tuple #[.int .u64 0, v]) [Lk.fault viewS 0, Lk.kind 12]) := by
  have hx : handleOf (blkW A q 4) = some x := by rw [hblk]; exact handleOf_bin _ _ _
  have hb0 := hbytes_ok h hq hx hf f m (by rw [hblk]; rfl) (by rw [hblk]; rfl) hfm hs
  have hn := named_ok h.ar hq (((q : Int) + 1) * 8 + 5) rfl
  have HF := Lib.hid (And.intro hn hb0)
  have hml : (m : Int) ≤ 1000000000000 := by omega
  have hgt : ((m : Int) - f' < m') := by omega
  clear h hq hf hblk hfm hs hx hb0 hn hp
  go_enter Tryz.func24, Tryz.ntmps24
  go_wp2_with fail
  refine HF.out.1.mono ?_
  rintro e w' ⟨rfl, rfl⟩
  go_wp2_with fail
  refine HF.out.2.mono ?_
  rintro e w1 ⟨po, cap, rfl, _, hk1⟩
  have Hfin := Lib.hid ((ebad1 w1 (fun v => .tuple #[.int .u64 0, v]) viewS 0 12 (by decide) 0).drew hk1)
  clear hk1
  go_wp2_with (go_at_call 49; refine (at_any _ _ _ _ _).mono ?_; rintro e w' ⟨rfl, rfl⟩)
  go_ret2
  exact Hfin.out
end
end Go.Proofs.YtkcmfldcdokobaaGreatDoor

/- The one variable that is laid: the handle of the type error; a world that has it. -/
namespace Go.Proofs.YtkcmfldcdokobaaGreatDoor
open Go.ChangeShapes Go.WideShapes Go.RowKit

def laidList : List (String × DataW Unit) := [("errors.errorType", Rows.laid_errors_errorType)]
theorem Tryz.et : Tryz.prog.globalNamed "errors.errorType" = some 0 := by kernel_rfl
theorem Tryz.rt : (Tryz.prog.cutTypes.find? (·.1 == "internal/reflectlite.rtype")).map (·.2) = some 241 := by kernel_rfl
theorem Tryz.oneRow : ((List.range Tryz.prog.types.size).filter fun t => Tryz.prog.rowNamed t [101, 114, 114, 111, 114]) = [29] := by kernel_rfl

/-- what the condition gives a walk: the variable's one cell -/
theorem laid0_of {W : World} (h : laidMetH Tryz.prog laidList W) : Laid0 W := by
  have h' : laidMet Tryz.prog [] W ∧ handlesMet Tryz.prog laidList W := h
  obtain ⟨name, u, ty, e1, e2, e3, e4, e5⟩ := h'.2 _ (List.mem_singleton.2 rfl)
  have en : name = [101, 114, 114, 111, 114] := (Option.some.inj e1).symm
  subst en
  obtain rfl := Option.some.inj (Tryz.rt.symm.trans e2)
  have hm : ty ∈ (List.range Tryz.prog.types.size).filter fun t => Tryz.prog.rowNamed t [101, 114, 114, 111, 114] := List.mem_filter.2 ⟨List.mem_range.2 e3, e4⟩
  rw [Tryz.oneRow] at hm
  obtain rfl := List.mem_singleton.1 hm
  have hh : typeHandle Tryz.prog 29 = .pointer (some ⟨1, 29, none⟩) := by kernel_rfl
  rw [hh] at e5
  unfold Laid0
  simpa using World.var?_cell Tryz.et e5 0

/-- a variable's one cell is laid -/
def layCell (v : Value) : Obj → Obj
  | .cells _ t frozen => .cells #[v] t frozen
  | o => o
/-- a world that meets the condition: the variable's cell is laid -/
theorem laidWorld_met (os : Os) (args : Array Value) : laidMetH Tryz.prog laidList (({ World.holding Tryz.prog os ⟨#[], #[], []⟩ with heap := (World.holding Tryz.prog os ⟨#[], #[], []⟩).heap.modify 0 (layCell (.iface 241 (.agg #[.pointer (some ⟨1, 29, none⟩)]))) } : World).forCall (fun _ _ => 0) ⟨#[], args, []⟩).memory :=
  laidMetH_of_parts (laidMet_nil _ _) (by kernel_rfl)
end Go.Proofs.YtkcmfldcdokobaaGreatDoor

/- A script of steps that came in: a slice of structs of six cells, each of which is one field (four numbers, a bool, bytes). -/
namespace Go.Proofs.YtkcmfldcdokobaaGreatDoor
open Go.ChangeShapes Go.WideShapes Go.Deep Go.RowKit

/-- one step: its six cells from (b, off) on -/
def OpAt (w : World) (b off : Nat) : Prop :=
  ∃ (k h x y : Int) (raw : Bool) (po : Option Addr) (len cap : Nat) (f : Nat → UInt8),
    ((Lit.int .i64 k).wf = true ∧ (Lit.int .i64 h).wf = true ∧ (Lit.int .i64 x).wf = true ∧ (Lit.int .i64 y).wf = true) ∧
    w.cell? ⟨b, off, none⟩ = some (.int .i64 k) ∧ w.cell? ⟨b, off + 1, none⟩ = some (.int .i64 h) ∧
    w.cell? ⟨b, off + 2, none⟩ = some (.int .i64 x) ∧ w.cell? ⟨b, off + 3, none⟩ = some (.int .i64 y) ∧
    w.cell? ⟨b, off + 4, none⟩ = some (.bool raw) ∧ w.cell? ⟨b, off + 5, none⟩ = some (.slice po len cap) ∧ BIn w po len cap f ∧ len ≤ 140737488351232

/-- a slice of steps -/
def OpsIn (w : World) (a : Option Addr) (len cap : Nat) : Prop :=
  len ≤ cap ∧ cap ≤ maxLen ∧ len * 64 ≤ 140737488351232 ∧ ∀ i, i < len → ∃ b off, a = some ⟨b, off, none⟩ ∧ b < w.heap.size ∧ OpAt w b (off + i * 6)

section
variable {H : Type} {enc : TypeId × Value → H} {P : Program} {w : World} {base : Nat} {spare : Nat → Bool} {held : Bool}
theorem all_mem {e : TypeId} : ∀ {l : List (DataW H)} {d : DataW H}, d ∈ l → ∀ n ∈ d.weights P e, n ∈ DataW.weightsAll P e l
  | c :: l, d, hd, n, hn => by
    rw [DataW.weightsAll, List.mem_append]
    rcases List.mem_cons.1 hd with rfl | hd
    · exact .inl hn
    · exact .inr (all_mem hd n hn)

theorem opened_bytes {t e : TypeId} {fuel : Nat} {v : Value} {y : DataW H × List MemPlace} (ht : P.underlying t = some (.slice e)) (he : P.underlying e = some (.int .u8)) (hc : P.cellsOf e = 1) (hb : P.bytesOf e = 1)
    (hs : ∀ n ∈ y.1.weights P t, n ≤ reachBytes)
    (h : DataW.trod enc P w base spare held fuel t [v] = some y) : ∃ po len cap f, v = .slice po len cap ∧ BIn w po len cap f ∧ len ≤ 140737488351232 := by
  rcases open_ints ht he hc h with ⟨h1, _⟩ | ⟨a, len, cap, zs, h1, _, h3, h4, h5, hy, h6, h7⟩
  · injection h1 with h1
    exact ⟨none, 0, 0, fun _ => 0, h1, bIn_nil w _, by omega⟩
  · injection h1 with h1
    have hle : len ≤ zs.length := by rw [h5]; split <;> omega
    refine ⟨some a, len, cap, _, h1, bIn_of h3 h4 hle h6 h7, ?_⟩
    subst hy
    have := hs (((lits (H := H) .u8 (zs.take len)).length + (lits (H := H) .u8 (zs.drop len)).length) * P.bytesOf e) (by simp [DataW.weights, ht])
    rw [hb] at this
    have e1 : (lits (H := H) .u8 (zs.take len)).length = len := by simp [lits]; omega
    unfold reachBytes at this
    omega

theorem opened_ops {t e eu : TypeId} {f0 f1 f2 f3 f4 f5 : Field} {fuel : Nat} {cs : List Value} {x : DataW H × List MemPlace} (ht : P.underlying t = some (.slice e)) (he : P.underlying e = some (.struct #[f0, f1, f2, f3, f4, f5]))
    (hone : oneCellFields P #[f0, f1, f2, f3, f4, f5] = true) (hC : P.cellsOf e = 6)
    (u0 : P.underlying f0.type = some (.int .i64)) (u1 : P.underlying f1.type = some (.int .i64)) (u2 : P.underlying f2.type = some (.int .i64)) (u3 : P.underlying f3.type = some (.int .i64))
    (u4 : P.underlying f4.type = some .bool) (u5 : P.underlying f5.type = some (.slice eu)) (hu : P.underlying eu = some (.int .u8)) (huc : P.cellsOf eu = 1) (hbe : P.bytesOf e = 64) (hbu : P.bytesOf eu = 1) (hs : ∀ n ∈ x.1.weights P t, n ≤ reachBytes)
    (h : DataW.trod enc P w base spare held fuel t cs = some x) : ∃ po len cap, cs = [.slice po len cap] ∧ OpsIn w po len cap := by
  rcases open_slice ht h with ⟨h0, _⟩ | ⟨a, len, cap, m, n, D, Pl, hcs, hb, hl, hm, hmm, hx, hi⟩
  · exact ⟨none, 0, 0, h0, Nat.le_refl _, Nat.zero_le _, by omega, fun i hi => by omega⟩
  · subst hx
    have hn0 := hs ((((List.range len).map D).length + ((List.range (m - len)).map fun j => D (len + j)).length) * P.bytesOf e) (by simp [DataW.weights, ht])
    rw [hbe] at hn0
    simp only [List.length_map, List.length_range] at hn0
    unfold reachBytes at hn0
    have hsD : ∀ i, i < len → ∀ n ∈ (D i).weights P e, n ≤ reachBytes := fun i hi n hn => by
      refine hs n ?_
      simp only [DataW.weights, ht]
      exact List.mem_cons_of_mem _ (List.mem_append_left _ (all_mem (List.mem_map.2 ⟨i, List.mem_range.2 hi, rfl⟩) n hn))
    refine ⟨some a, len, cap, hcs, hl, hm, by omega, fun i hil => ?_⟩
    have hlm : len ≤ m := by rw [hmm]; split <;> omega
    obtain ⟨b, off, spot⟩ := a
    have hspot : spot = none := by
      obtain ⟨cs', hc, ht'⟩ := hi 0 (by omega)
      rw [hC] at hc
      obtain ⟨_, hcl, hat⟩ := World.cells?_some hc
      have h0 := hat 0 (by omega)
      rw [List.getElem?_eq_getElem (show 0 < cs'.length by omega)] at h0
      simpa [Addr.add] using World.cell?_spot h0
    subst hspot
    obtain ⟨cs', hc, ht'⟩ := hi i (by omega)
    rw [hC] at hc
    obtain ⟨ys, n', _, hagg, _, hyl, hf⟩ := DataW.trod_struct he ht'
    have hDi : D i = .agg (ys.map (·.1)) := congrArg Prod.fst hagg
    have hyl' : ys.length = 6 := hyl
    obtain ⟨_, hcl, hat⟩ := World.cells?_some hc
    have hat' : ∀ j, j < 6 → w.cell? ⟨b, off + i * 6 + j, none⟩ = cs'[j]? := fun j hj => by
      rw [← hat j hj, add_plain, add_plain]
    have r0 := hf 0 f0 rfl
    have r1 := hf 1 f1 rfl
    have r2 := hf 2 f2 rfl
    have r3 := hf 3 f3 rfl
    have r4 := hf 4 f4 rfl
    have r5 := hf 5 f5 rfl
    rw [(hone_of hone 0 f0 rfl).1, (hone_of hone 0 f0 rfl).2, List.getElem?_eq_getElem (by omega)] at r0
    rw [(hone_of hone 1 f1 rfl).1, (hone_of hone 1 f1 rfl).2, List.getElem?_eq_getElem (by omega)] at r1
    rw [(hone_of hone 2 f2 rfl).1, (hone_of hone 2 f2 rfl).2, List.getElem?_eq_getElem (by omega)] at r2
    rw [(hone_of hone 3 f3 rfl).1, (hone_of hone 3 f3 rfl).2, List.getElem?_eq_getElem (by omega)] at r3
    rw [(hone_of hone 4 f4 rfl).1, (hone_of hone 4 f4 rfl).2, List.getElem?_eq_getElem (by omega)] at r4
    rw [(hone_of hone 5 f5 rfl).1, (hone_of hone 5 f5 rfl).2, List.getElem?_eq_getElem (by omega)] at r5
    match cs', hcl with
    | [c0, c1, c2, c3, c4, c5], _ =>
      obtain ⟨k, e0, _, w0⟩ := DataW.trod_int u0 r0
      obtain ⟨hh, e1, _, w1⟩ := DataW.trod_int u1 r1
      obtain ⟨xx, e2, _, w2⟩ := DataW.trod_int u2 r2
      obtain ⟨yy, e3, _, w3⟩ := DataW.trod_int u3 r3
      obtain ⟨raw, e4, _⟩ := DataW.trod_bool u4 r4
      obtain ⟨po, len', cap', f, e5, hbin, hlen'⟩ := opened_bytes (v := c5) u5 hu huc hbu (fun n hn => by
        refine hsD i hil n ?_
        rw [hDi]
        simp only [DataW.weights, he]
        exact DataW.weights_mem_each (j := 5) (t := f5.type) rfl (by rw [List.getElem?_map, List.getElem?_eq_getElem (by omega)]; rfl) n hn) r5
      have e0' : c0 = .int .i64 k := by injection e0
      have e1' : c1 = .int .i64 hh := by injection e1
      have e2' : c2 = .int .i64 xx := by injection e2
      have e3' : c3 = .int .i64 yy := by injection e3
      have e4' : c4 = .bool raw := by injection e4
      subst e0' e1' e2' e3' e4' e5
      have hc0 : w.cell? ⟨b, off + i * 6, none⟩ = some (.int .i64 k) := hat' 0 (by omega)
      exact ⟨b, off, rfl, World.block_lt_of_cell? _ _ hc0, k, hh, xx, yy, raw, po, len', cap', f, ⟨w0, w1, w2, w3⟩, hc0, hat' 1 (by omega), hat' 2 (by omega), hat' 3 (by omega), hat' 4 (by omega), hat' 5 (by omega), hbin, hlen'⟩
end
end Go.Proofs.YtkcmfldcdokobaaGreatDoor

/- A term that came in: its reading opened, of whatever depth. -/
namespace Go.Proofs.YtkcmfldcdokobaaGreatDoor
open Go.ChangeShapes Go.WideShapes Go.Deep Go.RowKit
section
variable {H : Type} {enc : TypeId × Value → H} {P : Program} {w : World} {base : Nat} {spare : Nat → Bool} {held : Bool}

theorem choose_tm {n : Nat} {p : Nat → Tm → Prop} (h : ∀ i, i < n → ∃ t, p i t) : ∃ l : List Tm, l.length = n ∧ ∀ (i : Nat) (t : Tm), l[i]? = some t → p i t := by
  refine ⟨(List.range n).map fun i => if h' : i < n then Classical.choose (h i h') else .mk 0 0 ByteArray.empty [] [] [], by simp, fun i t hi => ?_⟩
  rw [List.getElem?_map] at hi
  obtain ⟨j, hj, e⟩ := Option.map_eq_some_iff.1 hi
  obtain ⟨hlt, rfl⟩ := List.getElem?_eq_some_iff.1 hj
  simp at hlt e
  rw [dif_pos hlt] at e
  subst e
  exact Classical.choose_spec (h i hlt)

theorem bytes_of_in {a : Option Addr} {len cap : Nat} {f : Nat → UInt8} (h : BIn w a len cap f) (hl : len ≤ 140737488351232) : BytesAt (fun q => q < w.heap.size) w (bl f len) (.slice a len cap) :=
  h.at' (Nat.le_refl _) hl h.1

/-- six cells, each of which is one field -/
theorem six_fields {tT : TypeId} {f0 f1 f2 f3 f4 f5 : Field} (he : P.underlying tT = some (.struct #[f0, f1, f2, f3, f4, f5])) (hone : oneCellFields P #[f0, f1, f2, f3, f4, f5] = true) (hC : P.cellsOf tT = 6)
    {fuel : Nat} {cs : List Value} {x : DataW H × List MemPlace} (h : DataW.trod enc P w base spare held fuel tT cs = some x) :
    ∃ c0 c1 c2 c3 c4 c5 y0 y1 y2 y3 y4 y5 n, cs = [c0, c1, c2, c3, c4, c5] ∧ x.1 = .agg [y0.1, y1.1, y2.1, y3.1, y4.1, y5.1] ∧
      DataW.trod enc P w base spare held n f0.type [c0] = some y0 ∧ DataW.trod enc P w base spare held n f1.type [c1] = some y1 ∧ DataW.trod enc P w base spare held n f2.type [c2] = some y2 ∧
      DataW.trod enc P w base spare held n f3.type [c3] = some y3 ∧ DataW.trod enc P w base spare held n f4.type [c4] = some y4 ∧ DataW.trod enc P w base spare held n f5.type [c5] = some y5 := by
  obtain ⟨ys, n, _, rfl, hcl, hyl, hf⟩ := DataW.trod_struct he h
  rw [hC] at hcl
  have hyl' : ys.length = 6 := hyl
  have r0 := hf 0 f0 rfl
  have r1 := hf 1 f1 rfl
  have r2 := hf 2 f2 rfl
  have r3 := hf 3 f3 rfl
  have r4 := hf 4 f4 rfl
  have r5 := hf 5 f5 rfl
  rw [(hone_of hone 0 f0 rfl).1, (hone_of hone 0 f0 rfl).2] at r0
  rw [(hone_of hone 1 f1 rfl).1, (hone_of hone 1 f1 rfl).2] at r1
  rw [(hone_of hone 2 f2 rfl).1, (hone_of hone 2 f2 rfl).2] at r2
  rw [(hone_of hone 3 f3 rfl).1, (hone_of hone 3 f3 rfl).2] at r3
  rw [(hone_of hone 4 f4 rfl).1, (hone_of hone 4 f4 rfl).2] at r4
  rw [(hone_of hone 5 f5 rfl).1, (hone_of hone 5 f5 rfl).2] at r5
  match cs, hcl, ys, hyl' with
  | [c0, c1, c2, c3, c4, c5], _, [y0, y1, y2, y3, y4, y5], _ => exact ⟨c0, c1, c2, c3, c4, c5, y0, y1, y2, y3, y4, y5, n, rfl, rfl, r0, r1, r2, r3, r4, r5⟩

variable {tT eu : TypeId} {f0 f1 f2 f3 f4 f5 : Field}
theorem opened_terms (he : P.underlying tT = some (.struct #[f0, f1, f2, f3, f4, f5])) (hone : oneCellFields P #[f0, f1, f2, f3, f4, f5] = true) (hC : P.cellsOf tT = 6)
    (u0 : P.underlying f0.type = some (.int .i64)) (u1 : P.underlying f1.type = some (.int .i64)) (u2 : P.underlying f2.type = some .string) (u3 : P.underlying f3.type = some (.slice tT)) (u4 : P.underlying f4.type = some (.slice tT))
    (u5 : P.underlying f5.type = some (.slice eu)) (hu : P.underlying eu = some (.int .u8)) (huc : P.cellsOf eu = 1) (hbe : P.bytesOf tT = 104) (hbu : P.bytesOf eu = 1) :
    ∀ (m fuel : Nat) (cs : List Value) (x : DataW H × List MemPlace), SizeOf.sizeOf x.1 ≤ m → (∀ n ∈ x.1.weights P tT, n ≤ reachBytes) → DataW.trod enc P w base spare held fuel tT cs = some x →
      ∃ T, TermAt (fun q => q < w.heap.size) w m T cs
  | 0, fuel, cs, x, hm, hs, h => by
    obtain ⟨c0, c1, c2, c3, c4, c5, y0, y1, y2, y3, y4, y5, n, rfl, hx, _⟩ := six_fields he hone hC h
    rw [hx] at hm
    simp at hm
  | m + 1, fuel, cs, x, hm, hs, h => by
    obtain ⟨c0, c1, c2, c3, c4, c5, y0, y1, y2, y3, y4, y5, n, rfl, hx, r0, r1, r2, r3, r4, r5⟩ := six_fields he hone hC h
    have ih := opened_terms he hone hC u0 u1 u2 u3 u4 u5 hu huc hbe hbu m
    have hs' : ∀ (j : Nat) (f : Field) (d : DataW H), [f0, f1, f2, f3, f4, f5][j]? = some f → [y0.1, y1.1, y2.1, y3.1, y4.1, y5.1][j]? = some d → ∀ n ∈ d.weights P f.type, n ≤ reachBytes := by
      intro j f d hf hd k hk
      refine hs k ?_
      rw [hx]
      simp only [DataW.weights, he]
      exact DataW.weights_mem_each (j := j) (t := f.type) (by rw [List.getElem?_map]; exact congrArg (Option.map fun x => x.type) hf) hd k hk
    have hz3 : SizeOf.sizeOf y3.1 ≤ m := by rw [hx] at hm; simp at hm; omega
    have hz4 : SizeOf.sizeOf y4.1 ≤ m := by rw [hx] at hm; simp at hm; omega
    have hlist : ∀ (f : Field) (c : Value) (y : DataW H × List MemPlace), P.underlying f.type = some (.slice tT) → SizeOf.sizeOf y.1 ≤ m → (∀ n ∈ y.1.weights P f.type, n ≤ reachBytes) → DataW.trod enc P w base spare held n f.type [c] = some y →
        ∃ l, ListAt (fun q => q < w.heap.size) w (TermAt (fun q => q < w.heap.size) w m) l c := by
      intro f c y uf hz hw hr
      rcases open_slice uf hr with ⟨h0, _⟩ | ⟨a, len, cap, mm, n', D, Pl, hcs, hb, hl, hmx, hmm, hy, hi⟩
      · injection h0 with h0
        exact ⟨[], none, 0, h0, by simp, by simp, fun i t hi => by simp at hi⟩
      · injection hcs with hcs
        subst hy
        have hn0 := hw ((((List.range len).map D).length + ((List.range (mm - len)).map fun j => D (len + j)).length) * P.bytesOf tT) (by simp [DataW.weights, uf])
        rw [hbe] at hn0
        simp only [List.length_map, List.length_range] at hn0
        unfold reachBytes at hn0
        have hlm : len ≤ mm := by rw [hmm]; split <;> omega
        have hel : ∀ i, i < len → ∃ T, ∃ cs', w.cells? base (a.add (i * 6)) 6 = some cs' ∧ TermAt (fun q => q < w.heap.size) w m T cs' := by
          intro i hil
          obtain ⟨cs', hc, ht'⟩ := hi i (by omega)
          rw [hC] at hc
          obtain ⟨T, hT⟩ := ih n' cs' (D i, Pl i) (by
            have hmem : D i ∈ (List.range len).map D := List.mem_map.2 ⟨i, List.mem_range.2 hil, rfl⟩
            have := List.sizeOf_lt_of_mem hmem
            simp only [DataW.slice.sizeOf_spec] at hz
            show SizeOf.sizeOf (D i) ≤ m
            omega) (fun k hk => hw k (by
              simp only [DataW.weights, uf]
              exact List.mem_cons_of_mem _ (List.mem_append_left _ (all_mem (List.mem_map.2 ⟨i, List.mem_range.2 hil, rfl⟩) k hk)))) ht'
          exact ⟨T, cs', hc, hT⟩
        obtain ⟨l, hll, hlt⟩ := choose_tm hel
        refine ⟨l, some a, cap, by rw [hll]; exact hcs, by omega, by omega, fun i t hit => ?_⟩
        have hil := (List.getElem?_eq_some_iff.1 hit).1
        obtain ⟨cs', hc, hT⟩ := hlt i t hit
        obtain ⟨_, hcl, hat⟩ := World.cells?_some hc
        obtain ⟨b, off, spot⟩ := a
        have hspot : spot = none := by
          obtain ⟨cs0, hc0, _⟩ := hi 0 (by omega)
          rw [hC] at hc0
          obtain ⟨_, hcl0, hat0⟩ := World.cells?_some hc0
          have h0 := hat0 0 (by omega)
          rw [List.getElem?_eq_getElem (show 0 < cs0.length by omega)] at h0
          simpa [Addr.add] using World.cell?_spot h0
        subst hspot
        have hat' : ∀ j, j < 6 → w.cell? ⟨b, off + i * 6 + j, none⟩ = cs'[j]? := fun j hj => by rw [← hat j hj, add_plain, add_plain]
        match cs', hcl with
        | [d0, d1, d2, d3, d4, d5], _ =>
          have hc0 : w.cell? ⟨b, off + i * 6, none⟩ = some d0 := hat' 0 (by omega)
          exact ⟨b, off, d0, d1, d2, d3, d4, d5, rfl, World.block_lt_of_cell? _ _ hc0, hc0, hat' 1 (by omega), hat' 2 (by omega), hat' 3 (by omega), hat' 4 (by omega), hat' 5 (by omega), hT⟩
    obtain ⟨k, e0, _, w0⟩ := DataW.trod_int u0 r0
    obtain ⟨nn, e1, _, w1⟩ := DataW.trod_int u1 r1
    obtain ⟨s, e2, _, w2⟩ := DataW.trod_string u2 r2
    obtain ⟨li, hli⟩ := hlist f3 c3 y3 u3 hz3 (hs' 3 f3 y3.1 rfl rfl) r3
    obtain ⟨lr, hlr⟩ := hlist f4 c4 y4 u4 hz4 (hs' 4 f4 y4.1 rfl rfl) r4
    obtain ⟨po, len', cap', f, e5, hbin, hlen'⟩ := opened_bytes (v := c5) u5 hu huc hbu (hs' 5 f5 y5.1 rfl rfl) r5
    have e0' : c0 = .int .i64 k := by injection e0
    have e1' : c1 = .int .i64 nn := by injection e1
    have e2' : c2 = .string s := by injection e2
    subst e0' e1' e2' e5
    obtain ⟨b1, b2⟩ := bounds_i64 w0
    obtain ⟨b3, b4⟩ := bounds_i64 w1
    exact ⟨.mk k nn s li lr (bl f len'), _, _, _, rfl, ⟨b1, b2, b3, b4, w2⟩, hli, hlr, by
      have := bytes_of_in hbin hlen'
      rw [show (Value.slice po len' cap') = .slice po (bl f len').length cap' by rw [bl_len]] at this
      simpa [bl_len] using this⟩

/-- an argument that is read as six cells is an aggregate of them -/
theorem agg_of {v : Value} {c0 c1 c2 c3 c4 c5 : Value} (h : v.cells.toList = [c0, c1, c2, c3, c4, c5]) : v = .agg #[c0, c1, c2, c3, c4, c5] := by
  cases v with
  | agg cs =>
    have : cs.toList = [c0, c1, c2, c3, c4, c5] := h
    obtain rfl : cs = #[c0, c1, c2, c3, c4, c5] := by cases cs; simp_all
    rfl
  | _ => simp [Value.cells] at h
end
end Go.Proofs.YtkcmfldcdokobaaGreatDoor
