/- A module that came in: its reading opened, and how long its bytes are. A module that came in: its reading opened. -/
import Derived.Test.YtpdepmkojbpklaaDoorRows
import Derived.Test.YtpdepmkojbpklaaDoorM10
import Derived.Test.YtpdepmkojbpklaaDoorM48
/- A module that came in: its reading opened, and how long its bytes are. -/
namespace Go.Proofs.YtpdepmkojbpklaaDoor
open Go.ChangeShapes Go.WideShapes Go.Deep Go.RowKit

mutual
/-- how much a term holds -/
def tb : Tm → Nat
  | .mk _ _ s it re bys => 1 + s.size + bys.length + tbs it + tbs re
def tbs : List Tm → Nat
  | [] => 0
  | t :: ts => tb t + tbs ts
end
theorem tbs_sum : ∀ l : List Tm, tbs l = (l.map tb).sum
  | [] => by simp [tbs]
  | t :: ts => by simp [tbs, tbs_sum ts]
def fb (f : Fn4) : Nat := 1 + f.name.size + f.code.length
def mb (m : Md) : Nat := 1 + m.name.size + tbs m.lits + (m.funcs.map fb).sum
theorem encNat_lin (n : Nat) : (encNat n).length ≤ n + 1 := by
  induction n using Nat.strongRecOn with
  | _ n ih =>
    by_cases h : n < 128
    · rw [encNat_small h]; simp
    · rw [encNat_big h, List.length_cons]
      have := ih (n / 128) (by omega)
      omega
theorem encNat_64 {n : Nat} (h : n < 18446744073709551616) : (encNat n).length ≤ 10 := encNat_len (k := 10) (by omega) (by omega)
theorem encB_lin (l : List UInt8) : (encB l).length ≤ 2 * l.length + 1 := by
  have := encNat_lin l.length
  simp only [encB, List.length_append]; omega
theorem encTs_lin {F : Nat → Prop} {w : World} {h : Nat} (ih : ∀ (t : Tm) (cs : List Value), TermAt F w h t cs → (encT t).length + 1 ≤ 25 * tb t) : ∀ l : List Tm, (∀ t ∈ l, ∃ cs, TermAt F w h t cs) → (encTs l).length + l.length ≤ 25 * tbs l
  | [], _ => by simp [encTs]
  | t :: ts, hl => by
    obtain ⟨cs, ht⟩ := hl t (List.mem_cons_self ..)
    have h1 := ih t cs ht
    have h2 := encTs_lin ih ts fun t h => hl t (List.mem_cons_of_mem _ h)
    simp only [encTs, List.length_append, List.length_cons, tbs]; omega
theorem len_tbs : ∀ l : List Tm, l.length ≤ tbs l
  | [] => by simp
  | .mk _ _ _ _ _ _ :: ts => by
    have := len_tbs ts
    simp only [List.length_cons, tbs, tb]; omega
theorem list_mem {F : Nat → Prop} {w : World} {h : Nat} {l : List Tm} {v : Value} (hl : ListAt F w (TermAt F w h) l v) : ∀ t ∈ l, ∃ cs, TermAt F w h t cs := by
  intro t ht
  obtain ⟨_, _, _, _, _, h4⟩ := hl
  obtain ⟨i, hi, rfl⟩ := List.getElem_of_mem ht
  obtain ⟨_, _, _, _, _, _, _, _, _, _, _, _, _, _, _, _, hp⟩ := h4 i _ (List.getElem?_eq_getElem hi)
  exact ⟨_, hp⟩
theorem encT_lin {F : Nat → Prop} {w : World} : ∀ (h : Nat) (t : Tm) (cs : List Value), TermAt F w h t cs → (encT t).length + 1 ≤ 25 * tb t
  | 0, _, _, ht => ht.elim
  | h + 1, .mk k n s it re bys, _, ht => by
    obtain ⟨vi, vr, vb, e, hb, h1, h2, h3⟩ := ht
    have i1 := encTs_lin (encT_lin h) it (list_mem h1)
    have i2 := encTs_lin (encT_lin h) re (list_mem h2)
    have z := encNat_64 (zig_lt hb.2.2.1 hb.2.2.2.1)
    have l1 := len_tbs it
    have l2 := len_tbs re
    have e1 := encNat_lin it.length
    have e2 := encNat_lin re.length
    have e3 := encB_lin bys
    have e4 := encB_lin s.data.toList
    have hs : s.data.toList.length = s.size := Array.length_toList
    rw [encT, tb]
    split
    · simp only [List.length_cons]; omega
    · split
      · simp only [List.length_cons]; omega
      · split
        · simp only [List.length_cons, List.length_append]; omega
        · split
          · simp only [List.length_cons, List.length_append]; omega
          · split
            · simp only [List.length_cons]; omega
            · simp; omega
theorem isI64_nat {x : Int} (h : isI64 x) : x.toNat < 18446744073709551616 := by unfold isI64 at h; omega
theorem encIs_lin : ∀ l : List In4, (∀ x ∈ l, x.wf) → (encIs l).length ≤ 31 * l.length
  | [], _ => by simp [encIs]
  | x :: l, hl => by
    obtain ⟨h0, h1, h2, h3⟩ := hl x (List.mem_cons_self ..)
    have a1 := encNat_64 (zig_lt h1.1 h1.2)
    have a2 := encNat_64 (zig_lt h2.1 h2.2)
    have a3 := encNat_64 (zig_lt h3.1 h3.2)
    have ih := encIs_lin l fun x h => hl x (List.mem_cons_of_mem _ h)
    have e : encIs (x :: l) = encI x ++ encIs l := by simp [encIs]
    rw [e, List.length_append, encI]
    simp only [List.length_cons, List.length_append]; omega
theorem code_wf {F : Nat → Prop} {w : World} {l : List In4} {v : Value} (h : CodeAt F w l v) : ∀ x ∈ l, x.wf := by
  intro x hx
  obtain ⟨_, _, _, _, _, h3⟩ := h
  obtain ⟨i, hi, rfl⟩ := List.getElem_of_mem hx
  obtain ⟨_, _, _, _, _, _, _, _, hw⟩ := h3 i _ (List.getElem?_eq_getElem hi)
  exact hw
theorem encF_lin {F : Nat → Prop} {w : World} {f : Fn4} {cs : List Value} (h : FnAt F w f cs) : (encF f).length ≤ 40 * fb f := by
  obtain ⟨vc, _, h1, h2, h3, h4⟩ := h
  have a1 := encNat_64 (isI64_nat h1)
  have a2 := encNat_64 (isI64_nat h2)
  have a3 := encNat_lin f.code.length
  have a4 := encB_lin f.name.data.toList
  have a5 := encIs_lin f.code (code_wf h4)
  have hs : f.name.data.toList.length = f.name.size := Array.length_toList
  simp only [encF, List.length_append, fb]; omega
theorem encFs_lin {F : Nat → Prop} {w : World} : ∀ l : List Fn4, (∀ f ∈ l, ∃ cs, FnAt F w f cs) → (encFs l).length + l.length ≤ 41 * (l.map fb).sum
  | [], _ => by simp [encFs]
  | f :: l, hl => by
    obtain ⟨cs, hf⟩ := hl f (List.mem_cons_self ..)
    have h1 := encF_lin hf
    have h2 := encFs_lin l fun f h => hl f (List.mem_cons_of_mem _ h)
    have e : encFs (f :: l) = encF f ++ encFs l := by simp [encFs]
    have h3 : 1 ≤ fb f := by unfold fb; omega
    rw [e]
    simp only [List.length_append, List.length_cons, List.map_cons, List.sum_cons]; omega
theorem fns_mem {F : Nat → Prop} {w : World} {l : List Fn4} {v : Value} (h : FnsAt F w l v) : ∀ f ∈ l, ∃ cs, FnAt F w f cs := by
  intro f hf
  obtain ⟨_, _, _, _, _, h3⟩ := h
  obtain ⟨i, hi, rfl⟩ := List.getElem_of_mem hf
  obtain ⟨_, _, _, _, _, _, _, _, _, _, _, _, hp⟩ := h3 i _ (List.getElem?_eq_getElem hi)
  exact ⟨_, hp⟩
/-- a module's bytes are not many more than what it holds -/
theorem encM_lin {F : Nat → Prop} {w : World} {h : Nat} {m : Md} {cs : List Value} (hm : MdAt F w h m cs) : (encM m).length ≤ 50 * mb m := by
  obtain ⟨vl, vf, _, hn, hl, hf⟩ := hm
  have a1 := encTs_lin (encT_lin h) m.lits (list_mem hl)
  have a2 := encFs_lin m.funcs (fns_mem hf)
  have a3 := len_tbs m.lits
  have a4 := encNat_lin m.lits.length
  have a5 := encNat_lin m.funcs.length
  have a6 := encB_lin m.name.data.toList
  have hs : m.name.data.toList.length = m.name.size := Array.length_toList
  have e4 : ([84, 82, 80, 69] : List UInt8).length = 4 := rfl
  simp only [encM, encL, List.length_append, mb, e4]; omega

theorem choose_row {α : Type} {n : Nat} {p : Nat → α → Prop} (h : ∀ i, i < n → ∃ t, p i t) : ∃ l : List α, l.length = n ∧ ∀ (i : Nat) (t : α), l[i]? = some t → p i t := by
  induction n with
  | zero => exact ⟨[], rfl, fun i t h => by simp at h⟩
  | succ n ih =>
    obtain ⟨l, hl, hp⟩ := ih fun i hi => h i (by omega)
    obtain ⟨t, ht⟩ := h n (by omega)
    refine ⟨l ++ [t], by simp [hl], fun i u hu => ?_⟩
    by_cases hi : i < l.length
    · rw [List.getElem?_append_left hi] at hu
      exact hp i u hu
    · rw [List.getElem?_append_right (by omega)] at hu
      have hlt := (List.getElem?_eq_some_iff.1 hu).1
      simp at hlt
      obtain rfl : i = n := by omega
      rw [hl, Nat.sub_self] at hu
      obtain rfl : t = u := by simpa using hu
      exact ht
section
variable {H : Type} {enc : TypeId × Value → H} {P : Program} {w : World} {base : Nat} {spare : Nat → Bool} {held : Bool}

theorem sums_le {α : Type} {μ : α → Nat} : ∀ (l : List α) (ds : List (DataW H)), l.length = ds.length → (∀ (i : Nat) (t : α) (d : DataW H), l[i]? = some t → ds[i]? = some d → μ t ≤ Rows.uptoBulk d) → (l.map μ).sum ≤ Rows.uptoBulkAll ds
  | [], [], _, _ => by simp
  | t :: l, d :: ds, hl, hp => by
    have h1 := hp 0 t d rfl rfl
    have h2 := sums_le l ds (by simpa using hl) fun i t d h1 h2 => hp (i + 1) t d (by simpa using h1) (by simpa using h2)
    simp only [List.map_cons, List.sum_cons, Rows.uptoBulkAll]; omega
  | [], _ :: _, hl, _ => by simp at hl
  | _ :: _, [], hl, _ => by simp at hl

/-- a slice that came in, element by element -/
theorem opened_row {α : Type} {μ : α → Nat} {p : List Value → α → Prop} {t e : TypeId} {N : Nat} {fuel : Nat} {c : Value} {x : DataW H × List MemPlace} (ht : P.underlying t = some (.slice e)) (hC : P.cellsOf e = N) (hN : 0 < N) 
    (hs : ∀ k ∈ x.1.weights P t, k ≤ reachBytes) (h : DataW.trod enc P w base spare held fuel t [c] = some x)
    (ih : ∀ (n' : Nat) (cs' : List Value) (y : DataW H × List MemPlace), SizeOf.sizeOf y.1 < SizeOf.sizeOf x.1 → (∀ k ∈ y.1.weights P e, k ≤ reachBytes) → DataW.trod enc P w base spare held n' e cs' = some y → ∃ t, p cs' t ∧ μ t ≤ Rows.uptoBulk y.1) :
    ∃ (l : List α) (po : Option Addr) (cap : Nat), c = .slice po l.length cap ∧ l.length ≤ cap ∧ l.length * P.bytesOf e ≤ 140737488351232 ∧ (l.map μ).sum + 1 ≤ Rows.uptoBulk x.1 ∧
      ∀ (i : Nat) (t : α), l[i]? = some t → ∃ b off cs', po = some ⟨b, off, none⟩ ∧ b < w.heap.size ∧ cs'.length = N ∧ p cs' t ∧ ∀ j, j < N → w.cell? ⟨b, off + i * N + j, none⟩ = cs'[j]? := by
  rcases open_slice ht h with ⟨h0, hx⟩ | ⟨a, len, cap, mm, n', D, Pl, hcs, hb, hl, hmx, hmm, hy, hi⟩
  · injection h0 with h0
    exact ⟨[], none, 0, h0, by simp, by simp, by rw [hx]; simp [Rows.uptoBulk], fun i t hi => by simp at hi⟩
  · injection hcs with hcs
    have hn0 := hs ((((List.range len).map D).length + ((List.range (mm - len)).map fun j => D (len + j)).length) * P.bytesOf e) (by rw [hy]; simp [DataW.weights, ht])
    simp only [List.length_map, List.length_range] at hn0
    unfold reachBytes at hn0
    have hlm : len ≤ mm := by rw [hmm]; split <;> omega
    have hel : ∀ i, i < len → ∃ T, ∃ cs', w.cells? base (a.add (i * N)) N = some cs' ∧ p cs' T ∧ μ T ≤ Rows.uptoBulk (D i) := by
      intro i hil
      obtain ⟨cs', hc, ht'⟩ := hi i (by omega)
      rw [hC] at hc
      obtain ⟨T, hT, hmu⟩ := ih n' cs' (D i, Pl i) (by
        have hmem : D i ∈ (List.range len).map D := List.mem_map.2 ⟨i, List.mem_range.2 hil, rfl⟩
        have := List.sizeOf_lt_of_mem hmem
        rw [hy]
        simp only [DataW.slice.sizeOf_spec]
        show SizeOf.sizeOf (D i) < _
        omega) (fun k hk => hs k (by
          rw [hy]
          simp only [DataW.weights, ht]
          exact List.mem_cons_of_mem _ (List.mem_append_left _ (all_mem (List.mem_map.2 ⟨i, List.mem_range.2 hil, rfl⟩) k hk)))) ht'
      exact ⟨T, cs', hc, hT, hmu⟩
    obtain ⟨l, hll, hlt⟩ := choose_row hel
    have hsum := sums_le (μ := μ) l ((List.range len).map D) (by simp [hll]) fun i t d h1 h2 => by
      obtain ⟨_, _, _, hmu⟩ := hlt i t h1
      have hil := (List.getElem?_eq_some_iff.1 h1).1
      rw [List.getElem?_map, List.getElem?_range (by omega)] at h2
      obtain rfl : D i = d := by simpa using h2
      exact hmu
    have hle : len * P.bytesOf e ≤ (len + (mm - len)) * P.bytesOf e := Nat.mul_le_mul_right _ (by omega)
    refine ⟨l, some a, cap, by rw [hll]; exact hcs, by omega, by rw [hll]; omega, by rw [hy]; simp only [Rows.uptoBulk]; omega, fun i t hit => ?_⟩
    have hil := (List.getElem?_eq_some_iff.1 hit).1
    obtain ⟨cs', hc, hT, _⟩ := hlt i t hit
    obtain ⟨_, hcl, hat⟩ := World.cells?_some hc
    obtain ⟨b, off, spot⟩ := a
    have hspot : spot = none := by
      obtain ⟨cs0, hc0, _⟩ := hi 0 (by omega)
      rw [hC] at hc0
      obtain ⟨_, hcl0, hat0⟩ := World.cells?_some hc0
      have h0 := hat0 0 (by omega)
      rw [List.getElem?_eq_getElem (show 0 < cs0.length by omega)] at h0
      simpa [Addr.add] using World.cell?_spot h0
    subst hspot
    have hat' : ∀ j, j < N → w.cell? ⟨b, off + i * N + j, none⟩ = cs'[j]? := fun j hj => by rw [← hat j hj, add_plain, add_plain]
    have h00 := hat' 0 hN
    rw [List.getElem?_eq_getElem (show 0 < cs'.length by omega)] at h00
    exact ⟨b, off, cs', rfl, World.block_lt_of_cell? _ _ h00, hcl, hT, hat'⟩
end
end Go.Proofs.YtpdepmkojbpklaaDoor

/- A module that came in: its reading opened. -/
namespace Go.Proofs.YtpdepmkojbpklaaDoor
open Go.ChangeShapes Go.WideShapes Go.Deep Go.RowKit
section
variable {H : Type} {enc : TypeId × Value → H} {P : Program} {w : World} {base : Nat} {spare : Nat → Bool} {held : Bool}

theorem bulk_pos (d : DataW H) : 1 ≤ Rows.uptoBulk d := by
  cases d with
  | lit l => cases l <;> simp [Rows.uptoBulk]
  | _ => simp [Rows.uptoBulk]
theorem bulk_len (l : List (DataW H)) : l.length ≤ Rows.uptoBulkAll l := by
  induction l with
  | nil => simp [Rows.uptoBulkAll]
  | cons x r ih => have := bulk_pos x; simp only [Rows.uptoBulkAll, List.length_cons]; omega

theorem opened_bytesB {t e : TypeId} {fuel : Nat} {v : Value} {y : DataW H × List MemPlace} (ht : P.underlying t = some (.slice e)) (he : P.underlying e = some (.int .u8)) (hc : P.cellsOf e = 1) (hb : P.bytesOf e = 1)
    (hs : ∀ n ∈ y.1.weights P t, n ≤ reachBytes)
    (h : DataW.trod enc P w base spare held fuel t [v] = some y) : ∃ po len cap f, v = .slice po len cap ∧ BIn w po len cap f ∧ len ≤ 140737488351232 ∧ len + 1 ≤ Rows.uptoBulk y.1 := by
  rcases open_ints ht he hc h with ⟨h1, h2⟩ | ⟨a, len, cap, zs, h1, _, h3, h4, h5, hy, h6, h7⟩
  · injection h1 with h1
    exact ⟨none, 0, 0, fun _ => 0, h1, bIn_nil w _, by omega, by rw [h2]; simp [Rows.uptoBulk]⟩
  · injection h1 with h1
    have hle : len ≤ zs.length := by rw [h5]; split <;> omega
    subst hy
    have := hs (((lits (H := H) .u8 (zs.take len)).length + (lits (H := H) .u8 (zs.drop len)).length) * P.bytesOf e) (by simp [DataW.weights, ht])
    rw [hb] at this
    have e1 : (lits (H := H) .u8 (zs.take len)).length = len := by simp [lits]; omega
    have h9 := bulk_len (lits (H := H) .u8 (zs.take len))
    unfold reachBytes at this
    refine ⟨some a, len, cap, _, h1, bIn_of h3 h4 hle h6 h7, by omega, ?_⟩
    simp only [Rows.uptoBulk]
    omega

/-- four cells, each of which is one field -/
theorem four_fields {tT : TypeId} {f0 f1 f2 f3 : Field} (he : P.underlying tT = some (.struct #[f0, f1, f2, f3])) (hone : oneCellFields P #[f0, f1, f2, f3] = true) (hC : P.cellsOf tT = 4)
    {fuel : Nat} {cs : List Value} {x : DataW H × List MemPlace} (h : DataW.trod enc P w base spare held fuel tT cs = some x) :
    ∃ c0 c1 c2 c3 y0 y1 y2 y3 n, cs = [c0, c1, c2, c3] ∧ x.1 = .agg [y0.1, y1.1, y2.1, y3.1] ∧
      DataW.trod enc P w base spare held n f0.type [c0] = some y0 ∧ DataW.trod enc P w base spare held n f1.type [c1] = some y1 ∧ DataW.trod enc P w base spare held n f2.type [c2] = some y2 ∧ DataW.trod enc P w base spare held n f3.type [c3] = some y3 := by
  obtain ⟨ys, n, _, rfl, hcl, hyl, hf⟩ := DataW.trod_struct he h
  rw [hC] at hcl
  have hyl' : ys.length = 4 := hyl
  have r0 := hf 0 f0 rfl
  have r1 := hf 1 f1 rfl
  have r2 := hf 2 f2 rfl
  have r3 := hf 3 f3 rfl
  rw [(hone_of hone 0 f0 rfl).1, (hone_of hone 0 f0 rfl).2] at r0
  rw [(hone_of hone 1 f1 rfl).1, (hone_of hone 1 f1 rfl).2] at r1
  rw [(hone_of hone 2 f2 rfl).1, (hone_of hone 2 f2 rfl).2] at r2
  rw [(hone_of hone 3 f3 rfl).1, (hone_of hone 3 f3 rfl).2] at r3
  match cs, hcl, ys, hyl' with
  | [c0, c1, c2, c3], _, [y0, y1, y2, y3], _ => exact ⟨c0, c1, c2, c3, y0, y1, y2, y3, n, rfl, rfl, r0, r1, r2, r3⟩
theorem three_fields {tT : TypeId} {f0 f1 f2 : Field} (he : P.underlying tT = some (.struct #[f0, f1, f2])) (hone : oneCellFields P #[f0, f1, f2] = true) (hC : P.cellsOf tT = 3)
    {fuel : Nat} {cs : List Value} {x : DataW H × List MemPlace} (h : DataW.trod enc P w base spare held fuel tT cs = some x) :
    ∃ c0 c1 c2 y0 y1 y2 n, cs = [c0, c1, c2] ∧ x.1 = .agg [y0.1, y1.1, y2.1] ∧
      DataW.trod enc P w base spare held n f0.type [c0] = some y0 ∧ DataW.trod enc P w base spare held n f1.type [c1] = some y1 ∧ DataW.trod enc P w base spare held n f2.type [c2] = some y2 := by
  obtain ⟨ys, n, _, rfl, hcl, hyl, hf⟩ := DataW.trod_struct he h
  rw [hC] at hcl
  have hyl' : ys.length = 3 := hyl
  have r0 := hf 0 f0 rfl
  have r1 := hf 1 f1 rfl
  have r2 := hf 2 f2 rfl
  rw [(hone_of hone 0 f0 rfl).1, (hone_of hone 0 f0 rfl).2] at r0
  rw [(hone_of hone 1 f1 rfl).1, (hone_of hone 1 f1 rfl).2] at r1
  rw [(hone_of hone 2 f2 rfl).1, (hone_of hone 2 f2 rfl).2] at r2
  match cs, hcl, ys, hyl' with
  | [c0, c1, c2], _, [y0, y1, y2], _ => exact ⟨c0, c1, c2, y0, y1, y2, n, rfl, rfl, r0, r1, r2⟩
/-- what the parts of a struct weigh -/
theorem parts_weigh {tT : TypeId} {fs : Array Field} (he : P.underlying tT = some (.struct fs)) {x : DataW H} {ds : List (DataW H)} (hx : x = .agg ds) (hs : ∀ n ∈ x.weights P tT, n ≤ reachBytes) (j : Nat) (f : Field) (d : DataW H) (hf : fs.toList[j]? = some f) (hd : ds[j]? = some d) :
    ∀ n ∈ d.weights P f.type, n ≤ reachBytes := by
  intro k hk
  refine hs k ?_
  rw [hx]
  simp only [DataW.weights, he]
  refine DataW.weights_mem_each (j := j) (t := f.type) ?_ hd k hk
  simp [hf]

variable {tT eu : TypeId} {f0 f1 f2 f3 f4 f5 : Field}
theorem opened_termB (he : P.underlying tT = some (.struct #[f0, f1, f2, f3, f4, f5])) (hone : oneCellFields P #[f0, f1, f2, f3, f4, f5] = true) (hC : P.cellsOf tT = 6)
    (u0 : P.underlying f0.type = some (.int .i64)) (u1 : P.underlying f1.type = some (.int .i64)) (u2 : P.underlying f2.type = some .string) (u3 : P.underlying f3.type = some (.slice tT)) (u4 : P.underlying f4.type = some (.slice tT))
    (u5 : P.underlying f5.type = some (.slice eu)) (hu : P.underlying eu = some (.int .u8)) (huc : P.cellsOf eu = 1) (hbe : P.bytesOf tT = 104) (hbu : P.bytesOf eu = 1) :
    ∀ (m fuel : Nat) (cs : List Value) (x : DataW H × List MemPlace), SizeOf.sizeOf x.1 ≤ m → (∀ n ∈ x.1.weights P tT, n ≤ reachBytes) → DataW.trod enc P w base spare held fuel tT cs = some x →
      ∃ T, TermAt (fun q => q < w.heap.size) w m T cs ∧ tb T ≤ Rows.uptoBulk x.1
  | 0, fuel, cs, x, hm, hs, h => by
    obtain ⟨c0, c1, c2, c3, c4, c5, y0, y1, y2, y3, y4, y5, n, rfl, hx, _⟩ := six_fields he hone hC h
    rw [hx] at hm
    simp at hm
  | m + 1, fuel, cs, x, hm, hs, h => by
    obtain ⟨c0, c1, c2, c3, c4, c5, y0, y1, y2, y3, y4, y5, n, rfl, hx, r0, r1, r2, r3, r4, r5⟩ := six_fields he hone hC h
    have ih := opened_termB he hone hC u0 u1 u2 u3 u4 u5 hu huc hbe hbu m
    have hs' := parts_weigh he hx hs
    have hz3 : SizeOf.sizeOf y3.1 ≤ m := by rw [hx] at hm; simp at hm; omega
    have hz4 : SizeOf.sizeOf y4.1 ≤ m := by rw [hx] at hm; simp at hm; omega
    have hlist : ∀ (f : Field) (c : Value) (y : DataW H × List MemPlace), P.underlying f.type = some (.slice tT) → SizeOf.sizeOf y.1 ≤ m → (∀ n ∈ y.1.weights P f.type, n ≤ reachBytes) → DataW.trod enc P w base spare held n f.type [c] = some y →
        ∃ l, ListAt (fun q => q < w.heap.size) w (TermAt (fun q => q < w.heap.size) w m) l c ∧ tbs l + 1 ≤ Rows.uptoBulk y.1 := by
      intro f c y uf hz hw hr
      obtain ⟨l, po, cap, rfl, h1, h2, h3, h4⟩ := opened_row (μ := tb) (p := fun cs' t => TermAt (fun q => q < w.heap.size) w m t cs') uf hC (by omega) hw hr (fun n' cs' y' hz' hw' hr' => ih n' cs' y' (by omega) hw' hr')
      rw [hbe] at h2
      refine ⟨l, ⟨po, cap, rfl, h1, h2, fun i t hit => ?_⟩, by rw [tbs_sum]; exact h3⟩
      obtain ⟨b, off, cs', rfl, hb, hcl, hp, hat⟩ := h4 i t hit
      match cs', hcl with
      | [d0, d1, d2, d3, d4, d5], _ => exact ⟨b, off, d0, d1, d2, d3, d4, d5, rfl, hb, hat 0 (by omega), hat 1 (by omega), hat 2 (by omega), hat 3 (by omega), hat 4 (by omega), hat 5 (by omega), hp⟩
    obtain ⟨k, e0, _, w0⟩ := DataW.trod_int u0 r0
    obtain ⟨nn, e1, _, w1⟩ := DataW.trod_int u1 r1
    obtain ⟨s, e2, x2, w2⟩ := DataW.trod_string u2 r2
    obtain ⟨li, hli, b3⟩ := hlist f3 c3 y3 u3 hz3 (hs' 3 f3 y3.1 rfl rfl) r3
    obtain ⟨lr, hlr, b4⟩ := hlist f4 c4 y4 u4 hz4 (hs' 4 f4 y4.1 rfl rfl) r4
    obtain ⟨po, len', cap', f, e5, hbin, hlen', b5⟩ := opened_bytesB (v := c5) u5 hu huc hbu (hs' 5 f5 y5.1 rfl rfl) r5
    have e0' : c0 = .int .i64 k := by injection e0
    have e1' : c1 = .int .i64 nn := by injection e1
    have e2' : c2 = .string s := by injection e2
    subst e0' e1' e2' e5
    obtain ⟨q1, q2⟩ := bounds_i64 w0
    obtain ⟨q3, q4⟩ := bounds_i64 w1
    refine ⟨.mk k nn s li lr (bl f len'), ⟨_, _, _, rfl, ⟨q1, q2, q3, q4, w2⟩, hli, hlr, ?_⟩, ?_⟩
    · have := bytes_of_in hbin hlen'
      rw [show (Value.slice po len' cap') = .slice po (bl f len').length cap' by rw [bl_len]] at this
      simpa [bl_len] using this
    · have hss : s.data.toList.length = s.size := Array.length_toList
      rw [hx, tb, bl_len]
      simp only [Rows.uptoBulk, Rows.uptoBulkAll, x2]
      omega
end
end Go.Proofs.YtpdepmkojbpklaaDoor
