/- HeapViews' plain data: blocks of four words, one behind the other; one binary that some hold. HeapViews: the walk. -/
import Derived.Test.YtkcmfldcdokobaaGreatDoorM06
import Derived.Test.YtkcmfldcdokobaaGreatDoorM20
import Derived.Test.YtkcmfldcdokobaaGreatDoorM39
import Derived.Test.YtkcmfldcdokobaaGreatDoorM40
import Derived.Test.YtkcmfldcdokobaaGreatDoorM46
import Derived.Deep.DeepCutAuto
import Derived.Deep.CutBlock
import Derived.Deep.QuietTactic
import Derived.BigQuiet
/- HeapViews' plain data: blocks of four words, one behind the other; one binary that some hold. -/
namespace Go.Proofs.YtkcmfldcdokobaaGreatDoor
open Go.RowKit Go.Maps

/-- n blocks of four words each -/
structure Fours (W : Nat → List Int) (n : Nat) (A : Ar) : Prop where
  tight : Tight A
  inv : Inv A []
  used : A.used = 8 * n
  size : A.size = 20000
  quota : A.quota = 20000
  tk : ∀ q m, A.tk q m ↔ ∃ j, j < n ∧ q = 8 * j ∧ m = 4
  word : ∀ j, j < n → blkW A (8 * j) 4 = W j
theorem Fours.new (W : Nat → List Int) : Fours W 0 (Ar.new 20000 20000) :=
  ⟨Tight.new _ _, Inv.new 20000 20000 (by omega) (by omega), rfl, rfl, rfl, fun q n => ⟨fun h => by simp [Ar.tk, Ar.new] at h, fun ⟨j, h, _⟩ => by omega⟩, fun j h => by omega⟩
theorem Fours.step {W : Nat → List Int} {n : Nat} {A A' : Ar} {own : Nat} {ws : List Int} (h : Fours W n A) (hl : Laid A ws own A') (hw : W n = ws) (h4 : ws.length = 4) : own = 8 * n ∧ Fours W (n + 1) A' := by
  obtain ⟨h1, h2, h3⟩ := hl.tight h.tight h.inv (by omega)
  have hto := hl.to h.inv (by omega)
  have hu := h.used
  rw [h4, cls_4] at h3
  rw [hu] at h1
  refine ⟨h1, h2, hto.inv, by omega, hto.size.trans h.size, hto.quota.trans h.quota, fun q m => ?_, fun j hj => ?_⟩
  · rw [hto.tk, h.tk, h4]
    constructor
    · rintro (⟨e1, e2⟩ | ⟨e1, j, e2, e3⟩)
      · exact ⟨n, by omega, by omega, e2⟩
      · exact ⟨j, by omega, e3⟩
    · rintro ⟨j, e1, e2, e3⟩
      by_cases e : j = n
      · exact .inl ⟨by omega, e3⟩
      · exact .inr ⟨by omega, j, by omega, e2, e3⟩
  · by_cases e : j = n
    · subst e
      have := hto.it
      rw [h4, h1] at this
      rw [this, hw]
    · rw [hto.word (8 * j) 4 ((h.tk _ _).2 ⟨j, by omega, rfl, rfl⟩)]
      exact h.word j (by omega)
theorem Fours.room {W : Nat → List Int} {n : Nat} {A : Ar} (h : Fours W n A) (hn : n ≤ 100) : A.used + 8 ≤ A.quota ∧ ¬ Nowhere A 3 := by
  have h1 := h.used
  have h2 := h.quota
  have h3 := h.size
  have h4 := h.tight.2
  refine ⟨by omega, fun ⟨_, h5, _⟩ => ?_⟩
  simp only [show (2 : Nat) ^ 3 = 8 from rfl] at h5
  omega

/-- one binary, held c times -/
structure OneB (bs : List UInt8) (c : Nat) (a : Bn) : Prop where
  slots : a.slots = [⟨bs, c, 0⟩]
  used : a.used = bs.length
theorem OneB.ok {bs : List UInt8} {c : Nat} {a : Bn} (h : OneB bs c a) (hc : 0 < c) : FOk a 0 0 ⟨bs, c, 0⟩ := ⟨by omega, rfl, by rw [h.slots]; rfl, rfl, hc⟩
theorem OneB.more {bs : List UInt8} {c : Nat} {a : Bn} (h : OneB bs c a) : OneB bs (c + 1) (moreOf a 0 ⟨bs, c, 0⟩) := ⟨by unfold moreOf; rw [h.slots]; rfl, h.used⟩
theorem OneB.drop {bs : List UInt8} {c : Nat} {a a' : Bn} (h : OneB bs (c + 1) a) (hd : DropTo a 0 a') : (0 < c ∧ OneB bs c a') ∨ (c = 0 ∧ a'.used = 0) := by
  rcases hd with ⟨i, s, hf, hh⟩ | ⟨⟨k, hb⟩, _⟩
  · obtain ⟨rfl, rfl⟩ := hf.uniq (h.ok (by omega))
    rcases hh with ⟨h1, rfl⟩ | ⟨c', h1, h2, rfl⟩
    · simp only at h1
      exact .inr ⟨by omega, by simp [h.used]⟩
    · simp only at h1
      obtain rfl : c' = c := by omega
      exact .inl ⟨h2, by simp [h.slots], h.used⟩
  · exact absurd hb (h.ok (by omega)).notBad
theorem oneB_put {bs : List UInt8} {a' : Bn} {m : Nat} (h : PutTo (aNew 100 20000) bs a' m) : m = 0 ∧ OneB bs 1 a' := by
  rcases h.2 with ⟨_, _, rfl, rfl⟩ | ⟨rest, i, s, e, _⟩
  · exact ⟨rfl, by simp [pushIn, aNew], by simp [pushIn, aNew]⟩
  · simp [aNew] at e

/-- what a block of these holds -/
def binW (f m : Int) : List Int := [103, 0 * 8 + 6, f, m]
theorem Fours.names {W : Nat → List Int} {A : Ar} (h : Fours W 3 A) : A.names = [1, 9, 17] :=
  sorted_ext (namesTo_lt _ _) (by decide) fun x => by
    show x ∈ A.names ↔ _
    rw [names_mem h.inv]
    constructor
    · rintro ⟨q, n, rfl, hq⟩
      obtain ⟨j, h1, rfl, _⟩ := (h.tk q n).1 hq
      have : j = 0 ∨ j = 1 ∨ j = 2 := by omega
      rcases this with rfl | rfl | rfl <;> decide
    · intro hx
      simp at hx
      rcases hx with rfl | rfl | rfl
      · exact ⟨0, 4, rfl, (h.tk _ _).2 ⟨0, by omega, rfl, rfl⟩⟩
      · exact ⟨8, 4, rfl, (h.tk _ _).2 ⟨1, by omega, rfl, rfl⟩⟩
      · exact ⟨16, 4, rfl, (h.tk _ _).2 ⟨2, by omega, rfl, rfl⟩⟩
theorem Gives.two {A A' : Ar} {a a' : Bn} {p q : Nat} (h : Gives A a [p, q] A' a') : ∃ A1 a1 n1 n2, A.tk p n1 ∧ GiveTo a (handleOf (blkW A p n1)) a1 ∧ A1 = A.freed p (cls n1) ∧ A1.tk q n2 ∧ GiveTo a1 (handleOf (blkW A1 q n2)) a' ∧ A' = A1.freed q (cls n2) := by
  generalize hqs : [p, q] = qs at h
  cases h with
  | none => cases hqs
  | @snoc qs1 A1 a1 q' n a2 h1 h2 h3 =>
    have e := List.append_inj' (s₁ := [p]) (t₁ := [q]) (s₂ := qs1) (t₂ := [q']) hqs rfl
    obtain ⟨e1, e2⟩ := e
    injection e2 with e2 _
    subst e2
    generalize hqs2 : qs1 = qs2 at h1
    cases h1 with
    | none => rw [← e1] at hqs2; cases hqs2
    | @snoc qs3 A2 a3 q2 n2 a4 g1 g2 g3 =>
      have e3 := List.append_inj' (s₁ := ([] : List Nat)) (t₁ := [p]) (s₂ := qs3) (t₂ := [q2]) (by rw [← hqs2, ← e1]; rfl) rfl
      obtain ⟨e4, e5⟩ := e3
      injection e5 with e5 _
      subst e5
      subst e4
      generalize hqs4 : ([] : List Nat) = qs5 at g1
      cases g1 with
      | none => exact ⟨_, _, n2, n, g2, g3, rfl, h2, h3, rfl⟩
      | snoc _ _ _ => simp at hqs4
theorem Gives.single {A A' : Ar} {a a' : Bn} {p : Nat} (h : Gives A a [p] A' a') : ∃ n1, A.tk p n1 ∧ GiveTo a (handleOf (blkW A p n1)) a' ∧ A' = A.freed p (cls n1) := by
  generalize hqs : [p] = qs at h
  cases h with
  | none => cases hqs
  | @snoc qs1 A1 a1 q' n a2 h1 h2 h3 =>
    obtain ⟨e1, e2⟩ := List.append_inj' (s₁ := ([] : List Nat)) (t₁ := [p]) (s₂ := qs1) (t₂ := [q']) hqs rfl
    injection e2 with e2 _
    subst e2
    subst e1
    generalize hqs4 : ([] : List Nat) = qs5 at h1
    cases h1 with
    | none => exact ⟨n, h2, h3, rfl⟩
    | snoc _ _ _ => simp at hqs4
end Go.Proofs.YtkcmfldcdokobaaGreatDoor

/- HeapViews: the walk. -/
namespace Go.Proofs.YtkcmfldcdokobaaGreatDoor
open Go.RowKit Go.Maps

def binT (bs : List UInt8) : Tm := .mk 8 0 noS [] [] bs
theorem binT_at {F : Nat → Prop} {w : World} {h : Nat} {bs : List UInt8} {v : Value} (hb : BytesAt F w bs v) : TermAt F w (h + 1) (binT bs) [.int .i64 8, .int .i64 0, .string noS, .slice none 0 0, .slice none 0 0, v] :=
  ⟨_, _, _, rfl, ⟨by omega, by omega, by omega, by omega, by decide⟩, noList, noList, hb⟩
theorem binT_ok (bs : List UInt8) : tok 200 (binT bs) := by
  refine ⟨?_, fun t ht => (by cases ht), fun t ht => (by cases ht)⟩
  simp [fitsB, fitsK, noS]
theorem lays_bin {names : List ByteArray} {h : Nat} {S S' : St} {bs : List UInt8} {x : Int} (hl : Lays names (h + 1) S (binT bs) x S') : BinS S bs x S' := by
  rcases hl with ⟨e, _⟩ | ⟨e, _⟩ | ⟨e, _⟩ | ⟨_, hx⟩ | ⟨e, _⟩ | ⟨e, _⟩
  · omega
  · omega
  · omega
  · exact hx
  · omega
  · omega

section
variable {w0 w : World} {col : Nat → Nat} {hb ab tb bb least : Nat} {sv : Value} {sl : List (Int × Bool)}
/-- what there is behind n blocks and c holders -/
def VSt (w0 w : World) (col : Nat → Nat) (hb ab tb bb : Nat) (sv : Value) (least : Nat) (sl : List (Int × Bool)) (bs : List UInt8) (W : Nat → List Int) (n c : Nat) (M : Nat) (w' : World) : Prop :=
  ∃ col' A' a', Go1 col w col' w' ∧ Fours W n A' ∧ OneB bs c a' ∧ Hs w0 w' col' hb ab tb bb sv least sl A' [] M a'
theorem store_bin {F : Nat → Prop} {v : Value} {bs : List UInt8} (h : Hs w0 w col hb ab tb bb sv least sl (Ar.new 20000 20000) [] 1 (aNew 100 20000)) (hg : Laid0 w0) (hbl : bs.length ≤ 1000) (W : Nat → List Int) (hW : W 0 = [103, 0 * 8 + 6, ((0 : Nat) : Int), (bs.length : Int)]) (W2 : World) (hk : Kp (fun _ => False) w W2) (hby : BytesAt F W2 bs v) (hF : ∀ q, F q → w.heap.size ≤ q) :
    Calls Tryz.prog 14 #[.pointer (some ⟨hb, 0, none⟩), .agg #[.int .i64 8, .int .i64 0, .string noS, .slice none 0 0, .slice none 0 0, v]] W2 fun e w' => e = .returned (.tuple #[.int .u64 13, .nilIface]) ∧ VSt w0 w col hb ab tb bb sv least sl bs W 1 1 3000001 w' := by
  refine (store_any (binT_at (h := 0) hby) (h.same hk) (fun q hq _ => by have := hF q hq; unfold recol; rw [if_neg (by omega)]) (by omega) (by omega) hg).mono ?_
  rintro e w2 hS
  obtain ⟨col', x, S', rfl, hx, hgo, hst, hla, _, _, hH, _⟩ := hS.fits (Tight.new 20000 20000) rfl h.ar.inv (binT_ok bs) (by simp [tsz, binT]; omega) (by simp [cost, ownCost, binT, Ar.new]) (by simp [cost, ownCost, binT, aNew]; omega) (by simp [cost, ownCost, binT, aNew]) (by simp [cost, ownCost, binT])
  obtain ⟨m, a', hp, own, A', hl, rfl, rfl⟩ := lays_bin hla
  obtain ⟨rfl, hone⟩ := oneB_put hp
  obtain ⟨rfl, hfour⟩ := (Fours.new W).step hl (by rw [hW]; rfl) rfl
  exact ⟨rfl, col', A', a', (Go0.same hk).go1.trans hgo, hfour, hone, by simpa using hH⟩

theorem copy_bin {F : Nat → Prop} {v : Value} {bs : List UInt8} (h : Hs w0 w col hb ab tb bb sv least sl (Ar.new 20000 20000) [] 1 (aNew 100 20000)) (hg : Laid0 w0) (hbl : bs.length ≤ 1000) (W : Nat → List Int) (hW : W 0 = [103, 0 * 8 + 6, ((0 : Nat) : Int), (bs.length : Int)]) (hv : BytesAt F w bs v) (W1 : World) (hk : Kp (fun _ => False) w W1) :
    Calls Tryz.prog 23 #[v] W1 fun e w1 => ∃ po len cap, e = .returned (.slice po len cap) ∧ Kp (fun _ => False) w w1 ∧ ∀ W2, Kp (fun _ => False) w1 W2 →
      Calls Tryz.prog 14 #[.pointer (some ⟨hb, 0, none⟩), .agg #[.int .i64 8, .int .i64 0, .string noS, .slice none 0 0, .slice none 0 0, .slice po len cap]] W2 fun e w' => e = .returned (.tuple #[.int .u64 13, .nilIface]) ∧ VSt w0 w col hb ab tb bb sv least sl bs W 1 1 3000001 w' := by
  refine (copyBytes_own (bytes_kp hv hk (fun _ _ e => e))).mono ?_
  rintro e w1 ⟨v', rfl, h1, h2⟩
  obtain ⟨po, cap, rfl, _⟩ := id h1
  have hk12 := hk.trans' h2
  have hz := hk.size
  exact ⟨_, _, _, rfl, hk12, fun W2 hk3 => store_bin h hg hbl W hW W2 (hk12.trans' hk3) (bytes_kp h1 hk3 (fun _ _ e => e)) (fun q e => by have := e.1; omega)⟩
theorem VSt.view {bs : List UInt8} {W : Nat → List Int} {n c j M : Nat} {w1 : World} (hS : VSt w0 w col hb ab tb bb sv least sl bs W (n + 1) (c + 1) M w1) (hM : M ≤ 90000000000000) (hn : n ≤ 90) (hj : j ≤ n) (hbl : bs.length ≤ 1000) (f m : Nat) (hWj : W j = [103, 0 * 8 + 6, (f : Int), (m : Int)]) (hfm : f + m ≤ bs.length) (f' m' : Nat) (hp : f' + m' ≤ m) (hWn : W (n + 1) = [103, 0 * 8 + 6, (f : Int) + f', (m' : Int)]) :
    Calls Tryz.prog 24 #[.pointer (some ⟨hb, 0, none⟩), .int .u64 ((((8 * j : Nat) : Int) + 1) * 8 + 5), .int .i64 f', .int .i64 m'] w1 fun e w' => e = .returned (.tuple #[.int .u64 ((((8 * (n + 1) : Nat) : Int) + 1) * 8 + 5), .nilIface]) ∧ VSt w0 w col hb ab tb bb sv least sl bs W (n + 2) (c + 2) (M + 1) w' := by
  obtain ⟨col1, A1, a1, g1, hF, hO, h1⟩ := hS
  have hr := hF.room (by omega)
  refine (view_ok h1 hM ((hF.tk _ _).2 ⟨j, by omega, rfl, rfl⟩) (hO.ok (by omega)) f m (by rw [hF.word j (by omega)]; exact hWj) hfm (by show bs.length ≤ _; omega) f' m' hp hr.1 hr.2).mono ?_
  rintro e w2 ⟨own, A2, col2, rfl, hl, g2, h2⟩
  obtain ⟨rfl, hF2⟩ := hF.step hl hWn rfl
  exact ⟨rfl, col2, A2, _, g1.trans g2, hF2, hO.more, h2⟩
theorem VSt.over {bs : List UInt8} {W : Nat → List Int} {n c j M : Nat} {w1 : World} (hS : VSt w0 w col hb ab tb bb sv least sl bs W n (c + 1) M w1) (hj : j < n) (hbl : bs.length ≤ 1000) (f m : Nat) (hWj : W j = [103, 0 * 8 + 6, (f : Int), (m : Int)]) (hfm : f + m ≤ bs.length) (f' m' : Nat) (hm' : m' ≤ 1001) (hf' : f' ≤ 1001) (hp : m < f' + m') :
    Calls Tryz.prog 24 #[.pointer (some ⟨hb, 0, none⟩), .int .u64 ((((8 * j : Nat) : Int) + 1) * 8 + 5), .int .i64 f', .int .i64 m'] w1 fun e w' => (∃ g, e = .returned (.tuple #[.int .u64 0, .iface 95 (.pointer (some ⟨g, 0, none⟩))])) ∧ VSt w0 w col hb ab tb bb sv least sl bs W n (c + 1) M w' := by
  obtain ⟨col1, A1, a1, g1, hF, hO, h1⟩ := hS
  refine (view_over h1 ((hF.tk _ _).2 ⟨j, hj, rfl, rfl⟩) (hO.ok (by omega)) f m (by rw [hF.word j hj]; exact hWj) hfm (by show bs.length ≤ _; omega) f' m' (by omega) (by omega) hp).mono ?_
  rintro e w2 ⟨v, rfl, hc, hk⟩
  obtain ⟨g, rfl⟩ := Chain.form hc.out
  exact ⟨⟨g, rfl⟩, _, A1, a1, g1.trans (Go0.same hk).go1, hF, hO, h1.same hk⟩
theorem VSt.used {bs : List UInt8} {W : Nat → List Int} {n c M : Nat} {w1 : World} (hS : VSt w0 w col hb ab tb bb sv least sl bs W n c M w1) :
    Calls Tryz.prog 25 #[.pointer (some ⟨bb, 0, none⟩)] w1 fun e w' => e = .returned (.int .i64 bs.length) ∧ w1 = w' := by
  obtain ⟨col1, A1, a1, g1, hF, hO, h1⟩ := hS
  obtain ⟨ss, fs, ps, hB⟩ := h1.bn
  have := used_any hB
  rw [hO.used] at this
  exact this
/-- the last of three is left -/
structure Left (bs : List UInt8) (wd : List Int) (A : Ar) (a : Bn) : Prop where
  inv : Inv A []
  used : A.used = 8
  tk : ∀ q m, A.tk q m ↔ q = 16 ∧ m = 4
  word : blkW A 16 4 = wd
  one : OneB bs 1 a
def LSt (w0 w : World) (col : Nat → Nat) (hb ab tb bb : Nat) (sv : Value) (least : Nat) (sl : List (Int × Bool)) (bs : List UInt8) (wd : List Int) (M : Nat) (w' : World) : Prop :=
  ∃ col' A' a', Go1 col w col' w' ∧ Left bs wd A' a' ∧ Hs w0 w' col' hb ab tb bb sv least sl A' [] M a'
theorem VSt.collect {bs : List UInt8} {W : Nat → List Int} {M mg : Nat} {w1 : World} (hS : VSt w0 w col hb ab tb bb sv least [] bs W 3 3 M w1) (hM : M ≤ 90000000000000) (hW : ∀ j, j < 3 → ∃ f m : Int, W j = [103, 0 * 8 + 6, f, m]) (W2 : World) (hk : Kp (fun _ => False) w1 W2) (hc : W2.cell? ⟨mg, 0, none⟩ = some (.int .u64 141)) :
    Calls Tryz.prog 18 #[.pointer (some ⟨hb, 0, none⟩), .slice (some ⟨mg, 0, none⟩) 1 1] W2 fun e w' => (∃ n, e = .returned (.int .i64 n)) ∧ LSt w0 w col hb ab tb bb sv least [] bs (W 2) (M + 1048576) w' := by
  obtain ⟨col1, A1, a1, g1, hF, hO, h1⟩ := hS
  have h2 := h1.same hk
  refine (collect_more h2 hM (by simp) (fun x hx => by simp [heldTo] at hx) [141] mg 0 1 (fun j x hx => by
    have hj : j = 0 := by
      have := (List.getElem?_eq_some_iff.1 hx).1
      simp at this
      exact this
    subst hj
    injection hx with hx
    subst hx
    exact hc) (by simp) (by simp) (by simp)).mono ?_
  rintro e w3 ⟨ds, rfl, hds, col3, A3, a3, g3, hg, h3⟩
  have htk : ∀ j, j < 3 → A1.tk (8 * j) 4 := fun j hj => (hF.tk _ _).2 ⟨j, hj, rfl, rfl⟩
  have hlook : ∀ j, j < 3 → ∀ y ∈ lookOf (blkW A1 (8 * j) 4), ∀ q, ¬ Nm A1 y q := fun j hj y hy q hn => by
    obtain ⟨f, m, e⟩ := hW j hj
    rw [hF.word j hj, e] at hy
    have hm : markOf (([103, 0 * 8 + 6, f, m] : List Int)[0]?.getD 0) = some (4, 1) := by
      show markOf 103 = some (4, 1)
      decide
    have : y = 6 := by
      unfold lookOf at hy
      have hn : lookNum 103 = 1 := by decide
      simpa [hn] using hy
    have := hn.1
    omega
  have hr : ∀ q, q ∈ ds ↔ q = 16 := fun q => by
    rw [hds]
    constructor
    · intro hr
      cases hr with
      | word h4 h5 =>
        have : (141 : Int) = ((q : Int) + 1) * 8 + 5 := by
          have h6 := h5.1
          simp [heldTo] at h4
          omega
        omega
      | @look p n y q h4 h5 h6 h7 =>
        obtain ⟨j, hj, rfl, rfl⟩ := (hF.tk p n).1 h5
        exact absurd h7 (hlook j hj y h6 q)
    · rintro rfl
      exact .word (y := 141) (by simp [heldTo]) ⟨by omega, 4, htk 2 (by omega)⟩
  have hgone : gone A1.names ds = [0, 8] := by
    rw [hF.names]
    have e0 : ¬ (0 ∈ ds) := fun e => by have := (hr 0).1 e; omega
    have e8 : ¬ (8 ∈ ds) := fun e => by have := (hr 8).1 e; omega
    have e16 : 16 ∈ ds := (hr 16).2 rfl
    simp [gone, e0, e8, e16]
  have hgt := hg.tk
  rw [hgone] at hg hgt
  obtain ⟨A2, a2, n1, n2, t1, q1, rfl, t2, q2, hA3⟩ := hg.two
  obtain ⟨j1, hj1, e1, rfl⟩ := (hF.tk 0 n1).1 t1
  have t2' := (freed_tk t1 8 n2).1 t2
  obtain ⟨j2, hj2, e2, rfl⟩ := (hF.tk 8 n2).1 t2'.2
  have hh : ∀ j, j < 3 → handleOf (blkW A1 (8 * j) 4) = some 0 := fun j hj => by
    obtain ⟨f, m, e⟩ := hW j hj
    rw [hF.word j hj, e]
    exact handleOf_bin 0 f m
  have hh0 := hh 0 (by omega)
  have hh1 := hh 1 (by omega)
  rw [show 8 * 0 = 0 from rfl] at hh0
  rw [show 8 * 1 = 8 from rfl] at hh1
  rw [hh0] at q1
  have hbl : blkW (A1.freed 0 (cls 4)) 8 4 = blkW A1 8 4 := rfl
  rw [hbl, hh1] at q2
  have o2 : OneB bs 2 a2 := by
    rcases hO.drop q1 with ⟨_, e⟩ | ⟨e, _⟩
    · exact e
    · omega
  have o3 : OneB bs 1 a3 := by
    rcases o2.drop q2 with ⟨_, e⟩ | ⟨e, _⟩
    · exact e
    · omega
  refine ⟨⟨_, rfl⟩, col3, A3, a3, (g1.trans (Go0.same hk).go1).trans g3.go1, ⟨h3.ar.inv, ?_, fun q m => ?_, ?_, o3⟩, h3⟩
  · have hu := hF.used
    rw [hA3]
    show (A1.used - 2 ^ cls 4) - 2 ^ cls 4 = 8
    rw [cls_4, hu]
  · rw [hgt.1, hF.tk]
    constructor
    · rintro ⟨⟨j, hj, rfl, rfl⟩, h6⟩
      have : j = 0 ∨ j = 1 ∨ j = 2 := by omega
      rcases this with rfl | rfl | rfl
      · simp at h6
      · simp at h6
      · exact ⟨rfl, rfl⟩
    · rintro ⟨rfl, rfl⟩
      exact ⟨⟨2, by omega, rfl, rfl⟩, by simp⟩
  · have : blkW A3 16 4 = blkW A1 16 4 := by unfold blkW; rw [hgt.2.1]
    rw [this]
    exact hF.word 2 (by omega)
theorem LSt.load {bs : List UInt8} {wd : List Int} {M : Nat} {w1 : World} (hS : LSt w0 w col hb ab tb bb sv least sl bs wd M w1) (f m : Nat) (hW : wd = [103, 0 * 8 + 6, (f : Int), (m : Int)]) (hfm : f + m ≤ bs.length) (hbl : bs.length ≤ 1000) :
    Calls Tryz.prog 26 #[.pointer (some ⟨hb, 0, none⟩), .int .u64 141] w1 fun e w' => (∃ po cap, e = .returned (.tuple #[binV po m cap, .nilIface]) ∧ BytesAt (Own w1.heap.size w') w' ((bs.drop f).take m) (.slice po m cap)) ∧ Kp (fun _ => False) w1 w' ∧ LSt w0 w col hb ab tb bb sv least sl bs wd M w' := by
  obtain ⟨col1, A1, a1, g1, hL, h1⟩ := hS
  refine (load_bin h1 (q := 16) ((hL.tk _ _).2 ⟨rfl, rfl⟩) (hL.one.ok (by omega)) f m (by rw [hL.word]; exact hW) hfm (by show bs.length ≤ _; omega) (by omega)).mono ?_
  rintro e w2 ⟨po, cap, rfl, hby, hk⟩
  exact ⟨⟨po, cap, rfl, hby⟩, hk, _, A1, a1, g1.trans (Go0.same hk).go1, hL, h1.same hk⟩
theorem LSt.used {bs : List UInt8} {wd : List Int} {M : Nat} {w1 : World} (hS : LSt w0 w col hb ab tb bb sv least sl bs wd M w1) :
    Calls Tryz.prog 25 #[.pointer (some ⟨bb, 0, none⟩)] w1 fun e w' => e = .returned (.int .i64 bs.length) ∧ w1 = w' := by
  obtain ⟨col1, A1, a1, g1, hL, h1⟩ := hS
  obtain ⟨ss, fs, ps, hB⟩ := h1.bn
  have := used_any hB
  rw [hL.one.used] at this
  exact this
theorem LSt.same {bs : List UInt8} {wd : List Int} {M : Nat} {w1 w2 : World} (hS : LSt w0 w col hb ab tb bb sv least sl bs wd M w1) (hk : Kp (fun _ => False) w1 w2) : LSt w0 w col hb ab tb bb sv least sl bs wd M w2 := by
  obtain ⟨col1, A1, a1, g1, hL, h1⟩ := hS
  exact ⟨_, A1, a1, g1.trans (Go0.same hk).go1, hL, h1.same hk⟩
/-- nothing is left -/
def ESt (w0 w : World) (col : Nat → Nat) (hb ab tb bb : Nat) (sv : Value) (least : Nat) (sl : List (Int × Bool)) (M : Nat) (w' : World) : Prop :=
  ∃ col' A' a', Go1 col w col' w' ∧ A'.used = 0 ∧ a'.used = 0 ∧ Hs w0 w' col' hb ab tb bb sv least sl A' [] M a'
theorem LSt.collect {bs : List UInt8} {wd : List Int} {M : Nat} {w1 : World} (hS : LSt w0 w col hb ab tb bb sv least [] bs wd M w1) (hM : M ≤ 90000000000000) (hW : ∃ f m : Int, wd = [103, 0 * 8 + 6, f, m]) :
    Calls Tryz.prog 18 #[.pointer (some ⟨hb, 0, none⟩), .slice none 0 0] w1 fun e w' => (∃ n, e = .returned (.int .i64 n)) ∧ ESt w0 w col hb ab tb bb sv least [] (M + 1048576) w' := by
  obtain ⟨col1, A1, a1, g1, hL, h1⟩ := hS
  refine (collect_none h1 hM (by simp) (fun x hx => by simp [heldTo] at hx)).mono ?_
  rintro e w3 ⟨ds, rfl, hds, col3, A3, a3, g3, hg, h3⟩
  have hno : ∀ q, ¬ Reached A1 (heldTo [] ([] : List (Int × Bool)).length) q := fun q hr => by
    induction hr with
    | word h4 _ => simp [heldTo] at h4
    | look _ _ _ _ ih => exact ih
  have hnm : A1.names = [17] :=
    sorted_ext (namesTo_lt _ _) (by decide) fun x => by
      show x ∈ A1.names ↔ _
      rw [names_mem hL.inv]
      constructor
      · rintro ⟨q, n, rfl, hq⟩
        obtain ⟨rfl, _⟩ := (hL.tk q n).1 hq
        decide
      · intro hx
        simp at hx
        subst hx
        exact ⟨16, 4, rfl, (hL.tk _ _).2 ⟨rfl, rfl⟩⟩
  have hgone : gone A1.names ds = [16] := by
    rw [hnm]
    have e16 : ¬ (16 ∈ ds) := fun e => hno 16 ((hds 16).1 e)
    simp [gone, e16]
  rw [hgone] at hg
  obtain ⟨n1, t1, q1, rfl⟩ := hg.single
  obtain ⟨_, rfl⟩ := (hL.tk 16 n1).1 t1
  obtain ⟨f, m, e⟩ := hW
  rw [hL.word, e, handleOf_bin] at q1
  refine ⟨⟨_, rfl⟩, col3, _, a3, g1.trans g3.go1, ?_, ?_, h3⟩
  · show A1.used - 2 ^ cls 4 = 0
    rw [cls_4, hL.used]
  · rcases hL.one.drop q1 with ⟨e, _⟩ | ⟨_, e⟩
    · omega
    · exact e
end
end Go.Proofs.YtkcmfldcdokobaaGreatDoor
