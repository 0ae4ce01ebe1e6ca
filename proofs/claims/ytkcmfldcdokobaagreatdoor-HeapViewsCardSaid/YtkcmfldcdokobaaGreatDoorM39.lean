/- Heaps that are alike tell alike: their blocks' names, the handles that are held. An arena in which nothing was ever given back has room as long as its quota has; binaries the like. The word of the document's example. -/
import Derived.Test.YtkcmfldcdokobaaGreatDoorM20
import Derived.Test.YtkcmfldcdokobaaGreatDoorM24
import Derived.Test.YtkcmfldcdokobaaGreatDoorM38
/- Heaps that are alike tell alike: their blocks' names, the handles that are held. -/
namespace Go.Proofs.YtkcmfldcdokobaaGreatDoor
open Go.RowKit Go.Maps

theorem sorted_ext : ∀ {l m : List Nat}, l.Pairwise (· < ·) → m.Pairwise (· < ·) → (∀ x, x ∈ l ↔ x ∈ m) → l = m
  | [], [], _, _, _ => rfl
  | [], b :: m, _, _, h => by have := (h b).2 (List.mem_cons_self ..); cases this
  | a :: l, [], _, _, h => by have := (h a).1 (List.mem_cons_self ..); cases this
  | a :: l, b :: m, hl, hm, h => by
    rw [List.pairwise_cons] at hl hm
    have e : a = b := by
      have h1 := (h a).1 (List.mem_cons_self ..)
      have h2 := (h b).2 (List.mem_cons_self ..)
      rcases List.mem_cons.1 h1 with h1 | h1
      · exact h1
      · rcases List.mem_cons.1 h2 with h2 | h2
        · exact h2.symm
        · have := hm.1 a h1
          have := hl.1 b h2
          omega
    subst e
    rw [sorted_ext hl.2 hm.2 fun x => ?_]
    constructor
    · intro hx
      have := hl.1 x hx
      rcases List.mem_cons.1 ((h x).1 (List.mem_cons_of_mem _ hx)) with e | e
      · omega
      · exact e
    · intro hx
      have := hm.1 x hx
      rcases List.mem_cons.1 ((h x).2 (List.mem_cons_of_mem _ hx)) with e | e
      · omega
      · exact e
theorem ALike.names {A B : Ar} (h : ALike A B) (hA : Inv A []) (hB : Inv B []) : B.names = A.names :=
  sorted_ext (namesTo_lt _ _) (namesTo_lt _ _) fun x => by
    show x ∈ B.names ↔ x ∈ A.names
    rw [names_mem hA, names_mem hB]
    constructor
    · rintro ⟨q, n, rfl, hq⟩
      exact ⟨q, n, rfl, (h.tk q n).1 hq⟩
    · rintro ⟨q, n, rfl, hq⟩
      exact ⟨q, n, rfl, (h.tk q n).2 hq⟩
theorem heldN_far (l : List Sl) : ∀ d, heldN l (l.length + d) = heldN l l.length
  | 0 => rfl
  | d + 1 => by
    have h := heldN_far l d
    rw [show l.length + (d + 1) = l.length + d + 1 by omega, heldN, h, List.getElem?_eq_none (by omega)]
    simp
theorem heldN_like {a b : Bn} (h : BLike a b) : ∀ k, heldN b.slots k = heldN a.slots k
  | 0 => rfl
  | k + 1 => by
    rw [heldN, heldN, heldN_like h k]
    congr 1
    cases hb : b.slots[k]? with
    | none =>
      cases ha : a.slots[k]? with
      | none => rfl
      | some s =>
        by_cases hc : s.count = 0
        · simp [hc]
        · have := (h.slot k s (by omega)).2 ha
          rw [hb] at this
          cases this
    | some t =>
      by_cases hc : t.count = 0
      · cases ha : a.slots[k]? with
        | none => simp [hc]
        | some s =>
          by_cases hc2 : s.count = 0
          · simp [hc, hc2]
          · have := (h.slot k s (by omega)).2 ha
            rw [hb] at this
            injection this with this
            subst this
            omega
      · have := (h.slot k t (by omega)).1 hb
        rw [this]
theorem BLike.held {a b : Bn} (h : BLike a b) : b.held = a.held := by
  unfold Bn.held
  rw [← heldN_far b.slots (a.slots.length), ← heldN_far a.slots (b.slots.length), Nat.add_comm b.slots.length]
  exact heldN_like h _
end Go.Proofs.YtkcmfldcdokobaaGreatDoor

/- An arena in which nothing was ever given back has room as long as its quota has; binaries the like. -/
namespace Go.Proofs.YtkcmfldcdokobaaGreatDoor
open Go.RowKit Go.Maps

/-- nothing was given back -/
def Tight (A : Ar) : Prop := (∀ k, A.free k = []) ∧ A.used = A.places.length
theorem putAll_length : ∀ (A : Ar) (j : Nat) (l : List Int), (putAll A j l).places.length = A.places.length
  | _, _, [] => rfl
  | A, j, x :: l => (putAll_length (A.put j x) (j + 1) l).trans (by simp [Ar.put])
theorem Tight.new (size quota : Nat) : Tight (Ar.new size quota) := ⟨fun _ => rfl, rfl⟩
theorem zeroed_length' (A : Ar) (own c n : Nat) : (A.took own c n).taken.length = A.taken.length := by simp [Ar.took]
theorem Laid.tight {A A' : Ar} {ws : List Int} {own : Nat} (h : Laid A ws own A') (hT : Tight A) (hI : Inv A []) (hn : ws.length ≤ 1048576) : own = A.used ∧ Tight A' ∧ A'.used = A.used + 2 ^ cls ws.length := by
  have hto := h.to hI hn
  obtain ⟨A1, hf, hc, hq, rfl⟩ := h
  rcases hf with ⟨l, h1, _⟩ | ⟨_, h2, rfl, rfl⟩ | ⟨_, _, d, l, _, _, h1, _⟩
  · rw [hT.1] at h1; simp at h1
  · have hps := putAll_same ((A.up (2 ^ cls ws.length)).took A.places.length (cls ws.length) ws.length) (A.places.length + 1) ws
    refine ⟨hT.2.symm, ⟨fun k => ?_, ?_⟩, hto.used⟩
    · rw [hps.2.2.2.2]; exact hT.1 k
    · have h1 := hto.inv.len
      rw [hps.2.2.2.1] at h1
      rw [← h1, hps.1]
      have h3 := hI.len
      have h4 := hT.2
      simp [Ar.took, Ar.up]
      omega
  · rw [hT.1] at h1; simp at h1

structure TightTo (S S1 : St) : Prop where
  ar : Tight S1.A
  bn : S1.a.free = []
  size : S1.A.size = S.A.size
  quota : S1.A.quota = S.A.quota
  most : S1.a.most = S.a.most
  room : S1.a.room = S.a.room

section
variable {names : List ByteArray} {S S1 : St}
theorem Steps.tight (h : Steps names S S1) (hT : Tight S.A) (hb : S.a.free = []) (hI : Inv S.A []) : TightTo S S1 := by
  induction h with
  | none => exact ⟨hT, hb, rfl, rfl, rfl, rfl⟩
  | @block Sm _ ws x hs hl hbl ih =>
    obtain ⟨own, A', hla, _, rfl⟩ := hbl
    have hIm := hs.inv hI
    have hto := hla.to hIm hl
    exact ⟨(hla.tight ih.ar hIm hl).2.1, ih.bn, hto.size.trans ih.size, hto.quota.trans ih.quota, ih.most, ih.room⟩
  | put hs hp ih =>
    rcases hp.2 with ⟨hf, _, rfl, _⟩ | ⟨rest, i, s, hf, _⟩
    · exact ⟨ih.ar, ih.bn, ih.size, ih.quota, ih.most, ih.room⟩
    · rw [ih.bn] at hf; simp at hf
  | name _ _ _ _ ih => exact ⟨ih.ar, ih.bn, ih.size, ih.quota, ih.most, ih.room⟩
  | more _ ih => exact ⟨ih.ar, ih.bn, ih.size, ih.quota, ih.most, ih.room⟩
/-- it has room -/
theorem Stuck.not {V : Nat → Nat} (h : Stuck names V S1) (hT : TightTo S S1) (hI : Inv S1.A []) (h0 : V 0 ≤ S.A.quota) (h1 : V 1 ≤ S.a.room) (h2 : V 2 ≤ S.a.most) (h3 : names.length + V 3 ≤ 1024) : False := by
  have hq := hI.quota
  have hs := hT.size
  have hqu := hT.quota
  rcases h with ⟨c, hc | ⟨_, hc, _⟩, hv⟩ | ⟨l, hl | hl, hv, hw⟩ | ⟨hl, hv⟩
  · omega
  · have := hT.ar.2
    omega
  · have := hT.most
    omega
  · have := hT.room
    omega
  · rw [List.length_append] at hl
    omega
end

section
variable {w0 w : World} {col : Nat → Nat} {lb hb ab tb bb least N : Nat} {sv : Value} {sl : List (Int × Bool)} {names : List ByteArray} {A : Ar} {a : Bn}
/-- Store where there is room -/
def StoredTo (w0 w : World) (col : Nat → Nat) (hb ab tb bb : Nat) (sv : Value) (least : Nat) (sl : List (Int × Bool)) (A : Ar) (names : List ByteArray) (N : Nat) (a : Bn) (h : Nat) (T : Tm) (e : Ending) (w' : World) : Prop :=
  ∃ col' x S', e = .returned (.tuple #[.int .u64 x, .nilIface]) ∧ (0 ≤ x ∧ x ≤ 18446744073709551615) ∧ Go1 col w col' w' ∧ Steps names ⟨A, a, 0, [], []⟩ S' ∧ Lays names h ⟨A, a, 0, [], []⟩ T x S' ∧ (∀ i, pot S' i ≤ pot ⟨A, a, 0, [], []⟩ i + cost h T i) ∧ S'.K ≤ 200000 ∧
    Hs w0 w' col' hb ab tb bb sv least sl S'.A (names ++ S'.fresh) (N + 3000000) S'.a ∧ TightTo ⟨A, a, 0, [], []⟩ S'
theorem StoreTo.fits {h : Nat} {T : Tm} {e : Ending} {w' : World} (hS : StoreTo w0 w col hb ab tb bb sv least sl A names N a h T e w') (hT : Tight A) (hf : a.free = []) (hI : Inv A []) (hok : tok 200 T) (hsz : tsz h T ≤ 65536)
    (h0 : A.used + cost h T 0 ≤ A.quota) (h1 : a.used + cost h T 1 ≤ a.room) (h2 : a.slots.length + cost h T 2 ≤ a.most) (h3 : names.length + cost h T 3 ≤ 1024) : StoredTo w0 w col hb ab tb bb sv least sl A names N a h T e w' := by
  obtain ⟨col', hg, ⟨_, x, S', rfl, hx, hs, hl, hp, hK, hH⟩ | ⟨A', a', v, _, _, _, _, g, inner, _, _, _, hno | ⟨_, _, S', hs, hst⟩⟩⟩ := hS
  · exact ⟨col', x, S', rfl, hx, hg, hs, hl, hp, hK, hH, hs.tight hT hf hI⟩
  · exact absurd ⟨hok, hsz⟩ hno
  · refine (hst.not (hs.tight hT hf hI) (hs.inv hI) h0 h1 h2 ?_).elim
    show names.length + (0 + cost h T 3) ≤ 1024
    omega
end
end Go.Proofs.YtkcmfldcdokobaaGreatDoor

/- The word of the document's example. -/
namespace Go.Proofs.YtkcmfldcdokobaaGreatDoor
open Go.RowKit Go.Maps

def noS : ByteArray := ⟨#[]⟩
def numT (n : Int) : Tm := .mk 1 n noS [] [] []
def tupT (l : List Tm) : Tm := .mk 5 0 noS l [] []
def lstT (l : List Tm) : Tm := .mk 7 0 noS l [] []
section
variable {F : Nat → Prop} {w : World}
theorem noBytes : BytesAt F w [] (.slice none 0 0) := ⟨none, 0, rfl, Nat.le_refl _, by simp, fun i c h => by simp at h⟩
theorem noList {p : Tm → List Value → Prop} : ListAt F w p [] (.slice none 0 0) := ⟨none, 0, rfl, Nat.le_refl _, by simp, fun i c h => by simp at h⟩
theorem numT_at {h : Nat} {n : Int} (h0 : -9223372036854775808 ≤ n) (h1 : n ≤ 9223372036854775807) : TermAt F w (h + 1) (numT n) [.int .i64 1, .int .i64 n, .string noS, .slice none 0 0, .slice none 0 0, .slice none 0 0] :=
  ⟨_, _, _, rfl, ⟨by omega, by omega, h0, h1, by decide⟩, noList, noList, noBytes⟩
theorem tupT_at {h : Nat} {l : List Tm} {v : Value} (hl : ListAt F w (TermAt F w h) l v) : TermAt F w (h + 1) (tupT l) [.int .i64 5, .int .i64 0, .string noS, v, .slice none 0 0, .slice none 0 0] :=
  ⟨_, _, _, rfl, ⟨by omega, by omega, by omega, by omega, by decide⟩, hl, noList, noBytes⟩
theorem lstT_at {h : Nat} {l : List Tm} {v : Value} (hl : ListAt F w (TermAt F w h) l v) : TermAt F w (h + 1) (lstT l) [.int .i64 7, .int .i64 0, .string noS, v, .slice none 0 0, .slice none 0 0] :=
  ⟨_, _, _, rfl, ⟨by omega, by omega, by omega, by omega, by decide⟩, hl, noList, noBytes⟩
theorem one_at {p : Tm → List Value → Prop} {b : Nat} {t : TypeId} {c0 c1 c2 c3 c4 c5 : Value} {T : Tm} (h : w.heap[b]? = some (.cells #[c0, c1, c2, c3, c4, c5] t (0, 0))) (hb : F b) (hp : p T [c0, c1, c2, c3, c4, c5]) : ListAt F w p [T] (.slice (some ⟨b, 0, none⟩) 1 1) :=
  ⟨_, 1, rfl, by simp, by simp, fun i u hu => by
    have hi : i = 0 := by
      have := (List.getElem?_eq_some_iff.1 hu).1
      simp at this
      exact this
    subst hi
    injection hu with hu
    subst hu
    exact ⟨b, 0, c0, c1, c2, c3, c4, c5, rfl, hb, cell_of h 0, cell_of h 1, cell_of h 2, cell_of h 3, cell_of h 4, cell_of h 5, hp⟩⟩
theorem two_at {p : Tm → List Value → Prop} {b : Nat} {t : TypeId} {c0 c1 c2 c3 c4 c5 d0 d1 d2 d3 d4 d5 : Value} {T U : Tm} (h : w.heap[b]? = some (.cells #[c0, c1, c2, c3, c4, c5, d0, d1, d2, d3, d4, d5] t (0, 0))) (hb : F b) (hp : p T [c0, c1, c2, c3, c4, c5]) (hq : p U [d0, d1, d2, d3, d4, d5]) : ListAt F w p [T, U] (.slice (some ⟨b, 0, none⟩) 2 2) :=
  ⟨_, 2, rfl, by simp, by simp, fun i u hu => by
    have hi : i = 0 ∨ i = 1 := by
      have := (List.getElem?_eq_some_iff.1 hu).1
      simp at this
      omega
    rcases hi with hi | hi
    · subst hi
      injection hu with hu
      subst hu
      exact ⟨b, 0, c0, c1, c2, c3, c4, c5, rfl, hb, cell_of h 0, cell_of h 1, cell_of h 2, cell_of h 3, cell_of h 4, cell_of h 5, hp⟩
    · subst hi
      injection hu with hu
      subst hu
      exact ⟨b, 0, d0, d1, d2, d3, d4, d5, rfl, hb, cell_of h 6, cell_of h 7, cell_of h 8, cell_of h 9, cell_of h 10, cell_of h 11, hq⟩⟩
end

section
variable {names : List ByteArray} {S S' : St} {x : Int} {h : Nat}
theorem lays_num {n : Int} (hl : Lays names (h + 1) S (numT n) x S') (h0 : -1152921504606846976 ≤ n) (h1 : n ≤ 1152921504606846975) : x = n * 8 % 18446744073709551616 ∧ S' = S := by
  rcases hl with ⟨e, _⟩ | ⟨e, _⟩ | ⟨e, _⟩ | ⟨e, _⟩ | ⟨_, hx, hs⟩ | ⟨_, e, _⟩
  · omega
  · omega
  · omega
  · omega
  · exact ⟨hx.trans (by unfold leafOf; rw [if_pos rfl]; omega), hs⟩
  · omega
theorem lays_tup {l : List Tm} (hl : Lays names (h + 1) S (tupT l) x S') : ∃ ws S1, LaysAll (Lays names h) S l ws S1 ∧ BlockS S1 ((((l.length : Nat) : Int) * 64 + 15) :: ws) x S' := by
  rcases hl with ⟨e, _⟩ | ⟨_, hx⟩ | ⟨e, _⟩ | ⟨e, _⟩ | ⟨e, _⟩ | ⟨e, _⟩
  · omega
  · exact hx
  · omega
  · omega
  · omega
  · omega
theorem lays_lst {l : List Tm} (hl : Lays names (h + 1) S (lstT l) x S') : LaysBack (Lays names h) S 4 l x S' := by
  rcases hl with ⟨e, _⟩ | ⟨e, _⟩ | ⟨_, y, S1, hy, hx⟩ | ⟨e, _⟩ | ⟨e, _⟩ | ⟨e, _⟩
  · omega
  · omega
  · rcases hy with ⟨_, rfl, rfl⟩ | ⟨t, e, _⟩
    · exact hx
    · cases e
  · omega
  · omega
  · omega
theorem laysAll_snoc {p : St → Tm → Int → St → Prop} {ts : List Tm} {t : Tm} {ws : List Int} (hl : LaysAll p S (ts ++ [t]) ws S') : ∃ w1 w S1, ws = w1 ++ [w] ∧ LaysAll p S ts w1 S1 ∧ p S1 t w S' := by
  obtain ⟨l, e⟩ : ∃ l, ts ++ [t] = l := ⟨_, rfl⟩
  rw [e] at hl
  cases hl with
  | nil => simp at e
  | snoc h1 h2 =>
    obtain ⟨rfl, e2⟩ := List.append_inj' e rfl
    injection e2 with e2
    subst e2
    exact ⟨_, _, _, rfl, h1, h2⟩
theorem laysAll_nil {p : St → Tm → Int → St → Prop} {ws : List Int} (hl : LaysAll p S [] ws S') : ws = [] ∧ S' = S := by
  obtain ⟨l, e⟩ : ∃ l : List Tm, [] = l := ⟨_, rfl⟩
  rw [e] at hl
  cases hl with
  | nil => exact ⟨rfl, rfl⟩
  | snoc h1 h2 => simp at e
theorem laysAll_one {p : St → Tm → Int → St → Prop} {t : Tm} {ws : List Int} (hl : LaysAll p S [t] ws S') : ∃ w, ws = [w] ∧ p S t w S' := by
  obtain ⟨w1, w, S1, rfl, h1, h2⟩ := laysAll_snoc (ts := []) hl
  obtain ⟨rfl, rfl⟩ := laysAll_nil h1
  exact ⟨w, rfl, h2⟩
theorem laysAll_two {p : St → Tm → Int → St → Prop} {t u : Tm} {ws : List Int} (hl : LaysAll p S [t, u] ws S') : ∃ x y S1, ws = [x, y] ∧ p S t x S1 ∧ p S1 u y S' := by
  obtain ⟨w1, w, S1, rfl, h1, h2⟩ := laysAll_snoc (ts := [t]) hl
  obtain ⟨v, rfl, h3⟩ := laysAll_one h1
  exact ⟨v, w, S1, rfl, h3, h2⟩
/-- a block laid where nothing was given back -/
theorem BlockS.tight {ws : List Int} (hb : BlockS S ws x S') (hT : Tight S.A) (hI : Inv S.A []) (hn : ws.length ≤ 1048576) : x = ((S.A.used : Int) + 1) * 8 + 5 ∧ Tight S'.A ∧ Inv S'.A [] ∧ S'.A.used = S.A.used + 2 ^ cls ws.length := by
  obtain ⟨own, A', hl, rfl, rfl⟩ := hb
  obtain ⟨rfl, h2, h3⟩ := hl.tight hT hI hn
  exact ⟨rfl, h2, (hl.to hI hn).inv, h3⟩
end

def exT : Tm := tupT [numT 1, lstT [numT 2]]
theorem noS_list : noS.toList = [] := by
  unfold ByteArray.toList ByteArray.toList.loop
  rfl
theorem tok_num (d : Nat) (n : Int) : tok (d + 1) (numT n) := by
  refine ⟨?_, fun t ht => (by cases ht), fun t ht => (by cases ht)⟩
  simp [fitsB, fitsK, noS_list]
theorem tok_tup {d : Nat} {l : List Tm} (h : ∀ t ∈ l, tok d t) : tok (d + 1) (tupT l) := by
  refine ⟨?_, h, fun t ht => (by cases ht)⟩
  simp [fitsB, fitsK, noS_list]
theorem tok_lst {d : Nat} {l : List Tm} (h : ∀ t ∈ l, tok d t) (hl : l ≠ []) : tok (d + 1) (lstT l) := by
  refine ⟨?_, h, fun t ht => (by cases ht)⟩
  simp [fitsB, fitsK, noS_list, endsB]
  cases l with
  | nil => exact absurd rfl hl
  | cons a l => simp
theorem exT_ok : tok 200 exT := by
  refine tok_tup fun t ht => ?_
  have : t = numT 1 ∨ t = lstT [numT 2] := by simpa [exT] using ht
  rcases this with rfl | rfl
  · exact tok_num _ _
  · refine tok_lst (fun t ht => ?_) (by simp)
    rw [List.mem_singleton.1 ht]
    exact tok_num _ _
theorem exT_word {names : List ByteArray} {S S' : St} {x : Int} (hl : Lays names 3 S exT x S') (hT : Tight S.A) (hI : Inv S.A []) (h0 : S.A.used = 0) : x = 45 := by
  obtain ⟨ws, S1, h1, h2⟩ := lays_tup hl
  obtain ⟨a, b, S2, rfl, h3, h4⟩ := laysAll_two h1
  obtain ⟨rfl, rfl⟩ := lays_num h3 (by omega) (by omega)
  have h5 := lays_lst h4
  cases h5 with
  | cons q1 q2 q3 =>
    cases q1
    obtain ⟨rfl, rfl⟩ := lays_num q2 (by omega) (by omega)
    obtain ⟨rfl, t1, i1, u1⟩ := q3.tight hT hI (by simp)
    obtain ⟨rfl, _, _, _⟩ := h2.tight t1 i1 (by simp)
    rw [u1, h0]
    simp only [List.length_cons, List.length_nil]
    decide

set_option maxRecDepth 100000 in
set_option maxHeartbeats 1000000 in
theorem hpAwake_any (w : World) (hg : Laid0 w) : Calls Tryz.prog 22 #[] w fun e w' => e = .returned (.bool true) ∧ Kp (fun _ => False) w w' := by
  go_enter Tryz.func22, Tryz.ntmps22
  go_wp2_with fail
  refine (on_new w 100 100 4 100 (by omega) (by omega) (by omega) (by omega) (by omega) (by omega) (by omega)).mono ?_
  rintro e w1 ⟨o, hb, ab, tb, bb, xb, col, rfl, h1, h2, h3⟩
  have hbox := h1.box
  have e0 : w1.cell? ⟨o, 0, none⟩ = some (.pointer (some ⟨hb, 0, none⟩)) := cell_of hbox 0
  have H := Lib.hid (And.intro h1 (And.intro h2 h3))
  clear h1 h2 h3 hbox
  go_wp2_with fail
  have hk := ((Kp.refl (fun _ => False) w1).alloc (.cells #[.int .i64 1, .int .i64 2, .string noS, .slice none 0 0, .slice none 0 0, .slice none 0 0] 41)).alloc (.cells #[.int .i64 1, .int .i64 1, .string noS, .slice none 0 0, .slice none 0 0, .slice none 0 0, .int .i64 7, .int .i64 0, .string noS, .slice (some ⟨w1.heap.size, 0, none⟩) 1 1, .slice none 0 0, .slice none 0 0] 41)
  have hb2 := heap_alloc_new (w1.alloc (.cells #[.int .i64 1, .int .i64 2, .string noS, .slice none 0 0, .slice none 0 0, .slice none 0 0] 41)) (.cells #[.int .i64 1, .int .i64 1, .string noS, .slice none 0 0, .slice none 0 0, .slice none 0 0, .int .i64 7, .int .i64 0, .string noS, .slice (some ⟨w1.heap.size, 0, none⟩) 1 1, .slice none 0 0, .slice none 0 0] 41)
  have hb1 := ((Kp.refl (fun _ => False) (w1.alloc (.cells #[.int .i64 1, .int .i64 2, .string noS, .slice none 0 0, .slice none 0 0, .slice none 0 0] 41))).alloc (.cells #[.int .i64 1, .int .i64 1, .string noS, .slice none 0 0, .slice none 0 0, .slice none 0 0, .int .i64 7, .int .i64 0, .string noS, .slice (some ⟨w1.heap.size, 0, none⟩) 1 1, .slice none 0 0, .slice none 0 0] 41)).block w1.heap.size (by simp) (fun e => e)
  rw [World.size_alloc] at hb2
  replace hb1 := hb1.trans (heap_alloc_new w1 _)
  have hT : TermAt (fun q => w1.heap.size ≤ q) _ 3 exT [.int .i64 5, .int .i64 0, .string noS, .slice (some ⟨w1.heap.size + 1, 0, none⟩) 2 2, .slice none 0 0, .slice none 0 0] :=
    tupT_at (two_at hb2 (by show w1.heap.size ≤ w1.heap.size + 1; omega) (numT_at (by omega) (by omega)) (lstT_at (one_at hb1 (Nat.le_refl _) (numT_at (by omega) (by omega)))))
  obtain ⟨h1, h2, h3⟩ := H.out
  have h4 := h3.same hk
  have hcall := store_any hT h4 (fun q hq _ => recol_new q hq) (by omega) (by omega) hg
  refine hcall.mono ?_
  rintro e w2 hS
  obtain ⟨col', x, S', rfl, hx, hgo, hst, hla, _, _, hH, _⟩ := hS.fits (Tight.new 100 100) rfl h3.ar.inv exT_ok (by decide) (by decide) (by decide) (by decide) (by decide)
  obtain rfl := exT_word hla (Tight.new 100 100) h3.ar.inv rfl
  have HK := Lib.hid hH.kp
  clear hk hb2 hb1 hT h1 h2 h3 h4 hcall hS hgo hst hla hH hx
  go_wp2_with fail
  go_ret
  exact ⟨rfl, HK.out⟩
end Go.Proofs.YtkcmfldcdokobaaGreatDoor
