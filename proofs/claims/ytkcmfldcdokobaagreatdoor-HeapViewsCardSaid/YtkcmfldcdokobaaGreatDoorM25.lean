/- Bytes are put: Put as one contract; the method binary of a Store under way. A Store's steps as plain data; giving back what was laid, the last one first, undoes them. -/
import Derived.Test.YtkcmfldcdokobaaGreatDoorM20
import Derived.Test.YtkcmfldcdokobaaGreatDoorM24
/- Bytes are put: Put as one contract; the method binary of a Store under way. -/
namespace Go.Proofs.YtkcmfldcdokobaaGreatDoor
open Go.RowKit Go.Maps

/-- v is a Fault of this name and number around ErrFull, of no colour -/
def CBad (col : Nat → Nat) (w : World) (op : ByteArray) (n : Int) (v : Value) : Prop :=
  ∃ g, v = .iface 95 (.pointer (some ⟨g, 0, none⟩)) ∧ w.heap[g]? = some (.cells #[.string op, .int .i64 n, .iface 67 (.int .i64 2)] 181 (0, 0)) ∧ col g = 0
theorem ChainB.full {B : Nat} {w : World} {v : Value} {op : ByteArray} {n : Int} (h : ChainB B w v [Lk.fault op n, Lk.kind 2]) {col : Nat → Nat} (hc : ∀ q, B ≤ q → col q = 0) : CBad col w op n v := by
  rcases h with ⟨_, _, _, _, hbad⟩ | ⟨_, g, inner, hg, rfl, hh, hin⟩
  · exact absurd rfl hbad
  · rcases hin with ⟨_, rfl, _, _, _⟩ | ⟨hbad, _⟩
    · exact ⟨g, rfl, hh, hc g hg⟩
    · cases hbad
theorem CBad.go {w w' : World} {col col' : Nat → Nat} {op : ByteArray} {n : Int} {v : Value} (h : CBad col w op n v) (hg : Go0 col w col' w') : CBad col' w' op n v := by
  obtain ⟨g, h1, h2, h3⟩ := h
  obtain ⟨h4, h5⟩ := hg.block h2 h3
  exact ⟨g, h1, h4, h5⟩
theorem recol_new {col : Nat → Nat} {w : World} (q : Nat) (hq : w.heap.size ≤ q) : recol col w 0 q = 0 := by unfold recol; rw [if_neg (by omega)]

/-- what Put makes of binaries where there is room -/
def PutTo (a : Bn) (l : List UInt8) (a' : Bn) (m : Nat) : Prop :=
  a.used + l.length ≤ a.room ∧ ((a.free = [] ∧ a.slots.length < a.most ∧ a' = pushIn a l ∧ m = a.slots.length) ∨
    ∃ rest i s, a.free = rest ++ [i] ∧ a.slots[i]? = some s ∧ a' = backIn a rest i s.gen l ∧ m = i + 4096 * s.gen)
/-- there is no room for so many bytes -/
def NoPut (a : Bn) (n : Nat) : Prop := (a.slots.length = a.most ∧ a.free = []) ∨ a.room < a.used + n

section
variable {N : Nat} {a a' : Bn}
theorem putTo_how (hI : BInv N a) (l : List UInt8) : (∃ a' m, PutTo a l a' m) ∨ NoPut a l.length := by
  by_cases h : a.used + l.length ≤ a.room
  · by_cases hf : a.free = []
    · have := hI.len
      by_cases hl : a.slots.length = a.most
      · exact .inr (.inl ⟨hl, hf⟩)
      · exact .inl ⟨_, _, h, .inl ⟨hf, by omega, rfl, rfl⟩⟩
    · obtain ⟨rest, i, hr⟩ : ∃ rest i, a.free = rest ++ [i] := ⟨_, _, (List.dropLast_concat_getLast hf).symm⟩
      obtain ⟨s, hs, _⟩ := (hI.fr i).1 (by rw [hr]; simp)
      exact .inl ⟨_, _, h, .inr ⟨rest, i, s, hr, hs, rfl, rfl⟩⟩
  · exact .inr (.inr (by omega))
theorem PutTo.small {l : List UInt8} {m : Nat} (h : PutTo a l a' m) (hI : BInv N a) (hN : N ≤ 100000000000000) : m ≤ 1000000000000000000 := by
  rcases h.2 with ⟨_, _, _, rfl⟩ | ⟨rest, i, s, _, hs, _, rfl⟩
  · have := hI.len; have := hI.most; omega
  · have h1 := (List.getElem?_eq_some_iff.1 hs).1
    have h2 := (hI.bd i s hs).2
    have := hI.len
    have := hI.most
    omega
variable {F : Nat → Prop} {w : World} {b : Nat}
theorem putTo_any (hB : BAt F w b a) (hI : BInv N a) (hN : N ≤ 100000000000000) (hN1 : 1 ≤ N) {K : Nat → Prop} {l : List UInt8} {u : Value} (hv : BytesAt K w l u) (hK : ∀ q, K q → ¬ F q) {m : Nat} (hp : PutTo a l a' m) :
    Calls Tryz.prog 152 #[.pointer (some ⟨b, 0, none⟩), u] w fun e w' => e = .returned (.tuple #[.int .i64 m, .nilIface]) ∧ BGo F w b a' w' ∧ BInv (N + 1) a' := by
  obtain ⟨ss, fs, ps, hB⟩ := hB
  rcases hp.2 with ⟨hf, hL, rfl, rfl⟩ | ⟨rest, i, s, hf, hs, rfl, rfl⟩
  · refine (put_first hB hI (by omega) hv hK hf hL hp.1).mono ?_
    rintro e w' ⟨rfl, hg⟩
    exact ⟨rfl, hg, (inv_push hI hN1 hf hL hp.1).mono (by omega)⟩
  · refine (put_again hB hI (by omega) hv hK hf hs hp.1).mono ?_
    rintro e w' ⟨rfl, hg⟩
    exact ⟨ret2 (by omega), hg, (inv_back hI hN1 (by omega) hf hs hp.1).mono (by omega)⟩

variable {w0 w' : World} {col : Nat → Nat} {lb hb ab tb bb least : Nat} {sv tv fv : Value} {sl : List (Int × Bool)} {A A' : Ar} {names fresh : List ByteArray} {tks : List Int} {mb nn : Nat} {D : DataW Unit}
/-- bytes were put, and their block laid -/
def BinTo (w0 w : World) (col : Nat → Nat) (lb hb ab tb bb : Nat) (sv : Value) (least : Nat) (sl : List (Int × Bool)) (A : Ar) (names : List ByteArray) (N : Nat) (a : Bn) (tks : List Int) (mb nn : Nat) (D : DataW Unit) (fv : Value) (fresh : List ByteArray) (l : List UInt8) (e : Ending) (w' : World) : Prop :=
  ∃ m a' own A' tv' col', PutTo a l a' m ∧ Laid A [103, (m : Int) * 8 + 6, 0, (l.length : Nat)] own A' ∧ e = .returned (.tuple #[.int .u64 (((own : Nat) + 1 : Int) * 8 + 5), .nilIface]) ∧ Hs w0 w' col' hb ab tb bb sv least sl A' names (N + 1) a' ∧
    LOwn (Fi col' w' 5) w' lb hb tv' (tks ++ [(m : Int) * 8 + 6] ++ [((own : Nat) + 1 : Int) * 8 + 5]) mb nn D fv fresh ∧ Go0 col w col' w'
/-- bytes were put, but there is no room for their block -/
def BinBad (w0 w : World) (col : Nat → Nat) (lb hb ab tb bb : Nat) (sv : Value) (least : Nat) (sl : List (Int × Bool)) (A : Ar) (names : List ByteArray) (N : Nat) (a : Bn) (tks : List Int) (mb nn : Nat) (D : DataW Unit) (fv : Value) (fresh : List ByteArray) (l : List UInt8) (e : Ending) (w' : World) : Prop :=
  ∃ m a' tv' col' v, PutTo a l a' m ∧ (A.quota < A.used + 2 ^ cls 4 ∨ Nowhere A (cls 4)) ∧ e = .returned (.tuple #[.int .u64 0, v]) ∧ CBad col' w' allocS (4 : Nat) v ∧ Hs w0 w' col' hb ab tb bb sv least sl A names (N + 1) a' ∧
    LOwn (Fi col' w' 5) w' lb hb tv' (tks ++ [(m : Int) * 8 + 6]) mb nn D fv fresh ∧ Go0 col w col' w'

set_option maxRecDepth 100000 in
set_option maxHeartbeats 1000000 in
theorem lbinary_any (h : Hs w0 w col hb ab tb bb sv least sl A names N a) (hN : N ≤ 100000000000000) (hN1 : 1 ≤ N) (hL : LOwn (Fi col w 5) w lb hb tv tks mb nn D fv fresh) (hn : tks.length ≤ 900000000)
    {K : Nat → Prop} {l : List UInt8} {u : Value} (hv : BytesAt K w l u) (hK : ∀ q, K q → ¬ Fi col w 4 q) (hl : l.length ≤ 65536) :
    Calls Tryz.prog 130 #[.pointer (some ⟨lb, 0, none⟩), u] w fun e w' =>
      BinTo w0 w col lb hb ab tb bb sv least sl A names N a tks mb nn D fv fresh l e w' ∨ BinBad w0 w col lb hb ab tb bb sv least sl A names N a tks mb nn D fv fresh l e w' ∨
      (NoPut a l.length ∧ EBad w (fun v => .tuple #[.int .u64 0, v]) [Lk.fault putS l.length, Lk.kind 2] e w') := by
  obtain ⟨c0, c1, _, _, _⟩ := hL.cells
  obtain ⟨_, _, c2, _, _, _⟩ := h.hr.cells
  obtain ⟨pu, cu, rfl, hcu, _⟩ := id hv
  have H := Lib.hid (And.intro h (And.intro hL (And.intro hv hK)))
  rcases putTo_how h.bi l with ⟨a', m, hp⟩ | hno
  · have hm := hp.small h.bi hN
    have Hp := Lib.hid (And.intro hp (putTo_any h.bn h.bi hN hN1 hv hK hp))
    clear h hL hv hK hp
    go_enter Tryz.func130, Tryz.ntmps130
    go_wp2_with fail
    refine Hp.out.2.mono ?_
    rintro e w1 ⟨rfl, hg, hI⟩
    have h1 := H.out.1.stepB hg hI
    have hL1 := H.out.2.1.step (i := 4) (by omega) hg.1
    obtain ⟨wd, hwd⟩ : ∃ wd : Int, (m : Int) * 8 + 6 = wd := ⟨_, rfl⟩
    obtain ⟨_, d1, _, _, d4⟩ := hL1.cells
    have hown := hL1.tk
    obtain ⟨po, cap, rfl⟩ := slice_form hown
    obtain ⟨T, hT⟩ : ∃ T, tks.length = T := ⟨_, rfl⟩
    have H1 := Lib.hid (And.intro h1 (And.intro hL1 (And.intro (Go0.of (by omega) hg.1) (And.intro hT hwd))))
    rw [hT] at hown hn d1
    clear h1 hL1 hg hI
    obtain ⟨i0, hi, hz0, hz1, hz2⟩ := info_parts Tryz.infoU64
    have hoA : ∀ o, (w1.alloc o).ownsRow 0 27 1 (.slice po T cap) T (words tks) := fun o => hown.alloc o
    have hnA : ∀ j u, [Value.int .u64 wd][j]? = some u → (w1.alloc (.cells #[.int .u64 wd] 27)).cell? ((⟨w1.heap.size, 0, none⟩ : Addr).add j) = some u :=
      World.news_of_block (cs := #[Value.int .u64 wd]) (heap_alloc_new w1 (.cells #[.int .u64 wd] 27))
    have hone : ∀ u ∈ [Value.int .u64 wd], u.oneCell' = true := by intro u hu; simp at hu; subst hu; rfl
    have hcap1 : T + 1 ≤ maxLen := by unfold maxLen; omega
    have hcap2 : (T + 1) * 8 ≤ 140737488355328 := by omega
    have Hc := Lib.hid (And.intro hcap1 (And.intro hcap2 hown))
    clear hcap1 hcap2 hown hT
    go_wp2_with fail
    refine (tagged_any m 6 w1 (by omega) (by omega) (by omega) (by omega)).mono ?_
    rintro e wz ⟨rfl, rfl⟩
    rw [hwd]
    clear hwd
    go_wp2_with (at_builtin; refine wpList_append_lies _ rfl _ _ 34 rfl 0 27 i0 (.int .u64 0) 1 8 Tryz.underlying34 hi hz0 hz1 hz2 rfl (by omega) (.slice po T cap) T _ rfl (hoA _) ⟨w1.heap.size, 0, none⟩ 1 1 [.int .u64 wd] rfl rfl hnA hone (by omega) Hc.out.1 Hc.out.2.1 (Nat.zero_le _) (w1.heap.size + 1) (by simp) ?_; intro g1 cap1 w3 hrow hgrow hat hlt3; refine Hid.out ?_)
    have hT := H1.out.2.2.2.1
    subst hT
    have hlb : lb < w1.heap.size := H1.out.2.1.lt lb H1.out.2.1.inG
    have hntk : ¬ (Value.slice po tks.length cap).ownBlock = some lb := fun e => (H1.out.2.1.tkG lb e).2 rfl
    have hkk : Kp (fun q => (Value.slice po tks.length cap).ownBlock = some q) w1 w3 := ((Kp.refl _ w1).alloc _).grown hgrow (fun q hq => .inl hq)
    have e0 : ∀ j, w3.frozen? ⟨lb, j, none⟩ = false := fun j => (hkk.frozen (p := ⟨lb, j, none⟩) hlb hntk).trans (d4 j)
    have e1 : w3.cell? ⟨lb, 1, none⟩ = some (.slice po tks.length cap) := (hkk.cell (p := ⟨lb, 1, none⟩) hlb hntk).trans d1
    have htook := H1.out.2.1.took (w1 := w3) (g := g1) (cap := cap1) (x := wd) hkk (by simpa [words] using hrow) (by
      rcases hat with e | e
      · exact .inl e
      · exact .inr (by omega)) hlt3
    have h4 := H1.out.1.stepL htook.2
    have hL4 := htook.1.more (Fi_ext htook.2.size) Fi_lt
    have hg4 := H1.out.2.2.1.trans (Go0.of (i := 5) (by omega) htook.2)
    have H4 := Lib.hid (And.intro h4 (And.intro hL4 hg4))
    clear htook hkk hrow hgrow hat hntk h4 hL4 hg4
    refine Lib.hid ?_
    go_wp2_with fail
    obtain ⟨w4, hw4⟩ : ∃ w4, w3.setCell ⟨lb, 1, none⟩ (.slice (some ⟨g1, 0, none⟩) (tks.length + 1) cap1) = w4 := ⟨_, rfl⟩
    have hsz : w3.heap.size = w4.heap.size := by rw [← hw4]; simp
    rw [hw4] at H4 ⊢
    rw [hsz]
    have hka : Kp (fun _ => False) w4 (w4.alloc (.cells #[.int .u64 wd, .int .u64 0, .int .u64 l.length] 27)) := (Kp.refl _ w4).alloc _
    have h5 := H4.out.1.same hka
    have hL5 := H4.out.2.1.same hka
    have hg5 := H4.out.2.2.trans (Go0.same hka)
    have hcell := heap_alloc_new w4 (.cells #[.int .u64 wd, .int .u64 0, .int .u64 l.length] 27)
    have hws : WordsAt (fun q => q = w4.heap.size) (w4.alloc (.cells #[.int .u64 wd, .int .u64 0, .int .u64 l.length] 27)) [wd, 0, (l.length : Nat)] (.slice (some ⟨w4.heap.size, 0, none⟩) 3 3) :=
      ⟨_, 3, rfl, Nat.le_refl _, fun i x hi => ⟨_, 0, rfl, rfl, by
        rw [Nat.zero_add]
        match i, hi with
        | 0, hi => injection hi with hi; subst hi; exact cell_of hcell 0
        | 1, hi => injection hi with hi; subst hi; exact cell_of hcell 1
        | 2, hi => injection hi with hi; subst hi; exact cell_of hcell 2⟩⟩
    have hcol : ∀ q, q = w4.heap.size → ¬ Fi (recol (recol (recol col w 4) w1 5) w4 0) (w4.alloc (.cells #[.int .u64 wd, .int .u64 0, .int .u64 l.length] 27)) 2 q := by
      rintro q rfl e
      have := e.1
      unfold recol at this
      rw [if_neg (by omega)] at this
      cases this
    have hwd := H1.out.2.2.2.2
    refine (block_any h5 hL5 (by simp; omega) 4 1 (by omega) (by omega) (by omega) (by omega) hws hcol (by simp) (by
      intro x hx
      simp at hx
      rcases hx with rfl | rfl | rfl <;> omega)).mono ?_
    rintro e w6 (⟨own, A', tv', col', hla, rfl, hh, hll, hgg⟩ | ⟨hno, ve, rfl, hch, hk⟩)
    · have HF := Lib.hid (And.intro hla (And.intro hh (And.intro hll (hg5.trans hgg))))
      clear hla hh hll hgg h5 hL5 hg5
      go_wp2_with fail
      go_ret2
      obtain ⟨f1, f2, f3, f4⟩ := HF.out
      exact .inl ⟨m, a', own, A', tv', col', Hp.out.1, by rw [hwd]; exact f1, rfl, f2, by rw [hwd]; exact f3, f4⟩
    · have hch' := hch
      rcases hch' with ⟨_, _, _, _, hbad⟩ | ⟨_, g, inner, _, rfl, _⟩
      · exact absurd rfl hbad
      · have hsz4 := H4.out.2.2.2.size
        have HF := Lib.hid (And.intro hno (And.intro hch (And.intro (h5.same hk) (And.intro (hL5.same hk) (hg5.trans (Go0.same hk))))))
        clear hno hch hk h5 hL5 hg5
        go_wp2_with fail
        go_ret2
        obtain ⟨f1, f2, f3, f4, f5⟩ := HF.out
        exact .inr (.inl ⟨m, a', _, _, _, Hp.out.1, by simpa using f1, rfl, f2.full recol_new, f3, by rw [hwd]; exact f4, f5⟩)
  · have hf := hno
    obtain ⟨ss, fs, ps, hB⟩ := h.bn
    have Hq := Lib.hid (And.intro hno (put_full hB h.bi pu l.length cu (by omega) hf))
    clear h hL hv hK hB hf hno
    go_enter Tryz.func130, Tryz.ntmps130
    go_wp2_with fail
    refine Hq.out.2.mono ?_
    rintro e w1 ⟨v, rfl, hch, hk⟩
    have hch' := hch
    rcases hch' with ⟨_, _, _, _, hbad⟩ | ⟨_, g, inner, _, rfl, _⟩
    · exact absurd rfl hbad
    · have HF := Lib.hid (And.intro hch hk)
      clear hch hk
      go_wp2_with fail
      go_ret2
      exact .inr (.inr ⟨Hq.out.1, _, rfl, HF.out⟩)
end
end Go.Proofs.YtkcmfldcdokobaaGreatDoor

/- A Store's steps as plain data; giving back what was laid, the last one first, undoes them. -/
namespace Go.Proofs.YtkcmfldcdokobaaGreatDoor
open Go.RowKit Go.Maps

/-- alike: the same blocks are taken, with the same words -/
structure ALike (A B : Ar) : Prop where
  size : B.size = A.size
  quota : B.quota = A.quota
  used : B.used = A.used
  tk : ∀ q n, B.tk q n ↔ A.tk q n
  word : ∀ q n, A.tk q n → blkW B q n = blkW A q n
theorem ALike.refl (A : Ar) : ALike A A := ⟨rfl, rfl, rfl, fun _ _ => Iff.rfl, fun _ _ _ => rfl⟩
theorem ALike.trans {A B C : Ar} (h : ALike A B) (k : ALike B C) : ALike A C :=
  ⟨k.size.trans h.size, k.quota.trans h.quota, k.used.trans h.used, fun q n => (k.tk q n).trans (h.tk q n), fun q n hq => (k.word q n ((h.tk q n).2 hq)).trans (h.word q n hq)⟩
/-- alike: the same is held, as often -/
structure BLike (a b : Bn) : Prop where
  most : b.most = a.most
  room : b.room = a.room
  used : b.used = a.used
  slot : ∀ (i : Nat) (s : Sl), 0 < s.count → (b.slots[i]? = some s ↔ a.slots[i]? = some s)
theorem BLike.refl (a : Bn) : BLike a a := ⟨rfl, rfl, rfl, fun _ _ _ => Iff.rfl⟩
theorem BLike.trans {a b c : Bn} (h : BLike a b) (k : BLike b c) : BLike a c :=
  ⟨k.most.trans h.most, k.room.trans h.room, k.used.trans h.used, fun i s hs => (k.slot i s hs).trans (h.slot i s hs)⟩
theorem FOk.like {a b : Bn} (h : BLike a b) {x : Int} {i : Nat} {s : Sl} (hf : FOk a x i s) : FOk b x i s := ⟨hf.lo, hf.at', (h.slot i s hf.held).2 hf.slot, hf.gen, hf.held⟩

theorem putAll_same : ∀ (A : Ar) (j : Nat) (l : List Int), (putAll A j l).used = A.used ∧ (putAll A j l).quota = A.quota ∧ (putAll A j l).size = A.size ∧ (putAll A j l).taken = A.taken ∧ (putAll A j l).free = A.free
  | _, _, [] => ⟨rfl, rfl, rfl, rfl, rfl⟩
  | A, j, x :: l => putAll_same (A.put j x) (j + 1) l
theorem putAll_far : ∀ (A : Ar) (j : Nat) (l : List Int) (k : Nat), k < j ∨ j + l.length ≤ k → (putAll A j l).places[k]? = A.places[k]?
  | _, _, [], _, _ => rfl
  | A, j, x :: l, k, h => by
    simp only [List.length_cons] at h
    refine (putAll_far (A.put j x) (j + 1) l k (by omega)).trans ?_
    show (A.places.set j x)[k]? = _
    rw [List.getElem?_set_ne (by omega)]
theorem putAll_get : ∀ (A : Ar) (j : Nat) (l : List Int) (i : Nat), i < l.length → j + l.length ≤ A.places.length → (putAll A j l).places[j + i]? = l[i]?
  | _, _, [], i, h, _ => by simp at h
  | A, j, x :: l, 0, _, hl => by
    simp only [List.length_cons] at hl
    refine (putAll_far (A.put j x) (j + 1) l (j + 0) (by omega)).trans ?_
    show (A.places.set j x)[j + 0]? = _
    rw [Nat.add_zero, List.getElem?_set_self (by omega)]
    rfl
  | A, j, x :: l, i + 1, h, hl => by
    simp only [List.length_cons] at h hl
    have := putAll_get (A.put j x) (j + 1) l i (by omega) (by simp [Ar.put]; omega)
    rw [show j + (i + 1) = j + 1 + i by omega]
    exact this.trans (by simp)

/-- what a block that is laid makes of the arena -/
structure LaidTo (A : Ar) (ws : List Int) (own : Nat) (A' : Ar) : Prop where
  inv : Inv A' []
  size : A'.size = A.size
  quota : A'.quota = A.quota
  used : A'.used = A.used + 2 ^ cls ws.length
  tk : ∀ p m, A'.tk p m ↔ (p = own ∧ m = ws.length) ∨ (p ≠ own ∧ A.tk p m)
  was : ∀ m, ¬ A.tk own m
  it : blkW A' own ws.length = ws
  word : ∀ p m, A.tk p m → blkW A' p m = blkW A p m
theorem Laid.to {A A' : Ar} {ws : List Int} {own : Nat} (h : Laid A ws own A') (hI : Inv A []) (hn : ws.length ≤ 1048576) : LaidTo A ws own A' := by
  obtain ⟨A2, hf, hc, hq, rfl⟩ := h
  have hi1 := hf.inv hI (cls_spec _ hn).1 hc
  have hsame := hf.same
  have hT := took_tk hi1 hn
  have hi2 : Inv (A2.took own (cls ws.length) ws.length) [] := hi1.took hn (by rw [hsame.1, hsame.2.1]; exact hq)
  have htk := (hT own ws.length).2 (.inl ⟨rfl, rfl⟩)
  have hP := putAll_tk ws 0 hi2 htk (by omega)
  have hps := putAll_same (A2.took own (cls ws.length) ws.length) (own + 1) ws
  have hb := hi1.bnd own (cls ws.length) (.inr (.inr (by simp)))
  have hcs := (cls_spec ws.length hn).2.2.1
  have hpl : (A2.took own (cls ws.length) ws.length).places.length = A2.places.length := by
    have h1 := hi2.len
    have h2 : (A2.took own (cls ws.length) ws.length).taken.length = A2.taken.length := by simp [Ar.took]
    have h3 := hi1.len
    omega
  refine ⟨hP.1, hps.2.2.1.trans hsame.2.2, hps.2.1.trans hsame.2.1, ?_, fun p m => ?_, fun m hm => ?_, ?_, fun p m hp => ?_⟩
  · refine hps.1.trans ?_
    show A2.used + 2 ^ cls ws.length = _
    rw [hsame.1]
  · refine (hP.2 p m).trans ((hT p m).trans ?_)
    rw [hf.tk hI]
  · have := (hf.tk hI own m).2 hm
    exact (hi1.tfr own (cls ws.length) this.1).2 (by simp)
  · apply List.ext_getElem?
    intro i
    unfold blkW
    rw [List.getElem?_take]
    split
    · rename_i hi
      rw [List.getElem?_drop]
      exact putAll_get _ (own + 1) ws i hi (by omega)
    · rw [List.getElem?_eq_none (by omega)]
  · have hown : p ≠ own := by
      rintro rfl
      have := (hf.tk hI p m).2 hp
      exact (hi1.tfr p (cls ws.length) this.1).2 (by simp)
    have hpb := hI.block hp
    have hd := hi2.dis p (cls m) own (cls ws.length) (.inl ⟨m, (hT p m).2 (.inr ⟨hown, (hf.tk hI p m).2 hp⟩), rfl⟩) (.inl ⟨ws.length, htk, rfl⟩) (.inl hown)
    apply List.ext_getElem?
    intro i
    unfold blkW
    rw [List.getElem?_take, List.getElem?_take]
    split
    · rename_i hi
      rw [List.getElem?_drop, List.getElem?_drop]
      refine (putAll_far _ (own + 1) ws (p + 1 + i) (by omega)).trans ?_
      refine (took_far (by omega) (by omega)).trans ?_
      exact (hf.old hI _).1 (by omega)
    · rfl
/-- it is given back -/
theorem LaidTo.undo {A A' B : Ar} {ws : List Int} {own : Nat} (h : LaidTo A ws own A') (k : ALike A' B) : B.tk own ws.length ∧ ALike A (B.freed own (cls ws.length)) := by
  have htk : B.tk own ws.length := (k.tk _ _).2 ((h.tk _ _).2 (.inl ⟨rfl, rfl⟩))
  refine ⟨htk, k.size.trans h.size, k.quota.trans h.quota, ?_, fun p m => ?_, fun p m hp => ?_⟩
  · show B.used - 2 ^ cls ws.length = _
    rw [k.used, h.used]
    omega
  · rw [freed_tk htk, k.tk, h.tk]
    constructor
    · rintro ⟨e, ⟨e2, _⟩ | ⟨_, h2⟩⟩
      · exact absurd e2 e
      · exact h2
    · intro hp
      have : p ≠ own := by rintro rfl; exact h.was _ hp
      exact ⟨this, .inr ⟨this, hp⟩⟩
  · have hne : p ≠ own := by rintro rfl; exact h.was _ hp
    show blkW B p m = _
    rw [k.word p m ((h.tk p m).2 (.inr ⟨hne, hp⟩)), h.word p m hp]

/-- what putting bytes makes of the binaries -/
structure PutIs (a : Bn) (l : List UInt8) (a' : Bn) (m i g : Nat) : Prop where
  hm : m = i + 4096 * g
  hi : i < 4096
  most : a'.most = a.most
  room : a'.room = a.room
  used : a'.used = a.used + l.length
  it : a'.slots[i]? = some ⟨l, 1, g⟩
  was : ∀ s, a.slots[i]? = some s → s.count = 0
  other : ∀ j, j ≠ i → a'.slots[j]? = a.slots[j]?
theorem PutTo.is {N : Nat} {a a' : Bn} {l : List UInt8} {m : Nat} (h : PutTo a l a' m) (hI : BInv N a) : ∃ i g, PutIs a l a' m i g := by
  have h1 := hI.len
  have h2 := hI.most
  rcases h.2 with ⟨_, hl, rfl, rfl⟩ | ⟨rest, i, s, hf, hs, rfl, rfl⟩
  · refine ⟨a.slots.length, 0, by omega, by omega, rfl, rfl, rfl, ?_, fun s hs => ?_, fun j hj => ?_⟩
    · simp [pushIn]
    · rw [List.getElem?_eq_none (by omega)] at hs; cases hs
    · show (a.slots ++ _)[j]? = _
      by_cases hlt : j < a.slots.length
      · rw [List.getElem?_append_left hlt]
      · rw [List.getElem?_append_right (by omega), List.getElem?_eq_none (show a.slots.length ≤ j by omega)]
        simp
        omega
  · have hil := (List.getElem?_eq_some_iff.1 hs).1
    refine ⟨i, s.gen, rfl, by omega, rfl, rfl, rfl, ?_, fun t ht => ?_, fun j hj => ?_⟩
    · show (a.slots.set i _)[i]? = _
      rw [List.getElem?_set_self hil]
    · obtain ⟨t', h3, h4⟩ := (hI.fr i).1 (by rw [hf]; simp)
      rw [ht] at h3
      injection h3 with h3
      rw [h3]
      exact h4
    · show (a.slots.set i _)[j]? = _
      rw [List.getElem?_set_ne (fun e => hj e.symm)]
theorem PutIs.ok {a a' : Bn} {l : List UInt8} {m i g : Nat} (h : PutIs a l a' m i g) : FOk a' m i ⟨l, 1, g⟩ := by
  have h1 := h.hm
  have h2 := h.hi
  exact ⟨by omega, by omega, h.it, by simp only; omega, by simp⟩
theorem FOk.uniq {a : Bn} {x : Int} {i j : Nat} {s t : Sl} (h : FOk a x i s) (k : FOk a x j t) : i = j ∧ s = t := by
  have h1 := h.at'
  have h2 := k.at'
  obtain rfl : i = j := by omega
  exact ⟨rfl, Option.some.inj (h.slot.symm.trans k.slot)⟩
theorem FOk.notBad {a : Bn} {x k : Int} {i : Nat} {s : Sl} (h : FOk a x i s) : ¬ FBad a x k := by
  have h1 := h.at'
  have h2 := h.lo
  have h3 := (List.getElem?_eq_some_iff.1 h.slot).1
  have h4 := h.gen
  have h5 := h.held
  rintro (⟨_, e | e | ⟨j, t, e1, e2, e3⟩⟩ | ⟨_, _, j, t, e1, e2, e3⟩)
  · omega
  · omega
  · obtain rfl : i = j := by omega
    obtain rfl : s = t := Option.some.inj (h.slot.symm.trans e2)
    omega
  · obtain rfl : i = j := by omega
    obtain rfl : s = t := Option.some.inj (h.slot.symm.trans e2)
    rcases e3 with e3 | ⟨_, e3⟩ <;> omega
/-- it is dropped -/
theorem PutIs.undo {a a' b b' : Bn} {l : List UInt8} {m i g : Nat} (h : PutIs a l a' m i g) (k : BLike a' b) (hd : DropTo b m b') : BLike a b' := by
  have hf : FOk b m i ⟨l, 1, g⟩ := h.ok.like k
  rcases hd with ⟨j, s, hj, hs⟩ | ⟨⟨x, hx⟩, _⟩
  · obtain ⟨rfl, rfl⟩ := hf.uniq hj
    rcases hs with ⟨_, rfl⟩ | ⟨c, hc, h0, _⟩
    · have hil := (List.getElem?_eq_some_iff.1 hf.slot).1
      refine ⟨k.most.trans h.most, k.room.trans h.room, ?_, fun j s hs => ?_⟩
      · show b.used - l.length = _
        rw [k.used, h.used]
        omega
      · show (b.slots.set i _)[j]? = some s ↔ _
        by_cases e : j = i
        · subst e
          rw [List.getElem?_set_self hil]
          constructor
          · intro e
            injection e with e
            subst e
            simp at hs
          · intro e
            have := h.was s e
            omega
        · rw [List.getElem?_set_ne (fun e' => e e'.symm), k.slot j s hs, h.other j e]
    · simp only at hc
      omega
  · exact absurd hx hf.notBad

/-- a Store under way, as plain data: the arena, the binaries, how many steps, the words of what was laid and put, the names that are new -/
structure St where
  A : Ar
  a : Bn
  K : Nat
  tks : List Int
  fresh : List ByteArray
/-- a block of words is laid: its word x -/
def BlockS (S : St) (ws : List Int) (x : Int) (S' : St) : Prop := ∃ own A', Laid S.A ws own A' ∧ x = ((own : Nat) + 1 : Int) * 8 + 5 ∧ S' = ⟨A', S.a, S.K + 1, S.tks ++ [x], S.fresh⟩
inductive Steps (names : List ByteArray) (S : St) : St → Prop where
  | none : Steps names S S
  | block {S' S'' ws x} : Steps names S S' → ws.length ≤ 1048576 → BlockS S' ws x S'' → Steps names S S''
  | put {S' l m a'} : Steps names S S' → PutTo S'.a l a' m → Steps names S ⟨S'.A, a', S'.K + 1, S'.tks ++ [(m : Int) * 8 + 6], S'.fresh⟩
  | name {S' s} : Steps names S S' → 1 ≤ s.size → s.size ≤ 255 → s ∉ names ++ S'.fresh → Steps names S ⟨S'.A, S'.a, S'.K + 1, S'.tks, S'.fresh ++ [s]⟩
  | more {S'} : Steps names S S' → Steps names S ⟨S'.A, S'.a, S'.K + 1, S'.tks, S'.fresh⟩

section
variable {names : List ByteArray} {S S1 S2 : St}
theorem Steps.trans (h : Steps names S S1) (k : Steps names S1 S2) : Steps names S S2 := by
  induction k with
  | none => exact h
  | block _ hl hb ih => exact .block ih hl hb
  | put _ hp ih => exact .put ih hp
  | name _ h1 h2 h3 ih => exact .name ih h1 h2 h3
  | more _ ih => exact .more ih
theorem Steps.inv (h : Steps names S S1) (hI : Inv S.A []) : Inv S1.A [] := by
  induction h with
  | none => exact hI
  | block _ hl hb ih =>
    obtain ⟨own, A', hla, _, rfl⟩ := hb
    exact (hla.to ih hl).inv
  | put _ _ ih => exact ih
  | name _ _ _ _ ih => exact ih
  | more _ ih => exact ih
theorem PutTo.inv {N : Nat} {a a' : Bn} {l : List UInt8} {m : Nat} (h : PutTo a l a' m) (hI : BInv N a) (hN : N + 1 ≤ 1000000000000000) : BInv (N + 1) a' := by
  rcases h.2 with ⟨hf, hL, rfl, rfl⟩ | ⟨rest, i, s, hf, hs, rfl, rfl⟩
  · exact inv_push (hI.mono (Nat.le_succ N)) (by omega) hf hL h.1
  · exact inv_back (hI.mono (Nat.le_succ N)) (by omega) hN hf hs h.1
theorem Steps.binv {N : Nat} (h : Steps names S S1) (hI : BInv (N + S.K) S.a) : N + S1.K ≤ 1000000000000000 → BInv (N + S1.K) S1.a := by
  induction h with
  | none => exact fun _ => hI
  | block _ _ hb ih =>
    obtain ⟨own, A', _, _, rfl⟩ := hb
    exact fun h => (ih (by simp only at h; omega)).mono (by simp only; omega)
  | put _ hp ih => exact fun h => hp.inv (ih (by simp only at h; omega)) (by simp only at h; omega)
  | name _ _ _ _ ih => exact fun h => (ih (by simp only at h; omega)).mono (by simp only; omega)
  | more _ ih => exact fun h => (ih (by simp only at h; omega)).mono (by simp only; omega)
/-- the last thing that was laid or put -/
theorem Steps.last {l : List Int} {x : Int} (h : Steps names S S1) (h0 : S.tks = []) (hl : S1.tks = l ++ [x]) : ∃ Sm, (Steps names S Sm ∧ Sm.K ≤ S1.K) ∧ Sm.tks = l ∧
    ((∃ ws own, ws.length ≤ 1048576 ∧ x = ((own : Nat) + 1 : Int) * 8 + 5 ∧ Laid Sm.A ws own S1.A ∧ S1.a = Sm.a) ∨ (∃ bs m, x = ((m : Nat) : Int) * 8 + 6 ∧ PutTo Sm.a bs S1.a m ∧ S1.A = Sm.A)) := by
  induction h with
  | none =>
    rw [h0] at hl
    simp at hl
  | @block Sm S'' ws y hs hle hb ih =>
    obtain ⟨own, A', hla, rfl, rfl⟩ := hb
    obtain ⟨e1, e2⟩ := List.append_inj' hl rfl
    simp only [List.cons.injEq, and_true] at e2
    exact ⟨Sm, ⟨hs, Nat.le_succ _⟩, e1, .inl ⟨ws, own, hle, e2.symm, hla, rfl⟩⟩
  | @put Sm bs m a' hs hp ih =>
    obtain ⟨e1, e2⟩ := List.append_inj' hl rfl
    simp only [List.cons.injEq, and_true] at e2
    exact ⟨Sm, ⟨hs, Nat.le_succ _⟩, e1, .inr ⟨bs, m, e2.symm, hp, rfl⟩⟩
  | name hs _ _ _ ih =>
    obtain ⟨Sm, ⟨h1, h2⟩, h3⟩ := ih hl
    exact ⟨Sm, ⟨h1, Nat.le_succ_of_le h2⟩, h3⟩
  | more hs ih =>
    obtain ⟨Sm, ⟨h1, h2⟩, h3⟩ := ih hl
    exact ⟨Sm, ⟨h1, Nat.le_succ_of_le h2⟩, h3⟩
end
end Go.Proofs.YtkcmfldcdokobaaGreatDoor
