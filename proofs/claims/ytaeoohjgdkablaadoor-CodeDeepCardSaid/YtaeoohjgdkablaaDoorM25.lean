/- The reader: a term, whether it may be or not. -/
import Derived.Test.YtaeoohjgdkablaaDoorM24
import Derived.Deep.LoopGhost
/- The reader: a term, whether it may be or not. -/
namespace Go.Proofs.YtaeoohjgdkablaaDoor
open Go.RowKit

theorem cf_lay (args : Array Value) (w : World) : (callFunc 62 args).run Tryd.prog w = .ok (.enter 62 args) w := by kernel_rfl
theorem cf_levelOf (args : Array Value) (w : World) : (callFunc 60 args).run Tryd.prog w = .ok (.enter 60 args) w := by kernel_rfl
/-- the end of term -/
def TermPost (w : World) (R : Nat) (v : Value) (l : List UInt8) (p : Nat) (e : Ending) (w' : World) : Prop :=
  (∃ T B h k n s a1 l1 c1 a2 l2 c2 a3 l3 c3 q, e = .returned (.agg #[.int .i64 k, .int .i64 n, .string s, .slice a1 l1 c1, .slice a2 l2 c2, .slice a3 l3 c3]) ∧ TermAt (Own w.heap.size w') w' h B [.int .i64 k, .int .i64 n, .string s, .slice a1 l1 c1, .slice a2 l2 c2, .slice a3 l3 c3] ∧ RAt w' R v l q ∧ p < q ∧
    (∀ T0 y, (wfT T0 ∧ l.drop p = encT T0 ++ y) ↔ (T0 = T ∧ l.drop q = y)) ∧ (B = T ∨ (65537 ≤ tsize B ∧ 65537 ≤ tsize T)) ∧ Kp (fun q => q = R) w w') ∨
  (RFail R w e w' ∧ ∀ T0 y, wfT T0 → l.drop p ≠ encT T0 ++ y)

theorem fs_nodes (fs : List Fr) : fs.length ≤ nodesF fs := by
  induction fs with
  | nil => simp
  | cons x fs ih => simp only [nodesF, List.map_cons, List.sum_cons, List.length_cons, Fr.nodes] at ih ⊢; omega

/-- what is under way behind the first head -/
theorem start_inv {w1 w2 w3 w4 w5 : World} {R : Nat} {v : Value} {l : List UInt8} {p : Nat} (h1 : RAt w1 R v l p) (hl : l.length ≤ 1000000000) {d : Hd} {po : Option Addr} {n c : Nat} (hwf : d.wf)
    (hle : p + (encH d).length + d.m ≤ l.length) (hby : BytesAt (Own w1.heap.size w2) w2 d.bys (.slice po n c)) (hr2 : RAt w2 R v l (p + (encH d).length)) (he2 : l.drop p = encH d ++ l.drop (p + (encH d).length)) (hk2 : Kp (fun q => q = R) w1 w2)
    (hk3 : Kp (fun _ => False) w2 w3) (hb3 : w3.heap[w2.heap.size]? = some (.cells #[.int .i64 d.k, .int .i64 d.n, .string d.s, .slice none 0 0, .slice none 0 0, .slice po n c] 25 (0, 0)))
    (hk4 : Kp (fun _ => False) w3 w4) (hk5 : Kp (fun _ => False) w4 w5) (hb5 : w5.heap[w4.heap.size]? = some (.cells #[.pointer (some ⟨w2.heap.size, 0, none⟩), .int .i64 d.m, .bool (d.k == 7), .bool false] 133 (0, 0))) :
    ∃ G h, TmInv w1 w5 R v l p w2.heap.size w4.heap.size 1 [Fr.of d] [newBl w2.heap.size 0 d (.slice po n c)] (p + (encH d).length) G h := by
  have hRl := (Array.getElem?_eq_some_iff.1 h1.cells).1
  have z2 := hk2.size
  have z3 := (Array.getElem?_eq_some_iff.1 hb3).1
  have z4 := hk4.size
  have z5 := (Array.getElem?_eq_some_iff.1 hb5).1
  have hk35 : Kp (fun _ => False) w3 w5 := hk4.trans' hk5
  have hb := (hk35.block _ z3 (fun e => e)).trans hb3
  have hpos : 1 ≤ (encH d).length := by simp [encH]
  have hc : ∀ i u, (#[.int .i64 d.k, .int .i64 d.n, .string d.s, .slice none 0 0, .slice none 0 0, .slice po n c] : Array Value)[i]? = some u → w5.cell? ⟨w2.heap.size, 0 + i, none⟩ = some u := fun i u e => by
    rw [Nat.zero_add, cell_of_row w5 _ i _ _ _ hb]; exact e
  refine ⟨Own w1.heap.size w2, 0, ⟨hr2.kp (hk3.trans' hk35), hk2.trans' ((hk3.trans' hk35).mono fun _ _ e => e.elim), ⟨⟨?_, rfl, rfl⟩, ⟨?_, fun q hq => ?_, fun q hq => ?_, fun q e => ?_⟩, fun L r e => ?_, fun e => ?_, fun e => ?_, hRl⟩, ?_, by simp, fun f hf => ?_, fun f hf => ?_, fun T0 y => ?_, .inl ⟨⟨rfl, rfl, rfl, rfl, rfl, rfl, rfl⟩, trivial⟩, ?_, ?_, by omega⟩⟩
  · exact newLev ⟨_, hb⟩ (hc 0 _ rfl) (hc 1 _ rfl) (hc 2 _ rfl) (hc 3 _ rfl) (hc 4 _ rfl) (hc 5 _ rfl) hwf.rng (bytes_kp hby (hk3.trans' hk35) (fun _ _ e => e))
  · simp [rowsOf, Bl.rows, newBl, Value.ownBlock]
  · have : q = w2.heap.size := by simpa [rowsOf, Bl.rows, newBl, Value.ownBlock] using hq
    omega
  · have : q = w2.heap.size := by simpa [rowsOf, Bl.rows, newBl, Value.ownBlock] using hq
    exact fun e => by have := e.2; omega
  · have e1 := e.1; have e2 := e.2
    exact ⟨e1, by omega⟩
  · injection e with e _
    rw [← e]; rfl
  · have : w4.heap.size = w2.heap.size := by simpa [rowsOf, Bl.rows, newBl, Value.ownBlock] using e
    omega
  · have := e.2; omega
  · refine ⟨rfl, .inr ⟨w4.heap.size, 1, #[.pointer (some ⟨w2.heap.size, 0, none⟩), .int .i64 d.m, .bool (d.k == 7), .bool false], rfl, by omega, hb5, Nat.le_refl _, by decide, rfl, rfl⟩⟩
  · obtain rfl : f = Fr.of d := by simpa using hf
    exact ⟨fun _ => ⟨rfl, rfl⟩, by show d.m ≤ _; omega⟩
  · simp at hf
  · rw [he2]
    constructor
    · rintro ⟨hw, e⟩
      exact ⟨T0, y, (Fin.of hwf).2 ⟨hw, e⟩, rfl, rfl⟩
    · rintro ⟨T, x', hF, rfl, rfl⟩
      exact (Fin.of hwf).1 hF
  · simp [nodesB, nodesF, newBl_nodes, Fr.of_nodes]
  · simp [nodesF, Fr.of_nodes]; omega

/-- between the rounds -/
def TmRel (w1 : World) (R : Nat) (v : Value) (l : List UInt8) (p tb gk : Nat) (lv mt : Value) (wr : World) : Prop :=
  (∃ gl cap fs Ls q G h, fs ≠ [] ∧ lv = .slice (some ⟨gl, 0, none⟩) fs.length cap ∧ mt = .int .i64 (nodesF fs : Nat) ∧ 2 * (l.length - q) + fs.length ≤ gk ∧ TmInv w1 wr R v l p tb gl cap fs Ls q G h) ∨
  (∃ po c q G h L T, lv = .slice po 0 c ∧ TmDone w1 wr R v l p tb q G h L T)
theorem pop_rel {w1 wr : World} {R : Nat} {v : Value} {l : List UInt8} {p tb gk gl cap q h : Nat} {f : Fr} {r : List Fr} {Ls : List Bl} {G : Nat → Prop} (hi : TmInv w1 wr R v l p tb gl cap (f :: r) Ls q G h) (h0 : f.left = 0) (h1 : f.lst = false) (hg : 2 * (l.length - q) + r.length ≤ gk) {n : Nat} (hn : n = nodesF (f :: r)) :
    TmRel w1 R v l p tb gk (.slice (some ⟨gl, 0, none⟩) r.length cap) (.int .i64 n) wr := by
  cases r with
  | nil =>
    obtain ⟨L, hd⟩ := hi.last h0 h1
    exact .inr ⟨_, _, q, _, _, L, _, rfl, hd⟩
  | cons g r =>
    obtain ⟨Ls', G', h', hi'⟩ := hi.pop h0 h1
    exact .inl ⟨gl, cap, g.push f.tm :: r, Ls', q, G', h', by simp, rfl, by rw [nodesF_pop, hn], hg, hi'⟩
theorem row_cap {w : World} {W0 gl n cap : Nat} {xs : List Value} (ho : w.ownsRow W0 133 4 (.slice (some ⟨gl, 0, none⟩) n cap) n xs) : n ≤ cap := by
  rcases ho.2 with ⟨e, _⟩ | ⟨_, cap', _, e, _, _, h, _⟩
  · cases e
  · injection e with _ _ e
    exact e ▸ h

/-- whole, at what is under way -/
theorem whole_any {w1 w : World} {R : Nat} {v : Value} {l : List UInt8} {p tb gl cap q h : Nat} {f : Fr} {r : List Fr} {Ls : List Bl} {G : Nat → Prop} (hi : TmInv w1 w R v l p tb gl cap (f :: r) Ls q G h) :
    Calls Tryd.prog 61 #[.pointer (some ⟨R, 0, none⟩), .pointer (some ⟨gl, r.length * 4, none⟩)] w fun e w' =>
      (∃ f' q', e = .returned (.bool true) ∧ TmInv w1 w' R v l p tb gl cap (f' :: r) Ls q' G h ∧ f'.left = 0 ∧ f'.lst = false ∧ nodesF (f' :: r) = nodesF (f :: r) ∧ q ≤ q') ∨
      (∃ f' q', e = .returned (.bool false) ∧ TmInv w1 w' R v l p tb gl cap (f' :: r) Ls q' G h ∧ 0 < f'.left ∧ nodesF (f' :: r) = nodesF (f :: r) ∧ q ≤ q') ∨
      (RFailX R gl w e w' ∧ ∀ T0 y, wfT T0 → l.drop p ≠ encT T0 ++ y) := by
  by_cases hleft : 0 < f.left
  · refine (whole_more hi.top (by simp only; omega)).mono ?_
    rintro e w6 ⟨rfl, hk6⟩
    exact .inr (.inl ⟨f, q, rfl, hi.kp' hk6, hleft, rfl, Nat.le_refl _⟩)
  · have hl0 : f.left = 0 := by omega
    by_cases hls : f.lst = true
    · refine (whole_byte hi.rd hi.top hi.glw.2.2 (by simp only; omega) hls).mono ?_
      rintro e w6 (⟨hc, rfl, hr6, hk6⟩ | ⟨hc, rfl, hr6, hk6⟩ | ⟨hc, hf⟩)
      · exact .inl ⟨f.shut, q + 1, rfl, hi.shut hl0 hls hc hr6 hk6, hl0, rfl, rfl, by omega⟩
      · exact .inr (.inl ⟨f.opened, q + 1, rfl, hi.opened hl0 hls hc hr6 hk6, by show 0 < 1; omega, rfl, by omega⟩)
      · exact .inr (.inr ⟨hf, fun T0 y hw => hi.noRest hl0 hls hc T0 y hw⟩)
    · refine (whole_done hi.top (by simp only; omega) (by simpa using hls)).mono ?_
      rintro e w6 ⟨rfl, hk6⟩
      exact .inl ⟨f, q, rfl, hi.kp' hk6, hl0, by simpa using hls, rfl, Nat.le_refl _⟩

/-- a part more: laid, and its level is put behind the others -/
theorem lay_next {w1 w6 w7 w8 : World} {R : Nat} {v : Value} {l : List UInt8} {p tb gl cap q h : Nat} {f : Fr} {r : List Fr} {Ls : List Bl} {G : Nat → Prop} (hi : TmInv w1 w6 R v l p tb gl cap (f :: r) Ls q G h) (hleft : 0 < f.left) (hl : l.length ≤ 1000000000)
    {d : Hd} {po : Option Addr} {n c : Nat} (hwf : d.wf) (hle : q + (encH d).length + d.m ≤ l.length) (hby : BytesAt (Own w6.heap.size w7) w7 d.bys (.slice po n c)) (hr7 : RAt w7 R v l (q + (encH d).length)) (he7 : l.drop q = encH d ++ l.drop (q + (encH d).length)) (hk7 : Kp (fun q => q = R) w6 w7)
    (hk8 : Kp (fun _ => False) w7 w8) (hb8 : w8.heap[w7.heap.size]? = some (.cells #[.int .i64 d.k, .int .i64 d.n, .string d.s, .slice none 0 0, .slice none 0 0, .slice po n c] 25 (0, 0))) :
    Calls Tryd.prog 62 #[.pointer (some ⟨gl, r.length * 4, none⟩), .agg #[.int .i64 d.k, .int .i64 d.n, .string d.s, .slice none 0 0, .slice none 0 0, .slice po n c], .int .i64 (nodesF (f :: r) : Nat)] w8 fun e w9 =>
      ∃ po9 Ls' G' h', e = .returned (.pointer po9) ∧ w9.cell? ⟨w7.heap.size, 0, none⟩ = some (.int .i64 d.k) ∧ ∀ w10, Kp (fun _ => False) w9 w10 →
        ∃ gl' cap' w3, (Builtin.append_ #[135, 135] 135 #[.slice (some ⟨gl, 0, none⟩) (r.length + 1) cap, .slice (some ⟨w10.heap.size, 0, none⟩) 1 1]).run Tryd.prog (w10.alloc (.cells #[.pointer po9, .int .i64 (d.m : Nat), .bool (d.k == 7), .bool false] 133)) = .ok (.slice (some ⟨gl', 0, none⟩) (r.length + 2) cap') w3 ∧
          TmInv w1 w3 R v l p tb gl' cap' (Fr.of d :: f :: r) Ls' (q + (encH d).length) G' h' := by
  have hpos : 1 ≤ (encH d).length := by simp [encH]
  have hnq := hi.nq
  have hpq := hi.pq
  refine (lay_any hi hk7 hk8 hr7 hwf hby hl).mono ?_
  rintro e w9 ⟨po9, Ls', G', h', rfl, hm, hp, hk9⟩
  refine ⟨po9, Ls', G', h', rfl, ?_, fun w10 hk10 => ?_⟩
  · have h8 := (Array.getElem?_eq_some_iff.1 hb8).1
    rw [hk9.cell (p := ⟨w7.heap.size, 0, none⟩) h8 (Nat.lt_irrefl _), cell_of_row w8 _ 0 _ _ _ hb8]; rfl
  · exact level_row hm hp hleft hi.ok (fun x hx => hi.pos x (by simpa using hx)) (fun T0 y => (hi.runs T0 y).trans (by rw [he7]; exact Runs.down hwf hleft T0 y)) (by omega) (by omega) (by omega) hl hk10

set_option maxRecDepth 100000 in
set_option maxHeartbeats 4000000 in
/-- a term is read -/
theorem term_any {w : World} {R : Nat} {v : Value} {l : List UInt8} {p : Nat} (h : RAt w R v l p) (hl : l.length ≤ 1000000000) :
    Calls Tryd.prog 52 #[.pointer (some ⟨R, 0, none⟩)] w (TermPost w R v l p) := by
  have hRl := (Array.getElem?_eq_some_iff.1 h.cells).1
  obtain ⟨w1, hw1⟩ : ∃ w1, w.alloc (.cells #[.int .i64 0, .int .i64 0, .string ⟨#[]⟩, .slice none 0 0, .slice none 0 0, .slice none 0 0] 25) = w1 := ⟨_, rfl⟩
  have hk1 : Kp (fun _ => False) w w1 := by rw [← hw1]; exact (Kp.refl _ w).alloc _
  have hbx : w1.heap[w.heap.size]? = some (.cells #[.int .i64 0, .int .i64 0, .string ⟨#[]⟩, .slice none 0 0, .slice none 0 0, .slice none 0 0] 25 (0, 0)) := by rw [← hw1]; exact heap_alloc_new w _
  have h1 := h.kp hk1
  have H1 := Lib.hid (And.intro h1 (And.intro hk1 (And.intro hbx hRl)))
  clear h1 hk1 hbx hRl h
  go_enter Tryd.func52, Tryd.ntmps52
  go_wp2_with fail
  clear hw1
  refine (begin_any H1.out.1).mono ?_
  rintro e w2 (⟨d, po, n, c, rfl, hwf, hle, hby, hr2, he2, hk2⟩ | ⟨hf, hno⟩)
  · have H2 := Lib.hid (And.intro hwf (And.intro hle (And.intro hby (And.intro hr2 (And.intro he2 hk2)))))
    clear hwf hle hby hr2 he2 hk2
    go_wp2_with fail
    obtain ⟨w3, hw3⟩ : ∃ w3, w2.alloc (.cells #[.int .i64 d.k, .int .i64 d.n, .string d.s, .slice none 0 0, .slice none 0 0, .slice po n c] 25) = w3 := ⟨_, rfl⟩
    have hk3 : Kp (fun _ => False) w2 w3 := by rw [← hw3]; exact (Kp.refl _ w2).alloc _
    have hb3 : w3.heap[w2.heap.size]? = some (.cells #[.int .i64 d.k, .int .i64 d.n, .string d.s, .slice none 0 0, .slice none 0 0, .slice po n c] 25 (0, 0)) := by rw [← hw3]; exact heap_alloc_new w2 _
    have H3 := Lib.hid (And.intro hk3 hb3)
    try rw [hw3]
    clear hw3 hk3 hb3
    refine (levelOf_any _ _ _ w3).mono ?_
    rintro e w4 ⟨rfl, hk4⟩
    go_wp2_with fail
    obtain ⟨w5, hw5⟩ : ∃ w5, w4.alloc (.cells #[.pointer (some ⟨w2.heap.size, 0, none⟩), .int .i64 d.m, .bool (d.k == 7), .bool false] 133) = w5 := ⟨_, rfl⟩
    have hk5 : Kp (fun _ => False) w4 w5 := by rw [← hw5]; exact (Kp.refl _ w4).alloc _
    have hb5 : w5.heap[w4.heap.size]? = some (.cells #[.pointer (some ⟨w2.heap.size, 0, none⟩), .int .i64 d.m, .bool (d.k == 7), .bool false] 133 (0, 0)) := by rw [← hw5]; exact heap_alloc_new w4 _
    have hstart := start_inv H1.out.1 hl H2.out.1 H2.out.2.1 H2.out.2.2.1 H2.out.2.2.2.1 H2.out.2.2.2.2.1 H2.out.2.2.2.2.2 H3.out.1 H3.out.2 hk4 hk5 hb5
    obtain ⟨G0, h0, hstart⟩ := hstart
    have HS := Lib.hid (And.intro hstart H1.out.2.1)
    have HX0 := Lib.hid H1.out.2.1
    have hRl' := H1.out.2.2.2
    have hbx1 := H1.out.2.2.1
    have HX := Lib.hid (And.intro hRl' hbx1)
    try rw [hw5]
    clear hw5 hk5 hb5 hstart hk4 H2 H3 hRl' hbx1 H1
    go_loopg [5, 6] (4 * l.length) (fun gk lv mt wr => TmRel w1 R v l p w2.heap.size gk lv mt wr)
    case atStart =>
      have h1 := HS.out.1
      have h2 := h1.rd.le
      have h3 := h1.pq
      exact .inl ⟨w4.heap.size, 1, [Fr.of d], _, _, G0, h0, by simp, rfl, by simp [nodesF, Fr.of_nodes], by simp; omega, h1⟩
    case round =>
      rcases hrel with ⟨gl, cap, fs, Ls, q, G, h, hne, rfl, rfl, hq, hi⟩ | ⟨po2, c2, q, G, h, L, T, rfl, hd⟩
      · obtain ⟨f, r, rfl⟩ := List.exists_cons_of_ne_nil hne
        have hlt := hi.row.lt gl rfl
        have hn := hi.nq
        have hql := hi.rd.le
        have hlr := fs_nodes (f :: r)
        simp only [List.length_cons] at hlr
        have HI := Lib.hid (And.intro hi (And.intro hq hn))
        have hql' : r.length ≤ l.length := by omega
        have hw64 : wrap64 (r.length : Int) = r.length := by unfold wrap64; omega
        have hlt1 : (r.length : Int) < (r.length : Int) + 1 := by omega
        have hcap := row_cap hi.row
        simp only [List.length_cons] at hcap
        have hcap' : r.length ≤ cap := Nat.le_of_succ_le hcap
        clear hi hq hn hne HS HX hcap
        go_wp2_with fail
        refine (whole_any HI.out.1).mono ?_
        rintro e w6 (⟨f', q', rfl, hi', hl0, hls, hnf, hqq⟩ | ⟨f', q', rfl, hi', hleft, hnf, hqq⟩ | ⟨hf, hno⟩)
        · have H6 := Lib.hid (And.intro hi' (And.intro hnf hqq))
          have hgk := HI.out.2.1
          simp only [List.length_cons] at hgk
          clear hi' HI hnf
          go_wp2_with fail
          go_roundg (2 * (l.length - q') + r.length)
          case measure => omega
          case rel => exact pop_rel H6.out.1 hl0 hls (Nat.le_refl _) H6.out.2.1.symm
        · have H6 := Lib.hid (And.intro hi' (And.intro hnf hqq))
          have hgk := HI.out.2.1
          simp only [List.length_cons] at hgk
          clear hi' HI hnf
          go_wp2_with fail
          refine (begin_any H6.out.1.rd).mono ?_
          rintro e w7 (⟨d7, po7, n7, c7, rfl, hwf, hle, hby, hr7, he7, hk7⟩ | ⟨hf, hno⟩)
          · have hle8 := hr7.le
            have hpos : 1 ≤ (encH d7).length := by simp [encH]
            obtain ⟨w8, hw8⟩ : ∃ w8, w7.alloc (.cells #[.int .i64 d7.k, .int .i64 d7.n, .string d7.s, .slice none 0 0, .slice none 0 0, .slice po7 n7 c7] 25) = w8 := ⟨_, rfl⟩
            have hk8 : Kp (fun _ => False) w7 w8 := by rw [← hw8]; exact (Kp.refl _ w7).alloc _
            have hb8 : w8.heap[w7.heap.size]? = some (.cells #[.int .i64 d7.k, .int .i64 d7.n, .string d7.s, .slice none 0 0, .slice none 0 0, .slice po7 n7 c7] 25 (0, 0)) := by rw [← hw8]; exact heap_alloc_new w7 _
            have HL := lay_next H6.out.1 hleft hl hwf hle hby hr7 he7 hk7 hk8.drew hb8
            rw [H6.out.2.1] at HL
            have H7 := Lib.hid HL
            have hnq := H6.out.1.nq
            have x0 : w8.cell? ⟨w7.heap.size, 0, none⟩ = some (.int .i64 d7.k) := by rw [cell_of_row w8 _ 0 _ _ _ hb8]; rfl
            have x1 : w8.cell? ⟨w7.heap.size, 1, none⟩ = some (.int .i64 d7.n) := by rw [cell_of_row w8 _ 1 _ _ _ hb8]; rfl
            have x2 : w8.cell? ⟨w7.heap.size, 2, none⟩ = some (.string d7.s) := by rw [cell_of_row w8 _ 2 _ _ _ hb8]; rfl
            have x3 : w8.cell? ⟨w7.heap.size, 3, none⟩ = some (.slice none 0 0) := by rw [cell_of_row w8 _ 3 _ _ _ hb8]; rfl
            have x4 : w8.cell? ⟨w7.heap.size, 4, none⟩ = some (.slice none 0 0) := by rw [cell_of_row w8 _ 4 _ _ _ hb8]; rfl
            have x5 : w8.cell? ⟨w7.heap.size, 5, none⟩ = some (.slice po7 n7 c7) := by rw [cell_of_row w8 _ 5 _ _ _ hb8]; rfl
            clear hwf hle hby hr7 he7 hk7 hk8 hb8 HL
            go_wp2_with fail
            try rw [hw8]
            clear hw8
            go_region_law (first
              | (refine step_fn (by rfl) 62 #[.tmp 42, .tmp 43, .tmp 44] #[136, 25, 3] (by rfl) cf_lay #[.pointer (some ⟨gl, r.length * 4, none⟩), .agg #[.int .i64 d7.k, .int .i64 d7.n, .string d7.s, .slice none 0 0, .slice none 0 0, .slice po7 n7 c7], .int .i64 (nodesF (f :: r) : Nat)] (by first | (simp [Act.eval]; done) | simp [Act.eval, Act.put]) ?_; refine H7.out.mono ?_; rintro e w9 ⟨po9, Ls9, G9, h9, rfl, y0, hA⟩; refine ⟨_, rfl, ?_⟩; have HA := Lib.hid hA; clear hA)
              | (refine step_fn (by rfl) 60 #[.tmp 45, .tmp 47, .tmp 48] #[131, 3, 3] (by rfl) cf_levelOf #[.pointer po9, .int .i64 d7.k, .int .i64 d7.m] (by first | (simp [Act.eval]; done) | simp [Act.eval, Act.put]) ?_; refine (levelOf_any _ _ _ _).mono ?_; rintro e w10 ⟨rfl, hk10⟩; refine ⟨_, rfl, ?_⟩; obtain ⟨gl', cap', w11, hB⟩ := HA.out w10 hk10; have HB := Lib.hid hB; clear hB hk10)
              | (refine step_run (by rfl) (.tmp 41) (.tmp 50) 135 (by rfl) (.slice (some ⟨gl, 0, none⟩) (r.length + 1) cap) (.slice (some ⟨w10.heap.size, 0, none⟩) 1 1) (by first | (simp [Act.eval]; done) | simp [Act.eval, Act.put]) (by first | (simp [Act.eval]; done) | simp [Act.eval, Act.put]) _ _ HB.out.1 ?_))
            all_goals
              have hnf : nodesF (Fr.of d7 :: f' :: r) = nodesF (f :: r) + 1 := by rw [nodesF_of, H6.out.2.1]
              have hww : wrap64 ((nodesF (f :: r) : Nat) + 1 : Int) = (nodesF (Fr.of d7 :: f' :: r) : Nat) := by
                have := H6.out.2.1
                rw [hnf]; unfold wrap64; omega
              have hgm : 2 * (l.length - (q' + (encH d7).length)) + (r.length + 2) < gk := by have := H6.out.2.2; omega
              go_wp2_with fail
              go_roundg (2 * (l.length - (q' + (encH d7).length)) + (r.length + 2))
              case measure => exact hgm
              case rel => exact .inl ⟨gl', cap', Fr.of d7 :: f' :: r, _, _, _, _, by simp, rfl, by first | rfl | (simp only [hww]; done) | go_num, Nat.le_refl _, HB.out.2⟩
          · obtain ⟨c7, rfl⟩ := hf.pan
            have H7 := Lib.hid (And.intro hf hno)
            clear hf hno
            go_wp2_with fail
            refine bodyPost_panic rfl (.inr ⟨?_, fun T0 y hw e => ?_⟩)
            · obtain ⟨v8, n8, ls8, q1, q2, q3, q4⟩ := H7.out.1
              have hs := H6.out.1.kp.size
              have hs1 := HX0.out.size
              exact ⟨v8, n8, ls8, q1, q2.le (Nat.le_trans hs1 hs), q3, (HX0.out.mono fun _ _ e => e.elim).trans' (H6.out.1.kp.trans' q4)⟩
            · exact Runs.none hleft H7.out.2 T0 y ((H6.out.1.runs T0 y).1 ⟨hw, e⟩)
        · obtain ⟨v6, n6, ls6, rfl, hf⟩ := hf
          have H6 := Lib.hid (And.intro hf hno)
          clear hf hno
          go_wp2_with fail
          refine bodyPost_panic rfl (.inr ⟨?_, H6.out.2⟩)
          obtain ⟨q2, q3, q4⟩ := H6.out.1
          have hs := HI.out.1.kp.size
          have hs1 := HX0.out.size
          have hg := HI.out.1.glw.1
          exact ⟨v6, n6, ls6, rfl, q2.le (Nat.le_trans hs1 hs), q3, (HX0.out.mono fun _ _ e => e.elim).trans' (kp_new HI.out.1.kp (q4.mono fun x _ e => e.imp id (fun e => by rw [e]; exact hg)))⟩
      · obtain ⟨lb, lo, lc⟩ := hd.at'
        have c0 := hd.lev.c0
        have c1 := hd.lev.c1
        have c2 := hd.lev.c2
        have c3 := hd.lev.c3
        have c4 := hd.lev.c4
        have c5 := hd.lev.c5
        rw [lb, lo] at c0 c1 c2 c3 c4 c5
        simp only [Nat.zero_add] at c0 c1 c2 c3 c4 c5
        have hbx := (hd.kp.block _ (Array.getElem?_eq_some_iff.1 HX.out.2).1 (by have := HX.out.1; omega)).trans HX.out.2
        have hz : wr.cell? ⟨w.heap.size, 0, none⟩ = some (.int .i64 0) := by rw [cell_of_row wr _ 0 _ _ _ hbx]; rfl
        obtain ⟨hr9, hk9⟩ := sixSet_any (c0 := .int .i64 L.k) (c1 := .int .i64 L.n) (c2 := .string L.s) (c3 := L.vi) (c4 := L.vr) (c5 := L.vb) hbx
        have hw1s := HX0.out.size
        have hbl1 := (Array.getElem?_eq_some_iff.1 HX.out.2).1
        have hT := hd.lev.term lc (G' := Own w1.heap.size wr) (fun q e => hd.sep.gl q e) (fun g e => hd.sep.lo g (List.mem_cons_of_mem _ (by rw [rowsOf_cons]; exact List.mem_append_left _ e)))
        obtain ⟨jk, jn, js, a1, l1, d1, a2, l2, d2, a3, l3, d3, hq⟩ := hT.form
        simp only [List.cons.injEq, and_true] at hq
        obtain ⟨-, -, -, v1, v2, v3⟩ := hq
        rw [v1, v2, v3] at hT hr9 hk9
        rw [v1] at c3
        rw [v2] at c4
        rw [v3] at c5
        have e0 : wr.cell? ⟨w.heap.size, 0, none⟩ = some (.int .i64 0) := by rw [cell_of_row wr _ 0 _ _ _ hbx]; rfl
        have e1 : wr.cell? ⟨w.heap.size, 1, none⟩ = some (.int .i64 0) := by rw [cell_of_row wr _ 1 _ _ _ hbx]; rfl
        have e2 : wr.cell? ⟨w.heap.size, 2, none⟩ = some (.string ⟨#[]⟩) := by rw [cell_of_row wr _ 2 _ _ _ hbx]; rfl
        have e3 : wr.cell? ⟨w.heap.size, 3, none⟩ = some (.slice none 0 0) := by rw [cell_of_row wr _ 3 _ _ _ hbx]; rfl
        have e4 : wr.cell? ⟨w.heap.size, 4, none⟩ = some (.slice none 0 0) := by rw [cell_of_row wr _ 4 _ _ _ hbx]; rfl
        have e5 : wr.cell? ⟨w.heap.size, 5, none⟩ = some (.slice none 0 0) := by rw [cell_of_row wr _ 5 _ _ _ hbx]; rfl
        have ef : ∀ j, wr.frozen? ⟨w.heap.size, j, none⟩ = false := fun j => by simp [World.frozen?, hbx]
        have HD := Lib.hid (And.intro hd (And.intro hr9 (And.intro hk9 (And.intro hT (And.intro lb (And.intro lo (And.intro hbl1 hw1s)))))))
        clear hd hr9 hk9 hz hbx hT v1 v2 v3 lb lo lc hw1s hbl1 HS
        go_wp2_with fail
        change bodyPost _ _ _ _ _ (sixSet wr w.heap.size (.int .i64 L.k) (.int .i64 L.n) (.string L.s) (.slice a1 l1 d1) (.slice a2 l2 d2) (.slice a3 l3 d3))
        clear e0 e1 e2 e3 e4 e5 ef c0 c1 c2 c3 c4 c5
        obtain ⟨w9, hw9⟩ : ∃ w9, sixSet wr w.heap.size (.int .i64 L.k) (.int .i64 L.n) (.string L.s) (.slice a1 l1 d1) (.slice a2 l2 d2) (.slice a3 l3 d3) = w9 := ⟨_, rfl⟩
        rw [hw9]
        obtain ⟨hd, hr9, hk9, hT, lb, lo, hbl1, hw1s⟩ := HD.out
        rw [hw9] at hr9 hk9
        have i0 : w9.cell? ⟨w.heap.size, 0, none⟩ = some (.int .i64 L.k) := by rw [cell_of_row w9 _ 0 _ _ _ hr9]; rfl
        have i1 : w9.cell? ⟨w.heap.size, 1, none⟩ = some (.int .i64 L.n) := by rw [cell_of_row w9 _ 1 _ _ _ hr9]; rfl
        have i2 : w9.cell? ⟨w.heap.size, 2, none⟩ = some (.string L.s) := by rw [cell_of_row w9 _ 2 _ _ _ hr9]; rfl
        have i3 : w9.cell? ⟨w.heap.size, 3, none⟩ = some (.slice a1 l1 d1) := by rw [cell_of_row w9 _ 3 _ _ _ hr9]; rfl
        have i4 : w9.cell? ⟨w.heap.size, 4, none⟩ = some (.slice a2 l2 d2) := by rw [cell_of_row w9 _ 4 _ _ _ hr9]; rfl
        have i5 : w9.cell? ⟨w.heap.size, 5, none⟩ = some (.slice a3 l3 d3) := by rw [cell_of_row w9 _ 5 _ _ _ hr9]; rfl
        refine bodyPost_ret (v := .agg #[.int .i64 L.k, .int .i64 L.n, .string L.s, .slice a1 l1 d1, .slice a2 l2 d2, .slice a3 l3 d3]) (by simp [results, Tryd.results52, go_sem, i0, i1, i2, i3, i4, i5]) rfl ?_
        have hR := HX.out.1
        have hs9 := hk9.size
        refine .inl ⟨T, L.tm, _, L.k, L.n, L.s, a1, l1, d1, a2, l2, d2, a3, l3, d3, q, rfl, hT.imp (fun q e => ⟨Nat.le_trans hw1s e.1, Nat.lt_of_lt_of_le e.2 hs9⟩) (cells_kp hk9 fun q e e2 => by have := e.1; omega), ?_, hd.pq, hd.runs, hd.mode, kp_new ((HX0.out.mono (fun _ _ e => e.elim) : Kp (fun q => q = R) w w1).trans' hd.kp) (hk9.mono fun x _ e => .inr (by omega))⟩
        have hr1 := hd.rd
        exact ⟨(hk9.block R (Array.getElem?_eq_some_iff.1 hr1.cells).1 (by omega)).trans hr1.cells, bytes_kp hr1.bytes hk9 (fun x e e2 => by omega), hr1.le⟩
  · obtain ⟨c, rfl⟩ := hf.pan
    have H2 := Lib.hid (And.intro hf hno)
    clear hf hno
    go_wp2_with fail
    refine bodyPost_panic rfl (.inr ⟨?_, fun T0 y hw e => ?_⟩)
    · obtain ⟨v, n, ls, q1, q2, q3, q4⟩ := H2.out.1
      exact ⟨v, n, ls, q1, q2.le H1.out.2.1.size, q3, (H1.out.2.1.mono fun _ _ e => e.elim).trans' q4⟩
    · obtain ⟨d, z, hd, e2, hm⟩ := wfT_head hw
      exact H2.out.2 d (z ++ y) hd (by simp; omega) (by rw [e, e2, List.append_assoc])
end Go.Proofs.YtaeoohjgdkablaaDoor
