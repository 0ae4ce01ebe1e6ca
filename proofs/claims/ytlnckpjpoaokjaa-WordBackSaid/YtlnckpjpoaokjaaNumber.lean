/- What the table's methods Number, Name, Len do. -/
import Derived.Test.YtlnckpjpoaokjaaAtoms
namespace Go.Proofs.Ytlnckpjpoaokjaa
open Go.RowKit Go.Maps

def atomS : ByteArray := ⟨#[97, 116, 111, 109]⟩

set_option maxHeartbeats 400000 in
theorem number_bad (a : Value) (s : ByteArray) (w : World) (hs : s.size ≤ maxLen) (h : s.size = 0 ∨ 255 < s.size) :
    Calls Try.prog 52 #[a, .string s] w (EBad w (fun v => .tuple #[.int .i64 (-1), v]) [Lk.fault atomS s.size, Lk.kind 1]) := by
  unfold maxLen at hs
  by_cases h0 : s.size = 0
  · have e1 : ((s.size : Int) == 0) = true := by simp [h0]
    have Hs := Lib.hid h0
    clear h h0
    go_enter Try.func52, Try.ntmps52
    go_wp2_with (go_at_call 39; refine (at_any _ _ _ _ _).mono ?_; rintro e w' ⟨rfl, rfl⟩)
    go_ret2
    exact ebad1 w _ _ _ _ (by decide) 0
  · have e1 : ((s.size : Int) == 0) = false := by simp [h0]
    have e2 : (255 : Int) < s.size := by omega
    clear h h0
    go_enter Try.func52, Try.ntmps52
    go_wp2_with (go_at_call 39; refine (at_any _ _ _ _ _).mono ?_; rintro e w' ⟨rfl, rfl⟩)
    go_ret2
    exact ebad1 w _ _ _ _ (by decide) 0

theorem key_of (s : ByteArray) (hs : s.size ≤ 255) : keyOf Try.prog 9 (.string s) = some (.string s.data.toList) :=
  WideMaps.keyOf_string_mk Try.underlying9 (by unfold maxLen; omega)

set_option maxHeartbeats 400000 in
/-- a name that is there -/
theorem number_old {w : World} {F : Nat → Prop} {b : Nat} {names : List ByteArray} (h : AtRep w F b names) (s : ByteArray) (hs : 1 ≤ s.size) (hs2 : s.size ≤ 255) (i : Nat) (hi : names[i]? = some s) :
    Calls Try.prog 52 #[.pointer (some ⟨b, 0, none⟩), .string s] w fun e w' => e = .returned (.tuple #[.int .i64 i, .nilIface]) ∧ AtRep w' (Ext F w w') b names ∧ Kp (fun _ => False) w w' := by
  have e1 : ((s.size : Int) == 0) = false := by rw [beq_eq_false_iff_ne]; omega
  have e2 : ¬ (255 : Int) < s.size := by omega
  have hkey := key_of s hs2
  obtain ⟨mb, D, v, hdone⟩ := h.done (by have := (List.getElem?_eq_some_iff.1 hi).1; omega)
  have H := Lib.hid (And.intro hdone (And.intro hi hkey))
  clear h hi hkey hdone
  go_enter Try.func52, Try.ntmps52
  go_wp2_with fail
  refine (table_done H.out.1).mono ?_
  rintro e w1 ⟨rfl, hd, hk⟩
  have hown := hd.own
  have hT := hd.tab s
  have Hd := Lib.hid (And.intro hd hk)
  have hhas := hT.1.2 (List.mem_of_getElem? H.out.2.1)
  have hat := hT.2 i H.out.2.1
  clear hd hk hT
  have Hh := Lib.hid (And.intro hhas hat)
  clear hhas hat
  go_wp2_with (at_lookup; refine wpList_lookup_own_ok_int _ rfl _ _ 121 rfl 9 3 .i64 Try.law Try.underlying121 Try.underlying3 (Try.zeroE _) mb _ D rfl hown _ _ rfl H.out.2.2 ?_; intro c hc hwc; rw [Hh.out.1])
  go_ret2
  have hci : c = (i : Int) := by
    have := (Hh.out.2 _).symm.trans hc
    injection this with this
    injection this with _ this
    exact this.symm
  exact ⟨ret2 hci, .inr ⟨mb, D, v, Hd.out.1⟩, Hd.out.2⟩

set_option maxHeartbeats 400000 in
/-- a new name, and the table is full -/
theorem number_full {w : World} {F : Nat → Prop} {b : Nat} {names : List ByteArray} (h : AtRep w F b names) (s : ByteArray) (hs : 1 ≤ s.size) (hs2 : s.size ≤ 255) (hn : s ∉ names) (hl : names.length = 1024) :
    Calls Try.prog 52 #[.pointer (some ⟨b, 0, none⟩), .string s] w fun e w' => (∃ v, e = .returned (.tuple #[.int .i64 (-1), v]) ∧ ChainB w.heap.size w' v [Lk.fault atomS s.size, Lk.kind 2]) ∧ AtRep w' (Ext F w w') b names ∧ Kp (fun _ => False) w w' := by
  have e1 : ((s.size : Int) == 0) = false := by rw [beq_eq_false_iff_ne]; omega
  have e2 : ¬ (255 : Int) < s.size := by omega
  have hkey := key_of s hs2
  obtain ⟨mb, D, v, hdone⟩ := h.done (by omega)
  have H := Lib.hid (And.intro hdone hkey)
  clear h hkey hdone
  go_enter Try.func52, Try.ntmps52
  go_wp2_with fail
  refine (table_done H.out.1).mono ?_
  rintro e w1 ⟨rfl, hd, hk⟩
  have hown := hd.own
  have hhas : has D (.string s.data.toList) = false := by
    rw [Bool.eq_false_iff]
    exact fun e => hn ((hd.tab s).1.1 e)
  obtain ⟨po, cap, hv⟩ : ∃ po cap, v = .slice po 1024 cap := by
    rcases hd.row.2 with ⟨e, h0⟩ | ⟨g, cap, _, e, _⟩
    · omega
    · exact ⟨_, _, by rw [← hl]; exact e⟩
  have c4 : w1.cell? ⟨b, 4, none⟩ = some (.slice po 1024 cap) := by rw [cell_of_row w1 b 4 _ _ _ hd.main, ← hv]; rfl
  have Hd := Lib.hid (And.intro hd hk)
  have Hh := Lib.hid (And.intro hhas hl)
  clear hd hk hhas hl hv hn
  go_wp2_with (first | (at_lookup; refine wpList_lookup_own_ok_int _ rfl _ _ 121 rfl 9 3 .i64 Try.law Try.underlying121 Try.underlying3 (Try.zeroE _) mb _ D rfl hown _ _ rfl H.out.2 ?_; intro c hc hwc; rw [Hh.out.1]; clear hc hwc) | (go_at_call 39; refine (at_any _ _ _ _ _).mono ?_; rintro e w' ⟨rfl, rfl⟩))
  go_ret2
  obtain ⟨v2, hv2, hch, hkp⟩ := ebad1 w1 id atomS s.size 2 (by decide) 0
  refine ⟨⟨_, rfl, ?_⟩, .inr ⟨mb, D, v, ?_⟩, Hd.out.2.trans' hkp⟩
  · injection hv2 with hv2
    have e : v2 = _ := hv2.symm
    rw [e] at hch
    exact hch.le Hd.out.2.size
  · refine (Hd.out.1.kp hkp fun _ _ e => e).more (fun q hq => ?_) (fun q hq => ?_)
    · rcases hq with hq | hq
      · exact .inl hq
      · exact .inr ⟨hq.1, Nat.lt_of_lt_of_le hq.2 hkp.size⟩
    · rcases hq with hq | hq
      · exact Nat.lt_of_lt_of_le (Hd.out.1.lt q (.inl hq)) hkp.size
      · exact hq.2

theorem ownsRow_set {w : World} {base : Nat} {e : TypeId} {size : Nat} {v : Value} {n : Nat} {xs : List Value} (ho : w.ownsRow base e size v n xs) (b j : Nat) (u : Value) (hne : v.ownBlock ≠ some b) :
    (w.setCell ⟨b, j, none⟩ u).ownsRow base e size v n xs :=
  ((Kp.refl (fun q => q = b) w).setCell ⟨b, j, none⟩ u (.inl rfl)).row ho (fun g hg e => hne (by rw [hg, e]))
theorem ownsMap_kp {H : Type} {w w' : World} {P : Program} {k : TypeId} {R : Value → Option (DataW H × List MemPlace)} {mb n : Nat} {D : DataW H} {G : Nat → Prop} (ho : w.ownsMap P k R mb n D) (hk : Kp G w w') (hG : ¬ G mb) : w'.ownsMap P k R mb n D := by
  have hl := ho.lt
  obtain ⟨es, clock, hb, F', hs, hD⟩ := ho
  exact ⟨es, clock, (hk.block mb hl hG).trans hb, F', hs, hD⟩

theorem clone_any (s : ByteArray) (w : World) (hs : s.size ≤ 255) :
    Calls Try.prog 83 #[.string s] w fun e w' => e = .returned (.string s) ∧ Kp (fun _ => False) w w' := by
  go_enter Try.func83, Try.ntmps83
  go_wp2_with (go_at_call 98; refine (Try.stringslite_Clone s _ (by omega)).mono ?_; rintro e w' ⟨rfl, hb⟩)
  go_ret
  exact ⟨rfl, below_kp hb⟩

set_option maxHeartbeats 1000000 in
/-- a new name -/
theorem number_new {w : World} {F : Nat → Prop} {b : Nat} {names : List ByteArray} (h : AtRep w F b names) (s : ByteArray) (hs : 1 ≤ s.size) (hs2 : s.size ≤ 255) (hn : s ∉ names) (hl : names.length < 1024) :
    Calls Try.prog 52 #[.pointer (some ⟨b, 0, none⟩), .string s] w fun e w' => e = .returned (.tuple #[.int .i64 names.length, .nilIface]) ∧ AtRep w' (Ext F w w') b (names ++ [s]) ∧ Kp F w w' := by
  have e1 : ((s.size : Int) == 0) = false := by rw [beq_eq_false_iff_ne]; omega
  have e2 : ¬ (255 : Int) < s.size := by omega
  have e3 : ((names.length : Int) == 1024) = false := by rw [beq_eq_false_iff_ne]; omega
  have hkey := key_of s hs2
  have H := Lib.hid (And.intro h hkey)
  clear h hkey
  go_enter Try.func52, Try.ntmps52
  go_wp2_with fail
  refine (table_any H.out.1).mono ?_
  rintro e w1 ⟨mb, D, v, rfl, hd, hk⟩
  have hown := hd.own
  have hhas : has D (.string s.data.toList) = false := by
    rw [Bool.eq_false_iff]
    exact fun e => hn ((hd.tab s).1.1 e)
  obtain ⟨po, cap, hv⟩ : ∃ po cap, v = .slice po names.length cap := by
    rcases hd.row.2 with ⟨e, h0⟩ | ⟨g, cap, _, e, _⟩
    · rw [h0]; exact ⟨_, _, e⟩
    · exact ⟨_, _, e⟩
  have c4 : w1.cell? ⟨b, 4, none⟩ = some (.slice po names.length cap) := by rw [cell_of_row w1 b 4 _ _ _ hd.main, ← hv]; rfl
  have Hd := Lib.hid (And.intro hd hk)
  have Hh := Lib.hid (And.intro hhas (And.intro hv hn))
  clear hd hk hhas hv hn
  go_wp2_with (at_lookup; refine wpList_lookup_own_ok_int _ rfl _ _ 121 rfl 9 3 .i64 Try.law Try.underlying121 Try.underlying3 (Try.zeroE _) mb _ D rfl hown _ _ rfl H.out.2 ?_; intro c hc hwc; rw [Hh.out.1]; clear hc hwc)
  refine (clone_any s w1 hs2).mono ?_
  rintro e w2 ⟨rfl, hk2⟩
  have hd2 := Hd.out.1.kp hk2 (fun _ _ e => e)
  have hown2 := hd2.own
  have hwf : (Lit.int .i64 (names.length : Int)).wf = true := WalkArith.wf_i64 (by omega)
  have hbl := hd2.lt b hd2.fb
  have hne : some b ≠ some mb := fun e => hd2.ne (by injection e with e; exact e.symm)
  have c4' : w2.cell? ⟨b, 4, none⟩ = some (.slice po names.length cap) := by rw [cell_of_row w2 b 4 _ _ _ hd2.main, ← Hh.out.2.1]; rfl
  have Hd2 := Lib.hid (And.intro hd2 hk2)
  clear hd2 hk2 c4 hown
  go_wp2_with (at_mapUpdate; refine wpList_mapUpdate_own _ rfl _ _ _ 121 rfl 9 3 Try.law Try.underlying121 _ mb _ D rfl hown2 (by unfold maxLen; omega) _ _ _ rfl rfl H.out.2 _ [] (plainElem_int Try.underlying3 hwf) ?_; intro w3 hown3 hgrow3; have c43 : w3.cell? ⟨b, 4, none⟩ = some (.slice po names.length cap) := (hgrow3.cell_far ⟨b, 4, none⟩ hbl hne).trans c4'; clear c4'; refine Hid.out ?_)
  have hz2 := hgrow3.size
  have hvmb : (Value.slice po names.length cap).ownBlock ≠ some mb := by
    rw [← Hh.out.2.1]
    intro e
    rcases Hd2.out.1.row.2 with ⟨e2, _⟩ | ⟨g, cap', cur, e2, _, e3, _⟩
    · rw [e2] at e; cases e
    · rw [e2] at e
      injection e with e
      subst e
      obtain ⟨es, clock, hb, _⟩ := Hd2.out.1.own
      rw [hb] at e3
      cases e3
  have hrow3 : w3.ownsRow 0 9 1 (.slice po names.length cap) names.length (names.map Value.string) := by
    have := Hd2.out.1.row
    rw [Hh.out.2.1] at this
    exact this.kept hgrow3 (.inr hvmb)
  have hoA : ∀ o, (w3.alloc o).ownsRow 0 9 1 (.slice po names.length cap) names.length (names.map Value.string) := fun o => hrow3.alloc o
  have hnA : ∀ i u, [Value.string s][i]? = some u → (w3.alloc (.cells #[Value.string s] 9)).cell? ((⟨w3.heap.size, 0, none⟩ : Addr).add i) = some u :=
    World.news_of_block (cs := #[Value.string s]) (heap_alloc_new w3 _)
  have hone : ∀ u ∈ [Value.string s], u.oneCell' = true := by intro u hu; simp at hu; subst hu; rfl
  have hc1 : names.length + 1 ≤ maxLen := by unfold maxLen; omega
  have hc2 : (names.length + 1) * 16 ≤ 140737488355328 := by omega
  obtain ⟨i0, hi, hz0, hz1, hz2'⟩ := info_parts Try.infoStr
  have hm3 := (hgrow3.block b hbl hne).trans Hd2.out.1.main
  have hb3 := (Array.getElem?_eq_some_iff.1 hm3).1
  have Hc := Lib.hid (And.intro hc1 (And.intro hc2 (And.intro hgrow3 (And.intro hown3 (And.intro hrow3 hm3)))))
  clear hc1 hc2 hgrow3 hown3 hrow3 hown2 hm3
  refine Lib.hid ?_
  go_wp2_with (at_builtin; refine wpList_append_lies _ rfl _ _ 122 rfl 0 9 i0 (.string ByteArray.empty) 1 16 Try.underlying122 hi hz0 hz1 hz2' rfl (by omega) (.slice po names.length cap) names.length _ rfl (hoA _) ⟨w3.heap.size, 0, none⟩ 1 1 [.string s] rfl rfl hnA hone (by omega) Hc.out.1 Hc.out.2.1 (Nat.zero_le _) (w3.heap.size + 1) (by simp) ?_; intro g1 cap1 w4 hown4 hgrow4 hat4 hlt4; refine Hid.out ?_)
  have hvb : (Value.slice po names.length cap).ownBlock ≠ some b := by
    rw [← Hh.out.2.1]
    exact fun e => (Hd2.out.1.inn b e).2 rfl
  have hm4 : w4.heap[b]? = some (.cells (atCells 1 (.map (some mb)) v) 124 (0, 0)) := by
    rw [hgrow4.block b (by simp; omega) (fun e => hvb e.symm), Below.heap_alloc _ _ _ hb3]
    exact Hc.out.2.2.2.2.2
  have c44 : w4.cell? ⟨b, 4, none⟩ = some v := by rw [cell_of_row w4 b 4 _ _ _ hm4]; rfl
  have f44 : w4.frozen? ⟨b, 4, none⟩ = false := by simp [World.frozen?, hm4]
  have Hm := Lib.hid (And.intro hm4 (And.intro hown4 (And.intro hgrow4 (And.intro hat4 (And.intro hvb hvmb)))))
  clear hm4 hown4 hgrow4 hat4 hvb hvmb hoA hnA hone
  refine Lib.hid ?_
  go_wp2_with fail
  go_ret2
  refine ⟨rfl, ?_⟩
  obtain ⟨hm4, hown4, hgrow4, hat4, hvb, hvmb⟩ := Hm.out
  obtain ⟨_, _, hgrow3, hown3, hrow3, hm3⟩ := Hc.out
  obtain ⟨hd2, hk2⟩ := Hd2.out
  obtain ⟨hd1, hk1⟩ := Hd.out
  obtain ⟨_, hv, hn⟩ := Hh.out
  obtain ⟨hkey1, hkey2⟩ := H.out
  have hz1 := hk1.size
  have hz2 := hk2.size
  have hz3 := hgrow3.size
  have hz4 : w3.heap.size + 1 ≤ w4.heap.size := by have := hgrow4.size; simpa using this
  have hmbF : F mb ∨ w.heap.size ≤ mb := by
    rcases hd1.fm with h | h
    · exact .inl h
    · exact .inr h.1
  have hmbl : mb < w2.heap.size := hown3.lt |> fun _ => hd2.own.lt
  have hsl : ∀ k, (Value.slice po names.length cap).ownBlock = some k → (F k ∨ w.heap.size ≤ k) ∧ k < w2.heap.size := by
    intro k hk
    rw [← hv] at hk
    refine ⟨?_, hd2.lt k (hd2.inn k hk).1⟩
    rcases (hd1.inn k hk).1 with h | h
    · exact .inl h
    · exact .inr h.1
  have hbF : F b ∨ w.heap.size ≤ b := by
    rcases hd1.fb with h | h
    · exact .inl h
    · exact .inr h.1
  have hk12 : Kp F w w2 := hk1.trans' (hk2.mono fun _ _ e => e.elim)
  have hk3 : Kp F w w3 := hk12.grown hgrow3 (fun k hk => by injection hk with hk; rw [← hk]; exact hmbF)
  have hk4 : Kp F w w4 := (hk3.alloc _).grown hgrow4 (fun k hk => (hsl k hk).1)
  have hk5 : Kp F w (w4.setCell ⟨b, 4, none⟩ (.slice (some ⟨g1, 0, none⟩) (names.length + 1) cap1)) := hk4.setCell _ _ hbF
  have hs5 : (w4.setCell ⟨b, 4, none⟩ (.slice (some ⟨g1, 0, none⟩) (names.length + 1) cap1)).heap.size = w4.heap.size := by simp [World.setCell]
  have hg1 : (F g1 ∨ w.heap.size ≤ g1) ∧ g1 ≠ b := by
    rcases hat4 with e | e
    · exact ⟨(hsl g1 e).1, fun e2 => hvb (by rw [e, e2])⟩
    · exact ⟨.inr (by omega), by omega⟩
  have hg1l : g1 < w4.heap.size := hlt4
  have hgm : some mb ≠ (Value.slice po names.length cap).ownBlock := fun e => hvmb e.symm
  have hown5 : (w4.setCell ⟨b, 4, none⟩ (.slice (some ⟨g1, 0, none⟩) (names.length + 1) cap1)).ownsMap Try.prog 9 (plainElem Try.prog 3) mb (names.length + 1) (D.put (.string s.data.toList) (.lit (.int .i64 names.length))) :=
    ownsMap_kp ((hown3.alloc _).kept hgrow4 hgm) ((Kp.refl (fun q => q = b) w4).setCell _ _ (.inl rfl)) hd1.ne
  have hxl : ∀ q, (F q ∨ w.heap.size ≤ q) → q < w4.heap.size → Ext F w (w4.setCell ⟨b, 4, none⟩ (.slice (some ⟨g1, 0, none⟩) (names.length + 1) cap1)) q := by
    intro q hq hl
    rcases hq with hq | hq
    · exact .inl hq
    · exact .inr ⟨hq, by rw [hs5]; exact hl⟩
  have hrow5 : (w4.setCell ⟨b, 4, none⟩ (.slice (some ⟨g1, 0, none⟩) (names.length + 1) cap1)).ownsRow 0 9 1 (.slice (some ⟨g1, 0, none⟩) (names.length + 1) cap1) (names ++ [s]).length ((names ++ [s]).map Value.string) := by
    have := ownsRow_set hown4 b 4 (.slice (some ⟨g1, 0, none⟩) (names.length + 1) cap1) (by simp [Value.ownBlock]; exact hg1.2)
    simpa using this
  refine ⟨.inr ⟨mb, D.put (.string s.data.toList) (.lit (.int .i64 names.length)), .slice (some ⟨g1, 0, none⟩) (names.length + 1) cap1, ?_⟩, hk5⟩
  refine ⟨hxl b hbF (by omega), hxl mb hmbF (by omega), hd1.ne, ?_, heap_set_same hm4 _, by simpa using hown5, ?_, hd1.tab.put hd1.isM s hn, hrow5, ?_, ?_, by simp; omega, ?_⟩
  · intro q hq
    rcases hq with hq | hq
    · have := hd1.lt q (.inl hq)
      rw [hs5]; omega
    · exact hq.2
  · obtain ⟨es, rfl⟩ := hd1.isM
    exact ⟨_, rfl⟩
  · intro g hg
    simp [Value.ownBlock] at hg
    subst hg
    exact ⟨hxl g1 hg1.1 hg1l, hg1.2⟩
  · rw [List.nodup_append]
    refine ⟨hd1.nd, by simp, ?_⟩
    intro x hx y hy e
    simp at hy
    subst hy
    subst e
    exact hn hx
  · intro x hx
    rcases List.mem_append.1 hx with hx | hx
    · exact hd1.len x hx
    · simp at hx; subst hx; exact hs2
end Go.Proofs.Ytlnckpjpoaokjaa
