/- The document's own Number. -/
import Derived.Test.YtmghneglfnkihaaNames
import Derived.Laws.Closers25b
namespace Go.Proofs.Ytmghneglfnkihaa
open Go.RowKit Go.Maps

theorem str_ne {a b : ByteArray} (h : a ≠ b) : (a.toList == b.toList) = false := by
  rw [beq_eq_false_iff_ne, ByteArray.toList_eq, ByteArray.toList_eq]
  exact fun e => h (ByteArray.ext (Array.toList_inj.1 e))
theorem str_empty {s : ByteArray} (h : s.size = 0) : s.toList = [] := by
  rw [toList_nil_iff_emptyBytes]
  exact ByteArray.ext (Array.eq_empty_of_size_eq_zero h)
theorem str_full {s : ByteArray} (h : 1 ≤ s.size) : ¬ s.toList = [] := by
  intro e
  rw [toList_nil_iff_emptyBytes] at e
  rw [e] at h
  exact absurd h (by decide)
theorem str_full2 {s : ByteArray} (h : 1 ≤ s.size) : s.toList.isEmpty = false := by
  rw [Bool.eq_false_iff]
  exact fun e => str_full h (List.isEmpty_iff.1 e)

theorem xnumber_bad (a : Value) (s : ByteArray) (w : World) (hs : s.size ≤ maxLen) (h : s.size = 0 ∨ 255 < s.size) :
    Calls Try.prog 33 #[a, .string s] w (XBad w (fun v => .tuple #[.int .i64 (-1), v]) [Lk.fault atomS s.size, Lk.kind 1]) := by
  unfold maxLen at hs
  by_cases h0 : s.size = 0
  · have e1 := str_empty h0
    have Hs := Lib.hid h0
    clear h h0
    go_enter Try.func33, Try.ntmps33
    go_wp2_with (first | (go_at_call 36; refine (k_any _ _).mono ?_; rintro e w1 ⟨rfl, rfl⟩) | (go_at_call 35; refine (f_any _ _ _ _).mono ?_; rintro e w1 ⟨rfl, rfl⟩))
    go_ret2
    exact xbad1 w _ _ _ 1 0
  · have e2 : (255 : Int) < s.size := by omega
    have e3 := str_full (s := s) (by omega)
    have e4 := str_full2 (s := s) (by omega)
    clear h h0
    go_enter Try.func33, Try.ntmps33
    go_wp2_with (first | (go_at_call 36; refine (k_any _ _).mono ?_; rintro e w1 ⟨rfl, rfl⟩) | (go_at_call 35; refine (f_any _ _ _ _).mono ?_; rintro e w1 ⟨rfl, rfl⟩))
    go_ret2
    exact xbad1 w _ _ _ 1 0

set_option maxHeartbeats 400000 in
/-- a name that is there -/
theorem xnumber_old {w : World} {F : Nat → Prop} {b : Nat} {names : List ByteArray} (h : XAtRep w F b names) (hm : names.length ≤ 1024) (hnd : names.Nodup) (s : ByteArray) (hs : 1 ≤ s.size) (hs2 : s.size ≤ 255) (i : Nat) (hi : names[i]? = some s) :
    Calls Try.prog 33 #[.pointer (some ⟨b, 0, none⟩), .string s] w fun e w' => e = .returned (.tuple #[.int .i64 i, .pointer none]) ∧ w = w' := by
  obtain ⟨po, cap, c4, hat⟩ := h.names_at
  have e2 : ¬ (255 : Int) < s.size := by omega
  have e3 := str_full hs
  have e4 := str_full2 hs
  have hil := (List.getElem?_eq_some_iff.1 hi).1
  have H := Lib.hid (And.intro hat (And.intro hi hnd))
  clear hat hi hnd h
  go_enter Try.func33, Try.ntmps33
  go_wp2_with fail
  go_loopg [6] names.length (fun gk x wr => ∃ j : Nat, j ≤ i ∧ gk = names.length - j ∧ x = .int .i64 j ∧ wr = w)
  case atStart => exact ⟨0, by omega, rfl, rfl, rfl⟩
  case round =>
    obtain ⟨j, hj, rfl, rfl, rfl⟩ := hrel
    by_cases hji : j = i
    · subst hji
      obtain ⟨g, rfl, hc⟩ := H.out.1 j s H.out.2.1
      have hli : (j : Int) < names.length := by omega
      go_wp2_with fail
      go_ret2
      exact ⟨rfl, rfl⟩
    · have hjl : j < names.length := by omega
      obtain ⟨t, ht⟩ : ∃ t, names[j]? = some t := ⟨names[j], List.getElem?_eq_getElem hjl⟩
      obtain ⟨g, rfl, hc⟩ := H.out.1 j t ht
      have hli : (j : Int) < names.length := by omega
      have hne : t ≠ s := by
        intro e
        subst e
        obtain ⟨_, h1⟩ := List.getElem?_eq_some_iff.1 ht
        obtain ⟨_, h2⟩ := List.getElem?_eq_some_iff.1 H.out.2.1
        exact hji ((List.getElem_inj H.out.2.2).1 (h1.trans h2.symm))
      have e5 := str_ne hne
      clear ht hne
      go_wp2_with fail
      go_roundg (names.length - (j + 1))
      case measure => omega
      case rel => exact ⟨j + 1, by omega, rfl, by go_num, rfl⟩

set_option maxHeartbeats 400000 in
/-- a new name, and the table is full -/
theorem xnumber_full {w : World} {F : Nat → Prop} {b : Nat} {names : List ByteArray} (h : XAtRep w F b names) (s : ByteArray) (hs : 1 ≤ s.size) (hs2 : s.size ≤ 255) (hn : s ∉ names) (hl : names.length = 1024) :
    Calls Try.prog 33 #[.pointer (some ⟨b, 0, none⟩), .string s] w (XBad w (fun v => .tuple #[.int .i64 (-1), v]) [Lk.fault atomS s.size, Lk.kind 2]) := by
  obtain ⟨po, cap, c4, hat⟩ := h.names_at
  have e2 : ¬ (255 : Int) < s.size := by omega
  have e3 := str_full hs
  have e4 := str_full2 hs
  have hl2 : (1024 : Int) ≤ names.length := by omega
  have hl3 : (names.length : Int) ≤ 1024 := by omega
  have H := Lib.hid (And.intro hat (And.intro hn hl))
  clear hat h hn hl
  go_enter Try.func33, Try.ntmps33
  go_wp2_with fail
  go_loopg [6] names.length (fun gk x wr => ∃ j : Nat, j ≤ names.length ∧ gk = names.length - j ∧ x = .int .i64 j ∧ wr = w)
  case atStart => exact ⟨0, by omega, rfl, rfl, rfl⟩
  case round =>
    obtain ⟨j, hj, rfl, rfl, rfl⟩ := hrel
    by_cases hjl : j < names.length
    · obtain ⟨t, ht⟩ : ∃ t, names[j]? = some t := ⟨names[j], List.getElem?_eq_getElem hjl⟩
      obtain ⟨g, rfl, hc⟩ := H.out.1 j t ht
      have hli : (j : Int) < names.length := by omega
      have hne : t ≠ s := fun e => H.out.2.1 (by rw [← e]; exact List.mem_of_getElem? ht)
      have e5 := str_ne hne
      clear ht hne
      go_wp2_with fail
      go_roundg (names.length - (j + 1))
      case measure => omega
      case rel => exact ⟨j + 1, by omega, rfl, by go_num, rfl⟩
    · obtain rfl : j = names.length := by omega
      go_wp2_with (first | (go_at_call 36; refine (k_any _ _).mono ?_; rintro e w1 ⟨rfl, rfl⟩) | (go_at_call 35; refine (f_any _ _ _ _).mono ?_; rintro e w1 ⟨rfl, rfl⟩))
      go_ret2
      exact xbad1 _ _ _ _ 2 0

set_option maxRecDepth 100000 in
set_option maxHeartbeats 1000000 in
/-- a new name -/
theorem xnumber_new {w : World} {F : Nat → Prop} {b : Nat} {names : List ByteArray} (h : XAtRep w F b names) (s : ByteArray) (hs : 1 ≤ s.size) (hs2 : s.size ≤ 255) (hn : s ∉ names) (hl : names.length < 1024) :
    Calls Try.prog 33 #[.pointer (some ⟨b, 0, none⟩), .string s] w fun e w' => e = .returned (.tuple #[.int .i64 names.length, .pointer none]) ∧ XAtRep w' (Ext F w w') b (names ++ [s]) ∧ Kp F w w' := by
  have h' := h
  obtain ⟨po, cap, c4, hat⟩ := h.names_at
  have e2 : ¬ (255 : Int) < s.size := by omega
  have e3 := str_full hs
  have e4 := str_full2 hs
  have hl2 : ¬ (1024 : Int) ≤ names.length := by omega
  have H := Lib.hid (And.intro hat (And.intro hn h'))
  clear hat h hn h'
  go_enter Try.func33, Try.ntmps33
  go_wp2_with fail
  go_loopg [6] names.length (fun gk x wr => ∃ j : Nat, j ≤ names.length ∧ gk = names.length - j ∧ x = .int .i64 j ∧ wr = w)
  case atStart => exact ⟨0, by omega, rfl, rfl, rfl⟩
  case round =>
    obtain ⟨j, hj, rfl, rfl, rfl⟩ := hrel
    by_cases hjl : j < names.length
    · obtain ⟨t, ht⟩ : ∃ t, names[j]? = some t := ⟨names[j], List.getElem?_eq_getElem hjl⟩
      obtain ⟨g, rfl, hc⟩ := H.out.1 j t ht
      have hli : (j : Int) < names.length := by omega
      have hne : t ≠ s := fun e => H.out.2.1 (by rw [← e]; exact List.mem_of_getElem? ht)
      have e5 := str_ne hne
      clear ht hne
      go_wp2_with fail
      go_roundg (names.length - (j + 1))
      case measure => omega
      case rel => exact ⟨j + 1, by omega, rfl, by go_num, rfl⟩
    · obtain rfl : j = names.length := by omega
      obtain ⟨v, hd⟩ := H.out.2.2
      obtain ⟨po2, cap2, hv2, _⟩ := str_at hd.row
      have hv : v = .slice po names.length cap := by
        have e := cell_of_row wr b 0 _ _ _ hd.main
        rw [c4] at e
        injection e with e
        exact e.symm
      have hrow3 := hd.row
      rw [hv] at hrow3
      have hoA : ∀ o, (wr.alloc o).ownsRow 0 9 1 (.slice po names.length cap) names.length (names.map Value.string) := fun o => hrow3.alloc o
      have hnA : ∀ i u, [Value.string s][i]? = some u → (wr.alloc (.cells #[Value.string s] 9)).cell? ((⟨wr.heap.size, 0, none⟩ : Addr).add i) = some u :=
        World.news_of_block (cs := #[Value.string s]) (heap_alloc_new wr _)
      have hone : ∀ u ∈ [Value.string s], u.oneCell' = true := by intro u hu; simp at hu; subst hu; rfl
      have hc1 : names.length + 1 ≤ maxLen := by unfold maxLen; omega
      have hc2 : (names.length + 1) * 16 ≤ 140737488355328 := by omega
      obtain ⟨i0, hi, hz0, hz1, hz2'⟩ := info_parts Try.infoStr
      have hbl := hd.lt b hd.fb
      have hvb : (Value.slice po names.length cap).ownBlock ≠ some b := by
        rw [← hv]
        exact fun e => (hd.inn b e).2 rfl
      have Hc := Lib.hid (And.intro hc1 (And.intro hc2 (And.intro hd (And.intro hv hvb))))
      clear hc1 hc2 hd hv hv2 hrow3 hvb
      go_wp2_with (at_builtin; refine wpList_append_lies _ rfl _ _ 22 rfl 0 9 i0 (.string ByteArray.empty) 1 16 Try.underlying22 hi hz0 hz1 hz2' rfl (by omega) (.slice po names.length cap) names.length _ rfl (hoA _) ⟨wr.heap.size, 0, none⟩ 1 1 [.string s] rfl rfl hnA hone (by omega) Hc.out.1 Hc.out.2.1 (Nat.zero_le _) (wr.heap.size + 1) (by simp) ?_; intro g1 cap1 w4 hown4 hgrow4 hat4 hlt4; refine Hid.out ?_)
      obtain ⟨_, _, hd, hv, hvb⟩ := Hc.out
      have hm4 : w4.heap[b]? = some (.cells #[v] 50 (0, 0)) := by
        rw [hgrow4.block b (by simp; omega) (fun e => hvb e.symm), Below.heap_alloc _ _ _ hbl]
        exact hd.main
      have c44 : w4.cell? ⟨b, 0, none⟩ = some v := by rw [cell_of_row w4 b 0 _ _ _ hm4]; rfl
      have f44 : w4.frozen? ⟨b, 0, none⟩ = false := by simp [World.frozen?, hm4]
      have hm5 : (w4.setCell ⟨b, 0, none⟩ (.slice (some ⟨g1, 0, none⟩) (names.length + 1) cap1)).heap[b]? = some (.cells #[.slice (some ⟨g1, 0, none⟩) (names.length + 1) cap1] 50 (0, 0)) := heap_set_same hm4 _
      have c45 : (w4.setCell ⟨b, 0, none⟩ (.slice (some ⟨g1, 0, none⟩) (names.length + 1) cap1)).cell? ⟨b, 0, none⟩ = some (.slice (some ⟨g1, 0, none⟩) (names.length + 1) cap1) := by rw [cell_of_row _ b 0 _ _ _ hm5]; rfl
      have Hm := Lib.hid (And.intro hm5 (And.intro hown4 (And.intro hgrow4 (And.intro hat4 (And.intro hd (And.intro hv hvb))))))
      clear hm4 hown4 hgrow4 hat4 hd hv hvb hoA hnA hone Hc hm5
      refine Lib.hid ?_
      go_wp2_with fail
      go_ret2
      refine ⟨rfl, ?_⟩
      obtain ⟨hm5, hown4, hgrow4, hat4, hd, hv, hvb⟩ := Hm.out
      have hz4 : wr.heap.size + 1 ≤ w4.heap.size := by have := hgrow4.size; simpa using this
      have hsl : ∀ k, (Value.slice po names.length cap).ownBlock = some k → F k := by
        intro k hk
        rw [← hv] at hk
        exact (hd.inn k hk).1
      have hk4 : Kp F wr w4 := ((Kp.refl F wr).alloc _).grown hgrow4 (fun k hk => .inl (hsl k hk))
      have hk5 : Kp F wr (w4.setCell ⟨b, 0, none⟩ (.slice (some ⟨g1, 0, none⟩) (names.length + 1) cap1)) := hk4.setCell _ _ (.inl hd.fb)
      have hs5 : (w4.setCell ⟨b, 0, none⟩ (.slice (some ⟨g1, 0, none⟩) (names.length + 1) cap1)).heap.size = w4.heap.size := by simp [World.setCell]
      have hg1 : (F g1 ∨ wr.heap.size ≤ g1) ∧ g1 ≠ b := by
        rcases hat4 with e | e
        · exact ⟨.inl (hsl g1 e), fun e2 => hvb (by rw [e, e2])⟩
        · exact ⟨.inr (by omega), by omega⟩
      have hrow5 : (w4.setCell ⟨b, 0, none⟩ (.slice (some ⟨g1, 0, none⟩) (names.length + 1) cap1)).ownsRow 0 9 1 (.slice (some ⟨g1, 0, none⟩) (names.length + 1) cap1) (names ++ [s]).length ((names ++ [s]).map Value.string) := by
        have := ownsRow_set hown4 b 0 (.slice (some ⟨g1, 0, none⟩) (names.length + 1) cap1) (by simp [Value.ownBlock]; exact hg1.2)
        simpa using this
      refine ⟨⟨.slice (some ⟨g1, 0, none⟩) (names.length + 1) cap1, .inl hd.fb, ?_, hm5, hrow5, ?_⟩, hk5⟩
      · intro q hq
        rcases hq with hq | hq
        · have := hd.lt q hq
          rw [hs5]; omega
        · exact hq.2
      · intro g hg
        simp [Value.ownBlock] at hg
        subst hg
        refine ⟨?_, hg1.2⟩
        rcases hg1.1 with h | h
        · exact .inl h
        · exact .inr ⟨h, by rw [hs5]; exact hlt4⟩
end Go.Proofs.Ytmghneglfnkihaa
