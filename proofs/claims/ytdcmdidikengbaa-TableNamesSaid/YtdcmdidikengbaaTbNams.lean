/- A table of four, beside a row of the names that are kept. -/
import Derived.Test.YtdcmdidikengbaaTbUse
import Derived.Test.YtdcmdidikengbaaIn
namespace Go.Proofs.Ytdcmdidikengbaa
open Go.RowKit
set_option linter.unusedVariables false

section
variable {ns : List Nm} {x : Nm} {k : Nat}
theorem putNm_perm : (putNm ns x).Perm (x :: ns) := by
  unfold putNm
  have h := List.takeWhile_append_dropWhile (p := befo x) (l := ns)
  refine List.perm_middle.trans (List.Perm.cons x ?_)
  rw [h]
theorem ofPid_put : (ofPid (putNm ns x) k).length = (ofPid ns k).length + (if x.pid = k then 1 else 0) := by
  unfold ofPid
  rw [(putNm_perm.filter _).length_eq]
  by_cases e : x.pid = k
  · rw [List.filter_cons_of_pos (by simpa using e), if_pos e]; rfl
  · rw [List.filter_cons_of_neg (by simpa using e), if_neg e]; rfl
theorem without_put : (without (putNm ns x) k).length = (without ns k).length + (if x.pid = k then 0 else 1) := by
  unfold without
  rw [(putNm_perm.filter _).length_eq]
  by_cases e : x.pid = k
  · rw [List.filter_cons_of_neg (by simpa using e), if_pos e]; rfl
  · rw [List.filter_cons_of_pos (by simpa using e), if_neg e]; rfl
end

structure Nams (w0 w : World) (b : Nat) (kv : Value) (k : Nat) (ns : List Nm) (kept : List ByteArray) (gone i : Nat) : Prop where
  ts : TS w0 (fun q => kv.ownBlock = some q) w b 4 256 (firstN 4) ns
  kr : Sw w kv kept
  newk : ∀ q, kv.ownBlock = some q → w0.heap.size ≤ q
  gn : (ofPid ns k).length = gone
  kl : (without ns k).length = kept.length
  has : ∀ s ∈ kept, ∃ p, p ≠ k ∧ whose ns s = some p
  gi : gone ≤ i
  fw : kept.length ≤ i
section
variable {w0 w w' : World} {b : Nat} {kv : Value} {k gone i o : Nat} {ns : List Nm} {kept : List ByteArray} {s : ByteArray}
theorem Nams.same (h : Nams w0 w b kv k ns kept gone i) (hk : Kp (fun _ => False) w w') : Nams w0 w' b kv k ns kept gone i :=
  ⟨h.ts.same hk, h.kr.same hk, h.newk, h.gn, h.kl, h.has, h.gi, h.fw⟩
theorem Nams.next (h : Nams w0 w b kv k ns kept gone i) : Nams w0 w b kv k ns kept gone (i + 1) :=
  ⟨h.ts, h.kr, h.newk, h.gn, h.kl, h.has, Nat.le_succ_of_le h.gi, Nat.le_succ_of_le h.fw⟩
theorem Nams.start {w0 w : World} {b k : Nat} (h : TS w0 noC w b 4 256 (firstN 4) []) : Nams w0 w b (.slice none 0 0) k [] [] 0 0 :=
  ⟨h.put (Kp.refl _ _) (fun q hq => by cases hq), Sw.nil _, fun q hq => (by cases hq), rfl, rfl, fun s hs => by simp at hs, Nat.le_refl _, Nat.le_refl _⟩
/-- a name that is refused -/
theorem nams_bad (h : Nams w0 w b kv k ns kept gone i) (hs : s.size ≤ maxLen) (hk : nameKind (firstN 4) ns s (o : Nat) ≠ 0) :
    Calls Try.prog 17 #[.pointer (some ⟨b, 0, none⟩), .string s, .int .i64 (o : Nat)] w (fun e w' => ∃ g, e = .returned (.iface 38 (.pointer (some ⟨g, 0, none⟩))) ∧ Nams w0 w' b kv k ns kept gone (i + 1)) := by
  refine (ts_reg_bad h.ts s hs _ hk).mono ?_
  rintro e w' ⟨u, rfl, hu, hk2⟩
  obtain ⟨g, rfl⟩ := hu.out.form
  exact ⟨g, rfl, (h.same hk2).next⟩
/-- a name of the one who is to be dropped -/
theorem nams_gone (h : Nams w0 w b kv k ns kept gone i) (hk : nameKind (firstN 4) ns s (k : Nat) = 0) :
    Calls Try.prog 17 #[.pointer (some ⟨b, 0, none⟩), .string s, .int .i64 (k : Nat)] w (fun e w' => e = .returned .nilIface ∧ Nams w0 w' b kv k (putNm ns ⟨s, k⟩) kept (gone + 1) (i + 1)) := by
  refine (ts_reg h.ts s k hk).mono ?_
  rintro e w' ⟨rfl, h1, hkp⟩
  obtain ⟨n1, n2, n3, n4, n5⟩ := nameKind_ok hk
  refine ⟨rfl, h1, h.kr.kp hkp (fun q hq e => e hq), h.newk, by rw [ofPid_put, if_pos rfl, h.gn], by rw [without_put, if_pos rfl]; exact h.kl, fun t ht => ?_, by have := h.gi; omega, by have := h.fw; omega⟩
  obtain ⟨p, hp, hw⟩ := h.has t ht
  refine ⟨p, hp, ?_⟩
  rw [whose_putNm h.ts.ord n4, if_neg (fun e => ?_)]
  · exact hw
  · rw [e] at hw
    simp only [] at hw n4
    rw [n4] at hw; cases hw
/-- a name of another one: it is put behind those that are kept -/
theorem nams_kept (h : Nams w0 w b kv k ns kept gone i) (hok : o ≠ k) (hi : i ≤ 4096) (hk : nameKind (firstN 4) ns s (o : Nat) = 0) :
    Calls Try.prog 17 #[.pointer (some ⟨b, 0, none⟩), .string s, .int .i64 (o : Nat)] w (fun e w' => e = .returned .nilIface ∧ ∃ kv' w2, (Builtin.append_ #[32, 32] 32 #[kv, .slice (some ⟨w'.heap.size, 0, none⟩) 1 1]).run Try.prog (w'.alloc (.cells #[.string s] 9)) = .ok kv' w2 ∧
      Nams w0 w2 b kv' k (putNm ns ⟨s, o⟩) (kept ++ [s]) gone (i + 1) ∧ Kp (fun _ => False) w0 w') := by
  refine (ts_reg h.ts s o hk).mono ?_
  rintro e w' ⟨rfl, h1, hkp⟩
  obtain ⟨n1, n2, n3, n4, n5⟩ := nameKind_ok hk
  have hfw := h.fw
  have hr1 := h.kr.kp hkp (fun q hq e => e hq)
  obtain ⟨g, cap, w2, hr, ho, hk2, hg, hl⟩ := texts_push hr1 (by omega) (by omega) s
  have hz0 := h1.kp0.size
  refine ⟨rfl, _, w2, hr, ⟨h1.turn hk2 (fun q hq => ⟨hq, h.newk q hq⟩) (fun q hq => ?_), ho, fun q hq => ?_, by rw [ofPid_put, if_neg hok, Nat.add_zero]; exact h.gn, by rw [without_put, if_neg hok, List.length_append, h.kl]; rfl, fun t ht => ?_, by have := h.gi; omega, by rw [List.length_append]; simp; omega⟩, h1.kp0⟩
  · have e : g = q := by injection hq
    subst e
    rcases hg with e | e
    · exact .inl e
    · exact .inr ⟨e, hl⟩
  · have e : g = q := by injection hq
    subst e
    rcases hg with e | e
    · exact h.newk _ e
    · omega
  · rcases List.mem_append.1 ht with ht | ht
    · obtain ⟨p, hp, hw⟩ := h.has t ht
      refine ⟨p, hp, ?_⟩
      rw [whose_putNm h.ts.ord n4, if_neg (fun e => ?_)]
      · exact hw
      · rw [e] at hw
        simp only [] at hw n4
        rw [n4] at hw; cases hw
    · obtain rfl : t = s := by simpa using ht
      exact ⟨o, hok, by rw [whose_putNm h.ts.ord n4, if_pos rfl]⟩
/-- behind the drop -/
structure NamD (w0 w : World) (b : Nat) (kv u : Value) (k : Nat) (sl : List Sg) (ns' : List Nm) (kept gn : List ByteArray) : Prop where
  ts : TS w0 (fun q => kv.ownBlock = some q) w b 4 256 sl ns'
  kr : Sw w kv kept
  ur : Sw w u gn
  has : ∀ s ∈ kept, ∃ p : Nat, p ≠ k ∧ whose ns' s = some p ∧ kindAt sl (p : Nat) = 0 ∧ s.size ≤ 255
  non : ∀ s ∈ gn, whose ns' s = none ∧ s.size ≤ 255
  ord : gn.Pairwise (fun a c => a.data.toList < c.data.toList)
theorem NamD.same {u : Value} {sl : List Sg} {gn : List ByteArray} (h : NamD w0 w b kv u k sl ns kept gn) (hk : Kp (fun _ => False) w w') : NamD w0 w' b kv u k sl ns kept gn :=
  ⟨h.ts.same hk, h.kr.same hk, h.ur.same hk, h.has, h.non, h.ord⟩
theorem nams_drop (h : Nams w0 w b kv k ns kept gone i) (hk4 : k < 4) :
    Calls Try.prog 14 #[.pointer (some ⟨b, 0, none⟩), .int .i64 (k : Nat)] w (fun e w' => ∃ u sl ns' gn, e = .returned (.tuple #[u, .nilIface]) ∧ NamD w0 w' b kv u k sl ns' kept gn ∧ gn.length = gone ∧ ns'.length = kept.length) := by
  have hk0 : kindAt (firstN 4) (k : Nat) = 0 := by rw [firstN_kind (by omega), if_pos (by omega)]
  refine (ts_drop h.ts k hk0).mono ?_
  rintro e w' ⟨u, rfl, h1, h2, h3, hkp⟩
  have hz := hkp.size
  refine ⟨u, _, _, _, rfl, ⟨h3, h.kr.kp hkp (fun q hq e => e hq), h1, fun s hs => ?_, fun s hs => ?_, ?_⟩, by unfold txts; rw [List.length_map, h.gn], h.kl⟩
  · obtain ⟨p, hp, hw⟩ := h.has s hs
    have hm := whose_some hw
    have hw2 : whose (without ns k) s = some p := by
      unfold without
      rw [whose_filter h.ts.ord, hw]
      simp [hp]
    exact ⟨p, hp, hw2, h3.live _ (whose_some hw2), (h.ts.lens _ hm).2⟩
  · obtain ⟨n, hn, rfl⟩ := List.mem_map.1 hs
    obtain ⟨hn1, hn2⟩ := List.mem_filter.1 hn
    have hp : n.pid = k := by simpa using hn2
    refine ⟨?_, (h.ts.lens n hn1).2⟩
    unfold without
    rw [whose_filter h.ts.ord, whose_mem h.ts.ord hn1]
    simp [hp]
  · unfold txts
    exact List.pairwise_map.2 (h.ts.ord.filter _)
end
end Go.Proofs.Ytdcmdidikengbaa
