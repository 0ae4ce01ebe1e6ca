/- What End leaves, as plain data. -/
import Derived.Test.YtmfhmnlgffgcgaaLkMon
namespace Go.Proofs.Ytmfhmnlgffgcgaa
open Go.RowKit Go.Maps
set_option linter.unusedVariables false

/-- links and monitors that are cut one by one -/
def cutLs (ls : List (Int × Int)) (a : Int) (l : List Int) : List (Int × Int) := l.foldl (fun ls x => butPair ls (lk a x)) ls
def cutMs (ms : List Mo) (l : List Int) : List Mo := l.foldl butRef ms
/-- behind an end -/
def endLs (ls : List (Int × Int)) (a : Int) : List (Int × Int) := ls.filter fun p => !decide (p.1 = a) && !decide (p.2 = a)
def endMs (ms : List Mo) (a : Int) : List Mo := ms.filter fun m => !decide (m.who = a) && !decide (m.whom = a)
section
variable {ls : List (Int × Int)} {ms : List Mo} {a x r : Int} {l : List Int} {next : Nat}
theorem cutLs_eq : ∀ (l : List Int) (ls : List (Int × Int)), cutLs ls a l = ls.filter fun p => !l.any fun y => decide (p = lk a y)
  | [], ls => by
    show ls = _
    symm
    rw [List.filter_eq_self]
    intro p _
    rfl
  | y :: l, ls => by
    show cutLs (butPair ls (lk a y)) a l = _
    rw [cutLs_eq l]
    unfold butPair
    rw [List.filter_filter]
    apply List.filter_congr
    intro p _
    rw [List.any_cons, Bool.not_or, Bool.and_comm]
theorem cutMs_eq : ∀ (l : List Int) (ms : List Mo), cutMs ms l = ms.filter fun m => !l.any fun y => decide (m.ref = y)
  | [], ms => by
    show ms = _
    symm
    rw [List.filter_eq_self]
    intro p _
    rfl
  | y :: l, ms => by
    show cutMs (butRef ms y) l = _
    rw [cutMs_eq l]
    unfold butRef
    rw [List.filter_filter]
    apply List.filter_congr
    intro p _
    rw [List.any_cons, Bool.not_or, Bool.and_comm]
theorem cutLs_more (ls : List (Int × Int)) (l : List Int) (x : Int) : cutLs ls a (l ++ [x]) = butPair (cutLs ls a l) (lk a x) := by simp [cutLs]
theorem cutMs_more (ms : List Mo) (l : List Int) (x : Int) : cutMs ms (l ++ [x]) = butRef (cutMs ms l) x := by simp [cutMs]
theorem lk_inj (h : lk a x = lk a r) : x = r := by
  unfold lk at h
  split at h <;> split at h
  · exact (Prod.mk.inj h).2
  · obtain ⟨h1, h2⟩ := Prod.mk.inj h; omega
  · obtain ⟨h1, h2⟩ := Prod.mk.inj h; omega
  · exact (Prod.mk.inj h).1
theorem mem_nbs (h : LkOk ls) : x ∈ nbs ls a ↔ lk a x ∈ ls := by
  unfold nbs
  rw [mem_srt, mem_colOf, mem_both h]
theorem nbs_nodup (h : LkOk ls) (a : Int) : (nbs ls a).Nodup := srt_nodup (colOf_nodup (both_nodup h) a)
theorem cutLs_all (h : LkOk ls) (a : Int) : cutLs ls a (nbs ls a) = endLs ls a := by
  rw [cutLs_eq]
  unfold endLs
  apply List.filter_congr
  intro p hp
  have h2 := h.2 p hp
  rw [← Bool.not_or]
  congr 1
  rw [Bool.eq_iff_iff, List.any_eq_true, Bool.or_eq_true, decide_eq_true_iff, decide_eq_true_iff]
  constructor
  · rintro ⟨y, hy, e⟩
    have := (lk_eq h2).1 (of_decide_eq_true e)
    omega
  · intro e
    rcases e with e | e
    · refine ⟨p.2, (mem_nbs h).2 ?_, decide_eq_true ?_⟩
      · rw [← e, lk_self h2]; exact hp
      · rw [← e, lk_self h2]
    · refine ⟨p.1, (mem_nbs h).2 ?_, decide_eq_true ?_⟩
      · rw [← e, lk_comm, lk_self h2]; exact hp
      · rw [← e, lk_comm, lk_self h2]
/-- who one watches -/
def whs (ms : List Mo) (a : Int) : List Int := srt (colOf (byWho ms) a)
theorem mem_whs : r ∈ whs ms a ↔ ∃ m ∈ ms, m.who = a ∧ m.ref = r := by
  unfold whs
  rw [mem_srt, mem_colOf, mem_byWho]
theorem mem_obs : r ∈ obs ms a ↔ ∃ m ∈ ms, m.whom = a ∧ m.ref = r := by
  unfold obs
  rw [mem_srt, mem_colOf, mem_byWhom]
theorem cutMs_whs (h : MoOk next ms) (a : Int) : cutMs ms (whs ms a) = ms.filter fun m => !decide (m.who = a) := by
  rw [cutMs_eq]
  apply List.filter_congr
  intro m hm
  congr 1
  rw [Bool.eq_iff_iff, List.any_eq_true, decide_eq_true_iff]
  constructor
  · rintro ⟨y, hy, e⟩
    have e := of_decide_eq_true e
    obtain ⟨n, hn, h1, h2⟩ := mem_whs.1 hy
    rw [h.uniq hm hn (e.trans h2.symm)]
    exact h1
  · intro e
    exact ⟨m.ref, mem_whs.2 ⟨m, hm, e, rfl⟩, decide_eq_true rfl⟩
theorem cutMs_obs (h : MoOk next ms) (a : Int) : cutMs ms (obs ms a) = ms.filter fun m => !decide (m.whom = a) := by
  rw [cutMs_eq]
  apply List.filter_congr
  intro m hm
  congr 1
  rw [Bool.eq_iff_iff, List.any_eq_true, decide_eq_true_iff]
  constructor
  · rintro ⟨y, hy, e⟩
    have e := of_decide_eq_true e
    obtain ⟨n, hn, h1, h2⟩ := mem_obs.1 hy
    rw [h.uniq hm hn (e.trans h2.symm)]
    exact h1
  · intro e
    exact ⟨m.ref, mem_obs.2 ⟨m, hm, e, rfl⟩, decide_eq_true rfl⟩
/-- where End stands: behind j cuts of kind k -/
def eRow (ls : List (Int × Int)) (ms : List Mo) (a : Int) (k : Nat) : List Int := if k = 0 then nbs ls a else if k = 1 then whs ms a else obs (cutMs ms (whs ms a)) a
def eLs (ls : List (Int × Int)) (a : Int) (k j : Nat) : List (Int × Int) := if k = 0 then cutLs ls a ((nbs ls a).take j) else cutLs ls a (nbs ls a)
def eMs (ms : List Mo) (a : Int) (k j : Nat) : List Mo := if k = 0 then ms else if k = 1 then cutMs ms ((whs ms a).take j) else cutMs (cutMs ms (whs ms a)) ((obs (cutMs ms (whs ms a)) a).take j)
theorem eLs_next (ls : List (Int × Int)) (ms : List Mo) (a : Int) (k : Nat) : eLs ls a k (eRow ls ms a k).length = eLs ls a (k + 1) 0 := by
  unfold eLs eRow
  rw [if_neg (show ¬ k + 1 = 0 by omega)]
  by_cases e : k = 0
  · rw [if_pos e, if_pos e, List.take_length]
  · rw [if_neg e]
theorem eMs_next (ls : List (Int × Int)) (ms : List Mo) (a : Int) (k : Nat) (hk : k < 2) : eMs ms a k (eRow ls ms a k).length = eMs ms a (k + 1) 0 := by
  unfold eMs eRow
  rcases (show k = 0 ∨ k = 1 by omega) with rfl | rfl
  · simp [cutMs]
  · simp [cutMs]
theorem eMs_last (h : MoOk next ms) (ls : List (Int × Int)) (a : Int) : eMs ms a 2 (eRow ls ms a 2).length = endMs ms a := by
  unfold eMs eRow
  rw [if_neg (by omega), if_neg (by omega), if_neg (by omega), if_neg (by omega), List.take_length]
  have h1 := cutMs_whs h a
  have h2 := cutMs_obs (ms := cutMs ms (whs ms a)) (by rw [h1]; exact h.filter _) a
  rw [h2, h1, List.filter_filter]
  unfold endMs
  apply List.filter_congr
  intro m _
  rw [Bool.and_comm]
theorem eLs_last (h : LkOk ls) (ms : List Mo) (a : Int) : eLs ls a 2 (eRow ls ms a 2).length = endLs ls a := by
  unfold eLs
  rw [if_neg (by omega)]
  exact cutLs_all h a
theorem nodup_take {l : List Int} (hn : l.Nodup) {j : Nat} {x : Int} (hx : l[j]? = some x) : x ∉ l.take j := by
  intro hm
  obtain ⟨i, hi, e⟩ := List.mem_iff_getElem.1 hm
  have h1 : i < j := by simp at hi; omega
  have h2 : (l.take j)[i]? = some x := by rw [List.getElem?_eq_getElem hi, e]
  rw [List.getElem?_take_of_lt h1] at h2
  obtain ⟨hj, hjx⟩ := List.getElem?_eq_some_iff.1 hx
  obtain ⟨hi2, hix⟩ := List.getElem?_eq_some_iff.1 h2
  have := (List.getElem_inj (h₀ := hi2) (h₁ := hj) hn).1 (hix.trans hjx.symm)
  omega
theorem take_more {l : List Int} {j : Nat} {x : Int} (hx : l[j]? = some x) : l.take (j + 1) = l.take j ++ [x] := by
  obtain ⟨hj, hjx⟩ := List.getElem?_eq_some_iff.1 hx
  rw [List.take_succ_eq_append_getElem hj, hjx]
theorem mem_cutMs {m : Mo} (hm : m ∈ ms) (hl : m.ref ∉ l) : m ∈ cutMs ms l := by
  rw [cutMs_eq, List.mem_filter]
  refine ⟨hm, ?_⟩
  rw [Bool.not_eq_true', Bool.eq_false_iff]
  intro e
  obtain ⟨y, hy, e2⟩ := List.any_eq_true.1 e
  rw [← of_decide_eq_true e2] at hy
  exact hl hy
theorem mem_cutLs {p : Int × Int} (hp : p ∈ ls) (hl : ∀ y ∈ l, p ≠ lk a y) : p ∈ cutLs ls a l := by
  rw [cutLs_eq, List.mem_filter]
  refine ⟨hp, ?_⟩
  rw [Bool.not_eq_true', Bool.eq_false_iff]
  intro e
  obtain ⟨y, hy, e2⟩ := List.any_eq_true.1 e
  exact hl y hy (of_decide_eq_true e2)
theorem whs_nodup (h : MoOk next ms) (a : Int) : (whs ms a).Nodup := srt_nodup (colOf_nodup (byWho_nodup h) a)
theorem obs_nodup (h : MoOk next ms) (a : Int) : (obs ms a).Nodup := srt_nodup (colOf_nodup (byWhom_nodup h) a)
end
section
variable {w w' : World} {b next : Nat} {col col' : Nat → Nat} {h h' : Nat → Value} {ls L : List (Int × Int)} {ms M : List Mo} {a x r : Int}
/-- a link is cut -/
theorem net_cut0 (H : Net w b col h L M next) (hm : lk a x ∈ L) : Calls Try.prog 32 #[.pointer (some ⟨b, 0, none⟩), .int .i64 0, .agg #[.int .i64 a, .int .i64 x]] w (NetTo w b col (butPair L (lk a x)) M next (.tuple #[])) := by
  have hb : (a, x) ∈ both L := (mem_both H.lok).2 hm
  exact (cut_link H.nx (both_ne H.lok hb) hb ((both_symm H.lok).1 hb) (by have := H.len0; omega)).mono fun e w' ht => by
    have h1 := ht.1
    rw [h1]
    exact net_unlinked H ht (.tuple #[])
theorem net_cutm {e : Ending} (H : Net w b col h L M next) {m : Mo} (hm : m ∈ M) (j k : Nat) (hj : j = 1 ∧ k = 2)
    (ht : NxTo w b col h (upd (upd (tabs L M) j (butPair (tabs L M 1) (m.who, m.ref))) k (butPair (tabs L M 2) (m.whom, m.ref))) (butRef M m.ref) e w') : NetTo w b col L (butRef M m.ref) next (.tuple #[]) e w' := by
  obtain ⟨he, col', h', h1, h2, h3⟩ := ht
  have e1 : butPair (tabs L M 1) (m.who, m.ref) = byWho (butRef M m.ref) := byWho_but H.mok hm
  have e2 : butPair (tabs L M 2) (m.whom, m.ref) = byWhom (butRef M m.ref) := byWhom_but H.mok hm
  rw [e1, e2] at h1
  exact ⟨he, col', h', ⟨h1.perm (tabs_mon L M (butRef M m.ref) rfl rfl j k hj), h2.trans H.h7, H.lok, H.lI, H.mok.but _, fun n hn => H.mI n (mem_butRef.1 hn).1, H.ll, H.nb⟩, h3⟩
theorem net_cut1 (H : Net w b col h L M next) {m : Mo} (hm : m ∈ M) : Calls Try.prog 32 #[.pointer (some ⟨b, 0, none⟩), .int .i64 1, .agg #[.int .i64 m.who, .int .i64 m.ref]] w (NetTo w b col L (butRef M m.ref) next (.tuple #[])) :=
  (cut_who H.nx (m := m) (H.refI hm) hm (moOf_mem H.mok hm) (mem_byWho.2 ⟨m, hm, rfl, rfl⟩) (mem_byWhom.2 ⟨m, hm, rfl, rfl⟩) (by have := H.len1; omega) (by have := H.len2; omega)).mono fun e w' ht => net_cutm H hm 1 2 ⟨rfl, rfl⟩ ht
theorem upd_swap {α : Type} (f : Nat → α) {j k : Nat} (u v : α) (hne : j ≠ k) : upd (upd f j u) k v = upd (upd f k v) j u := by
  funext i
  unfold upd
  by_cases e1 : i = k
  · rw [if_pos e1, if_neg (by omega), if_pos e1]
  · rw [if_neg e1, if_neg e1]
theorem net_cut2 (H : Net w b col h L M next) {m : Mo} (hm : m ∈ M) : Calls Try.prog 32 #[.pointer (some ⟨b, 0, none⟩), .int .i64 2, .agg #[.int .i64 m.whom, .int .i64 m.ref]] w (NetTo w b col L (butRef M m.ref) next (.tuple #[])) :=
  (cut_whom H.nx (m := m) (H.refI hm) hm (moOf_mem H.mok hm) (mem_byWho.2 ⟨m, hm, rfl, rfl⟩) (mem_byWhom.2 ⟨m, hm, rfl, rfl⟩) (by have := H.len1; omega) (by have := H.len2; omega)).mono fun e w' ht => by
    rw [upd_swap _ _ _ (by omega)] at ht
    exact net_cutm H hm 1 2 ⟨rfl, rfl⟩ ht
/-- one cut of End's -/
theorem end_cut {k j : Nat} (hk : k < 3) (hls : LkOk ls) (hms : MoOk next ms) (H : Net w b col h (eLs ls a k j) (eMs ms a k j) next) (hx : (eRow ls ms a k)[j]? = some x) :
    Calls Try.prog 32 #[.pointer (some ⟨b, 0, none⟩), .int .i64 (k : Nat), .agg #[.int .i64 a, .int .i64 x]] w (NetTo w b col (eLs ls a k (j + 1)) (eMs ms a k (j + 1)) next (.tuple #[])) := by
  have hmem := List.mem_of_getElem? hx
  rcases (show k = 0 ∨ k = 1 ∨ k = 2 by omega) with rfl | rfl | rfl
  · have hx' : (nbs ls a)[j]? = some x := hx
    have e1 : eLs ls a 0 (j + 1) = butPair (eLs ls a 0 j) (lk a x) := by
      show cutLs ls a ((nbs ls a).take (j + 1)) = butPair (cutLs ls a ((nbs ls a).take j)) (lk a x)
      rw [take_more hx', cutLs_more]
    rw [e1]
    refine net_cut0 H (mem_cutLs ((mem_nbs hls).1 hmem) fun y hy e => ?_)
    rw [← lk_inj e] at hy
    exact nodup_take (nbs_nodup hls a) hx' hy
  · have hx' : (whs ms a)[j]? = some x := hx
    obtain ⟨m, hm, e2, e3⟩ := mem_whs.1 hmem
    have e1 : eMs ms a 1 (j + 1) = butRef (eMs ms a 1 j) m.ref := by
      show cutMs ms ((whs ms a).take (j + 1)) = butRef (cutMs ms ((whs ms a).take j)) m.ref
      rw [take_more hx', cutMs_more, e3]
    rw [e1, ← e3]
    have h1 := net_cut1 H (m := m) (mem_cutMs hm (by rw [e3]; exact nodup_take (whs_nodup hms a) hx'))
    rw [e2] at h1
    exact h1
  · have hms1 : MoOk next (cutMs ms (whs ms a)) := by rw [cutMs_whs hms a]; exact hms.filter _
    have hx' : (obs (cutMs ms (whs ms a)) a)[j]? = some x := hx
    obtain ⟨m, hm, e2, e3⟩ := mem_obs.1 hmem
    have e1 : eMs ms a 2 (j + 1) = butRef (eMs ms a 2 j) m.ref := by
      show cutMs (cutMs ms (whs ms a)) ((obs (cutMs ms (whs ms a)) a).take (j + 1)) = butRef (cutMs (cutMs ms (whs ms a)) ((obs (cutMs ms (whs ms a)) a).take j)) m.ref
      rw [take_more hx', cutMs_more, e3]
    rw [e1, ← e3]
    have h1 := net_cut2 H (m := m) (mem_cutMs hm (by rw [e3]; exact nodup_take (obs_nodup hms1 a) hx'))
    rw [e2] at h1
    exact h1
end
end Go.Proofs.Ytmfhmnlgffgcgaa
