/- A net's methods that turn nothing, and Link, Unlink. -/
import Derived.Test.YtmfhmnlgffgcgaaLkTie
import Derived.Test.YtmfhmnlgffgcgaaOp
import Derived.Laws.BitsAllLaws
import Derived.IntWalk
namespace Go.Proofs.Ytmfhmnlgffgcgaa
open Go.RowKit Go.Maps
set_option linter.unusedVariables false

def tabs (ls : List (Int × Int)) (ms : List Mo) : Nat → List (Int × Int) := fun k => if k = 0 then both ls else if k = 1 then byWho ms else byWhom ms
/-- a net of these links and monitors -/
structure Net (w : World) (b : Nat) (col : Nat → Nat) (h : Nat → Value) (ls : List (Int × Int)) (ms : List Mo) (next : Nat) : Prop where
  nx : Nx w b col h (tabs ls ms) ms
  h7 : h 7 = .int .i64 (next : Nat)
  lok : LkOk ls
  lI : ∀ p ∈ ls, I64 p.1 ∧ I64 p.2
  mok : MoOk next ms
  mI : ∀ m ∈ ms, I64 m.who ∧ I64 m.whom
  ll : ls.length ≤ 8796093022208
  nb : next ≤ 17592186044415
theorem mo_len : ∀ (ms : List Mo) (lo hi : Int), ms.Pairwise (fun m n => m.ref < n.ref) → (∀ m ∈ ms, lo ≤ m.ref ∧ m.ref < hi) → (ms.length : Int) ≤ max (hi - lo) 0
  | [], lo, hi, _, _ => by simp; omega
  | m :: ms, lo, hi, hp, hm => by
    rw [List.pairwise_cons] at hp
    have h1 := hm m (by simp)
    have h2 := mo_len ms (m.ref + 1) hi hp.2 fun n hn => ⟨hp.1 n hn, (hm n (by simp [hn])).2⟩
    rw [List.length_cons]
    omega
section
variable {F G : Nat → Prop} {w w' w'' : World} {b next : Nat} {col col' : Nat → Nat} {h h' : Nat → Value} {ls ls' : List (Int × Int)} {ms ms' : List Mo} {a x r : Int}
theorem MoOk.len (h : MoOk next ms) : ms.length ≤ next := by
  have := mo_len ms 0 next h.1 fun m hm => h.2 m hm
  omega
theorem Net.len0 (H : Net w b col h ls ms next) : (tabs ls ms 0).length ≤ 17592186044416 := by
  show (both ls).length ≤ _
  rw [both_len]
  have := H.ll
  omega
theorem Net.len1 (H : Net w b col h ls ms next) : (tabs ls ms 1).length ≤ 17592186044415 := by
  show (byWho ms).length ≤ _
  have := H.mok.len
  have := H.nb
  simp [byWho]
  omega
theorem Net.len2 (H : Net w b col h ls ms next) : (tabs ls ms 2).length ≤ 17592186044415 := by
  show (byWhom ms).length ≤ _
  have := H.mok.len
  have := H.nb
  simp [byWhom]
  omega
theorem Net.same (H : Net w b col h ls ms next) (hk : Kp (fun _ => False) w w') : Net w' b col h ls ms next := ⟨H.nx.same hk, H.h7, H.lok, H.lI, H.mok, H.mI, H.ll, H.nb⟩
theorem Net.refI (H : Net w b col h ls ms next) {m : Mo} (hm : m ∈ ms) : I64 m.ref := by
  have := H.mok.2 m hm
  have := H.nb
  unfold I64
  omega
/-- what a net's way leaves -/
def NetTo (w : World) (b : Nat) (col : Nat → Nat) (ls' : List (Int × Int)) (ms' : List Mo) (next' : Nat) (v : Value) (e : Ending) (w' : World) : Prop :=
  e = .returned v ∧ ∃ col' h', Net w' b col' h' ls' ms' next' ∧ NxStep w col w' col'
theorem NetTo.quiet {v : Value} {e : Ending} (H : Net w b col h ls ms next) (he : e = .returned v) (hk : Kp (fun _ => False) w w') : NetTo w b col ls ms next v e w' := ⟨he, col, h, H.same hk, NxStep.quiet col hk⟩

/-- links with one more -/
def addLk (ls : List (Int × Int)) (a x : Int) : List (Int × Int) := if a = x ∨ lk a x ∈ ls then ls else ls ++ [lk a x]
theorem tabs_link (H : LkOk ls) (ms : List Mo) (S : List (Int × Int)) (hp : S.Perm (both ls')) : ∀ k, (upd (tabs ls ms) 0 S k).Perm (tabs ls' ms k) := by
  intro k
  unfold upd tabs
  by_cases e : k = 0
  · rw [if_pos e, if_pos e]; exact hp
  · rw [if_neg e, if_neg e, if_neg e]
theorem Nx.perm {S S' : Nat → List (Int × Int)} (H : Nx w b col h S ms) (hp : ∀ k, k < 3 → (S k).Perm (S' k)) : Nx w b col h S' ms := ⟨H.head, H.b1, fun k hk => (H.tb k hk).perm (hp k hk), H.mon, H.fr⟩
theorem tabs_mon (ls : List (Int × Int)) (ms ms' : List Mo) {S T : List (Int × Int)} (hS : S = byWho ms') (hT : T = byWhom ms') (j k : Nat) (hjk : j = 1 ∧ k = 2) : ∀ i, i < 3 → (upd (upd (tabs ls ms) j S) k T i).Perm (tabs ls ms' i) := by
  intro i hi
  obtain ⟨rfl, rfl⟩ := hjk
  subst hS hT
  unfold upd tabs
  by_cases e3 : i = 2
  · rw [if_pos e3, if_neg (by omega), if_neg (by omega)]
  · rw [if_neg e3]
    by_cases e4 : i = 1
    · rw [if_pos e4, if_neg (by omega), if_pos e4]
    · rw [if_neg e4, if_pos (by omega), if_pos (by omega)]
theorem lk_I64 (ha : I64 a) (hx : I64 x) : I64 (lk a x).1 ∧ I64 (lk a x).2 := by
  unfold lk
  split
  · exact ⟨ha, hx⟩
  · exact ⟨hx, ha⟩
theorem net_linked_new (H : Net w b col h ls ms next) (ha : I64 a) (hx : I64 x) (hax : a ≠ x) (hno : lk a x ∉ ls) (hl : ls.length + 1 ≤ 8796093022208) {e : Ending}
    (ht : NxTo w b col h (upd (tabs ls ms) 0 (tabs ls ms 0 ++ [(a, x)] ++ [(x, a)])) ms e w') (v : Value) : NetTo w b col (ls ++ [lk a x]) ms next v (.returned v) w' := by
  obtain ⟨-, col', h', h1, h2, h3⟩ := ht
  refine ⟨rfl, col', h', ⟨h1.perm (fun k _ => tabs_link H.lok ms _ (both_app a x) k), h2.trans H.h7, H.lok.app hax hno, fun p hp => ?_, H.mok, H.mI, by simp; omega, H.nb⟩, h3⟩
  rcases List.mem_append.1 hp with hp | hp
  · exact H.lI p hp
  · simp at hp
    rw [hp]
    exact lk_I64 ha hx
theorem net_unlinked (H : Net w b col h ls ms next) {e : Ending} (ht : NxTo w b col h (upd (tabs ls ms) 0 (butPair (butPair (tabs ls ms 0) (a, x)) (x, a))) ms e w') (v : Value) : NetTo w b col (butPair ls (lk a x)) ms next v (.returned v) w' := by
  obtain ⟨-, col', h', h1, h2, h3⟩ := ht
  have hle : (butPair ls (lk a x)).length ≤ ls.length := List.length_filter_le _ _
  refine ⟨rfl, col', h', ⟨h1.perm (fun k _ => tabs_link H.lok ms _ (by rw [show tabs ls ms 0 = both ls from rfl, both_but H.lok]) k), h2.trans H.h7, H.lok.but _, fun p hp => H.lI p (mem_butPair.1 hp).1, H.mok, H.mI, ?_, H.nb⟩, h3⟩
  have := H.ll
  omega
set_option maxRecDepth 100000 in
set_option maxHeartbeats 2000000 in
theorem net_link (H : Net w b col h ls ms next) (ha : I64 a) (hx : I64 x) (hl : ls.length + 1 ≤ 8796093022208) :
    Calls Try.prog 13 #[.pointer (some ⟨b, 0, none⟩), .int .i64 a, .int .i64 x] w (NetTo w b col (addLk ls a x) ms next (.bool (!decide (a = x ∨ lk a x ∈ ls)))) := by
  by_cases hax : a = x
  · unfold addLk
    rw [if_pos (.inl hax), decide_eq_true (.inl hax)]
    have HF : Hid (NetTo w b col ls ms next (.bool false) (.returned (.bool false)) w) := Lib.hid (NetTo.quiet H rfl (Kp.refl _ w))
    subst hax
    clear H
    go_enter Try.func13, Try.ntmps13
    go_wp2_with fail
    go_ret
    exact HF.out
  · have hab : (a == x) = false := by rw [beq_eq_false_iff_ne]; exact hax
    have HT := Lib.hid (show Calls Try.prog 35 #[.pointer (some ⟨b, 0, none⟩), .agg #[.int .i64 a, .int .i64 x]] w _ from nx_there H.nx (k := 0) (by omega) ha hx)
    have hmb : (a, x) ∈ tabs ls ms 0 ↔ lk a x ∈ ls := mem_both H.lok
    by_cases hm : lk a x ∈ ls
    · unfold addLk
      rw [if_pos (.inr hm), decide_eq_true (.inr hm)]
      rw [decide_eq_true (hmb.2 hm)] at HT
      have HQ := Lib.hid H
      clear H hmb hm
      go_enter Try.func13, Try.ntmps13
      go_wp2_with fail
      refine HT.out.mono ?_
      rintro e w1 ⟨rfl, hk⟩
      have HK := Lib.hid hk
      clear hk
      go_wp2_with fail
      go_ret
      exact NetTo.quiet HQ.out rfl HK.out
    · unfold addLk
      rw [if_neg (fun e => e.elim hax hm), decide_eq_false (fun e => e.elim hax hm)]
      rw [decide_eq_false (fun e => hm (hmb.1 e))] at HT
      have HQ := Lib.hid (And.intro H (And.intro hm (And.intro (fun e => hm (hmb.1 e)) (And.intro hl (And.intro ha (And.intro hx hax))))))
      clear H hmb hm hl ha hx
      go_enter Try.func13, Try.ntmps13
      go_wp2_with fail
      refine HT.out.mono ?_
      rintro e w1 ⟨rfl, hk⟩
      have HG := Lib.hid (show Calls Try.prog 29 #[.pointer (some ⟨b, 0, none⟩), .int .i64 0, .agg #[.int .i64 a, .int .i64 x]] w1 _ from tie_link (HQ.out.1.same hk).nx HQ.out.2.2.2.2.2.2 HQ.out.2.2.1 (fun e => HQ.out.2.2.1 ((both_symm HQ.out.1.lok).1 e)) HQ.out.2.2.2.2.1 HQ.out.2.2.2.2.2.1 (by have := HQ.out.2.2.2.1; show (both ls).length + 2 ≤ _; rw [both_len]; omega))
      have HK := Lib.hid hk
      clear hk
      go_wp2_with fail
      refine HG.out.mono ?_
      rintro e w2 ht
      obtain ⟨rfl, -⟩ := id ht
      have HT2 := Lib.hid ht
      clear ht
      go_wp2_with fail
      go_ret
      obtain ⟨-, col', h', h1, h2⟩ := net_linked_new (HQ.out.1.same HK.out) HQ.out.2.2.2.2.1 HQ.out.2.2.2.2.2.1 HQ.out.2.2.2.2.2.2 HQ.out.2.1 HQ.out.2.2.2.1 HT2.out (.bool true)
      exact ⟨rfl, col', h', h1, (NxStep.quiet col HK.out).trans h2⟩
set_option maxRecDepth 100000 in
set_option maxHeartbeats 2000000 in
theorem net_unlink (H : Net w b col h ls ms next) (ha : I64 a) (hx : I64 x) :
    Calls Try.prog 14 #[.pointer (some ⟨b, 0, none⟩), .int .i64 a, .int .i64 x] w (NetTo w b col (butPair ls (lk a x)) ms next (.bool (decide (lk a x ∈ ls)))) := by
  have HT := Lib.hid (show Calls Try.prog 35 #[.pointer (some ⟨b, 0, none⟩), .agg #[.int .i64 a, .int .i64 x]] w _ from nx_there H.nx (k := 0) (by omega) ha hx)
  have hmb : (a, x) ∈ tabs ls ms 0 ↔ lk a x ∈ ls := mem_both H.lok
  by_cases hm : lk a x ∈ ls
  · rw [decide_eq_true hm]
    rw [decide_eq_true (hmb.2 hm)] at HT
    have HQ := Lib.hid (And.intro H (hmb.2 hm))
    clear H hmb hm ha hx
    go_enter Try.func14, Try.ntmps14
    go_wp2_with fail
    refine HT.out.mono ?_
    rintro e w1 ⟨rfl, hk⟩
    have HG := Lib.hid (show Calls Try.prog 32 #[.pointer (some ⟨b, 0, none⟩), .int .i64 0, .agg #[.int .i64 a, .int .i64 x]] w1 _ from cut_link (HQ.out.1.same hk).nx (both_ne HQ.out.1.lok HQ.out.2) HQ.out.2 ((both_symm HQ.out.1.lok).1 HQ.out.2) (by have := HQ.out.1.len0; omega))
    have HK := Lib.hid hk
    clear hk
    go_wp2_with fail
    refine HG.out.mono ?_
    rintro e w2 ht
    obtain ⟨rfl, -⟩ := id ht
    have HT2 := Lib.hid ht
    clear ht
    go_wp2_with fail
    go_ret
    obtain ⟨-, col', h', h1, h2⟩ := net_unlinked (HQ.out.1.same HK.out) HT2.out (.bool true)
    exact ⟨rfl, col', h', h1, (NxStep.quiet col HK.out).trans h2⟩
  · rw [decide_eq_false hm, butPair_none hm]
    rw [decide_eq_false (fun e => hm (hmb.1 e))] at HT
    have HQ := Lib.hid H
    clear H hmb hm ha hx
    go_enter Try.func14, Try.ntmps14
    go_wp2_with fail
    refine HT.out.mono ?_
    rintro e w1 ⟨rfl, hk⟩
    have HK := Lib.hid hk
    clear hk
    go_wp2_with fail
    go_ret
    exact NetTo.quiet HQ.out rfl HK.out
/-- all that one is linked to, rising; who watches one, rising -/
def nbs (ls : List (Int × Int)) (a : Int) : List Int := srt (colOf (both ls) a)
def obs (ms : List Mo) (a : Int) : List Int := srt (colOf (byWhom ms) a)
set_option maxRecDepth 100000 in
theorem net_linked (H : Net w b col h ls ms next) (ha : I64 a) : Calls Try.prog 18 #[.pointer (some ⟨b, 0, none⟩), .int .i64 a] w (FreshRow w (nbs ls a)) := by
  have HO := Lib.hid (show Calls Try.prog 34 #[.pointer (some ⟨b, 0, none⟩), .int .i64 a] w (FreshRow w (nbs ls a)) from nx_of H.nx (k := 0) (by omega) ha (by have := H.len0; omega))
  clear H
  go_enter Try.func18, Try.ntmps18
  go_wp2_with fail
  refine HO.out.mono ?_
  rintro e w1 ⟨u, rfl, h1⟩
  have H1 := Lib.hid h1
  clear h1
  go_wp2_with fail
  go_ret
  exact ⟨u, rfl, H1.out⟩
set_option maxRecDepth 100000 in
theorem net_watchers (H : Net w b col h ls ms next) (ha : I64 a) : Calls Try.prog 11 #[.pointer (some ⟨b, 0, none⟩), .int .i64 a] w (FreshRow w (obs ms a)) := by
  have HO := Lib.hid (show Calls Try.prog 34 #[.pointer (some ⟨b, 4, none⟩), .int .i64 a] w (FreshRow w (obs ms a)) from nx_of H.nx (k := 2) (by omega) ha (by have := H.len2; omega))
  clear H
  go_enter Try.func11, Try.ntmps11
  go_wp2_with fail
  refine HO.out.mono ?_
  rintro e w1 ⟨u, rfl, h1⟩
  have H1 := Lib.hid h1
  clear h1
  go_wp2_with fail
  go_ret
  exact ⟨u, rfl, H1.out⟩
theorem Mon.len {v : Value} (H : Mon w G v ms) : (Builtin.len_ #[29] 3 #[v]).run Try.prog w = .ok (.int .i64 (ms.length : Nat)) w := by
  rcases H with ⟨h1, h2⟩ | ⟨mb, h1, h2, h3⟩
  · subst h1 h2
    exact Maps.len_nil Try.underlying29 _
  · subst h1
    exact h3.len
set_option maxRecDepth 100000 in
set_option maxHeartbeats 1000000 in
theorem net_len (H : Net w b col h ls ms next) : Calls Try.prog 10 #[.pointer (some ⟨b, 0, none⟩)] w fun e w' => e = .returned (.tuple #[.int .i64 (ls.length : Nat), .int .i64 (ms.length : Nat)]) ∧ Kp (fun _ => False) w w' := by
  obtain ⟨mq, hmq⟩ := H.nx.mon.form
  have HS : Hid (∀ n, Calls Try.prog 33 #[.pointer (some ⟨b, 0, none⟩)] (w.drewN n) fun e w' => e = .returned (.int .i64 ((ls.length * 2 : Nat) : Int)) ∧ ∃ k, w' = (w.drewN n).drewN k) := Lib.hid fun n => by
    have h1 := size_any (H.nx.same (kp_drewN (Kp.refl (fun _ => False) w) n)).head (off := 0) (by omega) ((H.nx.same (kp_drewN (Kp.refl (fun _ => False) w) n)).tb 0 (by omega))
    rw [show (tabs ls ms 0).length = ls.length * 2 from by rw [Nat.mul_comm]; exact both_len ls] at h1
    exact h1.mono fun e w' ⟨q1, q2⟩ => ⟨q1, 0, by rw [← q2]; rfl⟩
  have c6 : w.cell? ⟨b, 6, none⟩ = some (.map mq) := by rw [← hmq]; exact H.nx.head.cell (by omega)
  have hln : ∀ n, (Builtin.len_ #[29] 3 #[.map mq]).run Try.prog (w.drewN n) = .ok (.int .i64 (ms.length : Nat)) (w.drewN n) := fun n => by
    rw [← hmq]
    exact (H.nx.same (kp_drewN (Kp.refl (fun _ => False) w) n)).mon.len
  have hll := H.ll
  obtain ⟨L, hL⟩ : ∃ L, ls.length = L := ⟨_, rfl⟩
  obtain ⟨M, hM⟩ : ∃ M, ms.length = M := ⟨_, rfl⟩
  rw [hL] at HS hll ⊢
  rw [hM] at hln ⊢
  obtain ⟨T, hT⟩ : ∃ T : Nat, L * 2 = T := ⟨_, rfl⟩
  rw [hT] at HS
  have hq : (T : Int).tdiv 2 = L := by rw [Int.tdiv_eq_ediv_of_nonneg (by omega)]; omega
  have hw : IntKind.i64.wrap ((T : Int).tdiv 2) = L := by rw [hq, IntWalk.i64_in _ (by omega)]
  have hL2 : Hid (-9223372036854775808 ≤ (L : Int) ∧ (L : Int) ≤ 9223372036854775807) := Lib.hid (by omega)
  have hl1 := hln 0
  have hl2 := hln 1
  clear H hmq hL hM hT hll
  go_enter Try.func10, Try.ntmps10
  go_wp2_with fail
  go_quiet ((go_at_call 33; exact Calls.quiet_of (HS.out _)))
  go_wp2_with fail
  go_ret2
  exact ⟨by rw [IntWalk.wrap64_in _ hL2.out]; rfl, kp_drewN (Kp.refl _ w) nq⟩
end
end Go.Proofs.Ytmfhmnlgffgcgaa
