/- just MaxNames names have room; a name that is taken is taken for everybody, its owner too -/
import Derived.Test.YtdcmdidikengbaaRows
import Derived.Test.YtdcmdidikengbaaTbUse
import Derived.Test.YtdcmdidikengbaaErr
import Derived.Test.YtdcmdidikengbaaDec
import Derived.WalkKit
import Derived.ProofKit
import Derived.OpenShut
import Derived.ShutString
import Derived.ChangeOld
import Derived.Below
import Derived.Deep.Strs
namespace Go.Proofs.Ytdcmdidikengbaa.tableFull
open Go.ChangeShapes Go.WideShapes Go.ChangeAt Go.RowKit
open Go.ChangeMaps (open_string shut_string)
set_option linter.unusedVariables false

theorem own : ownKnob Try.prog.godebug = none := by kernel_rfl
theorem laidOut : laidOutB Try.prog = true := by kernel_rfl

theorem fault_alloc {w : World} (op : ByteArray) (n : Int) (k : Int) (hk : k ≠ 0) :
    Chain (w.alloc (.cells #[.string op, .int .i64 n, .iface 39 (.int .i64 k)] 41)) (.iface 38 (.pointer (some ⟨w.heap.size, 0, none⟩))) [Lk.fault op n, Lk.kind k] ∧
      Kp (fun _ => False) w (w.alloc (.cells #[.string op, .int .i64 n, .iface 39 (.int .i64 k)] 41)) :=
  ⟨.inr ⟨rfl, _, _, rfl, heap_alloc_new w _, .inl ⟨rfl, rfl, rfl, rfl, hk⟩⟩, (Kp.refl _ w).alloc _⟩
/-- the name of a number -/
def nmS (j : Nat) : ByteArray := ⟨#[110]⟩ ++ ⟨(dec j).toArray⟩
theorem nmS_data (j : Nat) : (nmS j).data.toList = 110 :: dec j := by
  unfold nmS
  rw [ByteArray.data_append]
  simp
theorem nmS_size (j : Nat) : 1 ≤ (nmS j).size ∧ (nmS j).size ≤ 22 := by
  have h : (nmS j).data.toList.length = (nmS j).size := Array.length_toList
  rw [nmS_data, List.length_cons] at h
  have := len_decF 21 j []
  unfold dec at h
  simp at this
  omega
theorem nmS_inj {a b : Nat} (ha : a < 64) (hb : b < 64) (h : nmS a = nmS b) : a = b := by
  have h1 := congrArg (fun s : ByteArray => s.data.toList) h
  simp only [nmS_data] at h1
  exact dec_inj (by omega) (by omega) (List.cons.inj h1).2
def moreS : ByteArray := ⟨#[109, 111, 114, 101]⟩
theorem nmS_more (j : Nat) : nmS j ≠ moreS := by
  intro h
  have h1 := congrArg (fun s : ByteArray => s.data.toList) h
  simp only [nmS_data] at h1
  have h2 := (List.cons.inj (h1.trans (show moreS.data.toList = [109, 111, 114, 101] from rfl))).1
  exact absurd h2 (by decide)
/-- the first i names are there -/
structure FullN (i : Nat) (ns : List Nm) : Prop where
  len : ns.length = i
  mem : ∀ n ∈ ns, ∃ j, j < i ∧ n = ⟨nmS j, j % 2⟩
  has : ∀ j, j < i → whose ns (nmS j) = some (j % 2)
theorem FullN.none {i : Nat} {ns : List Nm} (h : FullN i ns) (hi : i < 64) : whose ns (nmS i) = .none := by
  cases hw : whose ns (nmS i) with
  | none => rfl
  | some p =>
    obtain ⟨j, hj, e⟩ := h.mem _ (whose_some hw)
    have e1 := nmS_inj (by omega) (by omega) (congrArg Nm.txt e)
    omega
theorem FullN.more {i : Nat} {ns : List Nm} (h : FullN i ns) : whose ns moreS = .none := by
  cases hw : whose ns moreS with
  | none => rfl
  | some p =>
    obtain ⟨j, hj, e⟩ := h.mem _ (whose_some hw)
    exact absurd (congrArg Nm.txt e).symm (nmS_more j)
theorem FullN.put {i : Nat} {ns : List Nm} (h : FullN i ns) (hi : i < 64) (ho : ns.Pairwise NmLt) : FullN (i + 1) (putNm ns ⟨nmS i, i % 2⟩) := by
  refine ⟨by rw [putNm_len, h.len], fun n hn => ?_, fun j hj => ?_⟩
  · rcases putNm_mem.1 hn with rfl | hn
    · exact ⟨i, by omega, rfl⟩
    · obtain ⟨j, hj, e⟩ := h.mem n hn
      exact ⟨j, by omega, e⟩
  · rw [whose_putNm ho (h.none hi)]
    by_cases e : j = i
    · subst e; rw [if_pos rfl]
    · rw [if_neg (fun e2 => e (nmS_inj (by omega) (by omega) e2))]
      exact h.has j (by omega)
theorem two_kind (j : Nat) : kindAt (firstN 2) ((j % 2 : Nat) : Int) = 0 := by rw [firstN_kind (by omega), if_pos (by omega)]
theorem FullN.may {i : Nat} {ns : List Nm} (h : FullN i ns) (hi : i < 64) : nameKind (firstN 2) ns (nmS i) ((i % 2 : Nat) : Int) = 0 := by
  have hs := nmS_size i
  unfold nameKind
  rw [if_neg (by omega), if_neg (by rw [two_kind]; decide), h.none hi, if_neg (by decide), if_neg (by rw [h.len]; omega)]
set_option maxHeartbeats 8000000 in
set_option maxRecDepth 100000 in
theorem walk (a0 : Int) (w : World) (w1 : (Lit.int .i64 a0).wf = true) :
    Calls Try.prog 4 #[.int .i64 a0] w fun e w' => e = .returned (.bool true) ∧ Below w.heap.size w w' := by
  obtain ⟨b1, b2⟩ := bounds_i64 w1
  clear w1
  obtain ⟨N, hN, hN2⟩ : ∃ K : Nat, a0 % 64 = K ∧ K < 64 := ⟨(a0 % 64).toNat, by omega, by omega⟩
  have HP := Lib.hid (fun w => place_any w a0 64 b1 b2 (by omega) (by omega))
  rw [hN] at HP
  have HNW := Lib.hid (show Calls Try.prog 9 #[.int .i64 2] w _ from ts_new (C := noC) w 2 (by omega) (by omega) (fun _ e => e.elim))
  clear hN b1 b2
  go_enter Try.func4, Try.ntmps4
  go_wp2_with fail
  refine HNW.out.mono ?_
  rintro e w1 ⟨b, rfl, h1, -⟩
  have HA := Lib.hid (show Calls Try.prog 11 #[.pointer (some ⟨b, 0, none⟩)] w1 (fun e w' => e = .returned (.tuple #[.int .i64 0, .nilIface]) ∧ TS w noC w' b 2 64 (firstN 1) [] ∧ _) from ts_add_first (n := 0) h1 (by omega) (by omega))
  clear h1 HNW
  go_wp2_with fail
  refine HA.out.mono ?_
  rintro e w2 ⟨rfl, h2, -⟩
  have HA2 := Lib.hid (show Calls Try.prog 11 #[.pointer (some ⟨b, 0, none⟩)] w2 (fun e w' => e = .returned (.tuple #[.int .i64 1, .nilIface]) ∧ TS w noC w' b 2 128 (firstN 2) [] ∧ _) from ts_add_first (n := 1) h2 (by omega) (by omega))
  clear h2 HA
  go_wp2_with fail
  refine HA2.out.mono ?_
  rintro e w3 ⟨rfl, h3, -⟩
  have H3 := Lib.hid h3
  clear h3 HA2
  go_wp2_with fail
  go_loopg [5] 64 (fun gk s5 wr => ∃ i : Nat, i ≤ 64 ∧ gk = 64 - i ∧ s5 = .int .i64 (i : Nat) ∧ Hid (∃ ns, TS w noC wr b 2 128 (firstN 2) ns ∧ FullN i ns))
  case atStart => exact ⟨0, by omega, rfl, rfl, Lib.hid ⟨[], H3.out, ⟨rfl, fun n hn => by simp at hn, fun j hj => by omega⟩⟩⟩
  case round =>
    obtain ⟨i, hi, rfl, rfl, HT⟩ := hrel
    clear H3
    by_cases hlt : i < 64
    · have hli : (i : Int) < 64 := by omega
      have HD := Lib.hid (dec_any i wr (by omega))
      have hsz : (⟨(dec i).toArray⟩ : ByteArray).size ≤ 21 := len_decF 21 i []
      have hsz2 : (dec i).length ≤ 21 := len_decF 21 i []
      have him : (i : Int).tmod 2 = ((i % 2 : Nat) : Int) := by
        rw [Int.tmod_eq_emod_of_nonneg (by omega)]; omega
      have him2 : (i : Int) % 2 = ((i % 2 : Nat) : Int) := by omega
      obtain ⟨R, hR⟩ : ∃ R, i % 2 = R := ⟨_, rfl⟩
      have HR : Hid (Calls Try.prog 17 #[.pointer (some ⟨b, 0, none⟩), .string (⟨#[110]⟩ ++ ⟨(dec i).toArray⟩), .int .i64 (R : Nat)] wr (fun e w' => e = .returned .nilIface ∧ Hid (∃ ns, TS w noC w' b 2 128 (firstN 2) ns ∧ FullN (i + 1) ns))) := by
        obtain ⟨ns, h, hf⟩ := HT.out
        refine Lib.hid ((ts_reg h (nmS i) R (by rw [← hR]; exact hf.may hlt)).mono ?_)
        rintro e w' ⟨rfl, h2, -⟩
        exact ⟨rfl, Lib.hid ⟨_, h2, by rw [← hR]; exact hf.put hlt h.ord⟩⟩
      rw [hR] at him him2
      clear HT hR
      go_wp2_with (go_at_call 19; refine HD.out.mono ?_; rintro e w' ⟨rfl, rfl⟩)
      refine HR.out.mono ?_
      rintro e w2 ⟨rfl, H2⟩
      clear HR HD him him2 hsz hsz2
      go_wp2_with fail
      go_roundg (64 - (i + 1))
      case measure => omega
      case rel => exact ⟨i + 1, by omega, rfl, by go_num, H2⟩
    · obtain rfl : i = 64 := by omega
      obtain ⟨ns, hts, hf⟩ := HT.out
      have HT2 := Lib.hid (And.intro hts hf)
      have HD := Lib.hid (fun w => dec_any N w (by omega))
      have hsz : (⟨(dec N).toArray⟩ : ByteArray).size ≤ 21 := len_decF 21 N []
      have hsz2 : (dec N).length ≤ 21 := len_decF 21 N []
      have hNk := two_kind N
      have hM : nameKind (firstN 2) ns moreS 0 = 2 := by
        unfold nameKind
        rw [if_neg (by decide), if_neg (by rw [show kindAt (firstN 2) 0 = 0 from by decide]; decide), hf.more, if_neg (by decide), if_pos hf.len]
      have hK : nameKind (firstN 2) ns (nmS N) ((N % 2 : Nat) : Int) = 5 := by
        have := nmS_size N
        unfold nameKind
        rw [if_neg (by omega), if_neg (by rw [two_kind]; decide), hf.has N hN2, if_pos (by rfl)]
      have hRM := ts_reg_bad hts moreS (by decide) 0 (by rw [hM]; decide)
      rw [hM] at hRM
      have HM := Lib.hid (show Calls Try.prog 17 #[.pointer (some ⟨b, 0, none⟩), .string ⟨#[109, 111, 114, 101]⟩, .int .i64 0] wr (EBad wr (fun v => v) [Lk.fault ⟨#[114, 101, 103, 105, 115, 116, 101, 114]⟩ 4, Lk.kind 2]) from hRM)
      have him : (N : Int).tmod 2 = ((N % 2 : Nat) : Int) := by
        rw [Int.tmod_eq_emod_of_nonneg (by omega)]; omega
      have him2 : (N : Int) % 2 = ((N % 2 : Nat) : Int) := by omega
      obtain ⟨R, hR⟩ : ∃ R, N % 2 = R := ⟨_, rfl⟩
      rw [hR] at him him2 hK
      have HK : Hid (∀ wd, TS w noC wd b 2 128 (firstN 2) ns → Calls Try.prog 17 #[.pointer (some ⟨b, 0, none⟩), .string (⟨#[110]⟩ ++ ⟨(dec N).toArray⟩), .int .i64 (R : Nat)] wd
          (EBad wd (fun v => v) [Lk.fault ⟨#[114, 101, 103, 105, 115, 116, 101, 114]⟩ ((⟨#[110]⟩ ++ ⟨(dec N).toArray⟩ : ByteArray).size : Nat), Lk.kind 5])) := by
        refine Lib.hid fun wd h => ?_
        have := ts_reg_bad h (nmS N) (by have := nmS_size N; unfold maxLen; omega) ((R : Nat) : Int) (by rw [hK]; decide)
        rw [hK] at this
        exact this
      have HU : Hid (∀ wd, TS w noC wd b 2 128 (firstN 2) ns → Calls Try.prog 20 #[.pointer (some ⟨b, 0, none⟩), .string (⟨#[110]⟩ ++ ⟨(dec N).toArray⟩)] wd (fun e w' => e = .returned .nilIface ∧ TS w noC w' b 2 128 (firstN 2) (butFor ns (nmS N)) ∧ Kp (fun q => ¬ noC q) wd w')) := by
        refine Lib.hid fun wd h => ?_
        exact ts_unreg (s := nmS N) h (by have := nmS_size N; unfold maxLen; omega) (hf.has N hN2)
      have hlb : (butFor ns (nmS N)).length = 63 := by
        have := length_filter_txt hts.ord (nmS N)
        rw [hf.has N hN2, if_pos (by rfl), hf.len] at this
        omega
      have hwb : whose (butFor ns (nmS N)) (nmS N) = none := by
        unfold butFor
        rw [whose_filter hts.ord, hf.has N hN2]
        simp
      have hmb : whose (butFor ns (nmS N)) moreS = none := by
        unfold butFor
        rw [whose_filter hts.ord, hf.more]
      have hMb : nameKind (firstN 2) (butFor ns (nmS N)) moreS ((0 : Nat) : Int) = 0 := by
        unfold nameKind
        rw [if_neg (by decide), if_neg (by rw [show kindAt (firstN 2) ((0 : Nat) : Int) = 0 from by decide]; decide), hmb, if_neg (by decide), if_neg (by rw [hlb]; decide)]
      have HW : Hid (∀ wd, TS w noC wd b 2 128 (firstN 2) (butFor ns (nmS N)) → Calls Try.prog 21 #[.pointer (some ⟨b, 0, none⟩), .string (⟨#[110]⟩ ++ ⟨(dec N).toArray⟩)] wd
          (EBad wd (fun v => .tuple #[.int .i64 (-1), v]) [Lk.fault ⟨#[110, 97, 109, 101]⟩ ((nmS N).size : Nat), Lk.kind 3])) := by
        refine Lib.hid fun wd h => ?_
        exact ts_whereis_bad (s := nmS N) h (by have := nmS_size N; unfold maxLen; omega) hwb
      have HM2 : Hid (∀ wd, TS w noC wd b 2 128 (firstN 2) (butFor ns (nmS N)) → Calls Try.prog 17 #[.pointer (some ⟨b, 0, none⟩), .string ⟨#[109, 111, 114, 101]⟩, .int .i64 0] wd
          (fun e w' => e = .returned .nilIface ∧ TS w noC w' b 2 128 (firstN 2) (putNm (butFor ns (nmS N)) ⟨moreS, 0⟩) ∧ Kp (fun q => ¬ noC q) wd w')) := by
        refine Lib.hid fun wd h => ?_
        exact ts_reg h moreS 0 hMb
      have hlen : (txts (putNm (butFor ns (nmS N)) ⟨moreS, 0⟩)).length = 64 := by unfold txts; rw [List.length_map, putNm_len, hlb]
      have HLE := Lib.hid hlen
      clear hM hK hRM hR hlb hwb hmb hMb hlen hts hf hNk HT hlt hi
      go_wp2_with fail
      refine (HP.out _).mono ?_
      rintro e w' ⟨rfl, rfl⟩
      clear HP
      go_wp2_with (go_at_call 19; refine (HD.out _).mono ?_; rintro e w' ⟨rfl, rfl⟩)
      generalize (⟨#[110]⟩ ++ ⟨(dec N).toArray⟩ : ByteArray) = S at HK HU HW ⊢
      refine HM.out.mono ?_
      rintro e w4 ⟨u, rfl, hu, hk4⟩
      obtain ⟨g4, rfl⟩ := hu.out.form
      have H4 := Lib.hid (HT2.out.1.same hk4)
      have HU4 := Lib.hid hu.out
      clear hu hk4 HM HD hsz hsz2
      go_wp2_with fail
      refine (HK.out _ H4.out).mono ?_
      rintro e w5 ⟨u, rfl, hu, hk5⟩
      obtain ⟨g5, rfl⟩ := hu.out.form
      have H5 := Lib.hid (H4.out.same hk5)
      have HU5 := Lib.hid (And.intro (Chain.kp hk5 _ _ HU4.out) hu.out)
      clear hu hk5 HK H4 HU4
      go_wp2_with fail
      refine (err_any _ _ _ _ (by simp) (Chain.kp (fault_alloc _ _ _ (by decide)).2 _ _ HU5.out.1) (fault_alloc _ _ _ (by decide)).1).mono ?_
      rintro e w6 ⟨rfl, hk6⟩
      have hk56 := (fault_alloc (w := w5) _ _ _ (by decide)).2.trans' hk6
      have H6 := Lib.hid (H5.out.same hk56)
      have HU6 := Lib.hid (Chain.kp hk56 _ _ HU5.out.2)
      clear hk6 hk56 H5 HU5
      go_wp2_with fail
      refine (err_any _ _ _ _ (by simp) (Chain.kp (fault_alloc _ _ _ (by decide)).2 _ _ HU6.out) (fault_alloc _ _ _ (by decide)).1).mono ?_
      rintro e w7 ⟨rfl, hk7⟩
      have H7 := Lib.hid (H6.out.same ((fault_alloc (w := w6) _ _ _ (by decide)).2.trans' hk7))
      clear hk7 H6 HU6
      go_wp2_with fail
      refine (HU.out _ H7.out).mono ?_
      rintro e w8 ⟨rfl, h8, -⟩
      have H8 := Lib.hid h8
      clear h8 HU H7
      go_wp2_with fail
      refine (HW.out _ H8.out).mono ?_
      rintro e w9 ⟨u, rfl, hu, hk9⟩
      obtain ⟨g9, rfl⟩ := hu.out.form
      have H9 := Lib.hid (H8.out.same hk9)
      clear hu hk9 HW H8
      go_wp2_with fail
      refine (HM2.out _ H9.out).mono ?_
      rintro e w10 ⟨rfl, h10, -⟩
      have HN := Lib.hid (ts_names h10)
      have H10 := Lib.hid h10
      clear h10 HM2 H9
      go_wp2_with fail
      refine HN.out.mono ?_
      rintro e w11 ⟨vn, rfl, hsw, -, hk11⟩
      obtain ⟨pn, cn, rfl⟩ := hsw.form
      have H11 := Lib.hid (H10.out.same hk11).kp0
      rw [HLE.out]
      clear hsw hk11 HN H10
      go_wp2_with fail
      refine (tbAwake_any _).mono ?_
      rintro e w12 ⟨rfl, hk12⟩
      have H12 := Lib.hid (H11.out.trans' hk12)
      clear hk12
      go_wp2_with fail
      go_ret
      exact ⟨rfl, H12.out.below _ (Nat.le_refl _) (fun _ e => e.elim)⟩

set_option maxRecDepth 100000 in
theorem lifted (os : Os) (started : os.Started) (H : Type) (enc : TypeId × Value → H) :
    ReturnsInHanded {} Try.checked os 4 .any (Rows.tableFullSpec.pre6 enc Try.prog Try.f4 Rows.tableFullRow.domain false) (Rows.tableFullSpec.post enc Try.prog Try.f4 false true false false) := by
  refine returnsInHanded_of_change (C := Try.checked) own started (by kernel_rfl) Try.func4
    (ChangeSpec.witness6 (enc := enc) (C := Try.checked) false ⟨#[], #[.int .i64 0], []⟩ 8 (by kernel_rfl) (by kernel_rfl) (by kernel_rfl) (by kernel_rfl)) ?_
  intro W base args ds gs before hval0 hW hcnd _
  have hval : ∀ (j : Nat) t v, Try.f4.params[j]? = some t → args[j]? = some v → Value.okWide Try.prog W .any base t v := hval0
  have hW' := hW
  obtain ⟨p, q, hA0, hV, rfl, hfz, hnd⟩ := hW
  have hA : DataW.TrodAll enc Try.prog W 0 (fun _ => true) true Try.f4.params.toList args.toList ds p := hA0
  rw [Try.params4] at hA hval
  obtain ⟨v0, vs0, d0, ds0, p0, q0, hargs, rfl, rfl, h0, r0⟩ := trodAll_cons hA
  obtain ⟨rfl, rfl, rfl⟩ := trodAll_nil r0
  obtain rfl : args = #[v0] := by cases args; simp_all
  obtain ⟨rfl, rfl⟩ := trodVars_none hV
  obtain ⟨a0, rfl, rfl, rfl, w0⟩ := open_int Try.underlying3 (hval 0 3 v0 rfl rfl) h0
  clear hA0 hval0
  simp only [List.append_nil] at hW'
  refine (walk a0 W w0).mono fun e W' ⟨he, bel⟩ => ?_
  subst he
  exact ⟨_, rfl, _, _, _, [], _, [], hW', trodAll_mk1 (shut_bool Try.underlying4 _), (trodAll_cons_mk (shut_int Try.underlying3 w0) trodAll_mk0), rfl, bel.frame _, fun h => by cases h⟩

theorem over : Rows.tableFullRow.holds Try.pinned (OpenSpec.ofChange Rows.tableFullSpec) :=
  OpenClaim.holds_of_wide 4 Try.f4 rfl rfl rfl rfl rfl rfl rfl ⟨rfl, rfl, rfl, rfl, rfl⟩ rfl rfl rfl rfl rfl (by kernel_rfl) Try.func4 (by kernel_rfl)
    (of_decide_eq_true (by kernel_rfl)) (by unfold Func.isWrapper; first | (rw [if_pos (by decide +kernel)]; kernel_rfl) | (rw [if_neg (by decide +kernel)]; exact ⟨rfl, rfl⟩))
    (fun os started H enc _ => lifted os started H enc)

theorem proved : Rows.TableFullSaid := over
#print axioms proved
end Go.Proofs.Ytdcmdidikengbaa.tableFull
