/- The document's own table: Whereis, Names. -/
import Derived.Test.YtdcmdidikengbaaTbRef4
namespace Go.Proofs.Ytdcmdidikengbaa
open Go.RowKit
set_option linter.unusedVariables false

section
variable {F : Nat → Prop} {w w' : World} {b g1 g2 size B : Nat} {v : Value} {sl : List Sg} {ns : List Nm} {p : Int} {s : ByteArray}
theorem str_eq_false {a c : ByteArray} (h : a ≠ c) : (a.toList == c.toList) = false := by
  rw [beq_eq_false_iff_ne, ByteArray.toList_eq, ByteArray.toList_eq]
  exact fun e => h (txt_ext e)
theorem RT.ncell (h : RT w b g1 g2 v size sl ns) {i : Nat} {x : Nm} (hi : ns[i]? = some x) : ∃ g cap, v = .slice (some ⟨g, 0, none⟩) ns.length cap ∧ ns.length ≤ cap ∧ cap ≤ 9223372036854775807 ∧
    w.cell? ⟨g, i * 2, none⟩ = some (.string x.txt) ∧ w.cell? ⟨g, i * 2 + 1, none⟩ = some (.int .i64 (x.pid : Nat)) := by
  obtain ⟨q0, q1⟩ := nmCells_get ns i x hi
  obtain ⟨g, cap, e, h1, h2, h3⟩ := ownsS_get h.nms _ _ q0
  obtain ⟨g', cap', e', _, _, h4⟩ := ownsS_get h.nms _ _ q1
  rw [e] at e'
  injection e' with e1 _ e2
  injection e1 with e1
  injection e1 with e1
  subst e1
  exact ⟨g, cap, e, h1, h2, h3, h4⟩
theorem whose_end (hno : ∀ j x, j < ns.length → ns[j]? = some x → x.txt ≠ s) : whose ns s = none := by
  cases hw : whose ns s with
  | none => rfl
  | some p =>
    obtain ⟨j, hj, e⟩ := List.getElem_of_mem (whose_some hw)
    exact absurd rfl (hno j _ hj (by rw [List.getElem?_eq_getElem hj, e]))
/-- what Whereis tells -/
def XWhereTo (ns : List Nm) (s : ByteArray) (w : World) (e : Ending) (w' : World) : Prop :=
  (∃ q : Nat, whose ns s = some q ∧ e = .returned (.tuple #[.int .i64 (q : Nat), .pointer none]) ∧ w = w') ∨
    (whose ns s = none ∧ ∃ x, XCh w' (.pointer (some ⟨x, 0, none⟩)) [Lk.fault ⟨#[110, 97, 109, 101]⟩ (s.size : Nat), Lk.kind 3] ∧ e = .returned (.tuple #[.int .i64 (-1), .pointer (some ⟨x, 0, none⟩)]) ∧ Kp (fun _ => False) w w')
set_option maxRecDepth 100000 in
set_option maxHeartbeats 4000000 in
theorem xtwhere_any (h : RT w b g1 g2 v size sl ns) (ho : ns.Pairwise NmLt) (hl : ns.length ≤ 64) (s : ByteArray) (hs : s.size ≤ maxLen) :
    Calls Try.prog 33 #[.pointer (some ⟨b, 0, none⟩), .string s] w (XWhereTo ns s w) := by
  obtain ⟨-, -, -, c3, -⟩ := h.facts
  obtain ⟨po, cap, rfl, hcap, hcap2⟩ := ownsS_form h.nms
  obtain ⟨n, hn⟩ : ∃ n, ns.length = n := ⟨_, rfl⟩
  have HN := Lib.hid (And.intro hn ho)
  obtain ⟨V, hV⟩ : ∃ V, Value.slice po ns.length cap = V := ⟨_, rfl⟩
  rw [hV] at h
  have HV := Lib.hid hV
  have HT := Lib.hid h
  have HB := Lib.hid (xbad1 w (fun v => .tuple #[.int .i64 (-1), v]) ⟨#[110, 97, 109, 101]⟩ (s.size : Nat) 3 0)
  rw [hn] at c3 hcap hl
  have hsz : (s.size : Int) ≤ 9223372036854775807 := by unfold maxLen at hs; omega
  clear h hn hV ho
  go_enter Try.func33, Try.ntmps33
  go_wp2_with fail
  go_loopg [6] n (fun gk s6 wr => ∃ i : Nat, i ≤ n ∧ gk = n - i ∧ s6 = .int .i64 (i : Nat) ∧ Hid (∀ j x, j < i → ns[j]? = some x → x.txt ≠ s) ∧ w = wr)
  case atStart => exact ⟨0, by omega, rfl, rfl, Lib.hid (fun j x hj => by omega), rfl⟩
  case round =>
    obtain ⟨i, hi, rfl, rfl, HNO, rfl⟩ := hrel
    by_cases hlt : i < n
    · have hli : (i : Int) < n := by omega
      obtain ⟨x, hx⟩ : ∃ x, ns[i]? = some x := ⟨_, List.getElem?_eq_getElem (by rw [HN.out.1]; exact hlt)⟩
      obtain ⟨g, cp, e1, -, -, d0, d1⟩ := HT.out.ncell hx
      rw [← HV.out] at e1
      obtain ⟨rfl, rfl⟩ : po = some ⟨g, 0, none⟩ ∧ cap = cp := by
        injection e1 with e1 _ e2
        exact ⟨e1, e2⟩
      have HX := Lib.hid hx
      by_cases he : x.txt = s
      · have hw := whose_mem HN.out.2 (List.mem_of_getElem? hx)
        rw [he] at hw d0
        obtain ⟨q, hq⟩ : ∃ q, x.pid = q := ⟨_, rfl⟩
        rw [hq] at hw d1
        have HW := Lib.hid hw
        clear hx e1 he hw hq
        go_wp2_with fail
        go_ret2
        exact .inl ⟨q, HW.out, rfl, rfl⟩
      · have hb := str_eq_false he
        have HE := Lib.hid he
        obtain ⟨T, hT⟩ : ∃ T, x.txt = T := ⟨_, rfl⟩
        rw [hT] at d0 hb
        clear hx e1 he hT
        go_wp2_with fail
        go_roundg (n - (i + 1))
        case measure => omega
        case rel =>
          refine ⟨i + 1, by omega, rfl, by go_num, Lib.hid ?_, rfl⟩
          intro j y hj hy
          by_cases ej : j = i
          · subst ej
            rw [HX.out] at hy
            obtain rfl := Option.some.inj hy
            exact HE.out
          · exact HNO.out j y (by omega) hy
    · obtain rfl : n = i := by omega
      have HW := Lib.hid (whose_end (fun j x hj => HNO.out j x (by rw [← HN.out.1]; exact hj)))
      go_wp2_with (first | (go_at_call 47; refine (k_any _ _).mono ?_; rintro e w1 ⟨rfl, rfl⟩) | (go_at_call 46; refine (f14_any _ _ _ _).mono ?_; rintro e w1 ⟨rfl, rfl⟩))
      go_ret2
      obtain ⟨u, e1, e2, e3⟩ := HB.out
      refine .inr ⟨HW.out, _, ?_, rfl, e3⟩
      have : u = .pointer (some ⟨w.heap.size + 1, 0, none⟩) := by
        injection e1 with e1
        injection e1 with e1
        injection e1 with e1
        have := congrArg (fun l : List Value => l.getD 1 .nilIface) e1
        exact this.symm
      rw [← this]
      exact e2
set_option maxRecDepth 100000 in
set_option maxHeartbeats 4000000 in
theorem xtnames_any (h : RT w b g1 g2 v size sl ns) (hl : ns.length ≤ 64) : Calls Try.prog 35 #[.pointer (some ⟨b, 0, none⟩)] w (SortedTo ns w) := by
  obtain ⟨-, -, -, c3, -⟩ := h.facts
  obtain ⟨po, cap, rfl, hcap, hcap2⟩ := ownsS_form h.nms
  obtain ⟨n, hn⟩ : ∃ n, ns.length = n := ⟨_, rfl⟩
  have HN := Lib.hid hn
  obtain ⟨V, hV⟩ : ∃ V, Value.slice po ns.length cap = V := ⟨_, rfl⟩
  rw [hV] at h
  have HV := Lib.hid hV
  have HT := Lib.hid h
  rw [hn] at c3 hcap hl
  clear h hn hV
  go_enter Try.func35, Try.ntmps35
  go_wp2_with fail
  go_loopg [3, 4] n (fun gk s3 s4 wr => ∃ (i : Nat) (u : Value), i ≤ n ∧ gk = n - i ∧ s3 = u ∧ s4 = .int .i64 (i : Nat) ∧ Hid (Sw wr u (txts (ns.take i)) ∧ (∀ g, u.ownBlock = some g → w.heap.size ≤ g)) ∧ Kp (fun _ => False) w wr)
  case atStart => exact ⟨0, _, by omega, rfl, rfl, rfl, Lib.hid ⟨Sw.nil _, fun g hg => by cases hg⟩, Kp.refl _ w⟩
  case round =>
    obtain ⟨i, u, hi, rfl, hu, rfl, HB, hkp⟩ := hrel
    obtain rfl := hu.symm
    have hT := HT.out.same hkp
    obtain ⟨-, -, -, k3, -⟩ := hT.facts
    rw [← HV.out, HN.out] at k3
    have HK := Lib.hid hkp
    clear hkp
    by_cases hlt : i < n
    · have hli : (i : Int) < n := by omega
      obtain ⟨x, hx⟩ : ∃ x, ns[i]? = some x := ⟨_, List.getElem?_eq_getElem (by rw [HN.out]; exact hlt)⟩
      obtain ⟨g, cp, e1, -, -, d0, d1⟩ := hT.ncell hx
      rw [← HV.out] at e1
      obtain ⟨rfl, rfl⟩ : po = some ⟨g, 0, none⟩ ∧ cap = cp := by
        injection e1 with e1 _ e2
        exact ⟨e1, e2⟩
      have htk : ns.take (i + 1) = ns.take i ++ [x] := by rw [List.take_add_one, hx]; rfl
      have hul : (txts (ns.take i)).length ≤ 64 := by unfold txts; rw [List.length_map, List.length_take]; omega
      obtain ⟨g3, cap3, w3, hr3, ho3, hk3, hg3, hl3⟩ := texts_push HB.out.1 (by omega) (by omega) x.txt
      rw [show txts (ns.take i) ++ [x.txt] = txts (ns.take (i + 1)) from by rw [htk]; simp [txts]] at ho3
      have HG3 : Hid (Sw w3 (.slice (some ⟨g3, 0, none⟩) ((txts (ns.take i)).length + 1) cap3) (txts (ns.take (i + 1))) ∧ (∀ g, (Value.slice (some ⟨g3, 0, none⟩) ((txts (ns.take i)).length + 1) cap3).ownBlock = some g → w.heap.size ≤ g) ∧ Kp (fun _ => False) w w3) := by
        have hz := HK.out.size
        refine Lib.hid ⟨ho3, fun g hg => ?_, HK.out.trans (hk3.mono fun q hq e => .inr ⟨HB.out.2 q e, hq⟩)⟩
        have e2 : g3 = g := by injection hg
        subst e2
        rcases hg3 with e3 | e3
        · exact HB.out.2 _ e3
        · omega
      have HR := Lib.hid hr3
      obtain ⟨W3, hW3⟩ : ∃ x, Value.slice (some ⟨g3, 0, none⟩) ((txts (ns.take i)).length + 1) cap3 = x := ⟨_, rfl⟩
      rw [hW3] at HG3 HR
      obtain ⟨T, hT2⟩ : ∃ T, x.txt = T := ⟨_, rfl⟩
      rw [hT2] at d0 HR
      clear hT hx e1 htk hul ho3 hk3 hg3 hl3 hr3 hW3 hT2
      go_wp2_with (at_builtin; refine wpList_run rfl _ _ 32 rfl u (.slice (some ⟨wr.heap.size, 0, none⟩) 1 1) rfl rfl _ w3 HR.out ?_)
      go_roundg (n - (i + 1))
      case measure => omega
      case rel => exact ⟨i + 1, _, by omega, rfl, rfl, by go_num, Lib.hid ⟨HG3.out.1, HG3.out.2.1⟩, HG3.out.2.2⟩
    · obtain rfl : n = i := by omega
      have HE := HB.out
      rw [List.take_of_length_le (by rw [HN.out]; exact Nat.le_refl _)] at HE
      have HE2 := Lib.hid HE
      clear HE hT
      go_wp2_with fail
      go_ret
      exact ⟨_, rfl, HE2.out.1, HE2.out.2, HK.out⟩
end
end Go.Proofs.Ytdcmdidikengbaa
