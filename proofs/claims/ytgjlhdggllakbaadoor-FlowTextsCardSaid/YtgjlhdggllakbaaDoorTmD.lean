/- Texts of fields over the machine; FlowTexts. -/
import Derived.Test.YtgjlhdggllakbaaDoorFtA
import Derived.Test.YtgjlhdggllakbaaDoorTmC
import Derived.Test.YtgjlhdggllakbaaDoorTxG
namespace Go.Proofs.YtgjlhdggllakbaaDoor.Vm
open Go
set_option maxRecDepth 100000
set_option linter.unusedSimpArgs false
set_option linter.unusedVariables false
attribute [-simp] List.getD_eq_getElem?_getD

/-- the text of a field, or none -/
def txF (W Q : Int) (D : List Int) (P : List Ed) : ByteArray := if validP W Q D P = 0 then bA (fmtF W.toNat Q.toNat D P) else ⟨#[]⟩
section
variable {lim : Nat} {H : Hp} {K : V → Hp → Prop} {v d p : V} {D : List Int} {P : List Ed} {W Q x y u : Int} {w q : Nat}
theorem flow_Format (hg : HX glHp H) (hd : SlV H d D) (hp : EdV H p P) (hW : I64 W) (hQ : I64 Q) (hl : D.length ≤ 100000 ∧ P.length ≤ 100000) (hlim : lim ≤ H.length) (hK : ∀ H', HX H H' → K (.tup [.str (txF W Q D P), .int .i64 (validP W Q D P)]) H') : VCall tbl lim 15 [.agg [.int .i64 W, .int .i64 Q, d, p]] H K := by
  refine VCall_fn tbl_at15 rfl ?_
  simp [vf15, hd.stor, hp.stor]
  refine flow_Validate hd hp hW hQ hl hlim fun H1 x1 => ?_
  replace x1 : HX H H1 := x1
  have l1 := x1.len
  by_cases he : validP W Q D P = 0
  case neg =>
    simp [he]
    have := hK H1 x1
    rw [txF, if_neg he] at this
    exact this
  have hK2 := hK
  rw [txF, if_pos he, he] at hK2
  obtain ⟨w, q, rfl, rfl, hf⟩ := valid_pre he
  simp only [Int.toNat_natCast] at hK2
  have hw := hf.w1
  have hq := hf.q1
  have hpl := hf.pl
  have hdl : D.length ≤ 144 := by
    have h1 := hf.dl
    have h2 : (w : Int) * q ≤ 12 * 12 := Int.mul_le_mul (by omega) (by omega) (by omega) (by omega)
    omega
  have ldw := dd_small (u := w) (by omega)
  have ldq := dd_small (u := q) (by omega)
  obtain ⟨A0, hA0⟩ : ∃ A, A = ([102, 108, 111, 119, 32] : List UInt8) := ⟨_, rfl⟩
  obtain ⟨B0, hB0⟩ : ∃ B, B = ([32] : List UInt8) := ⟨_, rfl⟩
  obtain ⟨C0, hC0⟩ : ∃ C, C = ([44] : List UInt8) := ⟨_, rfl⟩
  obtain ⟨E0, hE0⟩ : ∃ C, C = ([47] : List UInt8) := ⟨_, rfl⟩
  have s0 : (⟨#[102, 108, 111, 119, 32]⟩ : ByteArray) = bA A0 := by rw [hA0]; rfl
  have s1 : (⟨#[32]⟩ : ByteArray) = bA B0 := by rw [hB0]; rfl
  have s2 : (⟨#[44]⟩ : ByteArray) = bA C0 := by rw [hC0]; rfl
  have s3 : (⟨#[47]⟩ : ByteArray) = bA E0 := by rw [hE0]; rfl
  have n0 : A0.length = 5 := by rw [hA0]; rfl
  have n1 : B0.length = 1 := by rw [hB0]; rfl
  have n2 : C0.length = 1 := by rw [hC0]; rfl
  have n3 : E0.length = 1 := by rw [hE0]; rfl
  have t1 := vadd_bA (l := A0) (m := Lib.decDigits w) (by omega)
  have t2 := vadd_bA (l := A0 ++ Lib.decDigits w) (m := B0) (by simp; omega)
  have t3 := vadd_bA (l := A0 ++ Lib.decDigits w ++ B0) (m := Lib.decDigits q) (by simp; omega)
  have t4 := vadd_bA (l := A0 ++ Lib.decDigits w ++ B0 ++ Lib.decDigits q) (m := B0) (by simp; omega)
  have eh : A0 ++ Lib.decDigits w ++ B0 ++ Lib.decDigits q ++ B0 = headF w q := by rw [hA0, hB0]; simp [headF, flowL]
  rw [eh] at t4
  obtain ⟨Dw, hDw⟩ : ∃ X, X = Lib.decDigits w := ⟨_, rfl⟩
  obtain ⟨Dq, hDq⟩ : ∃ X, X = Lib.decDigits q := ⟨_, rfl⟩
  rw [← hDw] at t1 t2 t3 t4
  rw [← hDq] at t3 t4
  have hhl : (headF w q).length ≤ 30 := by
    unfold headF flowL; simp; omega
  generalize A0 ++ Dw ++ B0 ++ Dq = A4 at t3 t4
  generalize A0 ++ Dw ++ B0 = A3 at t2 t3
  generalize A0 ++ Dw = A2 at t1 t2
  have hrw := fun i => rw_len (w := w) hf.dd (i := i)
  simp [he, hd.stor, hp.stor]
  refine itoa_t (n := w) (hg.trans x1) (Nat.le_refl _) (by omega) fun H2 x2 => ?_
  replace x2 : HX H1 H2 := x2
  have l2 := x2.len
  rw [← hDw]
  simp [s0, s1, t1, t2]
  refine itoa_t (n := q) (hg.trans (x1.trans x2)) (Nat.le_refl _) (by omega) fun H3 x3 => ?_
  replace x3 : HX H2 H3 := x3
  have l3 := x3.len
  rw [← hDq]
  have x13 := (x1.trans x2).trans x3
  simp [s0, s1, t3, t4, hd.len]
  refine wLoop_up D.length (fun i fr L H' => (fr 1 = .lp 0 0 ∧ fr 26 = d ∧ fr 27 = .int .i64 (D.length : Int) ∧ fr 28 = .int .i64 (i : Int) ∧ fr 5 = .str (bA (headF w q ++ rwF w D i))) ∧ L = [[.int .i64 (w : Int), .int .i64 (q : Int), d, p]] ∧ HX H3 H' ∧ i ≤ D.length) ⟨⟨by simp, by simp, by simp, by simp, by simp [rwF]⟩, rfl, .refl, by omega⟩ ?_
  rintro i hi fr L H4 ⟨⟨f1, f26, f27, f28, f5⟩, rfl, x4, hle⟩
  have l4 := x4.len
  have hd4 := hd.mono (x13.trans x4)
  have hp4 := hp.mono (x13.trans x4)
  by_cases hp0 : i < D.length
  · have hp' : ((i : Int) < (D.length : Int)) = True := eq_true (by omega)
    have hdd := hf.dd i
    obtain ⟨n, hn⟩ : ∃ n : Nat, D.getD i 0 = (n : Int) := ⟨(D.getD i 0).toNat, by omega⟩
    have hn7 : n ≤ 7 := by omega
    have hnt : (D.getD i 0).toNat = n := by omega
    have ldn := dd_small (u := n) (by omega)
    have had := hd4.addr (i := (i : Int)) ⟨by omega, by omega⟩
    have hld := hd4.load (i := i) hp0 (L := [[.int .i64 (w : Int), .int .i64 (q : Int), d, p]])
    rw [hn] at hld
    have hr := hrw i
    have rm : Int.tmod (i : Int) (w : Int) = ((i % w : Nat) : Int) := by rw [Int.tmod_eq_emod_of_nonneg (by omega)]; omega
    have wne : (w : Int) ≠ 0 := by omega
    obtain ⟨T0, hT0⟩ : ∃ T, T = headF w q ++ rwF w D i := ⟨_, rfl⟩
    have hT0l : T0.length ≤ 5000 := by rw [hT0]; simp; omega
    have hnx : headF w q ++ rwF w D (i + 1) = T0 ++ ((if 0 < i ∧ i % w = 0 then [47] else []) ++ Lib.decDigits n) := by rw [hT0, rwF, hnt]; simp
    rw [← hT0] at f5
    have u1 := vadd_bA (l := T0) (m := E0) (by omega)
    have u2 := vadd_bA (l := T0 ++ E0) (m := Lib.decDigits n) (by simp; omega)
    have u3 := vadd_bA (l := T0) (m := Lib.decDigits n) (by omega)
    obtain ⟨Dn, hDn⟩ : ∃ X, X = Lib.decDigits n := ⟨_, rfl⟩
    rw [← hDn] at u2 u3 hnx
    obtain ⟨m, hm⟩ : ∃ m : Nat, m = i % w := ⟨_, rfl⟩
    rw [← hm] at rm hnx
    by_cases c1 : 0 < i
    case neg =>
      have c1' : ((0 : Int) < (i : Int)) = False := eq_false (by omega)
      have c1n : (0 < i) = False := eq_false c1
      rw [if_neg (fun h => c1 h.1), List.nil_append] at hnx
      generalize T0 ++ Dn = T2 at u3 hnx
      simp (disch := omega) [f1, f26, f27, f28, f5, hp', hd4.len, had, hld, c1', c1n, wrap_i64]
      refine itoa_t (n := n) (hg.trans (x13.trans x4)) (by first | exact Nat.le_refl _ | omega) (by omega) fun H9 x9 => ?_
      rw [← hDn]
      simp (disch := omega) [f1, f26, f27, f28, f5, u3, wrap_i64]
      rw [hnx]
      exact ⟨hp0, rfl, x4.trans x9, hp0⟩
    have c1' : ((0 : Int) < (i : Int)) = True := eq_true (by omega)
    have c1n : (0 < i) = True := eq_true c1
    by_cases c2 : m = 0
    · have c2' : ((m : Int) = 0) = True := eq_true (by omega)
      have c2n : (m = 0) = True := eq_true c2
      rw [if_pos ⟨c1, c2⟩, ← hE0] at hnx
      have hnx2 : headF w q ++ rwF w D (i + 1) = T0 ++ E0 ++ Dn := by rw [hnx]; simp
      generalize T0 ++ E0 ++ Dn = T2 at u2 hnx2
      generalize T0 ++ E0 = T1 at u1 u2
      simp (disch := omega) [f1, f26, f27, f28, f5, hp', hd4.len, had, hld, c1', c1n, c2', c2n, rm, wne, s3, u1, wrap_i64]
      refine itoa_t (n := n) (hg.trans (x13.trans x4)) (by first | exact Nat.le_refl _ | omega) (by omega) fun H9 x9 => ?_
      rw [← hDn]
      simp (disch := omega) [f1, f26, f27, f28, f5, u2, wrap_i64]
      rw [hnx2]
      exact ⟨hp0, rfl, x4.trans x9, hp0⟩
    · have c2' : ((m : Int) = 0) = False := eq_false (by omega)
      have c2n : (m = 0) = False := eq_false c2
      rw [if_neg (fun h => c2 h.2), List.nil_append] at hnx
      generalize T0 ++ Dn = T2 at u3 hnx
      simp (disch := omega) [f1, f26, f27, f28, f5, hp', hd4.len, had, hld, c1', c1n, c2', c2n, rm, wne, wrap_i64]
      refine itoa_t (n := n) (hg.trans (x13.trans x4)) (by first | exact Nat.le_refl _ | omega) (by omega) fun H9 x9 => ?_
      rw [← hDn]
      simp (disch := omega) [f1, f26, f27, f28, f5, u3, wrap_i64]
      rw [hnx]
      exact ⟨hp0, rfl, x4.trans x9, hp0⟩
  have hp' : ((i : Int) < (D.length : Int)) = False := eq_false (by omega)
  have hi2 : i = D.length := by omega
  subst hi2
  have hr := hrw D.length
  obtain ⟨T0, hT0⟩ : ∃ T, T = headF w q ++ rwF w D D.length := ⟨_, rfl⟩
  have hT0l : T0.length ≤ 5000 := by rw [hT0]; simp; omega
  rw [← hT0] at f5
  have hfin : fmtF w q D P = T0 ++ edsF P := by rw [fmtF_eq, hT0]
  rw [hfin] at hK2
  simp [f1, f26, f27, f28, f5, hp', hd4.len, hp4.len]
  refine wLoop_up P.length (fun i fr L H' => ∃ X, (fr 50 = p ∧ fr 51 = .int .i64 (P.length : Int) ∧ fr 52 = .int .i64 (i : Int) ∧ fr 5 = .str (bA (T0 ++ edsF (P.take i)))) ∧ L = [.int .i64 (w : Int), .int .i64 (q : Int), d, p] :: X ∧ HX H4 H' ∧ i ≤ P.length) ⟨[], ⟨by simp, by simp, by simp, by simp [edsF, f5]⟩, rfl, .refl, by omega⟩ ?_
  skip
  rintro i hi fr2 L H5 ⟨X, ⟨f50, f51, f52, f5⟩, rfl, x5, hle2⟩
  have l5 := x5.len
  have hp5 := hp4.mono x5
  have x15 := (x13.trans x4).trans x5
  by_cases hp1 : i < P.length
  · have hp' : ((i : Int) < (P.length : Int)) = True := eq_true (by omega)
    have heb := hf.edB (P.getD i default) (by simp [List.getD_eq_getElem?_getD, hp1])
    obtain ⟨g1, g2, g3⟩ := heb
    obtain ⟨a, ha⟩ : ∃ n : Nat, (P.getD i default).x = (n : Int) := ⟨(P.getD i default).x.toNat, by omega⟩
    obtain ⟨b, hb⟩ : ∃ n : Nat, (P.getD i default).y = (n : Int) := ⟨(P.getD i default).y.toNat, by omega⟩
    obtain ⟨c, hc⟩ : ∃ n : Nat, (P.getD i default).u = (n : Int) := ⟨(P.getD i default).u.toNat, by omega⟩
    have hnx := eds_take (P := P) (i := i) hp1
    have hel := eds_len (P := P.take i) fun x hx => hf.edB x (List.mem_of_mem_take hx)
    have htl : (P.take i).length ≤ 60 := by rw [List.length_take]; omega
    unfold edT at hnx
    have had := hp5.addr (i := (i : Int)) ⟨by omega, by omega⟩
    have hld : ∀ L, vload (some 3) L H5 (ept 3 p i) = some (.agg [.int .i64 (a : Int), .int .i64 (b : Int), .int .i64 (c : Int)]) := fun L => by rw [hp5.load hp1, ha, hb, hc]
    rw [ha, hb, hc, Int.toNat_natCast, Int.toNat_natCast, Int.toNat_natCast] at hnx
    have lda := dd_small (u := a) (by omega)
    have ldb := dd_small (u := b) (by omega)
    have ldc := dd_small (u := c) (by omega)
    have hTi : (T0 ++ edsF (P.take i)).length ≤ 10000 := by simp; omega
    have hnx2 : T0 ++ edsF (P.take (i + 1)) = T0 ++ edsF (P.take i) ++ (B0 ++ Lib.decDigits a ++ C0 ++ Lib.decDigits b ++ C0 ++ Lib.decDigits c) := by rw [hnx, hB0, hC0]; simp
    have v1 := vadd_bA (l := B0) (m := Lib.decDigits a) (by omega)
    have v2 := vadd_bA (l := B0 ++ Lib.decDigits a) (m := C0) (by simp; omega)
    have v3 := vadd_bA (l := B0 ++ Lib.decDigits a ++ C0) (m := Lib.decDigits b) (by simp; omega)
    have v4 := vadd_bA (l := B0 ++ Lib.decDigits a ++ C0 ++ Lib.decDigits b) (m := C0) (by simp; omega)
    have v5 := vadd_bA (l := B0 ++ Lib.decDigits a ++ C0 ++ Lib.decDigits b ++ C0) (m := Lib.decDigits c) (by simp; omega)
    have v6 := vadd_bA (l := T0 ++ edsF (P.take i)) (m := B0 ++ Lib.decDigits a ++ C0 ++ Lib.decDigits b ++ C0 ++ Lib.decDigits c) (by simp at hTi ⊢; omega)
    rw [← hnx2] at v6
    obtain ⟨Da, hDa⟩ : ∃ X, X = Lib.decDigits a := ⟨_, rfl⟩
    obtain ⟨Db, hDb⟩ : ∃ X, X = Lib.decDigits b := ⟨_, rfl⟩
    obtain ⟨Dc, hDc⟩ : ∃ X, X = Lib.decDigits c := ⟨_, rfl⟩
    rw [← hDa] at v1 v2 v3 v4 v5 v6
    rw [← hDb] at v3 v4 v5 v6
    rw [← hDc] at v5 v6
    clear hnx hnx2
    generalize B0 ++ Da ++ C0 ++ Db ++ C0 ++ Dc = B6 at v5 v6
    generalize B0 ++ Da ++ C0 ++ Db ++ C0 = B5 at v4 v5
    generalize B0 ++ Da ++ C0 ++ Db = B4 at v3 v4
    generalize B0 ++ Da ++ C0 = B3 at v2 v3
    generalize B0 ++ Da = B2 at v1 v2
    generalize T0 ++ edsF (P.take i) = Ti at v6 f5
    generalize hTn : T0 ++ edsF (P.take (i + 1)) = Tn at v6
    simp (disch := omega) [f50, f51, f52, f5, hp', hp5.len, had, hld, lastO, lastS, wrap_i64]
    refine itoa_t (n := a) (hg.trans x15) (by first | exact Nat.le_refl _ | omega) (by omega) fun H6 y6 => ?_
    replace y6 : HX H5 H6 := y6
    have m6 := y6.len
    rw [← hDa]
    simp (disch := omega) [f50, f51, f52, f5, s1, s2, v1, v2, lastO, lastS, wrap_i64]
    refine itoa_t (n := b) ((hg.trans x15).trans y6) (by first | exact Nat.le_refl _ | omega) (by omega) fun H7 y7 => ?_
    replace y7 : HX H6 H7 := y7
    have m7 := y7.len
    rw [← hDb]
    simp (disch := omega) [f50, f51, f52, f5, s1, s2, v3, v4, lastO, lastS, wrap_i64]
    refine itoa_t (n := c) (((hg.trans x15).trans y6).trans y7) (by first | exact Nat.le_refl _ | omega) (by omega) fun H8 y8 => ?_
    replace y8 : HX H7 H8 := y8
    have m8 := y8.len
    rw [← hDc]
    simp (disch := omega) [f50, f51, f52, f5, s1, s2, v5, v6, lastO, lastS, wrap_i64]
    exact ⟨hp1, (((x5).trans y6).trans y7).trans y8, hp1⟩
  have hp' : ((i : Int) < (P.length : Int)) = False := eq_false (by omega)
  have hi2 : i = P.length := by omega
  subst hi2
  rw [List.take_length] at f5
  simp [f50, f51, f52, f5, hp', hp5.len]
  exact hK2 H5 x15
theorem ref03_Format (hg : HX glHp H) (hd : SlV H d D) (hp : EdV H p P) (hW : I64 W) (hQ : I64 Q) (hl : D.length ≤ 100000 ∧ P.length ≤ 100000) (hlim : lim ≤ H.length) (hK : ∀ H', HX H H' → K (.tup [.str (txF W Q D P), .int .i64 (validP W Q D P)]) H') : VCall tbl lim 16 [.agg [.int .i64 W, .int .i64 Q, d, p]] H K := by
  refine VCall_fn tbl_at16 rfl ?_
  simp [vf16, hd.stor, hp.stor]
  refine ref_Validate hd hp hW hQ hl hlim fun H1 x1 => ?_
  replace x1 : HX H H1 := x1
  have l1 := x1.len
  by_cases he : validP W Q D P = 0
  case neg =>
    simp [he]
    have := hK H1 x1
    rw [txF, if_neg he] at this
    exact this
  have hK2 := hK
  rw [txF, if_pos he, he] at hK2
  obtain ⟨w, q, rfl, rfl, hf⟩ := valid_pre he
  simp only [Int.toNat_natCast] at hK2
  have hw := hf.w1
  have hq := hf.q1
  have hpl := hf.pl
  have hdl : D.length ≤ 144 := by
    have h1 := hf.dl
    have h2 : (w : Int) * q ≤ 12 * 12 := Int.mul_le_mul (by omega) (by omega) (by omega) (by omega)
    omega
  have ldw := dd_small (u := w) (by omega)
  have ldq := dd_small (u := q) (by omega)
  obtain ⟨A0, hA0⟩ : ∃ A, A = ([102, 108, 111, 119, 32] : List UInt8) := ⟨_, rfl⟩
  obtain ⟨B0, hB0⟩ : ∃ B, B = ([32] : List UInt8) := ⟨_, rfl⟩
  obtain ⟨C0, hC0⟩ : ∃ C, C = ([44] : List UInt8) := ⟨_, rfl⟩
  obtain ⟨E0, hE0⟩ : ∃ C, C = ([47] : List UInt8) := ⟨_, rfl⟩
  have s0 : (⟨#[102, 108, 111, 119, 32]⟩ : ByteArray) = bA A0 := by rw [hA0]; rfl
  have s1 : (⟨#[32]⟩ : ByteArray) = bA B0 := by rw [hB0]; rfl
  have s2 : (⟨#[44]⟩ : ByteArray) = bA C0 := by rw [hC0]; rfl
  have s3 : (⟨#[47]⟩ : ByteArray) = bA E0 := by rw [hE0]; rfl
  have n0 : A0.length = 5 := by rw [hA0]; rfl
  have n1 : B0.length = 1 := by rw [hB0]; rfl
  have n2 : C0.length = 1 := by rw [hC0]; rfl
  have n3 : E0.length = 1 := by rw [hE0]; rfl
  have t1 := vadd_bA (l := A0) (m := Lib.decDigits w) (by omega)
  have t2 := vadd_bA (l := A0 ++ Lib.decDigits w) (m := B0) (by simp; omega)
  have t3 := vadd_bA (l := A0 ++ Lib.decDigits w ++ B0) (m := Lib.decDigits q) (by simp; omega)
  have t4 := vadd_bA (l := A0 ++ Lib.decDigits w ++ B0 ++ Lib.decDigits q) (m := B0) (by simp; omega)
  have eh : A0 ++ Lib.decDigits w ++ B0 ++ Lib.decDigits q ++ B0 = headF w q := by rw [hA0, hB0]; simp [headF, flowL]
  rw [eh] at t4
  obtain ⟨Dw, hDw⟩ : ∃ X, X = Lib.decDigits w := ⟨_, rfl⟩
  obtain ⟨Dq, hDq⟩ : ∃ X, X = Lib.decDigits q := ⟨_, rfl⟩
  rw [← hDw] at t1 t2 t3 t4
  rw [← hDq] at t3 t4
  have hhl : (headF w q).length ≤ 30 := by
    unfold headF flowL; simp; omega
  generalize A0 ++ Dw ++ B0 ++ Dq = A4 at t3 t4
  generalize A0 ++ Dw ++ B0 = A3 at t2 t3
  generalize A0 ++ Dw = A2 at t1 t2
  have hrw := fun i => rw_len (w := w) hf.dd (i := i)
  simp [he, hd.stor, hp.stor]
  refine digits_r w (by omega) ?_
  rw [← hDw]
  simp [s0, s1, t1, t2]
  refine digits_r q (by omega) ?_
  rw [← hDq]
  simp [s0, s1, t3, t4, hd.len]
  refine wLoop_up D.length (fun i fr L H' => (fr 1 = .lp 0 0 ∧ fr 6 = .int .i64 (i : Int) ∧ fr 5 = .str (bA (headF w q ++ rwF w D i))) ∧ L = [[.int .i64 (w : Int), .int .i64 (q : Int), d, p]] ∧ HX H1 H' ∧ i ≤ D.length) ⟨⟨by simp, by simp, by simp [rwF]⟩, rfl, .refl, by omega⟩ ?_
  rintro i hi fr L H4 ⟨⟨f1, f6, f5⟩, rfl, x4, hle⟩
  have l4 := x4.len
  have hd4 := hd.mono (x1.trans x4)
  have hp4 := hp.mono (x1.trans x4)
  by_cases hp0 : i < D.length
  · have hp' : ((i : Int) < (D.length : Int)) = True := eq_true (by omega)
    have hdd := hf.dd i
    obtain ⟨n, hn⟩ : ∃ n : Nat, D.getD i 0 = (n : Int) := ⟨(D.getD i 0).toNat, by omega⟩
    have hn7 : n ≤ 7 := by omega
    have hnt : (D.getD i 0).toNat = n := by omega
    have ldn := dd_small (u := n) (by omega)
    have had := hd4.addr (i := (i : Int)) ⟨by omega, by omega⟩
    have hld := hd4.load (i := i) hp0 (L := [[.int .i64 (w : Int), .int .i64 (q : Int), d, p]])
    rw [hn] at hld
    have hr := hrw i
    have rm : Int.tmod (i : Int) (w : Int) = ((i % w : Nat) : Int) := by rw [Int.tmod_eq_emod_of_nonneg (by omega)]; omega
    have wne : (w : Int) ≠ 0 := by omega
    obtain ⟨T0, hT0⟩ : ∃ T, T = headF w q ++ rwF w D i := ⟨_, rfl⟩
    have hT0l : T0.length ≤ 5000 := by rw [hT0]; simp; omega
    have hnx : headF w q ++ rwF w D (i + 1) = T0 ++ ((if 0 < i ∧ i % w = 0 then [47] else []) ++ Lib.decDigits n) := by rw [hT0, rwF, hnt]; simp
    rw [← hT0] at f5
    have u1 := vadd_bA (l := T0) (m := E0) (by omega)
    have u2 := vadd_bA (l := T0 ++ E0) (m := Lib.decDigits n) (by simp; omega)
    have u3 := vadd_bA (l := T0) (m := Lib.decDigits n) (by omega)
    obtain ⟨Dn, hDn⟩ : ∃ X, X = Lib.decDigits n := ⟨_, rfl⟩
    rw [← hDn] at u2 u3 hnx
    obtain ⟨m, hm⟩ : ∃ m : Nat, m = i % w := ⟨_, rfl⟩
    rw [← hm] at rm hnx
    by_cases c1 : 0 < i
    case neg =>
      have c1' : ((0 : Int) < (i : Int)) = False := eq_false (by omega)
      have c1n : (0 < i) = False := eq_false c1
      rw [if_neg (fun h => c1 h.1), List.nil_append] at hnx
      generalize T0 ++ Dn = T2 at u3 hnx
      simp (disch := omega) [f1, f6, f5, hp', hd4.len, had, hld, c1', c1n, wrap_i64]
      refine digits_r n (by omega) ?_
      rw [← hDn]
      simp (disch := omega) [f1, f6, f5, u3, wrap_i64]
      rw [hnx]
      exact ⟨hp0, rfl, x4, hp0⟩
    have c1' : ((0 : Int) < (i : Int)) = True := eq_true (by omega)
    have c1n : (0 < i) = True := eq_true c1
    by_cases c2 : m = 0
    · have c2' : ((m : Int) = 0) = True := eq_true (by omega)
      have c2n : (m = 0) = True := eq_true c2
      rw [if_pos ⟨c1, c2⟩, ← hE0] at hnx
      have hnx2 : headF w q ++ rwF w D (i + 1) = T0 ++ E0 ++ Dn := by rw [hnx]; simp
      generalize T0 ++ E0 ++ Dn = T2 at u2 hnx2
      generalize T0 ++ E0 = T1 at u1 u2
      simp (disch := omega) [f1, f6, f5, hp', hd4.len, had, hld, c1', c1n, c2', c2n, rm, wne, s3, u1, wrap_i64]
      refine digits_r n (by omega) ?_
      rw [← hDn]
      simp (disch := omega) [f1, f6, f5, u2, wrap_i64]
      rw [hnx2]
      exact ⟨hp0, rfl, x4, hp0⟩
    · have c2' : ((m : Int) = 0) = False := eq_false (by omega)
      have c2n : (m = 0) = False := eq_false c2
      rw [if_neg (fun h => c2 h.2), List.nil_append] at hnx
      generalize T0 ++ Dn = T2 at u3 hnx
      simp (disch := omega) [f1, f6, f5, hp', hd4.len, had, hld, c1', c1n, c2', c2n, rm, wne, wrap_i64]
      refine digits_r n (by omega) ?_
      rw [← hDn]
      simp (disch := omega) [f1, f6, f5, u3, wrap_i64]
      rw [hnx]
      exact ⟨hp0, rfl, x4, hp0⟩
  have hp' : ((i : Int) < (D.length : Int)) = False := eq_false (by omega)
  have hi2 : i = D.length := by omega
  subst hi2
  have hr := hrw D.length
  obtain ⟨T0, hT0⟩ : ∃ T, T = headF w q ++ rwF w D D.length := ⟨_, rfl⟩
  have hT0l : T0.length ≤ 5000 := by rw [hT0]; simp; omega
  rw [← hT0] at f5
  have hfin : fmtF w q D P = T0 ++ edsF P := by rw [fmtF_eq, hT0]
  rw [hfin] at hK2
  simp [f1, f6, f5, hp', hd4.len, hp4.len]
  refine wLoop_up P.length (fun i fr L H' => ∃ X, (fr 1 = .lp 0 0 ∧ fr 7 = .int .i64 (i : Int) ∧ fr 5 = .str (bA (T0 ++ edsF (P.take i)))) ∧ L = [.int .i64 (w : Int), .int .i64 (q : Int), d, p] :: X ∧ HX H4 H' ∧ i ≤ P.length) ⟨[], ⟨by simp [f1], by simp, by simp [edsF, f5]⟩, rfl, .refl, by omega⟩ ?_
  clear f1
  rintro i hi fr2 L H5 ⟨X, ⟨f1, f7, f5⟩, rfl, x5, hle2⟩
  have l5 := x5.len
  have hp5 := hp4.mono x5
  have x15 := (x1.trans x4).trans x5
  by_cases hp1 : i < P.length
  · have hp' : ((i : Int) < (P.length : Int)) = True := eq_true (by omega)
    have heb := hf.edB (P.getD i default) (by simp [List.getD_eq_getElem?_getD, hp1])
    obtain ⟨g1, g2, g3⟩ := heb
    obtain ⟨a, ha⟩ : ∃ n : Nat, (P.getD i default).x = (n : Int) := ⟨(P.getD i default).x.toNat, by omega⟩
    obtain ⟨b, hb⟩ : ∃ n : Nat, (P.getD i default).y = (n : Int) := ⟨(P.getD i default).y.toNat, by omega⟩
    obtain ⟨c, hc⟩ : ∃ n : Nat, (P.getD i default).u = (n : Int) := ⟨(P.getD i default).u.toNat, by omega⟩
    have hnx := eds_take (P := P) (i := i) hp1
    have hel := eds_len (P := P.take i) fun x hx => hf.edB x (List.mem_of_mem_take hx)
    have htl : (P.take i).length ≤ 60 := by rw [List.length_take]; omega
    unfold edT at hnx
    have had := hp5.addr (i := (i : Int)) ⟨by omega, by omega⟩
    have hld : ∀ L, vload (some 3) L H5 (ept 3 p i) = some (.agg [.int .i64 (a : Int), .int .i64 (b : Int), .int .i64 (c : Int)]) := fun L => by rw [hp5.load hp1, ha, hb, hc]
    rw [ha, hb, hc, Int.toNat_natCast, Int.toNat_natCast, Int.toNat_natCast] at hnx
    have lda := dd_small (u := a) (by omega)
    have ldb := dd_small (u := b) (by omega)
    have ldc := dd_small (u := c) (by omega)
    have hTi : (T0 ++ edsF (P.take i)).length ≤ 10000 := by simp; omega
    have hnx2 : T0 ++ edsF (P.take (i + 1)) = T0 ++ edsF (P.take i) ++ (B0 ++ Lib.decDigits a ++ C0 ++ Lib.decDigits b ++ C0 ++ Lib.decDigits c) := by rw [hnx, hB0, hC0]; simp
    have v1 := vadd_bA (l := B0) (m := Lib.decDigits a) (by omega)
    have v2 := vadd_bA (l := B0 ++ Lib.decDigits a) (m := C0) (by simp; omega)
    have v3 := vadd_bA (l := B0 ++ Lib.decDigits a ++ C0) (m := Lib.decDigits b) (by simp; omega)
    have v4 := vadd_bA (l := B0 ++ Lib.decDigits a ++ C0 ++ Lib.decDigits b) (m := C0) (by simp; omega)
    have v5 := vadd_bA (l := B0 ++ Lib.decDigits a ++ C0 ++ Lib.decDigits b ++ C0) (m := Lib.decDigits c) (by simp; omega)
    have v6 := vadd_bA (l := T0 ++ edsF (P.take i)) (m := B0 ++ Lib.decDigits a ++ C0 ++ Lib.decDigits b ++ C0 ++ Lib.decDigits c) (by simp at hTi ⊢; omega)
    rw [← hnx2] at v6
    obtain ⟨Da, hDa⟩ : ∃ X, X = Lib.decDigits a := ⟨_, rfl⟩
    obtain ⟨Db, hDb⟩ : ∃ X, X = Lib.decDigits b := ⟨_, rfl⟩
    obtain ⟨Dc, hDc⟩ : ∃ X, X = Lib.decDigits c := ⟨_, rfl⟩
    rw [← hDa] at v1 v2 v3 v4 v5 v6
    rw [← hDb] at v3 v4 v5 v6
    rw [← hDc] at v5 v6
    clear hnx hnx2
    generalize B0 ++ Da ++ C0 ++ Db ++ C0 ++ Dc = B6 at v5 v6
    generalize B0 ++ Da ++ C0 ++ Db ++ C0 = B5 at v4 v5
    generalize B0 ++ Da ++ C0 ++ Db = B4 at v3 v4
    generalize B0 ++ Da ++ C0 = B3 at v2 v3
    generalize B0 ++ Da = B2 at v1 v2
    generalize T0 ++ edsF (P.take i) = Ti at v6 f5
    generalize hTn : T0 ++ edsF (P.take (i + 1)) = Tn at v6
    simp (disch := omega) [f1, f7, f5, hp', hp5.len, had, hld, lastO, lastS, wrap_i64]
    refine digits_r a (by omega) ?_
    rw [← hDa]
    simp (disch := omega) [f1, f7, f5, s1, s2, v1, v2, lastO, lastS, wrap_i64]
    refine digits_r b (by omega) ?_
    rw [← hDb]
    simp (disch := omega) [f1, f7, f5, s1, s2, v3, v4, lastO, lastS, wrap_i64]
    refine digits_r c (by omega) ?_
    rw [← hDc]
    simp (disch := omega) [f1, f7, f5, s1, s2, v5, v6, lastO, lastS, wrap_i64]
    exact ⟨hp1, x5, hp1⟩
  have hp' : ((i : Int) < (P.length : Int)) = False := eq_false (by omega)
  have hi2 : i = P.length := by omega
  subst hi2
  rw [List.take_length] at f5
  simp [f1, f7, f5, hp', hp5.len]
  exact hK2 H5 x15
end
end Go.Proofs.YtgjlhdggllakbaaDoor.Vm
namespace Go.Proofs.YtgjlhdggllakbaaDoor.Vm
open Go
set_option maxRecDepth 100000
set_option linter.unusedSimpArgs false
set_option linter.unusedVariables false
attribute [-simp] List.getD_eq_getElem?_getD

theorem atV_64 {l : List UInt8} : I64 (atV l) := by
  unfold I64 atV
  rcases end3 l with ⟨n, hq⟩ | hq | hq
  · rw [hq]; exact Lib.atoiAll_bounds hq
  · rw [hq]; simp
  · rw [hq]; exact Lib.atoiSat_bounds l
theorem atoi_v {H : Hp} {lim : Nat} {s : ByteArray} {K : V → Hp → Prop} (hg : HX glHp H) (hs : s.size ≤ 281474976710656)
    (hK : ∀ H' ev, HX H H' → K (.tup [.int .i64 (atV s.data.toList), ev]) H') : VCall tbl lim 47 [.str s] H K := by
  have hc := chkE_of hg
  have hf : ([V.str s] : List V).all flatV = true := rfl
  rcases end3 s.data.toList with ⟨n, hq⟩ | hq | hq
  · have e : atV s.data.toList = n := by unfold atV; rw [hq]
    refine VCall_prim (g := pAtoi) (bs := []) tbl_at47 rfl rfl (v := .tup [.int .i64 n, .inil]) ?_ (by rw [← e]; exact hK _ _ ⟨_, rfl⟩)
    have hgg : gAtoi [.str s] = some (.int .i64 n, true) := by simp only [gAtoi, hs, if_true, hq]
    simp only [pAtoi, numP, hc, hf, hgg, Bool.and_self, if_true, flatV]
  · have e : atV s.data.toList = 0 := by unfold atV; rw [hq]
    refine VCall_prim (g := pAtoi) (bs := [.dead]) tbl_at47 rfl rfl (v := .tup [.int .i64 0, .iface teN (.ptr H.length 0)]) ?_ (by rw [← e]; exact hK _ _ ⟨_, rfl⟩)
    have hgg : gAtoi [.str s] = some (.int .i64 0, false) := by simp only [gAtoi, hs, if_true, hq]
    simp only [pAtoi, numP, hc, hf, hgg, Bool.and_self, if_true, flatV, Bool.false_eq_true, if_false]
  · have e : atV s.data.toList = Lib.atoiSat s.data.toList := by unfold atV; rw [hq]
    refine VCall_prim (g := pAtoi) (bs := [.dead]) tbl_at47 rfl rfl (v := .tup [.int .i64 (Lib.atoiSat s.data.toList), .iface teN (.ptr H.length 0)]) ?_ (by rw [← e]; exact hK _ _ ⟨_, rfl⟩)
    have hgg : gAtoi [.str s] = some (.int .i64 (Lib.atoiSat s.data.toList), false) := by simp only [gAtoi, hs, if_true, hq]
    simp only [pAtoi, numP, hc, hf, hgg, Bool.and_self, if_true, flatV, Bool.false_eq_true, if_false]

section
variable {lim : Nat} {H : Hp} {K : V → Hp → Prop} {v d p u : V}
theorem str_at {l : List (List UInt8)} (h : LstV strC H u (l.map bA)) {i : Nat} {w : List UInt8} (hw : l[i]? = some w) : (∀ L, vload none L H (ept 1 u i) = some (.str (bA w))) ∧ viaddrS 1 u (.int .i64 (i : Int)) = some (ept 1 u i) := by
  have hi : i < l.length := (List.getElem?_eq_some_iff.1 hw).1
  have hl : (l.map bA).length = l.length := by simp
  constructor
  · intro L
    rw [h.load1 (by omega)]
    have : (l.map bA).getD i default = bA w := by rw [List.getD_eq_getElem?_getD, List.getElem?_map, hw]; rfl
    rw [this]; rfl
  · exact h.addr (i := (i : Int)) ⟨by omega, by omega⟩
theorem readEdge_t {a b c : List UInt8} (hg : HX glHp H) (hu : LstV strC H u ([a, b, c].map bA)) (ha : a.length ≤ 4000) (hb : b.length ≤ 4000) (hc : c.length ≤ 4000) (hlim : lim ≤ H.length) (hK : ∀ H', HX H H' → K (.agg [.int .i64 (atV a), .int .i64 (atV b), .int .i64 (atV c)]) H') : VCall tbl lim 61 [u] H K := by
  refine VCall_fn tbl_at61 rfl ?_
  obtain ⟨l0, a0⟩ := str_at hu (i := 0) (w := a) rfl
  have a0 : viaddrS 1 u (.int .i64 0) = some (ept 1 u 0) := a0
  simp [vf61, hu.stor, l0, a0]
  refine atoi_v hg (by rw [bA_size]; omega) fun H1 e1 x1 => ?_
  replace x1 : HX H H1 := x1
  obtain ⟨l1, a1⟩ := str_at (hu.mono x1) (i := 1) (w := b) rfl
  have a1 : viaddrS 1 u (.int .i64 1) = some (ept 1 u 1) := a1
  simp [hu.stor, l1, a1, list_bA]
  refine atoi_v (hg.trans x1) (by rw [bA_size]; omega) fun H2 e2 x2 => ?_
  replace x2 : HX H1 H2 := x2
  obtain ⟨l2, a2⟩ := str_at (hu.mono (x1.trans x2)) (i := 2) (w := c) rfl
  have a2 : viaddrS 1 u (.int .i64 2) = some (ept 1 u 2) := a2
  simp [hu.stor, l2, a2, list_bA]
  refine atoi_v ((hg.trans x1).trans x2) (by rw [bA_size]; omega) fun H3 e3 x3 => ?_
  replace x3 : HX H2 H3 := x3
  simp [list_bA]
  exact hK H3 ((x1.trans x2).trans x3)
/-- bytes in cells -/
def uC : Cod UInt8 1 := ⟨fun b => [.int .u8 (b.toNat : Int)], fun _ => rfl⟩
theorem uC_all : ∀ {l : List UInt8}, uC.all l = l.map fun b => V.int .u8 (b.toNat : Int)
  | [] => rfl
  | a :: l => by rw [Cod.all_cons, uC_all (l := l)]; rfl
theorem bytes_l {H : Hp} {l : List UInt8} {X : Hp} : LstV uC (H ++ .row (vbytesL (bA l)) true :: X) (.sl H.length 0 l.length 1) l := by
  have h0 : (H ++ Blk.row (vbytesL (bA l)) true :: X)[H.length]? = some (.row (vbytesL (bA l)) true) := by rw [List.getElem?_append_right (Nat.le_refl _)]; simp
  have e : vbytesL (bA l) = l.map fun b => V.int .u8 (b.toNat : Int) := by simp [vbytesL, list_bA]
  rw [e] at h0
  have := LstV.sl (c := uC) (l := l) (off := 0) h0 (by simp) (by rw [uC_all]; simp [List.take_of_length_le])
  rw [e]
  exact this
theorem u_at {l : List UInt8} {u : V} {H : Hp} (h : LstV uC H u l) {i : Nat} {b : UInt8} (hb : l[i]? = some b) : (∀ L, vload none L H (ept 1 u i) = some (.int .u8 (b.toNat : Int))) ∧ viaddrS 1 u (.int .i64 (i : Int)) = some (ept 1 u i) := by
  have hi : i < l.length := (List.getElem?_eq_some_iff.1 hb).1
  constructor
  · intro L
    rw [h.load1 hi]
    have : l.getD i default = b := by rw [List.getD_eq_getElem?_getD, hb]; rfl
    rw [this]; rfl
  · exact h.addr (i := (i : Int)) ⟨by omega, by omega⟩
theorem wds_min {c : UInt8} : ∀ l : List UInt8, 1 ≤ (wds c l).length
  | [] => by simp [wds]
  | b :: l => by
    rw [wds]
    split
    · simp
    · split
      · simp
      · simp
theorem rdD_take {l : List UInt8} {i : Nat} {b : UInt8} (h : l[i]? = some b) : rdD (l.take (i + 1)) = rdD (l.take i) ++ (if b = 47 then [] else [(b.toNat : Int) - 48]) := by
  rw [List.take_add_one, h, Option.toList_some, rdD_app]
  congr 1
  by_cases hb : b = 47
  · subst hb; rfl
  · have hd : decide (b ≠ 47) = true := decide_eq_true hb
    unfold rdD
    rw [List.filter_cons, if_pos hd, if_neg hb]; rfl
theorem rdD_len {l : List UInt8} : (rdD l).length ≤ l.length := by
  unfold rdD
  rw [List.length_map]
  exact List.length_filter_le _ _
theorem rdE_len {num : List UInt8 → Int} {w : List UInt8} : (rdE num w).length ≤ 1 := by
  unfold rdE; split <;> simp
theorem rdEs_len {num : List UInt8 → Int} : ∀ {r : List (List UInt8)}, (r.flatMap (rdE num)).length ≤ r.length
  | [] => by simp
  | w :: r => by
    have h1 := rdE_len (num := num) (w := w)
    have h2 := rdEs_len (num := num) (r := r)
    rw [List.flatMap_cons, List.length_append, List.length_cons]; omega
theorem rdEs_take {num : List UInt8 → Int} {r : List (List UInt8)} {i : Nat} {w : List UInt8} (h : r[i]? = some w) : (r.take (i + 1)).flatMap (rdE num) = (r.take i).flatMap (rdE num) ++ rdE num w := by
  rw [List.take_add_one, h, Option.toList_some, List.flatMap_append]; simp
theorem rdE_64 {num : List UInt8 → Int} (hn : ∀ l, I64 (num l)) {r : List (List UInt8)} : ∀ e ∈ r.flatMap (rdE num), e.in64 := by
  intro e he
  obtain ⟨w, -, hw⟩ := List.mem_flatMap.1 he
  unfold rdE at hw
  split at hw
  · rw [List.mem_singleton.1 hw]
    exact ⟨hn _, hn _, hn _⟩
  · simp at hw
theorem three {l : List (List UInt8)} (h : l.length = 3) : ∃ a b c, l = [a, b, c] := by
  match l, h with
  | [a, b, c], _ => exact ⟨a, b, c, rfl⟩
theorem rdE3 {num : List UInt8 → Int} {w a b c : List UInt8} (h : wds 44 w = [a, b, c]) : rdE num w = [⟨num a, num b, num c⟩] := by unfold rdE; rw [h]
theorem rdE_no {num : List UInt8 → Int} {w : List UInt8} (h : (wds 44 w).length ≠ 3) : rdE num w = [] := by
  unfold rdE
  split
  · rename_i e; rw [e] at h; exact absurd rfl h
  · rfl
theorem split_c {H : Hp} {lim : Nat} {l : List UInt8} {K : V → Hp → Prop} (hs : l.length < 4294967281) (hK : K (.sl H.length 0 (wds 44 l).length 1) (H ++ [.row (strC.all ((wds 44 l).map bA)) true])) : VCall tbl lim 46 [.str (bA l), .str ⟨#[44]⟩] H K :=
  splitc_t (c := 44) (by rw [bA_size]; exact hs) (by rw [list_bA]; exact hK)
theorem str_l {H X : Hp} {l : List (List UInt8)} : LstV strC (H ++ .row (strC.all (l.map bA)) true :: X) (.sl H.length 0 l.length 1) (l.map bA) := by
  have h0 : (H ++ Blk.row (strC.all (l.map bA)) true :: X)[H.length]? = some (.row (strC.all (l.map bA)) true) := by rw [List.getElem?_append_right (Nat.le_refl _)]; simp
  have := LstV.sl (c := strC) (l := l.map bA) (off := 0) h0 (by rw [strC_all]; simp) (by rw [strC_all]; simp [List.take_of_length_le])
  simpa using this
theorem sub4 {b : Nat} {Ws r : List (List UInt8)} (hu : LstV strC H (.sl b 0 Ws.length 1) (Ws.map bA)) (hl : Ws.length = r.length + 4) (hr : Ws.drop 4 = r) : ∃ sv, vslS 1 (.sl b 0 Ws.length 1) (some (.int .i64 4)) none = some sv ∧ vlenS sv = some (.int .i64 (r.length : Int)) ∧ LstV strC H sv (r.map bA) ∧ stor sv = true := by
  have hml : (Ws.map bA).length = Ws.length := by simp
  have hb : vbounds (Ws.map bA).length (some (.int .i64 4)) none = some (4, Ws.length) := by
    rw [hml]
    exact vbounds_lo (n := 4) (by omega)
  have h1 := hu.subW (a := 4) (b := Ws.length) ⟨by omega, by omega⟩ (by omega) hb
  have h2 := hu.sub (a := 4) (b := Ws.length) ⟨by omega, by omega⟩
  have e : ((Ws.map bA).drop 4).take (Ws.length - 4) = r.map bA := by
    rw [← List.map_drop, hr, List.take_of_length_le (by simp; omega)]
  rw [e] at h2
  refine ⟨_, h1, ?_, h2, h2.stor⟩
  rw [h2.len]; simp
theorem readField_t {T : List UInt8} (hg : HX glHp H) (hT : T.length ≤ 4000) (hlim : lim ≤ H.length) (hK : ∀ H' d p, HX H H' → SlV H' d (rdF atV (wds 32 T)).D → EdV H' p (rdF atV (wds 32 T)).P → K (.agg [.int .i64 (rdF atV (wds 32 T)).W, .int .i64 (rdF atV (wds 32 T)).Q, d, p]) H') : VCall tbl lim 38 [.str (bA T)] H K := by
  refine VCall_fn tbl_at38 rfl ?_
  simp [vf38]
  refine split_t (by rw [bA_size]; omega) ?_
  rw [list_bA]
  have wm := wds_mem (c := 32) T
  have wl := wds_len (c := 32) T
  have hu0 := str_l (H := H) (X := []) (l := wds 32 T)
  obtain ⟨Ws, hWs⟩ : ∃ Ws, Ws = wds 32 T := ⟨_, rfl⟩
  rw [← hWs] at hK wm wl hu0 ⊢
  have x0 : HX H (H ++ [.row (strC.all (Ws.map bA)) true]) := ⟨_, rfl⟩
  have l0 : (H ++ [Blk.row (strC.all (Ws.map bA)) true]).length = H.length + 1 := by simp
  obtain ⟨b0, hb0⟩ : ∃ b, b = H.length := ⟨_, rfl⟩
  rw [← hb0] at hu0 l0 ⊢
  generalize H ++ [Blk.row (strC.all (Ws.map bA)) true] = H0 at *
  by_cases h4 : Ws.length < 4
  · have h4' : ((Ws.length : Int) < 4) = True := eq_true (by omega)
    have e : rdF atV Ws = ⟨0, 0, [], []⟩ := by
      match Ws, h4 with
      | [], _ => rfl
      | [_], _ => rfl
      | [_, _], _ => rfl
      | [_, _, _], _ => rfl
    rw [e] at hK
    simp [h4', splice44]
    exact hK H0 .snil .snil x0 .nil ⟨.nil, by simp⟩
  have h4' : ((Ws.length : Int) < 4) = False := eq_false (by omega)
  obtain ⟨w0, wa, wb, wc, r, hWr⟩ : ∃ w0 a b c r, Ws = w0 :: a :: b :: c :: r := by
    match Ws, h4 with
    | [], h => exact absurd (by simp) h
    | [_], h => exact absurd (by simp) h
    | [_, _], h => exact absurd (by simp) h
    | [_, _, _], h => exact absurd (by simp) h
    | w0 :: a :: b :: c :: r, _ => exact ⟨w0, a, b, c, r, rfl⟩
  have la : wa.length ≤ 4000 := by have := wm wa (by rw [hWr]; simp); omega
  have lb : wb.length ≤ 4000 := by have := wm wb (by rw [hWr]; simp); omega
  have lc : wc.length ≤ 4000 := by have := wm wc (by rw [hWr]; simp); omega
  have hrl : Ws.length = r.length + 4 := by rw [hWr]; rfl
  have hX : rdF atV Ws = ⟨atV wa, atV wb, rdD wc, r.flatMap (rdE atV)⟩ := by rw [hWr]; rfl
  rw [hX] at hK
  obtain ⟨d1, a1⟩ := str_at hu0 (i := 1) (w := wa) (by rw [hWr]; rfl)
  have a1 : viaddrS 1 (.sl b0 0 Ws.length 1) (.int .i64 1) = some (ept 1 (.sl b0 0 Ws.length 1) 1) := a1
  simp [h4', d1, a1]
  refine atoi_v (hg.trans x0) (by rw [bA_size]; omega) fun H1 e1 x1 => ?_
  replace x1 : HX H0 H1 := x1
  have l1 := x1.len
  obtain ⟨d2, a2⟩ := str_at (hu0.mono x1) (i := 2) (w := wb) (by rw [hWr]; rfl)
  have a2 : viaddrS 1 (.sl b0 0 Ws.length 1) (.int .i64 2) = some (ept 1 (.sl b0 0 Ws.length 1) 2) := a2
  simp [d2, a2, list_bA]
  refine atoi_v ((hg.trans x0).trans x1) (by rw [bA_size]; omega) fun H2 e2 x2 => ?_
  replace x2 : HX H1 H2 := x2
  have l2 := x2.len
  obtain ⟨d3, a3⟩ := str_at (hu0.mono (x1.trans x2)) (i := 3) (w := wc) (by rw [hWr]; rfl)
  have a3 : viaddrS 1 (.sl b0 0 Ws.length 1) (.int .i64 3) = some (ept 1 (.sl b0 0 Ws.length 1) 3) := a3
  simp [d3, a3, list_bA, bA_size]
  have hc3 := bytes_l (H := H2) (l := wc) (X := [])
  have x3 : HX H2 (H2 ++ [.row (vbytesL (bA wc)) true]) := ⟨_, rfl⟩
  have l3 : (H2 ++ [Blk.row (vbytesL (bA wc)) true]).length = H2.length + 1 := by simp
  obtain ⟨b3, hb3⟩ : ∃ b, b = H2.length := ⟨_, rfl⟩
  rw [← hb3] at hc3 l3 ⊢
  have x03 := (x1.trans x2).trans x3
  generalize H2 ++ [Blk.row (vbytesL (bA wc)) true] = H3 at *
  refine wLoop_up wc.length (fun i fr L H' => (fr 2 = .lp 0 0 ∧ fr 3 = .sl b0 0 Ws.length 1 ∧ fr 4 = .lp 1 0 ∧ fr 35 = .sl b3 0 wc.length 1 ∧ fr 36 = .int .i64 (wc.length : Int) ∧ fr 37 = .int .i64 (i : Int)) ∧ (∃ dv, L = [[.int .i64 0, .int .i64 0, .snil, .snil], [.int .i64 (atV wa), .int .i64 (atV wb), dv, .snil]] ∧ HX H3 H' ∧ OwnV H3.length H' dv (rdD (wc.take i))) ∧ i ≤ wc.length) ⟨⟨by simp, by simp, by simp, by simp, by simp, by simp⟩, ⟨.snil, by simp, .refl, .nil⟩, by omega⟩ ?_
  rintro i hi fr L H4 ⟨⟨f2, f3, f4, f35, f36, f37⟩, ⟨dv, rfl, x4, hd⟩, hle⟩
  have l4 := x4.len
  by_cases hp : i < wc.length
  · have hp' : ((i : Int) < (wc.length : Int)) = True := eq_true (by omega)
    obtain ⟨b, hb⟩ : ∃ b, wc[i]? = some b := ⟨_, List.getElem?_eq_getElem hp⟩
    obtain ⟨d4, a4⟩ := u_at (hc3.mono x4) hb
    have ht := rdD_take hb
    have hb256 : b.toNat < 256 := UInt8.toNat_lt b
    have hdl := rdD_len (l := wc.take i)
    rw [List.length_take] at hdl
    by_cases h47 : b = 47
    · have h47' : ((b.toNat : Int) = 47) = True := by subst h47; exact eq_true rfl
      rw [if_pos h47, List.append_nil] at ht
      simp (disch := omega) [f2, f3, f4, f35, f36, f37, hp', d4, a4, h47', wrap_i64]
      exact ⟨hp, ⟨x4, by rw [ht]; exact hd⟩, hp⟩
    · have hbn : b.toNat ≠ 47 := fun e => h47 (by
        have := congrArg UInt8.ofNat e
        simpa using this)
      have h47' : ((b.toNat : Int) = 47) = False := eq_false (by omega)
      rw [if_neg h47] at ht
      obtain ⟨n, hn⟩ : ∃ n : Int, n = (b.toNat : Int) - 48 := ⟨_, rfl⟩
      rw [← hn] at ht
      have w1 : IntKind.wrap .i64 ((b.toNat : Int) - 48) = n := by rw [wrap_i64 (by omega) (by omega), hn]
      have hap := hd.append (lim := lim) (x := n) ⟨by omega, by omega⟩
      have c3 := hd.ap l4 (x := n) (new := [V.int .i64 n])
      have oX : HX H3 (apH H4 dv [V.int .i64 n] (ints (rdD (wc.take i) ++ [n]))) := hd.apX x4 (Nat.le_refl _)
      generalize apH H4 dv [V.int .i64 n] (ints (rdD (wc.take i) ++ [n])) = H5 at hap c3 oX
      simp (disch := omega) [f2, f3, f4, f35, f36, f37, hp', d4, a4, h47', w1, hap, hd.sl.stor, splice, wrap_i64]
      exact ⟨hp, ⟨oX, by rw [ht]; exact c3⟩, hp⟩
  have hp' : ((i : Int) < (wc.length : Int)) = False := eq_false (by omega)
  have hi2 : i = wc.length := by omega
  subst hi2
  rw [List.take_length] at hd
  have hd := hd.sl
  have x04 := x03.trans x4
  have hu4 := hu0.mono x04
  have hsub : ∃ sv, vslS 1 (.sl b0 0 Ws.length 1) (some (.int .i64 4)) none = some sv ∧ vlenS sv = some (.int .i64 (r.length : Int)) ∧ LstV strC H4 sv (r.map bA) ∧ stor sv = true := by
    exact sub4 hu4 hrl (by rw [hWr]; rfl)
  obtain ⟨sv, hsv, hsl, hsL, hst⟩ := hsub
  clear x1 x2 x3 hc3 d1 a1 d2 a2 d3 a3
  simp [f2, f3, f4, f35, f36, f37, hp', hsv, hsl, hst, hd.stor]
  refine wLoop_up r.length (fun i fr L H' => (fr 2 = .lp 0 0 ∧ fr 4 = .lp 1 0 ∧ fr 53 = sv ∧ fr 54 = .int .i64 (r.length : Int) ∧ fr 55 = .int .i64 (i : Int)) ∧ (∃ pv, L = [[.int .i64 0, .int .i64 0, .snil, .snil], [.int .i64 (atV wa), .int .i64 (atV wb), dv, pv]] ∧ HX H4 H' ∧ OwnT H4.length edC H' pv ((r.take i).flatMap (rdE atV))) ∧ i ≤ r.length) ⟨⟨by simp [f2], by simp [f4], by simp, by simp, by simp⟩, ⟨.snil, rfl, .refl, .nil⟩, by omega⟩ ?_
  clear f2 f3 f4 f35 f36 f37
  rintro i hi fr L H5 ⟨⟨f2, f4, f53, f54, f55⟩, ⟨pv, rfl, x5, hv⟩, hle2⟩
  have l5 := x5.len
  by_cases hp : i < r.length
  · have hp' : ((i : Int) < (r.length : Int)) = True := eq_true (by omega)
    obtain ⟨w, hw⟩ : ∃ w, r[i]? = some w := ⟨_, List.getElem?_eq_getElem hp⟩
    obtain ⟨d5, a5⟩ := str_at (hsL.mono x5) hw
    have ht := rdEs_take (num := atV) hw
    have hwl : w.length ≤ 4000 := by have := wm w (by rw [hWr]; simp [List.mem_of_getElem? hw]); omega
    have hwm := wds_mem (c := 44) w
    have hel := rdEs_len (num := atV) (r := r.take i)
    rw [List.length_take] at hel
    have hs6 := str_l (H := H5) (X := []) (l := wds 44 w)
    have x6 : HX H5 (H5 ++ [.row (strC.all ((wds 44 w).map bA)) true]) := ⟨_, rfl⟩
    simp (disch := omega) [f2, f4, f53, f54, f55, hp', d5, a5, wrap_i64]
    refine split_c (by omega) ?_
    have l6 : (H5 ++ [Blk.row (strC.all ((wds 44 w).map bA)) true]).length = H5.length + 1 := by simp
    obtain ⟨b6, hb6⟩ : ∃ b, b = H5.length := ⟨_, rfl⟩
    rw [← hb6] at hs6 l6 ⊢
    have hv6 := hv.mono x6
    generalize H5 ++ [Blk.row (strC.all ((wds 44 w).map bA)) true] = H6 at *
    by_cases h3 : (wds 44 w).length = 3
    · have h3' : (((wds 44 w).length : Int) = 3) = True := eq_true (by omega)
      obtain ⟨a, b, c, hab⟩ := three h3
      rw [hab] at hs6 hwm
      rw [rdE3 hab] at ht
      have hlen3 : (wds 44 w).length = [a, b, c].length := by rw [hab]
      simp (disch := omega) [f2, f4, f53, f54, f55, h3', wrap_i64, hv.lst.stor]
      rw [hlen3]
      refine readEdge_t ((((hg.trans x0).trans x04).trans x5).trans x6) hs6 (by have := hwm a (by simp); omega) (by have := hwm b (by simp); omega) (by have := hwm c (by simp); omega) (Nat.le_refl _) fun H7 x7 => ?_
      replace x7 : HX H6 H7 := x7
      have l7 := x7.len
      have hv7 := hv6.mono x7
      obtain ⟨v', H8, c1, c2, c3, c4, c5, c6⟩ := hv7.append (lim := lim) (bytes := 24) (x := ⟨atV a, atV b, atV c⟩) (cs := [.int .i64 (atV a), .int .i64 (atV b), .int .i64 (atV c)]) rfl ⟨by omega, by omega⟩ (by omega) (by omega)
      simp (disch := omega) [f2, f4, f53, f54, f55, wrap_i64, splice33, c1, c2.lst.stor, c2.lst.one]
      exact ⟨hp, ⟨c3 _ ((x5.trans x6).trans x7) (Nat.le_refl _), by rw [ht]; exact c2⟩, hp⟩
    · have h3' : (((wds 44 w).length : Int) = 3) = False := eq_false (by omega)
      rw [rdE_no h3, List.append_nil] at ht
      simp (disch := omega) [f2, f4, f53, f54, f55, h3', wrap_i64]
      exact ⟨hp, ⟨x5.trans x6, by rw [ht]; exact hv6⟩, hp⟩
  have hp' : ((i : Int) < (r.length : Int)) = False := eq_false (by omega)
  have hi2 : i = r.length := by omega
  subst hi2
  rw [List.take_length] at hv
  simp [f2, f4, f53, f54, f55, hp', hd.stor, hv.lst.stor, hd.one, hv.lst.one, splice44]
  exact hK H5 dv pv ((x0.trans x04).trans x5) (hd.mono x5) ⟨hv.lst, rdE_64 fun _ => atV_64⟩
end
end Go.Proofs.YtgjlhdggllakbaaDoor.Vm
namespace Go.Proofs.YtgjlhdggllakbaaDoor.Vm
open Go
set_option maxRecDepth 100000
set_option linter.unusedSimpArgs false
set_option linter.unusedVariables false
attribute [-simp] List.getD_eq_getElem?_getD

theorem rdF_bd {num : List UInt8 → Int} {T : List UInt8} : (rdF num (wds 32 T)).D.length ≤ T.length ∧ (rdF num (wds 32 T)).P.length ≤ T.length + 1 := by
  have wm := wds_mem (c := 32) T
  have wl := wds_len (c := 32) T
  generalize wds 32 T = Ws at wm wl
  unfold rdF
  split
  · rename_i a b c r
    have h1 := rdD_len (l := c)
    have h2 := wm c (by simp)
    have h3 := rdEs_len (num := num) (r := r)
    simp only [List.length_cons] at wl
    constructor
    · show (rdD c).length ≤ _
      omega
    · show (r.flatMap (rdE num)).length ≤ _
      omega
  · simp
theorem rdF_64 {num : List UInt8 → Int} (hn : ∀ l, I64 (num l)) {l : List (List UInt8)} : I64 (rdF num l).W ∧ I64 (rdF num l).Q := by
  unfold rdF
  split
  · exact ⟨hn _, hn _⟩
  · constructor <;> (show I64 0; unfold I64; omega)
theorem numR_64 {l : List UInt8} : I64 (numR l) := by
  unfold numR I64
  split
  · rename_i h
    have h1 := valD_bd l.length l rfl h.1
    have h2 : 10 ^ l.length ≤ 10 ^ 9 := Nat.pow_le_pow_right (by omega) h.2.1
    have h3 : (10 : Nat) ^ 9 = 1000000000 := by decide
    omega
  · omega
theorem neq_bA {W T : List UInt8} : vbin .neq (.str (bA W)) (.str (bA T)) = some (.bool (!decide (W = T))) := by
  have := vneq_bA (W := W) (s := bA T)
  rw [list_bA] at this
  exact this
theorem prsF_long {x : FlX} {T : List UInt8} (h : 4000 < T.length) : prsF x T = (⟨0, 0, [], []⟩, 4) := by unfold prsF; rw [if_pos h]
theorem prsF_acc {x : FlX} {T : List UInt8} (h : ¬ 4000 < T.length) (h2 : accF x T) : prsF x T = (x, 0) := by unfold prsF; rw [if_neg h, if_pos h2]
theorem prsF_no {x : FlX} {T : List UInt8} (h : ¬ 4000 < T.length) (h2 : ¬ accF x T) : prsF x T = (⟨0, 0, [], []⟩, 3) := by unfold prsF; rw [if_neg h, if_neg h2]
section
variable {lim : Nat} {H : Hp} {K : V → Hp → Prop} {v d p u : V}
theorem flow_ParseF {T : List UInt8} (hg : HX glHp H) (hlim : lim ≤ H.length) (hK : ∀ H' d p, HX H H' → SlV H' d (prsF (rdF atV (wds 32 T)) T).1.D → EdV H' p (prsF (rdF atV (wds 32 T)) T).1.P → K (.tup [.agg [.int .i64 (prsF (rdF atV (wds 32 T)) T).1.W, .int .i64 (prsF (rdF atV (wds 32 T)) T).1.Q, d, p], .int .i64 (prsF (rdF atV (wds 32 T)) T).2]) H') : VCall tbl lim 17 [.str (bA T)] H K := by
  refine VCall_fn tbl_at17 rfl ?_
  by_cases h4 : 4000 < T.length
  · have h4' : ((4000 : Int) < (T.length : Int)) = True := eq_true (by omega)
    rw [prsF_long h4] at hK
    simp [vf17, bA_size, h4', splice44]
    exact hK H .snil .snil .refl .nil ⟨.nil, by simp⟩
  have h4' : ((4000 : Int) < (T.length : Int)) = False := eq_false (by omega)
  simp [vf17, bA_size, h4']
  refine readField_t hg (by omega) hlim fun H1 d1 p1 x1 hd hp => ?_
  replace x1 : HX H H1 := x1
  have l1 := x1.len
  obtain ⟨bd1, bd2⟩ := rdF_bd (num := atV) (T := T)
  obtain ⟨i1, i2⟩ := rdF_64 (num := atV) (fun l => atV_64) (l := wds 32 T)
  obtain ⟨X, hX⟩ : ∃ X, X = rdF atV (wds 32 T) := ⟨_, rfl⟩
  rw [← hX] at hK hd hp bd1 bd2 i1 i2 ⊢
  simp [hd.stor, hp.stor, hd.one, hp.one, splice44]
  refine flow_Format (hg.trans x1) hd hp i1 i2 ⟨by omega, by omega⟩ (by omega) fun H2 x2 => ?_
  replace x2 : HX H1 H2 := x2
  have hd2 := hd.mono x2
  have hp2 := hp.mono x2
  by_cases he : validP X.W X.Q X.D X.P = 0
  case neg =>
    rw [prsF_no h4 (fun h => he h.1)] at hK
    simp [he, splice44]
    exact hK H2 .snil .snil (x1.trans x2) .nil ⟨.nil, by simp⟩
  rw [txF, if_pos he, he]
  by_cases ha : fmtF X.W.toNat X.Q.toNat X.D X.P = T
  · rw [prsF_acc h4 ⟨he, ha⟩] at hK
    have hq : vbin .neq (.str (bA (fmtF X.W.toNat X.Q.toNat X.D X.P))) (.str (bA T)) = some (.bool false) := by rw [neq_bA, decide_eq_true ha]; rfl
    simp [hq, hd2.stor, hp2.stor, hd2.one, hp2.one, splice44]
    exact hK H2 d1 p1 (x1.trans x2) hd2 hp2
  · rw [prsF_no h4 (fun h => ha h.2)] at hK
    have hq : vbin .neq (.str (bA (fmtF X.W.toNat X.Q.toNat X.D X.P))) (.str (bA T)) = some (.bool true) := by rw [neq_bA, decide_eq_false ha]; rfl
    simp [hq, splice44]
    exact hK H2 .snil .snil (x1.trans x2) .nil ⟨.nil, by simp⟩
theorem ch_bA {l : List UInt8} {i : Nat} {b : UInt8} (h : l[i]? = some b) : vidxT (.str (bA l)) (.int .i64 (i : Int)) = some (.int .u8 (b.toNat : Int)) := by
  have hi : i < l.length := (List.getElem?_eq_some_iff.1 h).1
  rw [idxB (by rw [bA_size]; exact hi), chB, list_bA, List.getD_eq_getElem?_getD, h]; rfl
theorem ref03_ParseF {T : List UInt8} (hg : HX glHp H) (hlim : lim ≤ H.length) (hK : ∀ H' d p, HX H H' → SlV H' d (prsF (rdF numR (wds 32 T)) T).1.D → EdV H' p (prsF (rdF numR (wds 32 T)) T).1.P → K (.tup [.agg [.int .i64 (prsF (rdF numR (wds 32 T)) T).1.W, .int .i64 (prsF (rdF numR (wds 32 T)) T).1.Q, d, p], .int .i64 (prsF (rdF numR (wds 32 T)) T).2]) H') : VCall tbl lim 18 [.str (bA T)] H K := by
  refine VCall_fn tbl_at18 rfl ?_
  by_cases h4 : 4000 < T.length
  · have h4' : ((4000 : Int) < (T.length : Int)) = True := eq_true (by omega)
    rw [prsF_long h4] at hK
    simp [vf18, bA_size, h4', splice44]
    exact hK H .snil .snil .refl .nil ⟨.nil, by simp⟩
  have h4' : ((4000 : Int) < (T.length : Int)) = False := eq_false (by omega)
  simp [vf18, bA_size, h4']
  refine words_r (c := 32) (by omega) (by rw [bA_size]; omega) hlim fun H0 u x0 hu => ?_
  replace x0 : HX H H0 := x0
  have l0 := x0.len
  rw [list_bA] at hu
  have e32 : UInt8.ofNat 32 = 32 := rfl
  rw [e32] at hu
  have hu0 := hu.lst
  have wm := wds_mem (c := 32) T
  have wl := wds_len (c := 32) T
  obtain ⟨bd1, bd2⟩ := rdF_bd (num := numR) (T := T)
  obtain ⟨i1, i2⟩ := rdF_64 (num := numR) (fun l => numR_64) (l := wds 32 T)
  obtain ⟨X, hXd⟩ : ∃ X, X = rdF numR (wds 32 T) := ⟨_, rfl⟩
  rw [← hXd] at hK bd1 bd2 i1 i2
  obtain ⟨Ws, hWs⟩ : ∃ Ws, Ws = wds 32 T := ⟨_, rfl⟩
  rw [← hWs] at hu0 wm wl hXd
  have hul : vlenS u = some (.int .i64 (Ws.length : Int)) := by rw [hu0.len]; simp
  clear hu
  by_cases hw4 : Ws.length < 4
  · have hw4' : ((Ws.length : Int) < 4) = True := eq_true (by omega)
    have e : X = ⟨0, 0, [], []⟩ := by
      rw [hXd]
      match Ws, hw4 with
      | [], _ => rfl
      | [_], _ => rfl
      | [_, _], _ => rfl
      | [_, _, _], _ => rfl
    have hna : ¬ accF X T := by
      rw [e]
      rintro ⟨h, -⟩
      rw [validP_1 (by simp)] at h
      cases h
    rw [prsF_no h4 hna] at hK
    simp [hul, hw4', splice44]
    exact hK H0 .snil .snil x0 .nil ⟨.nil, by simp⟩
  have hw4' : ((Ws.length : Int) < 4) = False := eq_false (by omega)
  obtain ⟨w0, wa, wb, wc, r, hWr⟩ : ∃ w0 a b c r, Ws = w0 :: a :: b :: c :: r := by
    match Ws, hw4 with
    | [], h => exact absurd (by simp) h
    | [_], h => exact absurd (by simp) h
    | [_, _], h => exact absurd (by simp) h
    | [_, _, _], h => exact absurd (by simp) h
    | w0 :: a :: b :: c :: r, _ => exact ⟨w0, a, b, c, r, rfl⟩
  have la : wa.length ≤ 4000 := by have := wm wa (by rw [hWr]; simp); omega
  have lb : wb.length ≤ 4000 := by have := wm wb (by rw [hWr]; simp); omega
  have lc : wc.length ≤ 4000 := by have := wm wc (by rw [hWr]; simp); omega
  have hrl : Ws.length = r.length + 4 := by rw [hWr]; rfl
  have hX : X = ⟨numR wa, numR wb, rdD wc, r.flatMap (rdE numR)⟩ := by rw [hXd, hWr]; rfl
  obtain ⟨d1, a1⟩ := str_at hu0 (i := 1) (w := wa) (by rw [hWr]; rfl)
  have a1 : viaddrS 1 u (.int .i64 1) = some (ept 1 u 1) := a1
  obtain ⟨d2, a2⟩ := str_at hu0 (i := 2) (w := wb) (by rw [hWr]; rfl)
  have a2 : viaddrS 1 u (.int .i64 2) = some (ept 1 u 2) := a2
  simp [hul, hw4', d1, a1]
  refine number_r (by rw [bA_size]; omega) ?_
  simp [d2, a2, list_bA]
  refine number_r (by rw [bA_size]; omega) ?_
  simp [list_bA]
  have h3w : Ws[3]? = some wc := by rw [hWr]; rfl
  refine wLoop_up wc.length (fun i fr L H' => (fr 2 = .lp 0 0 ∧ fr 5 = u ∧ fr 4 = .lp 1 0 ∧ fr 0 = .str (bA T) ∧ fr 6 = .int .i64 (i : Int)) ∧ (∃ dv, L = [[.int .i64 0, .int .i64 0, .snil, .snil], [.int .i64 (numR wa), .int .i64 (numR wb), dv, .snil]] ∧ HX H0 H' ∧ OwnV H0.length H' dv (rdD (wc.take i))) ∧ i ≤ wc.length) ⟨⟨by simp, by simp, by simp, by simp, by simp⟩, ⟨.snil, by simp, .refl, .nil⟩, by omega⟩ ?_
  rintro i hi fr L H4 ⟨⟨f2, f5, f4, f0, f6⟩, ⟨dv, rfl, x4, hd⟩, hle⟩
  have l4 := x4.len
  obtain ⟨d3, a3⟩ := str_at (hu0.mono x4) (i := 3) (w := wc) h3w
  have a3 : viaddrS 1 u (.int .i64 3) = some (ept 1 u 3) := a3
  by_cases hp : i < wc.length
  · have hp' : ((i : Int) < (wc.length : Int)) = True := eq_true (by omega)
    obtain ⟨b, hb⟩ : ∃ b, wc[i]? = some b := ⟨_, List.getElem?_eq_getElem hp⟩
    have hch := ch_bA hb
    have ht := rdD_take hb
    have hb256 : b.toNat < 256 := UInt8.toNat_lt b
    have hdl := rdD_len (l := wc.take i)
    rw [List.length_take] at hdl
    by_cases h47 : b = 47
    · have h47' : ((b.toNat : Int) = 47) = True := by subst h47; exact eq_true rfl
      rw [if_pos h47, List.append_nil] at ht
      simp (disch := omega) [f0, f2, f4, f5, f6, bA_size, hp', d3, a3, hch, h47', wrap_i64]
      exact ⟨hp, ⟨x4, by rw [ht]; exact hd⟩, hp⟩
    · have hbn : b.toNat ≠ 47 := fun e => h47 (by
        have := congrArg UInt8.ofNat e
        simpa using this)
      have h47' : ((b.toNat : Int) = 47) = False := eq_false (by omega)
      rw [if_neg h47] at ht
      obtain ⟨n, hn⟩ : ∃ n : Int, n = (b.toNat : Int) - 48 := ⟨_, rfl⟩
      rw [← hn] at ht
      have w1 : IntKind.wrap .i64 ((b.toNat : Int) - 48) = n := by rw [wrap_i64 (by omega) (by omega), hn]
      have hap := hd.append (lim := lim) (x := n) ⟨by omega, by omega⟩
      have c3 := hd.ap l4 (x := n) (new := [V.int .i64 n])
      have oX : HX H0 (apH H4 dv [V.int .i64 n] (ints (rdD (wc.take i) ++ [n]))) := hd.apX x4 (Nat.le_refl _)
      generalize apH H4 dv [V.int .i64 n] (ints (rdD (wc.take i) ++ [n])) = H5 at hap c3 oX
      simp (disch := omega) [f0, f2, f4, f5, f6, bA_size, hp', d3, a3, hch, h47', w1, hap, hd.sl.stor, splice, wrap_i64]
      exact ⟨hp, ⟨oX, by rw [ht]; exact c3⟩, hp⟩
  have hp' : ((i : Int) < (wc.length : Int)) = False := eq_false (by omega)
  have hi2 : i = wc.length := by omega
  subst hi2
  rw [List.take_length] at hd
  have hd := hd.sl
  have hu4 := hu0.mono x4
  clear d1 a1 d2 a2
  simp [f0, f2, f4, f5, f6, bA_size, hp', d3, a3]
  refine wLoop_up r.length (fun i fr L H' => (fr 2 = .lp 0 0 ∧ fr 5 = u ∧ fr 4 = .lp 1 0 ∧ fr 0 = .str (bA T) ∧ fr 7 = .int .i64 (4 + (i : Int))) ∧ (∃ pv, L = [[.int .i64 0, .int .i64 0, .snil, .snil], [.int .i64 (numR wa), .int .i64 (numR wb), dv, pv]] ∧ HX H4 H' ∧ OwnT H4.length edC H' pv ((r.take i).flatMap (rdE numR))) ∧ i ≤ r.length) ⟨⟨by simp [f2], by simp [f5], by simp [f4], by simp [f0], by simp⟩, ⟨.snil, rfl, .refl, .nil⟩, by omega⟩ ?_
  clear f0 f2 f4 f5 f6
  rintro i hi fr L H5 ⟨⟨f2, f5, f4, f0, f7⟩, ⟨pv, rfl, x5, hv⟩, hle2⟩
  have l5 := x5.len
  have hu5 := hu4.mono x5
  by_cases hp : i < r.length
  · have hp' : (4 + (i : Int) < (Ws.length : Int)) = True := eq_true (by omega)
    obtain ⟨w, hw⟩ : ∃ w, r[i]? = some w := ⟨_, List.getElem?_eq_getElem hp⟩
    obtain ⟨d5, a5⟩ := str_at hu5 (i := 4 + i) (w := w) (by rw [hWr, Nat.add_comm]; exact hw)
    rw [show ((4 + i : Nat) : Int) = 4 + (i : Int) by omega] at a5
    have ht := rdEs_take (num := numR) hw
    have hwl : w.length ≤ 4000 := by have := wm w (by rw [hWr]; simp [List.mem_of_getElem? hw]); omega
    have hwm := wds_mem (c := 44) w
    have hel := rdEs_len (num := numR) (r := r.take i)
    rw [List.length_take] at hel
    simp (disch := omega) [f0, f2, f4, f5, f7, hul, hp', d5, a5, wrap_i64]
    refine words_r (c := 44) (by omega) (by rw [bA_size]; omega) (by omega) fun H6 u6 x6 hu6 => ?_
    replace x6 : HX H5 H6 := x6
    have l6 := x6.len
    rw [list_bA, show UInt8.ofNat 44 = 44 from rfl] at hu6
    have hv6 := hv.mono x6
    have hs6 := hu6.lst
    clear hu6
    have hul6 : vlenS u6 = some (.int .i64 ((wds 44 w).length : Int)) := by rw [hs6.len]; simp
    by_cases h3 : (wds 44 w).length = 3
    · have h3' : (((wds 44 w).length : Int) = 3) = True := eq_true (by omega)
      obtain ⟨a, b, c, hab⟩ := three h3
      rw [hab] at hs6 hwm
      rw [rdE3 hab] at ht
      obtain ⟨z0, y0⟩ := str_at hs6 (i := 0) (w := a) rfl
      have y0 : viaddrS 1 u6 (.int .i64 0) = some (ept 1 u6 0) := y0
      obtain ⟨z1, y1⟩ := str_at hs6 (i := 1) (w := b) rfl
      have y1 : viaddrS 1 u6 (.int .i64 1) = some (ept 1 u6 1) := y1
      obtain ⟨z2, y2⟩ := str_at hs6 (i := 2) (w := c) rfl
      have y2 : viaddrS 1 u6 (.int .i64 2) = some (ept 1 u6 2) := y2
      have ka := hwm a (by simp)
      have kb := hwm b (by simp)
      have kc := hwm c (by simp)
      simp (disch := omega) [f0, f2, f4, f5, f7, hul6, h3', wrap_i64, hv.lst.stor, z0, y0]
      refine number_r (by rw [bA_size]; omega) ?_
      simp (disch := omega) [f0, f2, f4, f5, f7, z1, y1, list_bA, hv.lst.stor]
      refine number_r (by rw [bA_size]; omega) ?_
      simp (disch := omega) [f0, f2, f4, f5, f7, z2, y2, list_bA, hv.lst.stor]
      refine number_r (by rw [bA_size]; omega) ?_
      obtain ⟨v', H8, c1, c2, c3, c4, c5, c6⟩ := hv6.append (lim := lim) (bytes := 24) (x := ⟨numR a, numR b, numR c⟩) (cs := [.int .i64 (numR a), .int .i64 (numR b), .int .i64 (numR c)]) rfl ⟨by omega, by omega⟩ (by omega) (by omega)
      simp (disch := omega) [f0, f2, f4, f5, f7, wrap_i64, list_bA, splice33, c1, c2.lst.stor, c2.lst.one, hv.lst.stor]
      exact ⟨hp, by omega, ⟨c3 _ (x5.trans x6) (Nat.le_refl _), by rw [ht]; exact c2⟩, hp⟩
    · have h3' : (((wds 44 w).length : Int) = 3) = False := eq_false (by omega)
      rw [rdE_no h3, List.append_nil] at ht
      simp (disch := omega) [f0, f2, f4, f5, f7, hul6, h3', wrap_i64]
      exact ⟨hp, by omega, ⟨x5.trans x6, by rw [ht]; exact hv6⟩, hp⟩
  have hp' : (4 + (i : Int) < (Ws.length : Int)) = False := eq_false (by omega)
  have hi2 : i = r.length := by omega
  subst hi2
  rw [List.take_length] at hv
  have hd5 := hd.mono x5
  have hp5 : EdV H5 pv (r.flatMap (rdE numR)) := ⟨hv.lst, rdE_64 fun _ => numR_64⟩
  obtain ⟨W, Q, D, P⟩ := X
  simp only [FlX.mk.injEq] at hX
  obtain ⟨rfl, rfl, rfl, rfl⟩ := hX
  simp only at bd1 bd2 hK i1 i2
  simp [f0, f2, f4, f5, f7, hul, hp', hd5.stor, hp5.stor, hd5.one, hp5.one]
  refine ref03_Format (hg.trans ((x0.trans x4).trans x5)) hd5 hp5 i1 i2 ⟨by omega, by omega⟩ (by omega) fun H6 x6 => ?_
  replace x6 : HX H5 H6 := x6
  have hd6 := hd5.mono x6
  have hp6 := hp5.mono x6
  have xx := ((x0.trans x4).trans x5).trans x6
  by_cases he : validP (numR wa) (numR wb) (rdD wc) (r.flatMap (rdE numR)) = 0
  case neg =>
    rw [prsF_no h4 (fun h => he h.1)] at hK
    simp [he, f2, splice44]
    exact hK H6 .snil .snil xx .nil ⟨.nil, by simp⟩
  rw [txF, if_pos he, he]
  by_cases ha : fmtF (numR wa).toNat (numR wb).toNat (rdD wc) (r.flatMap (rdE numR)) = T
  · rw [prsF_acc h4 ⟨he, ha⟩] at hK
    have hq : vbin .neq (.str (bA (fmtF (numR wa).toNat (numR wb).toNat (rdD wc) (r.flatMap (rdE numR))))) (.str (bA T)) = some (.bool false) := by rw [neq_bA, decide_eq_true ha]; rfl
    simp [hq, f0, f2, f4, hd6.stor, hp6.stor, hd6.one, hp6.one, splice44]
    exact hK H6 dv pv xx hd6 hp6
  · rw [prsF_no h4 (fun h => ha h.2)] at hK
    have hq : vbin .neq (.str (bA (fmtF (numR wa).toNat (numR wb).toNat (rdD wc) (r.flatMap (rdE numR))))) (.str (bA T)) = some (.bool true) := by rw [neq_bA, decide_eq_false ha]; rfl
    simp [hq, f0, f2, splice44]
    exact hK H6 .snil .snil xx .nil ⟨.nil, by simp⟩
theorem prsF_bd {num : List UInt8 → Int} {T : List UInt8} : (prsF (rdF num (wds 32 T)) T).1.D.length ≤ 5000 ∧ (prsF (rdF num (wds 32 T)) T).1.P.length ≤ 5000 := by
  obtain ⟨h1, h2⟩ := rdF_bd (num := num) (T := T)
  unfold prsF
  split
  · simp
  · split
    · constructor
      · show (rdF num (wds 32 T)).D.length ≤ _
        omega
      · show (rdF num (wds 32 T)).P.length ≤ _
        omega
    · simp
theorem law_FlowTexts {ws : List V} {f : Fld} {s : ByteArray} (hv : FldV H ws f) (hg : HX glHp H) (hlim : lim ≤ H.length) (ht : s.size ≤ maxLen) (hK : ∀ H', K (.bool true) H') : VCall tbl lim 4 [.agg ws, .str s] H K := by
  cases hv with
  | mk hW hQ hd hp hD =>
    rename_i d p W Q D P
    refine VCall_fn tbl_at4 rfl ?_
    simp [vf4, hd.stor, hp.stor]
    refine fl_Long hd hp ?_
    by_cases hl1 : D.length ≤ 400 ∧ P.length ≤ 200
    case neg =>
      have : decide (400 < D.length ∨ 200 < P.length) = true := decide_eq_true (by omega)
      rw [this]
      simp; refine fl_known hlim fun H1 _ => ?_; simp; exact hK H1
    have : decide (400 < D.length ∨ 200 < P.length) = false := decide_eq_false (by omega)
    rw [this]
    by_cases h5 : 5000 < s.size
    · have h5' : ((5000 : Int) < (s.size : Int)) = True := eq_true (by omega)
      simp [h5']
      refine fl_known hlim fun H1 _ => ?_; simp; exact hK H1
    have h5' : ((5000 : Int) < (s.size : Int)) = False := eq_false (by omega)
    obtain ⟨T, rfl⟩ : ∃ T, s = bA T := ⟨s.data.toList, bA_list.symm⟩
    simp [h5', hd.stor, hp.stor]
    refine flow_Format hg hd hp hW hQ ⟨by omega, by omega⟩ hlim fun H1 x1 => ?_
    replace x1 : HX H H1 := x1
    have l1 := x1.len
    simp [hd.stor, hp.stor]
    refine ref03_Format (hg.trans x1) (hd.mono x1) (hp.mono x1) hW hQ ⟨by omega, by omega⟩ (by omega) fun H2 x2 => ?_
    replace x2 : HX H1 H2 := x2
    have l2 := x2.len
    simp
    refine flow_ParseF ((hg.trans x1).trans x2) (by omega) fun H3 d3 p3 x3 hd3 hp3 => ?_
    replace x3 : HX H2 H3 := x3
    have l3 := x3.len
    simp [hd3.stor, hp3.stor, hd3.one, hp3.one, splice44]
    refine ref03_ParseF (((hg.trans x1).trans x2).trans x3) (by omega) fun H4 d4 p4 x4 hd4 hp4 => ?_
    replace x4 : HX H3 H4 := x4
    have l4 := x4.len
    rw [← prsF_both] at hd4 hp4 ⊢
    obtain ⟨pl1, pl2⟩ := prsF_bd (num := atV) (T := T)
    generalize prsF (rdF atV (wds 32 T)) T = pp at hd3 hp3 hd4 hp4 pl1 pl2
    have vn : vbin .neq (.str (txF W Q D P)) (.str (txF W Q D P)) = some (.bool false) := by simp [vbin]
    have hd3' := hd3.mono x4
    have hp3' := hp3.mono x4
    simp [hd4.stor, hp4.stor, hd4.one, hp4.one, splice44, vn, hd3.stor, hp3.stor]
    refine ref_Same hd3' hp3' hd4 hp4 ⟨by omega, by omega⟩ ?_
    simp
    have xx := ((x1.trans x2).trans x3).trans x4
    by_cases he : validP W Q D P = 0
    case neg =>
      simp [he]
      refine fl_known (by omega) fun H5 _ => ?_; simp; exact hK H5
    obtain ⟨w, q, rfl, rfl, hf⟩ := valid_pre he
    have hfl := fmtF_len hf
    have hrd := rd_fmtF atV_ok hf
    have hpr : prsF (rdF atV (wds 32 (fmtF w q D P))) (fmtF w q D P) = (⟨w, q, D, P⟩, 0) := by
      rw [hrd, prsF_acc (x := ⟨(w : Int), (q : Int), D, P⟩) (T := fmtF w q D P) (by omega) ⟨he, rfl⟩]
    have et : txF w q D P = bA (fmtF w q D P) := by unfold txF; rw [if_pos he]; rfl
    simp [he, et]
    refine flow_ParseF (hg.trans xx) (by omega) fun H5 d5 p5 x5 hd5 hp5 => ?_
    replace x5 : HX H4 H5 := x5
    have l5 := x5.len
    rw [hpr] at hd5 hp5 ⊢
    simp [hd5.stor, hp5.stor, hd5.one, hp5.one, splice44, hd.stor, hp.stor]
    refine ref_Same hd5 hp5 (hd.mono (xx.trans x5)) (hp.mono (xx.trans x5)) ⟨by simp; omega, by simp; omega⟩ ?_
    simp
    refine fl_known (by first | exact Nat.le_refl _ | omega) fun H7 _ => ?_
    simp
    exact hK H7
end
end Go.Proofs.YtgjlhdggllakbaaDoor.Vm
