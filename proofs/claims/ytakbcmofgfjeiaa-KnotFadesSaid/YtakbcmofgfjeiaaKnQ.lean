/- Laws of knot over the machine: Fade of the reference, KnotFades. -/
import Derived.Test.YtakbcmofgfjeiaaKnP
import Derived.Test.YtakbcmofgfjeiaaKnD
namespace Go.Proofs.Ytakbcmofgfjeiaa.Vm
open Go
set_option maxRecDepth 100000
set_option linter.unusedSimpArgs false
set_option linter.unusedVariables false
attribute [-simp] List.getD_eq_getElem?_getD

theorem frat_one {a b c d : Nat} (F : FD a b c d 1) : frat a b c d 1 0 = [.int .i64 (a : Int), .int .i64 (b : Int)] ∧ fQ a b c d 1 0 = b := by
  have e1 : fnum a b c d 1 0 = a * d := by simp [fnum, stp]
  have e2 : fden b d 1 = b * d := by simp [fden, stp]
  have e3 : fgcd a b c d 1 0 = d := by rw [fgcd, e1, e2, Nat.gcd_mul_right, F.g1, Nat.one_mul]
  have hd := F.d1
  have e4 : fP a b c d 1 0 = a := by rw [fP, e1, e3]; exact Nat.mul_div_cancel _ (by omega)
  have e5 : fQ a b c d 1 0 = b := by rw [fQ, e2, e3]; exact Nat.mul_div_cancel _ (by omega)
  exact ⟨by rw [frat, e4, e5], e5⟩
theorem fBad_iff {a b c d n : Nat} : ∀ {m}, fBad a b c d n m = false ↔ ∀ i, i < m → fQ a b c d n i ≤ 1000
  | 0 => by simp [fBad]
  | m + 1 => by
    rw [fBad, Bool.or_eq_false_iff, fBad_iff (m := m)]
    constructor
    · rintro ⟨h1, h2⟩ i hi
      by_cases e : i = m
      · subst e; simpa using h2
      · exact h1 i (by omega)
    · intro h
      exact ⟨fun i hi => h i (by omega), by simpa using h m (by omega)⟩
theorem fQ_of {a b c d n i a' b' c' d' n' i' : Nat} (h : frat a b c d n i = frat a' b' c' d' n' i') : fQ a b c d n i = fQ a' b' c' d' n' i' := by
  simp only [frat, List.cons.injEq, V.int.injEq, true_and, and_true] at h
  omega
theorem fBad_back {a b c d n : Nat} (hn : 2 ≤ n) (h : fBad a b c d n n = false) : fBad c d a b n n = false := by
  rw [fBad_iff] at h ⊢
  intro i hi
  have e := frat_back (a := a) (b := b) (c := c) (d := d) (i := n - 1 - i) (n := n) (by omega) hn
  have e2 : n - 1 - (n - 1 - i) = i := by omega
  rw [e2] at e
  rw [fQ_of e]
  exact h _ (by omega)

section
variable {lim : Nat} {H : Hp} {K : V → Hp → Prop}

theorem ref_Fade {a b c d n : Int} (ha : I64 a) (hb : I64 b) (hc : I64 c) (hd : I64 d) (hlim : lim ≤ H.length)
    (hE : fadB a b c d n = false → K (.tup [.snil, .int .i64 1]) H)
    (hB : fadB a b c d n = true → ∀ A B C D N : Nat, a = A → b = B → c = C → d = D → n = N → FD A B C D N → fBad A B C D N N = true → ∀ H', HX H H' → K (.tup [.snil, .int .i64 4]) H')
    (hO : fadB a b c d n = true → ∀ A B C D N : Nat, a = A → b = B → c = C → d = D → n = N → FD A B C D N → fBad A B C D N N = false → ∀ H' v, HX H H' → OwnR H.length 2 H' v (fadL A B C D N N) → K (.tup [v, .int .i64 0]) H') :
    VCall tbl lim 34 [rat a b, rat c d, .int .i64 n] H K := by
  refine VCall_fn tbl_at34 rfl ?_
  simp [vf34]
  refine ref_ValidDensity ha hb ?_
  cases h1 : dens a b with
  | false => simp; exact hE (by simp [fadB, h1])
  | true =>
  simp
  refine ref_ValidDensity hc hd ?_
  cases h2 : dens c d with
  | false => simp; exact hE (by simp [fadB, h2])
  | true =>
  simp
  refine cond_bool (fun h3 => ?_) fun h3 => ?_
  · simp
    have h3 : n < 1 ∨ 60 < n := by simpa using h3
    exact hE (by simp [fadB]; omega)
  have h3 : 1 ≤ n ∧ n ≤ 60 := by simp at h3; omega
  have hf : fadB a b c d n = true := by simp [fadB, h1, h2, h3]
  obtain ⟨A, B, C, D, N, rfl, rfl, rfl, rfl, rfl, F⟩ := FD.of hf
  replace hB := hB hf A B C D N rfl rfl rfl rfl rfl F
  replace hO := hO hf A B C D N rfl rfl rfl rfl rfl F
  clear hE
  simp
  refine cond_dec (fun h4 => ?_) fun h4 => ?_
  · have : N = 1 := by omega
    subst this
    obtain ⟨e1, e2⟩ := frat_one F
    have hb2 := F.b2
    have eL : fadL A B C D 1 1 = [[.int .i64 (A : Int), .int .i64 (B : Int)]] := by simp [fadL, List.range_succ, e1]
    have eb : fBad A B C D 1 1 = false := by simp [fBad, e2]; omega
    simp
    refine hO eb _ _ .push ?_
    rw [eL]
    exact .row (l := [[.int .i64 (A : Int), .int .i64 (B : Int)]]) (Nat.le_refl _) (by rw [List.getElem?_concat_length]; rfl) (by simp)
  have bd0 := F.bds (i := 0) (by omega)
  have eS : (N : Int) - 1 = (stp N : Nat) := by simp only [stp]; omega
  have eBD : (B : Int) * D = ((B * D : Nat) : Int) := (Int.natCast_mul _ _).symm
  have eDE : ((B * D : Nat) : Int) * (stp N : Nat) = ((fden B D N : Nat) : Int) := (Int.natCast_mul _ _).symm
  obtain ⟨BD, hBD⟩ : ∃ x, x = B * D := ⟨_, rfl⟩
  obtain ⟨DE, hDE⟩ : ∃ x, x = fden B D N := ⟨_, rfl⟩
  obtain ⟨s, hs⟩ : ∃ x, x = stp N := ⟨_, rfl⟩
  rw [← hBD] at eBD eDE bd0
  rw [← hDE] at eDE bd0
  rw [← hs] at eS eDE bd0
  have w1 := wrap_i64 (n := (s : Int)) (by omega) (by omega)
  have w2 := wrap_i64 (n := (BD : Int)) (by omega) (by omega)
  have w3 := wrap_i64 (n := (DE : Int)) (by omega) (by omega)
  simp
  refine wLoop_up N (fun i fr L H' => ∃ (u : V), (fr 2 = .int .i64 N ∧ fr 3 = .lp 0 0 ∧ fr 4 = .lp 1 0 ∧ fr 8 = u ∧ fr 9 = .int .i64 i) ∧
    L = [[.int .i64 A, .int .i64 B], [.int .i64 C, .int .i64 D]] ∧ HX H H' ∧ OwnR H.length 2 H' u (fadL A B C D N i) ∧ fBad A B C D N i = false) ⟨.snil, by simp, by simp, .refl, .nil, rfl⟩ ?_
  rintro i hi fr L H' ⟨u, ⟨f2, f3, f4, f8, f9⟩, rfl, hx, hu, hbad⟩
  have hxl := hx.len
  simp [f2, f3, f4, f8, f9]
  refine cond_dec (fun ht => ?_) fun hf => ?_
  · have bd := F.bds (i := i) (by omega)
    have eAD : (A : Int) * D = ((A * D : Nat) : Int) := (Int.natCast_mul _ _).symm
    have eCB : (C : Int) * B = ((C * B : Nat) : Int) := (Int.natCast_mul _ _).symm
    have eT : (s : Int) - i = ((s - i : Nat) : Int) := by omega
    have eP1 : ((A * D : Nat) : Int) * ((s - i : Nat) : Int) = ((A * D * (s - i) : Nat) : Int) := (Int.natCast_mul _ _).symm
    have eP2 : ((C * B : Nat) : Int) * (i : Int) = ((C * B * i : Nat) : Int) := (Int.natCast_mul _ _).symm
    have eN : fnum A B C D N i = A * D * (s - i) + C * B * i := by rw [hs]; rfl
    rw [← hs, ← hDE] at bd
    have gg := fden_gcd (a := A) (b := B) (c := C) (d := D) (n := N) (i := i) (by rw [← hDE]; omega)
    have eg : fgcd A B C D N i = Nat.gcd (fnum A B C D N i) DE := by rw [hDE]; rfl
    have ep : fP A B C D N i = fnum A B C D N i / fgcd A B C D N i := rfl
    have eq : fQ A B C D N i = DE / fgcd A B C D N i := by rw [hDE]; rfl
    have er : frat A B C D N i = [.int .i64 (fP A B C D N i : Nat), .int .i64 (fQ A B C D N i : Nat)] := rfl
    have hp := Nat.div_le_self (fnum A B C D N i) (fgcd A B C D N i)
    have hq := Nat.div_le_self DE (fgcd A B C D N i)
    have eb : fBad A B C D N (i + 1) = decide (1000 < fQ A B C D N i) := by simp only [fBad, hbad, Bool.false_or]
    rw [← ep] at hp
    rw [← eq] at hq
    rw [← hDE] at gg
    have eDP : ((fnum A B C D N i : Nat) : Int).tdiv (fgcd A B C D N i : Nat) = (fP A B C D N i : Nat) := rfl
    have eDQ : ((DE : Nat) : Int).tdiv (fgcd A B C D N i : Nat) = (fQ A B C D N i : Nat) := by rw [eq]; rfl
    generalize fP A B C D N i = P at *
    generalize fQ A B C D N i = Q at *
    generalize A * D * (s - i) = P1 at *
    generalize C * B * i = P2 at *
    generalize A * D = AD at *
    generalize C * B = CB at *
    generalize s - i = T at *
    generalize fgcd A B C D N i = G at *
    have eNum : (P1 : Int) + P2 = ((fnum A B C D N i : Nat) : Int) := by omega
    generalize fnum A B C D N i = NU at *
    simp (disch := omega) [f2, f3, f4, f8, f9, wrap_i64, eS, w1, w2, w3, eBD, eDE, eAD, eCB, eT, eP1, eP2, eNum]
    refine ref_divisor (a := NU) (b := DE) (by omega) (by omega) ?_
    rw [← eg]
    simp (disch := omega) [f2, f3, f4, f8, f9, wrap_i64, eDP, eDQ]
    refine cond_dec (fun hz => ?_) fun hz => ?_
    · simp
      refine hB (fBad_mono (i := i + 1) ?_ (by omega)) _ hx
      rw [eb]; exact decide_eq_true (by omega)
    · obtain ⟨v', H2, ea, o2, x2, n2⟩ := hu.append (lim := lim) (bytes := 16) (x := [.int .i64 (P : Int), .int .i64 (Q : Int)]) rfl (by omega) ⟨hlim, hxl⟩ (by rw [fadL_len]; omega)
      simp (disch := omega) [f2, f3, f4, f8, f9, wrap_i64, ea, eDP, eDQ]
      refine ⟨by omega, x2 _ hx (Nat.le_refl _), ?_, ?_⟩
      · rw [fadL_snoc, er]; exact o2
      · rw [eb]; exact decide_eq_false (by omega)
  · have : i = N := by omega
    subst this
    simp [f8, hu.toR.stor]
    exact hO hbad _ _ hx hu
end
end Go.Proofs.Ytakbcmofgfjeiaa.Vm
