/- Laws of knot over the machine: Fade. -/
import Derived.Test.YtakbcmofgfjeiaaKnO
namespace Go.Proofs.Ytakbcmofgfjeiaa.Vm
open Go
set_option maxRecDepth 100000
set_option linter.unusedSimpArgs false
set_option linter.unusedVariables false
attribute [-simp] List.getD_eq_getElem?_getD

section
variable {lim : Nat} {H : Hp} {K : V → Hp → Prop}
theorem fden_gcd {a b c d n i : Nat} (h : 1 ≤ fden b d n) : 1 ≤ fgcd a b c d n i ∧ fgcd a b c d n i ≤ fden b d n :=
  ⟨Nat.gcd_pos_of_pos_right _ h, Nat.gcd_le_right _ h⟩

theorem knot_Fade {a b c d n : Int} (ha : I64 a) (hb : I64 b) (hc : I64 c) (hd : I64 d) (hlim : lim ≤ H.length)
    (hE : fadB a b c d n = false → K (.tup [.snil, .int .i64 1]) H)
    (hB : fadB a b c d n = true → ∀ A B C D N : Nat, a = A → b = B → c = C → d = D → n = N → FD A B C D N → fBad A B C D N N = true → ∀ H', HX H H' → K (.tup [.snil, .int .i64 4]) H')
    (hO : fadB a b c d n = true → ∀ A B C D N : Nat, a = A → b = B → c = C → d = D → n = N → FD A B C D N → fBad A B C D N N = false → ∀ H' v, HX H H' → OwnR H.length 2 H' v (fadL A B C D N N) → K (.tup [v, .int .i64 0]) H') :
    VCall tbl lim 33 [rat a b, rat c d, .int .i64 n] H K := by
  refine VCall_fn tbl_at33 rfl ?_
  simp [vf33]
  refine knot_ValidDensity ha hb ?_
  cases h1 : dens a b with
  | false => simp; exact hE (by simp [fadB, h1])
  | true =>
  simp
  refine knot_ValidDensity hc hd ?_
  cases h2 : dens c d with
  | false => simp; exact hE (by simp [fadB, h2])
  | true =>
  simp
  refine cond_bool (fun h3 => ?_) fun h3 => ?_
  · simp
    have h3 : n < 1 ∨ 60 < n := by simpa using h3
    exact hE (by simp [fadB]; omega)
  have h3 : 1 ≤ n ∧ n ≤ 60 := by simp at h3; omega
  have hf : fadB a b c d n = true := by simp [fadB, h1, h2, h3]
  obtain ⟨A, B, C, D, N, rfl, rfl, rfl, rfl, rfl, F⟩ := FD.of hf
  replace hB := hB hf A B C D N rfl rfl rfl rfl rfl F
  replace hO := hO hf A B C D N rfl rfl rfl rfl rfl F
  clear hE
  have bd0 := F.bds (i := 0) (by omega)
  have eS : max ((N : Int) - 1) 1 = (stp N : Nat) := by simp only [stp]; omega
  have eBD : (B : Int) * D = ((B * D : Nat) : Int) := (Int.natCast_mul _ _).symm
  have eDE : ((B * D : Nat) : Int) * (stp N : Nat) = ((fden B D N : Nat) : Int) := (Int.natCast_mul _ _).symm
  obtain ⟨BD, hBD⟩ : ∃ x, x = B * D := ⟨_, rfl⟩
  obtain ⟨DE, hDE⟩ : ∃ x, x = fden B D N := ⟨_, rfl⟩
  obtain ⟨s, hs⟩ : ∃ x, x = stp N := ⟨_, rfl⟩
  rw [← hBD] at eBD eDE bd0
  rw [← hDE] at eDE bd0
  rw [← hs] at eS eDE bd0
  have w1 := wrap_i64 (n := (N : Int) - 1) (by omega) (by omega)
  have w2 := wrap_i64 (n := (BD : Int)) (by omega) (by omega)
  have w3 := wrap_i64 (n := (DE : Int)) (by omega) (by omega)
  simp [w1, eS, eBD, w2, eDE, w3]
  refine wLoop_up N (fun i fr L H' => ∃ (u : V) (X : List (List V)), (fr 3 = .lp 0 0 ∧ fr 4 = .lp 1 0 ∧ fr 8 = .int .i64 (s : Int) ∧ fr 9 = .int .i64 (DE : Int) ∧ fr 10 = u ∧ fr 41 = .int .i64 N ∧ fr 42 = .int .i64 i) ∧
    L = [.int .i64 A, .int .i64 B] :: [.int .i64 C, .int .i64 D] :: X ∧ HX H H' ∧ OwnR H.length 2 H' u (fadL A B C D N i) ∧ fBad A B C D N i = false) ⟨.snil, [], by simp, by simp, .refl, .nil, rfl⟩ ?_
  rintro i hi fr L H' ⟨u, X, ⟨f3, f4, f8, f9, f10, f41, f42⟩, rfl, hx, hu, hbad⟩
  have hxl := hx.len
  have hXc : ∀ c : List V, (X ++ [c])[X.length]? = some c := fun _ => List.getElem?_concat_length
  simp [f3, f4, f8, f9, f10, f41, f42]
  refine cond_dec (fun ht => ?_) fun hf => ?_
  · have bd := F.bds (i := i) (by omega)
    have eAD : (A : Int) * D = ((A * D : Nat) : Int) := (Int.natCast_mul _ _).symm
    have eCB : (C : Int) * B = ((C * B : Nat) : Int) := (Int.natCast_mul _ _).symm
    have eT : (s : Int) - i = ((s - i : Nat) : Int) := by omega
    have eP1 : ((A * D : Nat) : Int) * ((s - i : Nat) : Int) = ((A * D * (s - i) : Nat) : Int) := (Int.natCast_mul _ _).symm
    have eP2 : ((C * B : Nat) : Int) * (i : Int) = ((C * B * i : Nat) : Int) := (Int.natCast_mul _ _).symm
    have eN : fnum A B C D N i = A * D * (s - i) + C * B * i := by rw [hs]; rfl
    rw [← hs, ← hDE] at bd
    have gg := fden_gcd (a := A) (b := B) (c := C) (d := D) (n := N) (i := i) (by rw [← hDE]; omega)
    have eg : fgcd A B C D N i = Nat.gcd (fnum A B C D N i) DE := by rw [hDE]; rfl
    have ep : fP A B C D N i = fnum A B C D N i / fgcd A B C D N i := rfl
    have eq : fQ A B C D N i = DE / fgcd A B C D N i := by rw [hDE]; rfl
    have er : frat A B C D N i = [.int .i64 (fP A B C D N i : Nat), .int .i64 (fQ A B C D N i : Nat)] := rfl
    have hp := Nat.div_le_self (fnum A B C D N i) (fgcd A B C D N i)
    have hq := Nat.div_le_self DE (fgcd A B C D N i)
    have eb : fBad A B C D N (i + 1) = decide (1000 < fQ A B C D N i) := by simp only [fBad, hbad, Bool.false_or]
    rw [← ep] at hp
    rw [← eq] at hq
    rw [← hDE] at gg
    have eDP : ((fnum A B C D N i : Nat) : Int).tdiv (fgcd A B C D N i : Nat) = (fP A B C D N i : Nat) := rfl
    have eDQ : ((DE : Nat) : Int).tdiv (fgcd A B C D N i : Nat) = (fQ A B C D N i : Nat) := by rw [eq]; rfl
    generalize fP A B C D N i = P at *
    generalize fQ A B C D N i = Q at *
    generalize A * D * (s - i) = P1 at *
    generalize C * B * i = P2 at *
    generalize A * D = AD at *
    generalize C * B = CB at *
    generalize s - i = T at *
    generalize fgcd A B C D N i = G at *
    have eNum : (P1 : Int) + P2 = ((fnum A B C D N i : Nat) : Int) := by omega
    generalize fnum A B C D N i = NU at *
    simp (disch := omega) [f3, f4, f8, f9, f10, f41, f42, wrap_i64, eAD, eCB, eT, eP1, eP2, eNum]
    refine knot_gcd (a := NU) (b := DE) (by omega) (by omega) ?_
    rw [← eg]
    simp (disch := omega) [f3, f4, f8, f9, f10, f41, f42, wrap_i64, eDP, eDQ, splice, hXc]
    refine cond_dec (fun hz => ?_) fun hz => ?_
    · simp
      refine hB (fBad_mono (i := i + 1) ?_ (by omega)) _ hx
      rw [eb]; exact decide_eq_true (by omega)
    · obtain ⟨v', H2, ea, o2, x2, n2⟩ := hu.append (lim := lim) (bytes := 16) (x := [.int .i64 (P : Int), .int .i64 (Q : Int)]) rfl (by omega) ⟨hlim, hxl⟩ (by rw [fadL_len]; omega)
      have hXd : ∀ c : List V, (X ++ [c])[X.length]? = some c := fun _ => List.getElem?_concat_length
      simp (disch := omega) [f3, f4, f8, f9, f10, f41, f42, wrap_i64, hXc, splice, ea, rd]
      refine ⟨by omega, x2 _ hx (Nat.le_refl _), ?_, ?_⟩
      · rw [fadL_snoc, er]; exact o2
      · rw [eb]; exact decide_eq_false (by omega)
  · have : i = N := by omega
    subst this
    simp [f10, hu.toR.stor]
    exact hO hbad _ _ hx hu
end
end Go.Proofs.Ytakbcmofgfjeiaa.Vm
