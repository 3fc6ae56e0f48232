/- Package dye over the machine: DyeBaths (the law). -/
import Derived.Test.YtlljkhhdhedajaaDyH
namespace Go.Proofs.Ytlljkhhdhedajaa.Vm
open Go
set_option maxRecDepth 100000
set_option linter.unusedSimpArgs false
set_option linter.unusedVariables false
attribute [-simp] List.getD_eq_getElem?_getD

theorem vwantD {b : Bool} : vwant b dv = false := Eq.trans rfl rfl
attribute [simp] vwantD
def okS (a x : Sh) : Prop := bleachP a.l a.t a.b = ((x.l, x.t, x.b), 0) ∨ dyeP a.l a.t a.b x.l x.t = ((x.l, x.t, x.b), 0)
theorem path_chain {lv tn : Int} (hc : colB lv tn = true) : ∀ {f : Nat} {s : Sh}, shB s.l s.t s.b = true → ∀ {p}, pathF lv tn f s.l s.t s.b = some p → (∀ i, i < p.length → okS ((s :: p).getD i default) (p.getD i default)) ∧ ((s :: p).getD p.length default).l = lv ∧ ((s :: p).getD p.length default).t = tn
  | 0, s, hs, p, h => by simp [pathF] at h
  | f + 1, s, hs, p, h => by
    have hs2 := hs
    simp only [shB, decide_eq_true_eq] at hs2
    simp only [pathF] at h
    split at h
    · rename_i e; cases h
      exact ⟨fun i hi => by simp at hi, e⟩
    · split at h
      · rename_i e; cases h
        refine ⟨fun i hi => ?_, rfl, rfl⟩
        have : i = 0 := by simp at hi; omega
        subst this
        refine Or.inr ?_
        simp only [List.getD_cons_zero, dyeP, hs, hc, and_self, if_true]
        rw [if_neg (by omega)]
      · split at h
        · cases h
        · rename_i e3
          simp only [Option.map_eq_some_iff] at h
          obtain ⟨q, hq, rfl⟩ := h
          have hs3 : shB (min (s.l + 2) 10) 0 (s.b + 1) = true := by simp only [shB, decide_eq_true_eq]; omega
          obtain ⟨g1, g2⟩ := path_chain hc (s := ⟨min (s.l + 2) 10, 0, s.b + 1⟩) hs3 hq
          refine ⟨fun i hi => ?_, g2⟩
          match i, hi with
          | 0, _ =>
            refine Or.inl ?_
            simp only [List.getD_cons_zero, bleachP, hs, if_true]
            rw [if_neg e3]
          | i + 1, hi =>
            have := g1 i (by simpa using hi)
            simpa only [List.getD_cons_succ] using this

section
variable {lim : Nat} {H : Hp} {K : V → Hp → Prop} {v : V} {l t b lv tn : Int}
theorem ref_Baths (hlim : lim ≤ H.length) (hK : ∀ H', HX H H' → K (.tup [.int .i64 (pathL l t b lv tn).length, .bool (pathO l t b lv tn).isSome, .int .i64 (pathE l t b lv tn)]) H') : VCall tbl lim 26 [.agg [.int .i64 l, .int .i64 t, .int .i64 b], .int .i64 lv, .int .i64 tn] H K := by
  refine VCall_fn tbl_at26 rfl ?_
  simp [vf26]
  refine ref_ValidShade ?_
  by_cases h : shB l t b = true
  case neg =>
    simp [h]
    simpa [pathL, pathO, pathE, h] using hK _ .refl
  simp [h]
  refine ref_within ?_
  by_cases h1 : 1 ≤ lv ∧ lv ≤ 10
  case neg =>
    have hc : colB lv tn = false := by simp only [colB, decide_eq_false_iff_not]; omega
    simp [h1]
    simpa [pathL, pathO, pathE, hc] using hK _ .refl
  simp [h1]
  refine ref_within ?_
  by_cases h2 : 0 ≤ tn ∧ tn ≤ 5
  case neg =>
    have hc : colB lv tn = false := by simp only [colB, decide_eq_false_iff_not]; omega
    simp [h2]
    simpa [pathL, pathO, pathE, hc] using hK _ .refl
  have hc : colB lv tn = true := by simp only [colB, decide_eq_true_eq]; omega
  have hE : pathE l t b lv tn = 0 := by simp [pathE, h, hc]
  have hO : pathO l t b lv tn = pathF lv tn (4 - b).toNat l t b := by simp [pathO, h, hc]
  rw [hE] at hK
  have hb := h
  simp only [shB, decide_eq_true_eq] at hb
  simp [h2, splice]
  have o0 : OwnT H.length shC (H ++ [.row [.int .i64 l, .int .i64 t, .int .i64 b] true]) (.sl H.length 0 1 3) [⟨l, t, b⟩] := OwnT.new (c := shC) (l := [⟨l, t, b⟩]) (Nat.le_refl _)
  refine wLoop_up 5 (fun n fr L H' => ∃ w now, (fr 1 = .int .i64 lv ∧ fr 2 = .int .i64 tn ∧ fr 9 = w ∧ fr 10 = .int .i64 n) ∧ L = [[.int .i64 l, .int .i64 t, .int .i64 b]] ∧ HX H H' ∧ OwnT H.length shC H' w now ∧ Few now ∧ (∀ x, x ∈ now ↔ Rch ⟨l, t, b⟩ n x) ∧ ∀ m, m < n → ∀ x, Rch ⟨l, t, b⟩ m x → ¬ (x.l = lv ∧ x.t = tn)) ⟨_, _, by simp, rfl, .push, o0, ⟨by simp, by intro s hs; simp at hs; subst hs; exact h⟩, by intro x; simp [Rch], fun m hm => by omega⟩ ?_
  rintro n hn fr L H2 ⟨w, now, ⟨f1, f2, f9, f10⟩, rfl, hx, ho, hfew, hmem, hnone⟩
  have hxl := hx.len
  have hlen := hfew.len
  simp [f1, f2, f9, f10]
  refine cond_dec (fun ht => ?_) fun hfl => ?_
  · simp [f1, f2, f9, f10]
    refine wLoop_up now.length (fun i fr L H' => (fr 1 = .int .i64 lv ∧ fr 2 = .int .i64 tn ∧ fr 9 = w ∧ fr 10 = .int .i64 n ∧ fr 11 = .int .i64 i) ∧ L = [[.int .i64 l, .int .i64 t, .int .i64 b]] ∧ H' = H2 ∧ ∀ x, x ∈ now.take i → ¬ (x.l = lv ∧ x.t = tn)) ⟨by simp [f1, f2, f9, f10], rfl, rfl, by simp⟩ ?_
    clear f1 f2 f9 f10
    rintro i hi fr L H' ⟨⟨f1, f2, f9, f10, f11⟩, rfl, e0, hno⟩
    have e0 := e0.symm
    subst e0
    simp [f1, f2, f9, f10, f11, ho.lst.len]
    refine cond_dec (fun ht2 => ?_) fun hfl2 => ?_
    · have ht2 : i < now.length := by omega
      have r0 : ∀ L, vload none L H2 (eptf 3 w i 0) = some (.int .i64 (now.getD i default).l) := fun L => ho.lst.rd1 ht2 (by omega)
      have r1 : ∀ L, vload none L H2 (eptf 3 w i 1) = some (.int .i64 (now.getD i default).t) := fun L => ho.lst.rd1 ht2 (by omega)
      have fa : ∀ m, vfaddr m (ept 3 w i) = some (eptf 3 w i m) := fun m => ho.lst.faddr ht2
      simp (disch := omega) [f1, f2, f9, f10, f11, ho.lst.at ht2, fa, r0, r1]
      refine cond_bool (fun hm => ?_) fun hm => ?_
      · have hm : (now.getD i default).l = lv ∧ (now.getD i default).t = tn := by simpa using hm
        have hin : now.getD i default ∈ now := by simp [List.getD_eq_getElem?_getD, ht2]
        have hr := (hmem _).1 hin
        obtain ⟨v1, v2⟩ := rch_cost (lv := lv) (tn := tn) hc (s := ⟨l, t, b⟩) h hr
        have vx := v1
        simp only [shB, decide_eq_true_eq] at vx
        obtain ⟨f, hf⟩ : ∃ f, (4 - (now.getD i default).b).toNat = f + 1 := ⟨(4 - (now.getD i default).b).toNat - 1, by omega⟩
        obtain ⟨q, q1, q2⟩ := v2 (p := []) (by rw [hf]; simp only [pathF]; rw [if_pos hm])
        simp only at q1
        have q3 : n ≤ q.length := by
          obtain ⟨x, g1, g2⟩ := path_rch hc (s := ⟨l, t, b⟩) h q1
          by_cases e : n ≤ q.length
          · exact e
          · exact absurd g2 (hnone _ (by omega) x g1)
        have q4 : q.length = n := by simp at q2; omega
        have := hK _ hx
        rw [hO, q1] at this
        have e2 : pathL l t b lv tn = q := by simp [pathL, hO, q1]
        rw [e2, q4] at this
        simp [f10]
        exact this
      · have hm : ¬ ((now.getD i default).l = lv ∧ (now.getD i default).t = tn) := by simpa using hm
        simp (disch := omega) [f1, f2, f9, f10, f11, wrap_i64]
        refine ⟨by omega, fun x hx1 => ?_⟩
        rcases (mem_take_succ ht2).1 hx1 with g | g
        · intro e1 e2; exact hno x g ⟨e1, e2⟩
        · subst g; intro e1 e2; exact hm ⟨e1, e2⟩
    · have e : now.length = i := by omega
      subst e
      rw [List.take_length] at hno
      simp [f1, f2, f9, f10, ho.lst.stor]
      refine ref_after ho.lst hfew (by omega) fun H3 w' out x3 o3 f3 m3 => ?_
      replace x3 : HX H2 H3 := x3
      simp (disch := omega) [f1, f2, f10, wrap_i64]
      refine ⟨by omega, hx.trans x3, out, o3.le hxl, f3, fun x => ?_, fun m hm x hr => ?_⟩
      · rw [m3]
        constructor
        · rintro ⟨a, g1, g2⟩; exact ⟨a, (hmem a).1 g1, g2⟩
        · rintro ⟨a, g1, g2⟩; exact ⟨a, (hmem a).2 g1, g2⟩
      · by_cases e : m < n
        · intro e1 e2; exact hnone m e x hr ⟨e1, e2⟩
        · have : m = n := by omega
          subst this
          intro e1 e2; exact hno x ((hmem x).2 hr) ⟨e1, e2⟩
  · have hnn : pathF lv tn (4 - b).toNat l t b = none := by
      cases hp : pathF lv tn (4 - b).toNat l t b with
      | none => rfl
      | some p =>
        have pl := path_len hp
        obtain ⟨x, g1, g2⟩ := path_rch hc (s := ⟨l, t, b⟩) h hp
        exact absurd g2 (hnone _ (by omega) x g1)
    have := hK _ hx
    rw [hO, hnn] at this
    have e2 : pathL l t b lv tn = [] := by simp [pathL, hO, hnn]
    rw [e2] at this
    simp
    simpa using this
theorem ref_IsPath {p : List Sh} (hv : LstV shC H v p) (hc : colB lv tn = true) (hs : shB l t b = true) (hp : pathF lv tn (4 - b).toNat l t b = some p) (hK : K (.bool true) H) : VCall tbl lim 28 [.agg [.int .i64 l, .int .i64 t, .int .i64 b], .int .i64 lv, .int .i64 tn, v] H K := by
  obtain ⟨ch, e1, e2⟩ := path_chain hc (s := ⟨l, t, b⟩) hs hp
  have pl := path_len hp
  have hb := hs
  simp only [shB, decide_eq_true_eq] at hb
  refine VCall_fn tbl_at28 rfl ?_
  simp [vf28]
  refine wLoop_up p.length (fun i fr L H' => ∃ X, (fr 1 = .int .i64 lv ∧ fr 2 = .int .i64 tn ∧ fr 3 = v ∧ fr 4 = .lp 0 0 ∧ fr 9 = .int .i64 i) ∧ L = [.int .i64 (((⟨l, t, b⟩ : Sh) :: p).getD i default).l, .int .i64 (((⟨l, t, b⟩ : Sh) :: p).getD i default).t, .int .i64 (((⟨l, t, b⟩ : Sh) :: p).getD i default).b] :: X ∧ H' = H) ⟨[], by simp, by simp [List.getD_cons_zero], rfl⟩ ?_
  rintro i hi fr L H' ⟨X, ⟨f1, f2, f3, f4, f9⟩, rfl, e0⟩
  have e0 := e0.symm
  subst e0
  simp [f1, f2, f3, f4, f9, hv.len]
  refine cond_dec (fun ht => ?_) fun hfl => ?_
  · have ht : i < p.length := by omega
    have hok := ch i ht
    have esucc : ((⟨l, t, b⟩ : Sh) :: p).getD (i + 1) default = p.getD i default := by simp only [List.getD_cons_succ]
    generalize ha : ((⟨l, t, b⟩ : Sh) :: p).getD i default = a at *
    have r0 : ∀ L, vload none L H (eptf 3 v i 0) = some (.int .i64 (p.getD i default).l) := fun L => hv.rd1 ht (by omega)
    have r1 : ∀ L, vload none L H (eptf 3 v i 1) = some (.int .i64 (p.getD i default).t) := fun L => hv.rd1 ht (by omega)
    have fa : ∀ m, vfaddr m (ept 3 v i) = some (eptf 3 v i m) := fun m => hv.faddr ht
    simp [f1, f2, f3, f4, f9]
    refine ref_Bleach ?_
    simp (disch := omega) [f1, f2, f3, f4, f9, lastO, lastS, hv.at ht, fa, r0, r1]
    refine ref_Dye ?_
    by_cases hbl : bleachP a.l a.t a.b = (((p.getD i default).l, (p.getD i default).t, (p.getD i default).b), 0)
    · simp (disch := omega) [f1, f2, f3, f4, f9, tw0, tw1, tws0, tws1, hbl, hv.at ht, sh_load hv, veqA_3, wrap_i64, esucc]
      omega
    · have hdy := hok.resolve_left hbl
      by_cases g1 : (bleachP a.l a.t a.b).2 = 0
      · have g2 : ¬ ((bleachP a.l a.t a.b).1.1 = (p.getD i default).l ∧ (bleachP a.l a.t a.b).1.2.1 = (p.getD i default).t ∧ (bleachP a.l a.t a.b).1.2.2 = (p.getD i default).b) := by
          intro g; apply hbl
          obtain ⟨x1, x2, x3⟩ := g
          cases hq : bleachP a.l a.t a.b with
          | mk u w =>
            obtain ⟨u1, u2, u3⟩ := u
            rw [hq] at x1 x2 x3 g1
            simp only at x1 x2 x3 g1
            rw [x1, x2, x3, g1]
        have g3 : (decide ((bleachP a.l a.t a.b).1.1 = (p.getD i default).l) && (decide ((bleachP a.l a.t a.b).1.2.1 = (p.getD i default).t) && decide ((bleachP a.l a.t a.b).1.2.2 = (p.getD i default).b))) = false := by
          rw [← Bool.not_eq_true]; simpa using g2
        simp (disch := omega) [f1, f2, f3, f4, f9, tw0, tw1, tws0, tws1, g1, g3, hdy, hv.at ht, sh_load hv, veqA_3, wrap_i64, esucc]
        omega
      · simp (disch := omega) [f1, f2, f3, f4, f9, tw0, tw1, tws0, tws1, g1, hdy, hv.at ht, sh_load hv, veqA_3, wrap_i64, esucc]
        omega
  · have e : p.length = i := by omega
    subst e
    simp [f1, f2, f3, f4, f9, e1, e2]
    exact hK
theorem law_DyeBaths {x y : Int} (hlim : lim ≤ H.length) (_ : I64 l) (_ : I64 t) (_ : I64 b) (_ : I64 x) (_ : I64 y) (hK : ∀ H', K (.bool true) H') : VCall tbl lim 4 [.agg [.int .i64 l, .int .i64 t, .int .i64 b], .agg [.int .i64 x, .int .i64 y]] H K := by
  refine VCall_fn tbl_at4 rfl ?_
  simp [vf4]
  refine dye_Baths hlim fun H1 x1 => ?_
  replace x1 : HX H H1 := x1
  have l1 := x1.len
  simp
  refine ref_Baths (by omega) fun H2 x2 => ?_
  replace x2 : HX H1 H2 := x2
  have l2 := x2.len
  simp
  refine dye_Path (by omega) fun H3 v x3 o3 => ?_
  replace x3 : HX H2 H3 := x3
  have l3 := x3.len
  simp [o3.lst.stor, o3.lst.len]
  cases hO : pathO l t b x y with
  | none =>
    simp [hO]
    refine law_known (by omega) fun H4 => ?_
    simp; exact hK _
  | some p =>
    have hL : pathL l t b x y = p := by simp [pathL, hO]
    have hval : shB l t b = true ∧ colB x y = true := by
      by_cases e : shB l t b = true ∧ colB x y = true
      · exact e
      · simp [pathO, e] at hO
    have hp : pathF x y (4 - b).toNat l t b = some p := by rw [← hO]; simp [pathO, hval]
    rw [hL] at o3
    simp [hO, o3.lst.stor]
    refine ref_IsPath o3.lst hval.2 hval.1 hp ?_
    simp
    refine law_known (by omega) fun H4 => ?_
    simp; exact hK _
end
end Go.Proofs.Ytlljkhhdhedajaa.Vm
