/- Package dye over the machine: DyeReaches. -/
import Derived.Test.YtlljkhhdhedajaaDyD
namespace Go.Proofs.Ytlljkhhdhedajaa.Vm
open Go
set_option maxRecDepth 100000
set_option linter.unusedSimpArgs false
set_option linter.unusedVariables false
attribute [-simp] List.getD_eq_getElem?_getD

/-- from a lighter shade it takes one bath more at most -/
theorem path_mono {lv tn : Int} : ∀ {f : Nat} {l t b l2 t2 : Int}, l2 ≤ l → ∀ {p2}, pathF lv tn f l2 t2 b = some p2 → ∃ p, pathF lv tn f l t b = some p ∧ p.length ≤ 1 + p2.length
  | 0, _, _, _, _, _, _, p2, h => by simp [pathF] at h
  | f + 1, l, t, b, l2, t2, hle, p2, h => by
    simp only [pathF] at h ⊢
    by_cases e : l = lv ∧ t = tn
    · rw [if_pos e]; exact ⟨_, rfl, by simp⟩
    · rw [if_neg e]
      by_cases e1 : lv ≤ l
      · rw [if_pos e1]; exact ⟨_, rfl, by simp⟩
      · rw [if_neg e1]
        rw [if_neg (by omega), if_neg (by omega)] at h
        by_cases e3 : b = 3
        · rw [if_pos e3] at h; cases h
        · rw [if_neg e3] at h ⊢
          simp only [Option.map_eq_some_iff] at h
          obtain ⟨q, hq, rfl⟩ := h
          obtain ⟨p, hp, hl⟩ := path_mono (l := min (l + 2) 10) (t := 0) (by omega) hq
          exact ⟨_, by rw [hp]; rfl, by simp; omega⟩
theorem path_len {lv tn : Int} : ∀ {f : Nat} {l t b : Int} {p}, pathF lv tn f l t b = some p → p.length ≤ f
  | 0, _, _, _, p, h => by simp [pathF] at h
  | f + 1, l, t, b, p, h => by
    simp only [pathF] at h
    split at h
    · cases h; simp
    · split at h
      · cases h; simp
      · split at h
        · cases h
        · simp only [Option.map_eq_some_iff] at h
          obtain ⟨q, hq, rfl⟩ := h
          have := path_len hq
          simp; omega
/-- from each shade of a way: no more baths than the two ways have -/
theorem path_via {lv tn lb tb : Int} : ∀ {f : Nat} {l t b : Int}, shB l t b = true → f = (4 - b).toNat → colB lv tn = true → ∀ {p}, pathF lv tn f l t b = some p → ∀ i, i < p.length →
    shB (p.getD i default).l (p.getD i default).t (p.getD i default).b = true ∧
    ∀ {r}, pathF lb tb (4 - (p.getD i default).b).toNat (p.getD i default).l (p.getD i default).t (p.getD i default).b = some r → ∃ r', pathF lb tb f l t b = some r' ∧ r'.length ≤ i + 1 + r.length
  | 0, _, _, _, _, _, _, p, h => by simp [pathF] at h
  | f + 1, l, t, b, hs, hf, hc, p, h => by
    have hs2 := hs
    simp only [shB, decide_eq_true_eq] at hs2
    have hc2 := hc
    simp only [colB, decide_eq_true_eq] at hc2
    simp only [pathF] at h
    by_cases e : l = lv ∧ t = tn
    · rw [if_pos e] at h; cases h; intro i hi; simp at hi
    · rw [if_neg e] at h
      by_cases e1 : lv ≤ l
      · rw [if_pos e1] at h; cases h
        intro i hi
        have : i = 0 := by simp at hi; omega
        subst this
        simp only [List.getD_cons_zero]
        refine ⟨by simp only [shB, decide_eq_true_eq]; omega, fun {r} hr => ?_⟩
        rw [← hf] at hr
        obtain ⟨r', h1, h2⟩ := path_mono (l := l) (t := t) e1 hr
        exact ⟨r', h1, by omega⟩
      · rw [if_neg e1] at h
        by_cases e3 : b = 3
        · rw [if_pos e3] at h; cases h
        · rw [if_neg e3] at h
          simp only [Option.map_eq_some_iff] at h
          obtain ⟨q, hq, rfl⟩ := h
          have hs3 : shB (min (l + 2) 10) 0 (b + 1) = true := by simp only [shB, decide_eq_true_eq]; omega
          have step : ∀ {r}, pathF lb tb f (min (l + 2) 10) 0 (b + 1) = some r → ∃ r', pathF lb tb (f + 1) l t b = some r' ∧ r'.length ≤ 1 + r.length := by
            intro r hr
            simp only [pathF]
            by_cases g : l = lb ∧ t = tb
            · rw [if_pos g]; exact ⟨_, rfl, by simp⟩
            · rw [if_neg g]
              by_cases g1 : lb ≤ l
              · rw [if_pos g1]; exact ⟨_, rfl, by simp⟩
              · rw [if_neg g1, if_neg e3, hr]; exact ⟨_, rfl, by simp; omega⟩
          intro i hi
          match i, hi with
          | 0, hi =>
            simp only [List.getD_cons_zero]
            refine ⟨hs3, fun {r} hr => ?_⟩
            rw [show (4 - (b + 1)).toNat = f by omega] at hr
            obtain ⟨r', h1, h2⟩ := step hr
            exact ⟨r', h1, by omega⟩
          | i + 1, hi =>
            simp only [List.getD_cons_succ]
            obtain ⟨a1, a2⟩ := path_via (lb := lb) (tb := tb) hs3 (by omega) hc hq i (by simpa using hi)
            refine ⟨a1, fun {r} hr => ?_⟩
            obtain ⟨r1, h1, h2⟩ := a2 hr
            obtain ⟨r', h3, h4⟩ := step h1
            exact ⟨r', h3, by omega⟩

theorem tw0 {α : Type} {X : List α} {c d : α} : (X ++ [c, d])[X.length]? = some c := by simp
theorem tw1 {α : Type} {X : List α} {c d : α} : (X ++ [c, d])[X.length + 1]? = some d := by simp
theorem tws0 {α : Type} {X : List α} {c d e : α} : (X ++ [c, d]).set X.length e = X ++ [e, d] := by simp
theorem tws1 {α : Type} {X : List α} {c d e : α} : (X ++ [c, d]).set (X.length + 1) e = X ++ [c, e] := by
  rw [List.set_append_right _ _ (by omega)]; simp
section
variable {lim : Nat} {H : Hp} {K : V → Hp → Prop}
theorem law_DyeReaches {l t b x y x2 y2 : Int} (hlim : lim ≤ H.length) (hl : I64 l) (ht : I64 t) (hb : I64 b) (hx : I64 x) (hy : I64 y) (hx2 : I64 x2) (hy2 : I64 y2) (hK : ∀ H', K (.bool true) H') : VCall tbl lim 5 [.agg [.int .i64 l, .int .i64 t, .int .i64 b], .agg [.int .i64 x, .int .i64 y], .agg [.int .i64 x2, .int .i64 y2]] H K := by
  refine VCall_fn tbl_at5 rfl ?_
  simp [vf5]
  refine dye_Path hlim fun H1 v x1 o1 => ?_
  replace x1 : HX H H1 := x1
  have l1 := x1.len
  simp [o1.lst.stor]
  refine cond_bool (fun h => ?_) fun h => ?_
  · simp
    refine law_known (by omega) fun H2 => ?_
    simp; exact hK _
  have hE : pathE l t b x y = 0 := by
    by_cases e : pathE l t b x y = 0
    · exact e
    · simp [e] at h
  have hS : (pathO l t b x y).isSome = true := by
    cases e : (pathO l t b x y).isSome with
    | true => rfl
    | false => simp [e] at h
  have hval : shB l t b = true ∧ colB x y = true := by
    by_cases e : shB l t b = true ∧ colB x y = true
    · exact e
    · simp [pathE, e] at hE
  have hO : pathO l t b x y = pathF x y (4 - b).toNat l t b := by simp [pathO, hval]
  obtain ⟨p, hp⟩ := Option.isSome_iff_exists.1 hS
  have hL : pathL l t b x y = p := by simp [pathL, hp]
  rw [hL] at o1
  rw [hO] at hp
  have hpl := path_len hp
  have hb0 := hval.1
  simp only [shB, decide_eq_true_eq] at hb0
  have via := path_via (lb := x2) (tb := y2) hval.1 rfl hval.2 hp
  simp
  refine wLoop_up p.length (fun i fr L H' => ∃ X, (fr 3 = .lp 0 0 ∧ fr 5 = .lp 2 0 ∧ fr 7 = v ∧ fr 10 = .int .i64 i) ∧ L = [.int .i64 l, .int .i64 t, .int .i64 b] :: [.int .i64 x, .int .i64 y] :: [.int .i64 x2, .int .i64 y2] :: X ∧ HX H1 H') ⟨[], by simp, rfl, .refl⟩ ?_
  rintro i hi fr L H2 ⟨X, ⟨f3, f5, f7, f10⟩, rfl, x2'⟩
  have l2 := x2'.len
  have O := o1.lst.mono x2'
  simp [f3, f5, f7, f10, o1.lst.len]
  refine cond_dec (fun ht => ?_) fun hfl => ?_
  · have ht : i < p.length := by omega
    obtain ⟨v1, v2⟩ := via i ht
    generalize he : p.getD i default = e at *
    have ld : ∀ L, vload (some 3) L H2 (ept 3 v i) = some (.agg [.int .i64 e.l, .int .i64 e.t, .int .i64 e.b]) := fun L => by have := O.load (L := L) ht; rw [he] at this; exact this
    simp [f3, f5, f7, f10, O.at ht, ld, tw0, tw1, tws0, tws1]
    refine dye_Baths (by omega) fun H3 x3 => ?_
    replace x3 : HX H2 H3 := x3
    have l3 := x3.len
    simp [f3, f5, f7, f10, tw0, tw1, tws0, tws1]
    refine dye_Baths (by omega) fun H4 x4 => ?_
    replace x4 : HX H3 H4 := x4
    have hb2 := hval.1
    simp only [shB, decide_eq_true_eq] at hb2
    by_cases hc : colB x2 y2 = true
    · have q1 : pathE e.l e.t e.b x2 y2 = 0 := by simp [pathE, v1, hc]
      have q2 : pathE l t b x2 y2 = 0 := by simp [pathE, hval.1, hc]
      have q3 : pathO e.l e.t e.b x2 y2 = pathF x2 y2 (4 - e.b).toNat e.l e.t e.b := by simp [pathO, v1, hc]
      have q4 : pathO l t b x2 y2 = pathF x2 y2 (4 - b).toNat l t b := by simp [pathO, hval.1, hc]
      cases hr : pathF x2 y2 (4 - e.b).toNat e.l e.t e.b with
      | none =>
        rw [hr] at q3
        simp (disch := omega) [f3, f5, f7, f10, q1, q2, q3, wrap_i64]
        exact ⟨ht, (x2'.trans x3).trans x4⟩
      | some r =>
        obtain ⟨r', g1, g2⟩ := v2 hr
        rw [hr] at q3
        rw [g1] at q4
        have q5 : pathL e.l e.t e.b x2 y2 = r := by simp [pathL, q3]
        have q6 : pathL l t b x2 y2 = r' := by simp [pathL, q4]
        have rl := path_len hr
        have e4 : (4 - e.b).toNat ≤ 4 := by simp only [shB, decide_eq_true_eq] at v1; omega
        have w1 : IntKind.i64.wrap ((i : Int) + 1) = i + 1 := wrap_i64 (by omega) (by omega)
        have w2 : IntKind.i64.wrap ((i : Int) + 1 + r.length) = i + 1 + r.length := wrap_i64 (by omega) (by omega)
        have w3 : ¬ ((i : Int) + 1 + r.length < r'.length) := by omega
        simp [f3, f5, f7, f10, q1, q2, q3, q4, q5, q6, w1, w2, w3]
        exact ⟨ht, (x2'.trans x3).trans x4⟩
    · have q1 : pathE e.l e.t e.b x2 y2 = 1 := by simp [pathE, hc]
      have q2 : pathE l t b x2 y2 = 1 := by simp [pathE, hc]
      simp (disch := omega) [f3, f5, f7, f10, q1, q2, wrap_i64]
      exact ⟨ht, (x2'.trans x3).trans x4⟩
  · simp
    refine law_known (by omega) fun H3 => ?_
    simp; exact hK _
end
end Go.Proofs.Ytlljkhhdhedajaa.Vm
