/- Package dye over the machine: DyeBaths. -/
import Derived.Test.YtlljkhhdhedajaaDyF
namespace Go.Proofs.Ytlljkhhdhedajaa.Vm
open Go
set_option maxRecDepth 100000
set_option linter.unusedSimpArgs false
set_option linter.unusedVariables false
attribute [-simp] List.getD_eq_getElem?_getD

/-- nothing stands twice, and all are shades: not many -/
theorem few_nat : ∀ (N : Nat) (l : List Nat), l.Nodup → (∀ x ∈ l, x < N) → l.length ≤ N
  | 0, l, _, h => by
    match l with
    | [] => simp
    | x :: l => have := h x (by simp); omega
  | N + 1, l, hn, h => by
    have h1 := few_nat N (l.filter fun x => decide (x ≠ N)) (hn.filter _) (fun x hx => by
      have hx' := List.mem_filter.1 hx
      have := h x hx'.1
      have h3 : x ≠ N := by simpa using hx'.2
      omega)
    have key : ∀ (l : List Nat), l.Nodup → l.length ≤ (l.filter fun x => decide (x ≠ N)).length + 1 := by
      intro l
      induction l with
      | nil => intro _; simp
      | cons x l ih =>
        intro hn
        obtain ⟨hx1, h2⟩ := List.nodup_cons.1 hn
        by_cases e : x = N
        · subst e
          have : (l.filter fun y => decide (y ≠ x)) = l := by
            apply List.filter_eq_self.2
            intro y hy
            have : y ≠ x := fun e => hx1 (e ▸ hy)
            simpa using this
          rw [List.filter_cons_of_neg (by simp), this]; simp
        · have := ih h2
          simp [e]; simpa using this
    have := key l hn
    omega
def shN (s : Sh) : Nat := ((s.l * 6 + s.t) * 4 + s.b).toNat
theorem few_sh {l : List Sh} (hn : l.Nodup) (hv : ∀ s ∈ l, shB s.l s.t s.b = true) : l.length ≤ 270 := by
  have := few_nat 270 (l.map shN) (by
    rw [List.Nodup, List.pairwise_map]
    refine List.Pairwise.imp_of_mem ?_ hn
    intro a b ha hb hab e
    have h1 := hv a ha
    have h2 := hv b hb
    simp only [shB, decide_eq_true_eq] at h1 h2
    simp only [shN] at e
    apply hab
    cases a; cases b
    simp only at h1 h2 e ⊢
    congr 1 <;> omega) (fun x hx => by
    obtain ⟨s, hs, rfl⟩ := List.mem_map.1 hx
    have h1 := hv s hs
    simp only [shB, decide_eq_true_eq] at h1
    simp only [shN]; omega)
  simpa using this
/-- one bath -/
def Step (a s : Sh) : Prop := (a.b < 3 ∧ s = ⟨min (a.l + 2) 10, 0, a.b + 1⟩) ∨ (1 ≤ s.l ∧ s.l ≤ a.l ∧ 0 ≤ s.t ∧ s.t ≤ 5 ∧ s.b = a.b)
def Rch (s : Sh) : Nat → Sh → Prop
  | 0, x => x = s
  | n + 1, x => ∃ y, Rch s n y ∧ Step y x
theorem Step.ok {a s : Sh} (ha : shB a.l a.t a.b = true) (h : Step a s) : shB s.l s.t s.b = true := by
  simp only [shB, decide_eq_true_eq] at *
  rcases h with ⟨h1, rfl⟩ | h
  · simp only; omega
  · omega
theorem step_cost {lv tn : Int} {a s : Sh} (hc : colB lv tn = true) (ha : shB a.l a.t a.b = true) (h : Step a s) {p : List Sh} (hp : pathF lv tn (4 - s.b).toNat s.l s.t s.b = some p) : ∃ q, pathF lv tn (4 - a.b).toNat a.l a.t a.b = some q ∧ q.length ≤ 1 + p.length := by
  simp only [shB, decide_eq_true_eq] at ha
  rcases h with ⟨h1, rfl⟩ | h
  · simp only at hp
    obtain ⟨f, hf⟩ : ∃ f, (4 - a.b).toNat = f + 1 := ⟨(4 - a.b).toNat - 1, by omega⟩
    rw [show (4 - (a.b + 1)).toNat = f by omega] at hp
    rw [hf]
    simp only [pathF]
    by_cases g : a.l = lv ∧ a.t = tn
    · rw [if_pos g]; exact ⟨_, rfl, by simp⟩
    · rw [if_neg g]
      by_cases g1 : lv ≤ a.l
      · rw [if_pos g1]; exact ⟨_, rfl, by simp⟩
      · rw [if_neg g1, if_neg (by omega), hp]; exact ⟨_, rfl, by simp; omega⟩
  · rw [h.2.2.2.2] at hp
    exact path_mono h.2.1 hp
theorem rch_cost {lv tn : Int} (hc : colB lv tn = true) : ∀ {n : Nat} {s x : Sh}, shB s.l s.t s.b = true → Rch s n x → shB x.l x.t x.b = true ∧ ∀ {p}, pathF lv tn (4 - x.b).toNat x.l x.t x.b = some p → ∃ q, pathF lv tn (4 - s.b).toNat s.l s.t s.b = some q ∧ q.length ≤ n + p.length
  | 0, s, x, hs, h => by
    have : x = s := h
    subst this
    exact ⟨hs, fun {p} hp => ⟨p, hp, by omega⟩⟩
  | n + 1, s, x, hs, ⟨y, h1, h2⟩ => by
    obtain ⟨a1, a2⟩ := rch_cost hc hs h1
    refine ⟨h2.ok a1, fun {p} hp => ?_⟩
    obtain ⟨q, g1, g2⟩ := step_cost hc a1 h2 hp
    obtain ⟨r, g3, g4⟩ := a2 g1
    exact ⟨r, g3, by omega⟩
theorem rch_front {s a x : Sh} (h0 : Step s a) : ∀ {n}, Rch a n x → Rch s (n + 1) x := by
  intro n
  induction n generalizing x with
  | zero => intro h; have : x = a := h; subst this; exact ⟨s, rfl, h0⟩
  | succ n ih => rintro ⟨y, h1, h2⟩; exact ⟨y, ih h1, h2⟩
theorem path_rch {lv tn : Int} (hc : colB lv tn = true) : ∀ {f : Nat} {s : Sh}, shB s.l s.t s.b = true → ∀ {p}, pathF lv tn f s.l s.t s.b = some p → ∃ x, Rch s p.length x ∧ x.l = lv ∧ x.t = tn
  | 0, s, hs, p, h => by simp [pathF] at h
  | f + 1, s, hs, p, h => by
    have hs2 := hs
    simp only [shB, decide_eq_true_eq] at hs2
    simp only [colB, decide_eq_true_eq] at hc
    simp only [pathF] at h
    split at h
    · rename_i e; cases h; exact ⟨s, rfl, e⟩
    · split at h
      · rename_i e; cases h
        exact ⟨⟨lv, tn, s.b⟩, ⟨s, rfl, Or.inr ⟨hc.1, e, hc.2.2.1, hc.2.2.2, rfl⟩⟩, rfl, rfl⟩
      · split at h
        · cases h
        · rename_i e3
          simp only [Option.map_eq_some_iff] at h
          obtain ⟨q, hq, rfl⟩ := h
          have st : Step s ⟨min (s.l + 2) 10, 0, s.b + 1⟩ := Or.inl ⟨by omega, rfl⟩
          obtain ⟨x, h1, h2⟩ := path_rch (s := ⟨min (s.l + 2) 10, 0, s.b + 1⟩) (by simp only [colB, decide_eq_true_eq]; exact hc) (st.ok hs) hq
          exact ⟨x, rch_front st h1, h2⟩

section
variable {lim : Nat} {H : Hp} {K : V → Hp → Prop} {v : V} {l : List Sh}
theorem sh_load (h : LstV shC H v l) {i : Nat} (hi : i < l.length) {L : Lo} : vload (some 3) L H (ept 3 v i) = some (.agg [.int .i64 (l.getD i default).l, .int .i64 (l.getD i default).t, .int .i64 (l.getD i default).b]) := h.load hi
theorem mem_take_succ {l : List Sh} {i : Nat} {s : Sh} (h : i < l.length) : s ∈ l.take (i + 1) ↔ s ∈ l.take i ∨ s = l.getD i default := by
  have e : l.take (i + 1) = l.take i ++ [l.getD i default] := by
    rw [List.take_add_one, List.getElem?_eq_getElem h]; simp [List.getD_eq_getElem?_getD, h]
  rw [e, List.mem_append, List.mem_singleton]
theorem ref_has (hv : LstV shC H v l) (hl : l.length ≤ 1000) {s : Sh} (hK : K (.bool (decide (s ∈ l))) H) : VCall tbl lim 78 [v, .agg [.int .i64 s.l, .int .i64 s.t, .int .i64 s.b]] H K := by
  refine VCall_fn tbl_at78 rfl ?_
  simp [vf78]
  refine wLoop_up l.length (fun i fr L H' => (fr 0 = v ∧ fr 3 = .lp 0 0 ∧ fr 5 = .int .i64 i) ∧ L = [[.int .i64 s.l, .int .i64 s.t, .int .i64 s.b]] ∧ H' = H ∧ s ∉ l.take i) ⟨by simp, rfl, rfl, by simp⟩ ?_
  rintro i hi fr L H' ⟨⟨f0, f3, f5⟩, rfl, e0, hn⟩
  have e0 := e0.symm
  subst e0
  simp [f0, f3, f5, hv.len]
  refine cond_dec (fun ht => ?_) fun hfl => ?_
  · have ht : i < l.length := by omega
    simp (disch := omega) [f0, f3, f5, hv.at ht, sh_load hv, veqA_3]
    refine cond_bool (fun h => ?_) fun h => ?_
    · have h : (l.getD i default).l = s.l ∧ (l.getD i default).t = s.t ∧ (l.getD i default).b = s.b := by simpa using h
      have e : l.getD i default = s := by
        cases hA : l.getD i default; cases s
        rw [hA] at h; simp only at h
        obtain ⟨rfl, rfl, rfl⟩ := h; rfl
      have hm : s ∈ l := by rw [← e]; simp [List.getD_eq_getElem?_getD, ht]
      simp
      simpa [hm] using hK
    · have hne : s ≠ l.getD i default := by
        intro e; rw [← e] at h; simp at h
      simp (disch := omega) [f0, f3, f5, wrap_i64]
      refine ⟨by omega, ?_⟩
      rw [mem_take_succ ht]; intro g
      rcases g with g | g
      · exact hn g
      · exact hne g
  · have : i = l.length := by omega
    subst this
    rw [List.take_length] at hn
    simp
    simpa [hn] using hK
/-- a list without doubles, of shades -/
structure Few (l : List Sh) : Prop where
  nd : l.Nodup
  ok : ∀ s ∈ l, shB s.l s.t s.b = true
theorem Few.len (h : Few l) : l.length ≤ 270 := few_sh h.nd h.ok
theorem Few.add (h : Few l) {s : Sh} (hs : shB s.l s.t s.b = true) (hn : s ∉ l) : Few (l ++ [s]) := by
  refine ⟨List.nodup_append.2 ⟨h.nd, by simp, fun a ha b hb e => ?_⟩, fun a ha => ?_⟩
  · simp only [List.mem_singleton] at hb; subst hb; subst e; exact hn ha
  · rcases List.mem_append.1 ha with ha | ha
    · exact h.ok a ha
    · simp only [List.mem_singleton] at ha; subst ha; exact hs
/-- what is reached from a by bleaching, or by dyeing up to a level and a tone -/
def Part (a : Sh) (lv tn : Int) (s : Sh) : Prop := (a.b < 3 ∧ s = ⟨min (a.l + 2) 10, 0, a.b + 1⟩) ∨ (1 ≤ s.l ∧ s.l ≤ a.l ∧ 0 ≤ s.t ∧ s.t ≤ 5 ∧ s.b = a.b ∧ (s.l < lv ∨ (s.l = lv ∧ s.t < tn)))
theorem part_step {a s : Sh} {lv : Int} (hl : a.l < lv) : Part a lv 0 s ↔ Step a s := by
  unfold Part Step
  constructor
  · rintro (h | h)
    · exact Or.inl h
    · exact Or.inr (by omega)
  · rintro (h | h)
    · exact Or.inl h
    · exact Or.inr (by omega)
theorem ref_after (hv : LstV shC H v l) (hf : Few l) (hlim : lim ≤ H.length) (hK : ∀ H' v' out, HX H H' → OwnT H.length shC H' v' out → Few out → (∀ s, s ∈ out ↔ ∃ a, a ∈ l ∧ Step a s) → K v' H') : VCall tbl lim 60 [v] H K := by
  refine VCall_fn tbl_at60 rfl ?_
  have hl := hf.len
  simp [vf60]
  refine wLoop_up l.length (fun i fr L H' => ∃ w out X, (fr 0 = v ∧ fr 3 = w ∧ fr 4 = .int .i64 i) ∧ L = X ∧ HX H H' ∧ OwnT H.length shC H' w out ∧ Few out ∧ ∀ s, s ∈ out ↔ ∃ a, a ∈ l.take i ∧ Step a s) ⟨.snil, [], [], by simp, rfl, .refl, .nil, ⟨by simp, by simp⟩, by simp⟩ ?_
  rintro i hi fr L H2 ⟨w, out, X, ⟨f0, f3, f4⟩, rfl, hx, ho, hfo, hm⟩
  have hxl := hx.len
  simp [f0, f3, f4, hv.len]
  refine cond_dec (fun ht => ?_) fun hfl => ?_
  · have ht : i < l.length := by omega
    have hv2 := hv.mono hx
    have hok := hf.ok (l.getD i default) (by simp [List.getD_eq_getElem?_getD, ht])
    simp (disch := omega) [f0, f3, f4, hv2.at ht, sh_load hv2]
    refine ref_Bleach ?_
    have p10 : ∀ s, Part (l.getD i default) 1 0 s ↔ ((l.getD i default).b < 3 ∧ s = ⟨min ((l.getD i default).l + 2) 10, 0, (l.getD i default).b + 1⟩) := by
      intro s; unfold Part
      constructor
      · rintro (h | h)
        · exact h
        · omega
      · exact Or.inl
    have hok2 := hok
    simp only [shB, decide_eq_true_eq] at hok2
    by_cases h3 : (l.getD i default).b = 3
    · have hbl : bleachP (l.getD i default).l (l.getD i default).t (l.getD i default).b = ((0, 0, 0), 14) := by simp only [bleachP, hok, if_true]; rw [if_pos h3]
      simp [f0, f3, f4, hbl, lastO, lastS]
      refine wLoop_up 10 (fun j fr L H' => ∃ w out X, (fr 0 = v ∧ fr 3 = w ∧ fr 4 = .int .i64 i ∧ fr 7 = .int .i64 ((j : Int) + 1)) ∧ L = X ∧ HX H H' ∧ OwnT H.length shC H' w out ∧ Few out ∧ ∀ s, s ∈ out ↔ (∃ a, a ∈ l.take i ∧ Step a s) ∨ Part (l.getD i default) ((j : Int) + 1) 0 s) ⟨_, _, _, by simp [f0, f3, f4], rfl, hx, ho, hfo, fun s => by rw [hm, show ((0 : Nat) : Int) + 1 = 1 from rfl, p10]; constructor; exact Or.inl; rintro (h | h); exact h; omega⟩ ?_
      rintro j hj fr L H4 ⟨w4, out4, X4, ⟨f0, f3, f4, f7⟩, rfl, hx4, ho4, hfo4, hm4⟩
      have hx4l := hx4.len
      have hv4 := hv.mono hx4
      have r0 : ∀ L, vload none L H4 (eptf 3 v i 0) = some (.int .i64 (l.getD i default).l) := fun L => hv4.rd1 ht (by omega)
      have fa : ∀ m, vfaddr m (ept 3 v i) = some (eptf 3 v i m) := fun m => hv4.faddr ht
      simp (disch := omega) [f0, f3, f4, f7, hv4.at ht, fa, r0]
      refine cond_dec (fun ht4 => ?_) fun hfl4 => ?_
      · simp (disch := omega) [f0, f3, f4, f7]
        refine wLoop_up 6 (fun k fr L H' => ∃ w out X, (fr 0 = v ∧ fr 3 = w ∧ fr 4 = .int .i64 i ∧ fr 7 = .int .i64 ((j : Int) + 1) ∧ fr 8 = .int .i64 k) ∧ L = X ∧ HX H H' ∧ OwnT H.length shC H' w out ∧ Few out ∧ ∀ s, s ∈ out ↔ (∃ a, a ∈ l.take i ∧ Step a s) ∨ Part (l.getD i default) ((j : Int) + 1) k s) ⟨_, _, _, by simp [f0, f3, f4, f7], rfl, hx4, ho4, hfo4, hm4⟩ ?_
        clear f0 f3 f4 f7 hm4 ho4 r0 fa hv4
        rintro k hk fr L H5 ⟨w5, out5, X5, ⟨f0, f3, f4, f7, f8⟩, rfl, hx5, ho5, hfo5, hm5⟩
        have hx5l := hx5.len
        have hv5 := hv.mono hx5
        simp (disch := omega) [f0, f3, f4, f7, f8]
        refine cond_dec (fun ht5 => ?_) fun hfl5 => ?_
        · simp (disch := omega) [f0, f3, f4, f7, f8, hv5.at ht, sh_load hv5]
          refine ref_Dye ?_
          have hd : dyeP (l.getD i default).l (l.getD i default).t (l.getD i default).b ((j : Int) + 1) k = (((j : Int) + 1, (k : Int), (l.getD i default).b), 0) := by
            have hc : colB ((j : Int) + 1) k = true := by simp only [colB, decide_eq_true_eq]; omega
            simp only [dyeP, hok, hc, and_self, if_true]; rw [if_neg (by omega)]
          simp [f0, f3, f4, f7, f8, hd, lastO, lastS, ho5.lst.stor]
          refine ref_has (s := ⟨(j : Int) + 1, k, (l.getD i default).b⟩) ho5.lst (by have := hfo5.len; omega) ?_
          have hpart : ∀ s, Part (l.getD i default) ((j : Int) + 1) ((k : Int) + 1) s ↔ Part (l.getD i default) ((j : Int) + 1) k s ∨ s = ⟨(j : Int) + 1, k, (l.getD i default).b⟩ := by
            intro s
            unfold Part
            constructor
            · rintro (h | h)
              · exact Or.inl (Or.inl h)
              · by_cases e : s.l = (j : Int) + 1 ∧ s.t = k
                · right; cases s; simp only at h e ⊢; congr 1 <;> omega
                · exact Or.inl (Or.inr (by omega))
            · rintro ((h | h) | h)
              · exact Or.inl h
              · exact Or.inr (by omega)
              · subst h
                refine Or.inr ?_
                show 1 ≤ (j : Int) + 1 ∧ (j : Int) + 1 ≤ (l.getD i default).l ∧ (0 : Int) ≤ k ∧ (k : Int) ≤ 5 ∧ (l.getD i default).b = (l.getD i default).b ∧ ((j : Int) + 1 < (j : Int) + 1 ∨ ((j : Int) + 1 = (j : Int) + 1 ∧ (k : Int) < (k : Int) + 1))
                omega
          by_cases hmem : (⟨(j : Int) + 1, k, (l.getD i default).b⟩ : Sh) ∈ out5
          · simp (disch := omega) [hmem, f0, f3, f4, f7, f8, wrap_i64]
            refine ⟨by omega, hx5, out5, ho5, hfo5, fun s => ?_⟩
            rw [hpart, ← or_assoc, ← hm5]
            constructor
            · exact Or.inl
            · rintro (h | h)
              · exact h
              · rw [h]; exact hmem
          · obtain ⟨w6, H6, a1, a2, a3, a4, a5, a6⟩ := ho5.append (lim := lim) (bytes := 24) (x := ⟨(j : Int) + 1, k, (l.getD i default).b⟩) (cs := [.int .i64 ((j : Int) + 1), .int .i64 k, .int .i64 (l.getD i default).b]) rfl ⟨hlim, hx5.len⟩ (by omega) (by have := hfo5.len; omega)
            simp (disch := omega) [hmem, f0, f3, f4, f7, f8, lastO, lastS, a1, wrap_i64]
            refine ⟨by omega, a3 _ hx5 (Nat.le_refl _), _, a2, hfo5.add (by simp only [shB, decide_eq_true_eq] at hok ⊢; omega) hmem, fun s => ?_⟩
            rw [hpart, ← or_assoc, ← hm5, List.mem_append, List.mem_singleton]
        · have e : k = 6 := by omega
          subst e
          simp (disch := omega) [f0, f3, f4, f7, f8, wrap_i64]
          refine ⟨by simp only [shB, decide_eq_true_eq] at hok; omega, hx5, out5, ho5, hfo5, fun s => ?_⟩
          rw [hm5]
          have : Part (l.getD i default) ((j : Int) + 1) 6 s ↔ Part (l.getD i default) ((j : Int) + 1 + 1) 0 s := by
            unfold Part
            constructor <;> (rintro (h | h); exact Or.inl h; exact Or.inr (by omega))
          simpa using or_congr_right this
      · simp (disch := omega) [f0, f3, f4, f7, wrap_i64]
        refine ⟨by omega, hx4, out4, ho4, hfo4, fun s => ?_⟩
        rw [hm4, part_step (by omega)]
        constructor
        · rintro (⟨a, h1, h2⟩ | h)
          · exact ⟨a, (mem_take_succ ht).2 (Or.inl h1), h2⟩
          · exact ⟨_, (mem_take_succ ht).2 (Or.inr rfl), h⟩
        · rintro ⟨a, h1, h2⟩
          rcases (mem_take_succ ht).1 h1 with h | h
          · exact Or.inl ⟨a, h, h2⟩
          · rw [h] at h2; exact Or.inr h2
    · have hbl : bleachP (l.getD i default).l (l.getD i default).t (l.getD i default).b = ((min ((l.getD i default).l + 2) 10, 0, (l.getD i default).b + 1), 0) := by simp only [bleachP, hok, if_true]; rw [if_neg h3]
      simp [f0, f3, f4, hbl, lastO, lastS, ho.lst.stor]
      refine ref_has (s := ⟨min ((l.getD i default).l + 2) 10, 0, (l.getD i default).b + 1⟩) ho.lst (by have := hfo.len; omega) ?_
      by_cases hmem : (⟨min ((l.getD i default).l + 2) 10, 0, (l.getD i default).b + 1⟩ : Sh) ∈ out
      · simp [hmem, f0, f3, f4]
        refine wLoop_up 10 (fun j fr L H' => ∃ w out X, (fr 0 = v ∧ fr 3 = w ∧ fr 4 = .int .i64 i ∧ fr 7 = .int .i64 ((j : Int) + 1)) ∧ L = X ∧ HX H H' ∧ OwnT H.length shC H' w out ∧ Few out ∧ ∀ s, s ∈ out ↔ (∃ a, a ∈ l.take i ∧ Step a s) ∨ Part (l.getD i default) ((j : Int) + 1) 0 s) ⟨_, _, _, by simp [f0, f3, f4], rfl, hx, ho, hfo, fun s => by rw [show ((0 : Nat) : Int) + 1 = 1 from rfl, p10, ← hm]; constructor; exact Or.inl; rintro (h | h); exact h; rw [h.2]; exact hmem⟩ ?_
        rintro j hj fr L H4 ⟨w4, out4, X4, ⟨f0, f3, f4, f7⟩, rfl, hx4, ho4, hfo4, hm4⟩
        have hx4l := hx4.len
        have hv4 := hv.mono hx4
        have r0 : ∀ L, vload none L H4 (eptf 3 v i 0) = some (.int .i64 (l.getD i default).l) := fun L => hv4.rd1 ht (by omega)
        have fa : ∀ m, vfaddr m (ept 3 v i) = some (eptf 3 v i m) := fun m => hv4.faddr ht
        simp (disch := omega) [f0, f3, f4, f7, hv4.at ht, fa, r0]
        refine cond_dec (fun ht4 => ?_) fun hfl4 => ?_
        · simp (disch := omega) [f0, f3, f4, f7]
          refine wLoop_up 6 (fun k fr L H' => ∃ w out X, (fr 0 = v ∧ fr 3 = w ∧ fr 4 = .int .i64 i ∧ fr 7 = .int .i64 ((j : Int) + 1) ∧ fr 8 = .int .i64 k) ∧ L = X ∧ HX H H' ∧ OwnT H.length shC H' w out ∧ Few out ∧ ∀ s, s ∈ out ↔ (∃ a, a ∈ l.take i ∧ Step a s) ∨ Part (l.getD i default) ((j : Int) + 1) k s) ⟨_, _, _, by simp [f0, f3, f4, f7], rfl, hx4, ho4, hfo4, hm4⟩ ?_
          clear f0 f3 f4 f7 hm4 ho4 r0 fa hv4
          rintro k hk fr L H5 ⟨w5, out5, X5, ⟨f0, f3, f4, f7, f8⟩, rfl, hx5, ho5, hfo5, hm5⟩
          have hx5l := hx5.len
          have hv5 := hv.mono hx5
          simp (disch := omega) [f0, f3, f4, f7, f8]
          refine cond_dec (fun ht5 => ?_) fun hfl5 => ?_
          · simp (disch := omega) [f0, f3, f4, f7, f8, hv5.at ht, sh_load hv5]
            refine ref_Dye ?_
            have hd : dyeP (l.getD i default).l (l.getD i default).t (l.getD i default).b ((j : Int) + 1) k = (((j : Int) + 1, (k : Int), (l.getD i default).b), 0) := by
              have hc : colB ((j : Int) + 1) k = true := by simp only [colB, decide_eq_true_eq]; omega
              simp only [dyeP, hok, hc, and_self, if_true]; rw [if_neg (by omega)]
            simp [f0, f3, f4, f7, f8, hd, lastO, lastS, ho5.lst.stor]
            refine ref_has (s := ⟨(j : Int) + 1, k, (l.getD i default).b⟩) ho5.lst (by have := hfo5.len; omega) ?_
            have hpart : ∀ s, Part (l.getD i default) ((j : Int) + 1) ((k : Int) + 1) s ↔ Part (l.getD i default) ((j : Int) + 1) k s ∨ s = ⟨(j : Int) + 1, k, (l.getD i default).b⟩ := by
              intro s
              unfold Part
              constructor
              · rintro (h | h)
                · exact Or.inl (Or.inl h)
                · by_cases e : s.l = (j : Int) + 1 ∧ s.t = k
                  · right; cases s; simp only at h e ⊢; congr 1 <;> omega
                  · exact Or.inl (Or.inr (by omega))
              · rintro ((h | h) | h)
                · exact Or.inl h
                · exact Or.inr (by omega)
                · subst h
                  refine Or.inr ?_
                  show 1 ≤ (j : Int) + 1 ∧ (j : Int) + 1 ≤ (l.getD i default).l ∧ (0 : Int) ≤ k ∧ (k : Int) ≤ 5 ∧ (l.getD i default).b = (l.getD i default).b ∧ ((j : Int) + 1 < (j : Int) + 1 ∨ ((j : Int) + 1 = (j : Int) + 1 ∧ (k : Int) < (k : Int) + 1))
                  omega
            by_cases hmem : (⟨(j : Int) + 1, k, (l.getD i default).b⟩ : Sh) ∈ out5
            · simp (disch := omega) [hmem, f0, f3, f4, f7, f8, wrap_i64]
              refine ⟨by omega, hx5, out5, ho5, hfo5, fun s => ?_⟩
              rw [hpart, ← or_assoc, ← hm5]
              constructor
              · exact Or.inl
              · rintro (h | h)
                · exact h
                · rw [h]; exact hmem
            · obtain ⟨w6, H6, a1, a2, a3, a4, a5, a6⟩ := ho5.append (lim := lim) (bytes := 24) (x := ⟨(j : Int) + 1, k, (l.getD i default).b⟩) (cs := [.int .i64 ((j : Int) + 1), .int .i64 k, .int .i64 (l.getD i default).b]) rfl ⟨hlim, hx5.len⟩ (by omega) (by have := hfo5.len; omega)
              simp (disch := omega) [hmem, f0, f3, f4, f7, f8, lastO, lastS, a1, wrap_i64]
              refine ⟨by omega, a3 _ hx5 (Nat.le_refl _), _, a2, hfo5.add (by simp only [shB, decide_eq_true_eq] at hok ⊢; omega) hmem, fun s => ?_⟩
              rw [hpart, ← or_assoc, ← hm5, List.mem_append, List.mem_singleton]
          · have e : k = 6 := by omega
            subst e
            simp (disch := omega) [f0, f3, f4, f7, f8, wrap_i64]
            refine ⟨by simp only [shB, decide_eq_true_eq] at hok; omega, hx5, out5, ho5, hfo5, fun s => ?_⟩
            rw [hm5]
            have : Part (l.getD i default) ((j : Int) + 1) 6 s ↔ Part (l.getD i default) ((j : Int) + 1 + 1) 0 s := by
              unfold Part
              constructor <;> (rintro (h | h); exact Or.inl h; exact Or.inr (by omega))
            simpa using or_congr_right this
        · simp (disch := omega) [f0, f3, f4, f7, wrap_i64]
          refine ⟨by omega, hx4, out4, ho4, hfo4, fun s => ?_⟩
          rw [hm4, part_step (by omega)]
          constructor
          · rintro (⟨a, h1, h2⟩ | h)
            · exact ⟨a, (mem_take_succ ht).2 (Or.inl h1), h2⟩
            · exact ⟨_, (mem_take_succ ht).2 (Or.inr rfl), h⟩
          · rintro ⟨a, h1, h2⟩
            rcases (mem_take_succ ht).1 h1 with h | h
            · exact Or.inl ⟨a, h, h2⟩
            · rw [h] at h2; exact Or.inr h2
      · obtain ⟨w6, H6, a1, a2, a3, a4, a5, a6⟩ := ho.append (lim := lim) (bytes := 24) (x := ⟨min ((l.getD i default).l + 2) 10, 0, (l.getD i default).b + 1⟩) (cs := [.int .i64 (min ((l.getD i default).l + 2) 10), .int .i64 0, .int .i64 ((l.getD i default).b + 1)]) rfl ⟨hlim, hx.len⟩ (by omega) (by have := hfo.len; omega)
        simp [hmem, f0, f3, f4, lastO, lastS, a1]
        refine wLoop_up 10 (fun j fr L H' => ∃ w out X, (fr 0 = v ∧ fr 3 = w ∧ fr 4 = .int .i64 i ∧ fr 7 = .int .i64 ((j : Int) + 1)) ∧ L = X ∧ HX H H' ∧ OwnT H.length shC H' w out ∧ Few out ∧ ∀ s, s ∈ out ↔ (∃ a, a ∈ l.take i ∧ Step a s) ∨ Part (l.getD i default) ((j : Int) + 1) 0 s) ⟨_, _, _, by simp [f0, f4], rfl, (a3 _ hx (Nat.le_refl _)), a2, (hfo.add (by simp only [shB, decide_eq_true_eq]; omega) hmem), fun s => by rw [show ((0 : Nat) : Int) + 1 = 1 from rfl, p10, ← hm, List.mem_append, List.mem_singleton]; constructor; (rintro (h | h); exact Or.inl h; exact Or.inr ⟨by omega, h⟩); (rintro (h | h); exact Or.inl h; exact Or.inr h.2)⟩ ?_
        rintro j hj fr L H4 ⟨w4, out4, X4, ⟨f0, f3, f4, f7⟩, rfl, hx4, ho4, hfo4, hm4⟩
        have hx4l := hx4.len
        have hv4 := hv.mono hx4
        have r0 : ∀ L, vload none L H4 (eptf 3 v i 0) = some (.int .i64 (l.getD i default).l) := fun L => hv4.rd1 ht (by omega)
        have fa : ∀ m, vfaddr m (ept 3 v i) = some (eptf 3 v i m) := fun m => hv4.faddr ht
        simp (disch := omega) [f0, f3, f4, f7, hv4.at ht, fa, r0]
        refine cond_dec (fun ht4 => ?_) fun hfl4 => ?_
        · simp (disch := omega) [f0, f3, f4, f7]
          refine wLoop_up 6 (fun k fr L H' => ∃ w out X, (fr 0 = v ∧ fr 3 = w ∧ fr 4 = .int .i64 i ∧ fr 7 = .int .i64 ((j : Int) + 1) ∧ fr 8 = .int .i64 k) ∧ L = X ∧ HX H H' ∧ OwnT H.length shC H' w out ∧ Few out ∧ ∀ s, s ∈ out ↔ (∃ a, a ∈ l.take i ∧ Step a s) ∨ Part (l.getD i default) ((j : Int) + 1) k s) ⟨_, _, _, by simp [f0, f3, f4, f7], rfl, hx4, ho4, hfo4, hm4⟩ ?_
          clear f0 f3 f4 f7 hm4 ho4 r0 fa hv4
          rintro k hk fr L H5 ⟨w5, out5, X5, ⟨f0, f3, f4, f7, f8⟩, rfl, hx5, ho5, hfo5, hm5⟩
          have hx5l := hx5.len
          have hv5 := hv.mono hx5
          simp (disch := omega) [f0, f3, f4, f7, f8]
          refine cond_dec (fun ht5 => ?_) fun hfl5 => ?_
          · simp (disch := omega) [f0, f3, f4, f7, f8, hv5.at ht, sh_load hv5]
            refine ref_Dye ?_
            have hd : dyeP (l.getD i default).l (l.getD i default).t (l.getD i default).b ((j : Int) + 1) k = (((j : Int) + 1, (k : Int), (l.getD i default).b), 0) := by
              have hc : colB ((j : Int) + 1) k = true := by simp only [colB, decide_eq_true_eq]; omega
              simp only [dyeP, hok, hc, and_self, if_true]; rw [if_neg (by omega)]
            simp [f0, f3, f4, f7, f8, hd, lastO, lastS, ho5.lst.stor]
            refine ref_has (s := ⟨(j : Int) + 1, k, (l.getD i default).b⟩) ho5.lst (by have := hfo5.len; omega) ?_
            have hpart : ∀ s, Part (l.getD i default) ((j : Int) + 1) ((k : Int) + 1) s ↔ Part (l.getD i default) ((j : Int) + 1) k s ∨ s = ⟨(j : Int) + 1, k, (l.getD i default).b⟩ := by
              intro s
              unfold Part
              constructor
              · rintro (h | h)
                · exact Or.inl (Or.inl h)
                · by_cases e : s.l = (j : Int) + 1 ∧ s.t = k
                  · right; cases s; simp only at h e ⊢; congr 1 <;> omega
                  · exact Or.inl (Or.inr (by omega))
              · rintro ((h | h) | h)
                · exact Or.inl h
                · exact Or.inr (by omega)
                · subst h
                  refine Or.inr ?_
                  show 1 ≤ (j : Int) + 1 ∧ (j : Int) + 1 ≤ (l.getD i default).l ∧ (0 : Int) ≤ k ∧ (k : Int) ≤ 5 ∧ (l.getD i default).b = (l.getD i default).b ∧ ((j : Int) + 1 < (j : Int) + 1 ∨ ((j : Int) + 1 = (j : Int) + 1 ∧ (k : Int) < (k : Int) + 1))
                  omega
            by_cases hmem : (⟨(j : Int) + 1, k, (l.getD i default).b⟩ : Sh) ∈ out5
            · simp (disch := omega) [hmem, f0, f3, f4, f7, f8, wrap_i64]
              refine ⟨by omega, hx5, out5, ho5, hfo5, fun s => ?_⟩
              rw [hpart, ← or_assoc, ← hm5]
              constructor
              · exact Or.inl
              · rintro (h | h)
                · exact h
                · rw [h]; exact hmem
            · obtain ⟨w6, H6, a1, a2, a3, a4, a5, a6⟩ := ho5.append (lim := lim) (bytes := 24) (x := ⟨(j : Int) + 1, k, (l.getD i default).b⟩) (cs := [.int .i64 ((j : Int) + 1), .int .i64 k, .int .i64 (l.getD i default).b]) rfl ⟨hlim, hx5.len⟩ (by omega) (by have := hfo5.len; omega)
              simp (disch := omega) [hmem, f0, f3, f4, f7, f8, lastO, lastS, a1, wrap_i64]
              refine ⟨by omega, a3 _ hx5 (Nat.le_refl _), _, a2, hfo5.add (by simp only [shB, decide_eq_true_eq] at hok ⊢; omega) hmem, fun s => ?_⟩
              rw [hpart, ← or_assoc, ← hm5, List.mem_append, List.mem_singleton]
          · have e : k = 6 := by omega
            subst e
            simp (disch := omega) [f0, f3, f4, f7, f8, wrap_i64]
            refine ⟨by simp only [shB, decide_eq_true_eq] at hok; omega, hx5, out5, ho5, hfo5, fun s => ?_⟩
            rw [hm5]
            have : Part (l.getD i default) ((j : Int) + 1) 6 s ↔ Part (l.getD i default) ((j : Int) + 1 + 1) 0 s := by
              unfold Part
              constructor <;> (rintro (h | h); exact Or.inl h; exact Or.inr (by omega))
            simpa using or_congr_right this
        · simp (disch := omega) [f0, f3, f4, f7, wrap_i64]
          refine ⟨by omega, hx4, out4, ho4, hfo4, fun s => ?_⟩
          rw [hm4, part_step (by omega)]
          constructor
          · rintro (⟨a, h1, h2⟩ | h)
            · exact ⟨a, (mem_take_succ ht).2 (Or.inl h1), h2⟩
            · exact ⟨_, (mem_take_succ ht).2 (Or.inr rfl), h⟩
          · rintro ⟨a, h1, h2⟩
            rcases (mem_take_succ ht).1 h1 with h | h
            · exact Or.inl ⟨a, h, h2⟩
            · rw [h] at h2; exact Or.inr h2
  · have e : l.length = i := by omega
    subst e
    rw [List.take_length] at hm
    simp [f3, ho.lst.stor]
    exact hK _ _ _ hx ho hfo hm
end
end Go.Proofs.Ytlljkhhdhedajaa.Vm
