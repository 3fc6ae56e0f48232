/- BlG to BlM in one text; DyeBlends, DyeMixes, DyeMatches. -/
import Derived.Test.YtkmcdiajcnejiaaBmA
namespace Go.Proofs.Ytkmcdiajcnejiaa.Vm
open Go
set_option maxRecDepth 100000
set_option maxHeartbeats 1000000
set_option linter.unusedSimpArgs false
set_option linter.unusedVariables false
attribute [-simp] List.getD_eq_getElem?_getD
def normP (l : List Prt) : List Prt × Int := if blP l = 0 then nrmP (colP l) else ([], blP l)
theorem mem_getD {l : List Prt} {p : Prt} (h : p ∈ l) : ∃ i, i < l.length ∧ l.getD i default = p := by
  obtain ⟨i, hi, e⟩ := List.mem_iff_getElem.1 h
  exact ⟨i, hi, by rw [List.getD_eq_getElem?_getD, List.getElem?_eq_getElem hi]; exact e⟩
theorem getD_mem {l : List Prt} {i : Nat} (hi : i < l.length) : l.getD i default ∈ l := by
  rw [List.getD_eq_getElem?_getD, List.getElem?_eq_getElem hi]; exact List.getElem_mem hi
theorem canN_mem {W : Int → Int} {p : Prt} : ∀ {n : Nat}, p ∈ canN W n → ∃ i, i < n ∧ p = mkP i (W i) ∧ W (i : Int) ≠ 0
  | 0, h => by simp [canN] at h
  | n + 1, h => by
    unfold canN at h
    rcases List.mem_append.1 h with h | h
    · obtain ⟨i, a, b, c⟩ := canN_mem h
      exact ⟨i, by omega, b, c⟩
    · by_cases hw : W (n : Int) ≠ 0
      · rw [if_pos hw] at h
        exact ⟨n, by omega, List.mem_singleton.1 h, hw⟩
      · rw [if_neg hw] at h; simp at h
theorem canN_len {W : Int → Int} : ∀ {n : Nat}, (canN W n).length ≤ n
  | 0 => Nat.le_refl _
  | n + 1 => by
    have := canN_len (W := W) (n := n)
    unfold canN
    rw [List.length_append]
    split <;> simp <;> omega
theorem wtN_bd {i : Int} {B : Int} (hB : 0 ≤ B) : ∀ {A : List Prt}, (∀ p, p ∈ A → 0 ≤ p.w ∧ p.w ≤ B) → 0 ≤ wtN A i ∧ wtN A i ≤ B * A.length
  | [], _ => by simp [wtN]
  | p :: A, h => by
    have ih := wtN_bd (i := i) hB (A := A) fun q hq => h q (List.mem_cons_of_mem _ hq)
    have := h p (List.mem_cons_self ..)
    simp only [wtN, List.length_cons]
    rw [show ((A.length + 1 : Nat) : Int) = (A.length : Int) + 1 from rfl, Int.mul_add, Int.mul_one]
    split <;> omega
theorem gN_congr {A B : List Prt} : ∀ {n : Nat}, (∀ i, i < n → A.getD i default = B.getD i default) → gN A n = gN B n
  | 0, _ => rfl
  | n + 1, h => by
    have ih := gN_congr (A := A) (B := B) (n := n) fun i hi => h i (by omega)
    simp only [gN, ih, h n (by omega)]
theorem gN_snoc {A : List Prt} {p : Prt} : gN (A ++ [p]) (A.length + 1) = Nat.gcd (gN A A.length) p.w.toNat := by
  have e : gN (A ++ [p]) A.length = gN A A.length := gN_congr fun i hi => by
    simp only [List.getD_eq_getElem?_getD, List.getElem?_append_left hi]
  have e2 : (A ++ [p]).getD A.length default = p := by simp [List.getD_eq_getElem?_getD]
  simp only [gN, e, e2]
theorem gN_dvd {L : List Prt} : ∀ {n i : Nat}, i < n → gN L n ∣ (L.getD i default).w.toNat
  | n + 1, i, h => by
    by_cases e : i = n
    · subst e; exact Nat.gcd_dvd_right _ _
    · exact Nat.dvd_trans (Nat.gcd_dvd_left _ _) (gN_dvd (n := n) (i := i) (by omega))
theorem gN_scale {L M : List Prt} {g : Nat} : ∀ {n : Nat}, (∀ i, i < n → (L.getD i default).w.toNat = g * (M.getD i default).w.toNat) → gN L n = g * gN M n
  | 0, _ => by simp [gN]
  | n + 1, h => by
    have ih := gN_scale (L := L) (M := M) (g := g) (n := n) fun i hi => h i (by omega)
    simp only [gN, ih, h n (by omega)]
    exact Nat.gcd_mul_left _ _ _
theorem colP_spec {l : List Prt} (h : blP l = 0) : CanL (colP l) ∧ 0 < (colP l).length ∧ (colP l).length ≤ 240 ∧ ∀ i, i < (colP l).length → 1 ≤ ((colP l).getD i default).w ∧ ((colP l).getD i default).w ≤ 6000 := by
  obtain ⟨h1, h2, h3⟩ := blP_ok h
  have hA : ∀ p, p ∈ l → okS p := fun p hp => by obtain ⟨i, hi, e⟩ := mem_getD hp; rw [← e]; exact (h3 i hi).1
  have hW : ∀ p, p ∈ l → 0 ≤ p.w ∧ p.w ≤ 1000 := fun p hp => by obtain ⟨i, hi, e⟩ := mem_getD hp; rw [← e]; have := h3 i hi; omega
  obtain ⟨c1, c2, c3⟩ := canN_spec (W := wtN l) (n := 240) (Nat.le_refl _)
  refine ⟨c1, ?_, canN_len, fun i hi => ?_⟩
  · apply Classical.byContradiction
    intro hn
    have hc : canN (wtN l) 240 = [] := List.length_eq_zero_iff.1 (by unfold colP at hn; omega)
    have h0 := h3 0 h2
    have hr := numS_rng h0.1
    have := c3 (numS (l.getD 0 default))
    rw [hc, if_pos (by omega)] at this
    have hl : l = l.getD 0 default :: l.drop 1 := by
      rw [List.getD_eq_getElem?_getD, List.getElem?_eq_getElem h2]
      exact (List.drop_eq_getElem_cons (i := 0) h2)
    have hrest := wtN_bd (i := numS (l.getD 0 default)) (B := 1000) (by omega) (A := l.drop 1) fun p hp => hW p (List.mem_of_mem_drop hp)
    rw [hl] at this
    generalize l.drop 1 = t at *
    generalize l.getD 0 default = p at *
    simp only [List.getD_eq_getElem?_getD, List.getElem?_cons_zero, Option.getD_some, wtN, if_true] at this
    omega
  · obtain ⟨j, _, e, hw⟩ := canN_mem (getD_mem hi)
    have e : (colP l).getD i default = mkP j (wtN l j) := e
    have e2 : ((colP l).getD i default).w = wtN l j := by rw [e]; rfl
    rw [e2]
    have := wtN_bd (i := (j : Int)) (B := 1000) (by omega) hW
    omega
theorem dv_mul {g : Nat} {w : Int} (hg : 0 < g) (hw : 1 ≤ w) (hd : g ∣ w.toNat) : w.toNat = g * (w.tdiv g).toNat ∧ 1 ≤ w.tdiv g := by
  obtain ⟨k, hk⟩ := hd
  have e : w = ((g * k : Nat) : Int) := by omega
  have hk0 : 0 < k := by
    apply Nat.pos_of_ne_zero
    intro h; rw [h, Nat.mul_zero] at hk; omega
  have e2 : w.tdiv g = k := by
    rw [e, Int.tdiv_eq_ediv_of_nonneg (by omega), Int.natCast_mul, Int.mul_ediv_cancel_left _ (by omega)]
  rw [e2]
  exact ⟨by simpa using hk, by omega⟩
theorem dvW_one {p : Prt} : dvW 1 p = p := by
  cases p
  simp [dvW]
/-- a normal blend is its own normal form -/
theorem norm_norm {l : List Prt} (h : (normP l).2 = 0) : normP (normP l).1 = ((normP l).1, 0) ∧ (normP l).1.length ≤ 6 := by
  have hb : blP l = 0 := by
    apply Classical.byContradiction
    intro hn
    unfold normP at h
    rw [if_neg hn] at h
    exact hn h
  obtain ⟨c1, c2, c3, c4⟩ := colP_spec hb
  have e1 : normP l = nrmP (colP l) := by unfold normP; rw [if_pos hb]
  rw [e1] at h ⊢
  generalize colP l = L at *
  unfold nrmP at h ⊢
  split at h
  · simp at h
  rename_i h6
  split at h
  case isFalse => simp at h
  rename_i hall
  rw [if_neg h6, if_pos hall]
  have hgp := gN_pos (L := L) (n := L.length) c2 (Nat.le_refl _) fun i hi => (c4 i hi).1
  have hdv := fun i (hi : i < L.length) => gN_dvd (L := L) (n := L.length) (i := i) hi
  generalize hg : gN L L.length = g at *
  have hMl : (L.map (dvW g)).length = L.length := List.length_map _
  have hMi : ∀ i, i < L.length → (L.map (dvW g)).getD i default = dvW g (L.getD i default) := fun i hi => by
    rw [List.getD_eq_getElem?_getD, List.getElem?_map, List.getD_eq_getElem?_getD, List.getElem?_eq_getElem hi]; rfl
  have hMw : ∀ i, i < L.length → (L.getD i default).w.toNat = g * ((L.map (dvW g)).getD i default).w.toNat ∧ 1 ≤ ((L.map (dvW g)).getD i default).w ∧ ((L.map (dvW g)).getD i default).w ≤ 1000 := fun i hi => by
    rw [hMi i hi]
    have := dv_mul hgp (c4 i hi).1 (hdv i hi)
    have h2 := allN_at hall hi
    simp only [ltB, decide_eq_true_eq] at h2
    exact ⟨this.1, this.2, h2⟩
  have hok : ∀ p, p ∈ L.map (dvW g) → okS p := fun p hp => by
    obtain ⟨q, hq, e⟩ := List.mem_map.1 hp
    rw [← e]; exact c1.ok q hq
  have hcan : CanL (L.map (dvW g)) := by
    refine ⟨?_, hok, fun p hp => ?_⟩
    · rw [List.pairwise_map]; exact c1.asc
    · obtain ⟨i, hi, e⟩ := mem_getD hp
      have := (hMw i (by omega)).2.1
      rw [← e]; omega
  have hgs := gN_scale (L := L) (M := L.map (dvW g)) (g := g) (n := L.length) fun i hi => (hMw i hi).1
  rw [hg] at hgs
  have hg1 : gN (L.map (dvW g)) L.length = 1 := by
    have : g * gN (L.map (dvW g)) L.length = g * 1 := by omega
    exact Nat.eq_of_mul_eq_mul_left hgp this
  have hcol : colP (L.map (dvW g)) = L.map (dvW g) := (col_uniq hok hcan fun i => rfl).symm
  generalize L.map (dvW g) = M at *
  refine ⟨?_, by simp only; omega⟩
  have hbl : blP M = 0 := by
    have hal : allN (fun i => prB (M.getD i default)) M.length = true := by
      have key : ∀ k, k ≤ M.length → allN (fun i => prB (M.getD i default)) k = true := fun k => by
        induction k with
        | zero => intro _; rfl
        | succ k ih =>
          intro hk
          have a := hok _ (getD_mem (l := M) (i := k) (by omega))
          have b := (hMw k (by omega)).2
          have : prB (M.getD k default) = true := by
            simp only [prB, Bool.and_eq_true, decide_eq_true_eq]
            exact ⟨okS_iff.2 a, b⟩
          simp only [allN, ih (by omega), this, Bool.and_self]
      exact key _ (Nat.le_refl _)
    unfold blP
    rw [if_neg (by omega), if_neg (by omega), hal, if_neg (by simp)]
  simp only
  unfold normP
  rw [if_pos hbl, hcol]
  unfold nrmP
  have hall2 : allN (ltB 1 M) M.length = true := by
    have key : ∀ k, k ≤ M.length → allN (ltB 1 M) k = true := fun k => by
      induction k with
      | zero => intro _; rfl
      | succ k ih =>
        intro hk
        have b := (hMw k (by omega)).2.2
        have : ltB 1 M k = true := by simp only [ltB, dvW_one]; exact decide_eq_true b
        simp only [allN, ih (by omega), this, Bool.and_self]
    exact key _ (Nat.le_refl _)
  have hmap : M.map (dvW 1) = M := by
    have : dvW 1 = id := funext fun p => dvW_one
    rw [this, List.map_id]
  rw [if_neg (by omega), hMl, hg1, ← hMl, if_pos hall2, hmap]
def mkS (i : Nat) : Sh := ⟨(i / 24 : Nat) + 1, (i % 24 / 4 : Nat), (i % 4 : Nat)⟩
def shL2 (k : Nat) : List Sh := (List.range k).map mkS
theorem shL2_len {k : Nat} : (shL2 k).length = k := by simp [shL2]
theorem shL2_at {k i : Nat} (h : i < k) : (shL2 k).getD i default = mkS i := by
  rw [List.getD_eq_getElem?_getD, shL2, List.getElem?_map, List.getElem?_range h]; rfl
theorem shL2_succ {k : Nat} : shL2 (k + 1) = shL2 k ++ [mkS k] := by
  simp only [shL2, List.range_succ, List.map_append, List.map_cons, List.map_nil]
section
variable {lim : Nat} {H : Hp} {K : V → Hp → Prop} {v w : V} {l m : List Prt} {x y u1 u2 u3 : Int}
theorem ref_shades (hlim : lim ≤ H.length) (hK : ∀ H' v', HX H H' → OwnT H.length shC H' v' (shL2 240) → K v' H') : VCall tbl lim 75 [] H K := by
  refine VCall_fn tbl_at75 rfl ?_
  simp [vf75]
  refine wLoop_up 10 (fun a fr L H' => ∃ q, (fr 2 = .int .i64 ((a : Nat) + 1) ∧ fr 1 = q) ∧ L = [] ∧ HX H H' ∧ OwnT H.length shC H' q (shL2 (a * 24))) ⟨.snil, by simp, rfl, HX.refl, .nil⟩ ?_
  rintro a ha fr L H1 ⟨q, ⟨f2, f1⟩, rfl, x1, hq⟩
  simp [f2, f1]
  refine cond_dec (fun ht => ?_) fun hfl => ?_
  · have ht : a < 10 := by omega
    simp [f2, f1]
    refine wLoop_post 2 (fun fr L H' => ∃ q, (fr 2 = .int .i64 ((a : Nat) + 1) ∧ fr 1 = q) ∧ L = [] ∧ HX H H' ∧ OwnT H.length shC H' q (shL2 ((a + 1) * 24))) ?_ ?_
    · refine wLoop_up 6 (fun b fr L H' => ∃ q, (fr 2 = .int .i64 ((a : Nat) + 1) ∧ fr 3 = .int .i64 (b : Nat) ∧ fr 1 = q) ∧ L = [] ∧ HX H H' ∧ OwnT H.length shC H' q (shL2 (a * 24 + b * 4))) ⟨q, by simp [f2, f1], rfl, x1, hq⟩ ?_
      clear hq f1 f2 x1
      rintro b hb fr L H2 ⟨q, ⟨f2, f3, f1⟩, rfl, x2, hq⟩
      simp [f2, f3, f1]
      refine cond_dec (fun ht2 => ?_) fun hfl2 => ?_
      · have ht2 : b < 6 := by omega
        simp [f2, f3, f1]
        refine wLoop_post 4 (fun fr L H' => ∃ q, (fr 2 = .int .i64 ((a : Nat) + 1) ∧ fr 3 = .int .i64 (b : Nat) ∧ fr 1 = q) ∧ L = [] ∧ HX H H' ∧ OwnT H.length shC H' q (shL2 (a * 24 + (b + 1) * 4))) ?_ ?_
        · refine wLoop_up 4 (fun c fr L H' => ∃ q, (fr 2 = .int .i64 ((a : Nat) + 1) ∧ fr 3 = .int .i64 (b : Nat) ∧ fr 4 = .int .i64 (c : Nat) ∧ fr 1 = q) ∧ L = [] ∧ HX H H' ∧ OwnT H.length shC H' q (shL2 (a * 24 + b * 4 + c))) ⟨q, by simp [f2, f3, f1], rfl, x2, hq⟩ ?_
          clear hq f1 f2 f3 x2
          rintro c hc fr L H3 ⟨q, ⟨f2, f3, f4, f1⟩, rfl, x3, hq⟩
          have l3 := x3.len
          simp [f2, f3, f4, f1]
          refine cond_dec (fun ht3 => ?_) fun hfl3 => ?_
          · have ht3 : c < 4 := by omega
            obtain ⟨v', H', a1, a2, a3, a4, a5, a6⟩ := hq.append (lim := lim) (bytes := 24) (x := mkS (a * 24 + b * 4 + c)) (cs := [.int .i64 ((a : Int) + 1), .int .i64 (b : Int), .int .i64 (c : Int)]) (by
              have e1 : (a * 24 + b * 4 + c) / 24 = a := by omega
              have e2 : (a * 24 + b * 4 + c) % 24 / 4 = b := by omega
              have e3 : (a * 24 + b * 4 + c) % 4 = c := by omega
              show (mkS (a * 24 + b * 4 + c)).cells = _
              simp only [mkS, Sh.cells, e1, e2, e3]) ⟨by omega, by omega⟩ (by omega) (by rw [shL2_len]; omega)
            rw [← shL2_succ] at a2
            simp (disch := omega) [f2, f3, f4, f1, vbslice_some, splice, a1, wrap_i64]
            exact ⟨by omega, a3 _ x3 (Nat.le_refl _), a2⟩
          · have : c = 4 := by omega
            subst this
            simp [f2, f3, f1]
            refine ⟨x3, ?_⟩
            rw [show a * 24 + (b + 1) * 4 = a * 24 + b * 4 + 4 by omega]; exact hq
        clear hq f1 f2 f3 x2
        rintro fr L H3 ⟨q, ⟨f2, f3, f1⟩, rfl, x3, hq⟩
        simp (disch := omega) [f2, f3, f1, wrap_i64]
        exact ⟨by omega, x3, hq⟩
      · have : b = 6 := by omega
        subst this
        simp [f2, f1]
        refine ⟨x2, ?_⟩
        rw [show (a + 1) * 24 = a * 24 + 6 * 4 by omega]; exact hq
    clear hq f1 f2 x1
    rintro fr L H2 ⟨q, ⟨f2, f1⟩, rfl, x2, hq⟩
    simp (disch := omega) [f2, f1, wrap_i64]
    exact ⟨by omega, x2, hq⟩
  · have : a = 10 := by omega
    subst this
    have := hK H1 q x1 hq
    simp [f1, hq.lst.stor]
    exact this
theorem wtN_step {i : Nat} {k : Int} (hi : i < l.length) : wtN (l.take (i + 1)) k = wtN (l.take i) k + if numS (l.getD i default) = k then (l.getD i default).w else 0 := by
  rw [take_snocP hi, wtN_append]
  simp only [wtN, Int.add_zero]
theorem ref_weight (hv : LstV prC H v l) (hl : l.length ≤ 100) (hA : ∀ i, i < l.length → okS (l.getD i default) ∧ 0 ≤ (l.getD i default).w ∧ (l.getD i default).w ≤ 1000) {k : Nat} (hk : k < 240) (hK : K (.int .i64 (wtN l k)) H) :
    VCall tbl lim 76 [v, .agg [.int .i64 (mkS k).l, .int .i64 (mkS k).t, .int .i64 (mkS k).b]] H K := by
  refine VCall_fn tbl_at76 rfl ?_
  have hbd : ∀ i, i ≤ l.length → 0 ≤ wtN (l.take i) k ∧ wtN (l.take i) k ≤ 1000 * (l.take i).length := fun i hi => wtN_bd (by omega) fun p hp => by
    obtain ⟨j, hj, e⟩ := mem_getD (List.mem_of_mem_take hp)
    rw [← e]; have := hA j hj; omega
  simp [vf76]
  refine wLoop_up l.length (fun i fr L H' => (fr 0 = v ∧ fr 3 = .lp 0 0 ∧ fr 6 = .int .i64 i ∧ fr 5 = .int .i64 (wtN (l.take i) k)) ∧ L[0]? = some [.int .i64 (mkS k).l, .int .i64 (mkS k).t, .int .i64 (mkS k).b] ∧ H' = H) ⟨by simp [wtN], rfl, rfl⟩ ?_
  rintro i hi fr L H' ⟨⟨f0, f3, f6, f5⟩, l0, e0⟩
  have e0 := e0.symm
  subst e0
  simp [f0, f3, f6, f5, hv.len]
  refine cond_dec (fun ht => ?_) fun hfl => ?_
  · have ht : i < l.length := by omega
    have fa0 : vfaddr 0 (ept 4 v i) = some (eptf 4 v i 0) := hv.faddr ht
    have fa3 : vfaddr 3 (ept 4 v i) = some (eptf 4 v i 3) := hv.faddr ht
    have b1 := hbd (i + 1) (by omega)
    have hl1 : (l.take (i + 1)).length = i + 1 := by rw [List.length_take]; omega
    rw [hl1] at b1
    have hst := wtN_step (k := (k : Int)) ht
    have hkN : numS (mkP k 0) = k := mkP_N
    have hpo := (hA i ht).1
    by_cases he : numS (l.getD i default) = k
    · have h3 := numS_inj hpo (mkP_ok (w := 0) hk) (he.trans hkN.symm)
      have h3 : (l.getD i default).l = (mkS k).l ∧ (l.getD i default).t = (mkS k).t ∧ (l.getD i default).b = (mkS k).b := h3
      rw [if_pos he] at hst
      simp (disch := omega) [f0, f3, f6, f5, l0, hv.at ht, fa0, fa3, prt_sh hv ht, prt_get hv, lpId_ept, lpId_eptf, veqA_3, eq_true h3.1, eq_true h3.2.1, eq_true h3.2.2, rd4_3, wrap_i64, ← hst]
      first | omega | exact ⟨by omega, by omega⟩
    · have hcf : (decide ((l.getD i default).l = (mkS k).l) && (decide ((l.getD i default).t = (mkS k).t) && decide ((l.getD i default).b = (mkS k).b))) = false := by
        cases hh : (decide ((l.getD i default).l = (mkS k).l) && (decide ((l.getD i default).t = (mkS k).t) && decide ((l.getD i default).b = (mkS k).b))) with
        | false => rfl
        | true =>
          simp only [Bool.and_eq_true, decide_eq_true_eq] at hh
          have : numS (l.getD i default) = numS (mkP k 0) := numS_same hh
          exact absurd (this.trans hkN) he
      rw [if_neg he, Int.add_zero] at hst
      simp (disch := omega) [f0, f3, f6, f5, l0, hv.at ht, fa0, fa3, prt_sh hv ht, prt_get hv, lpId_ept, lpId_eptf, veqA_3, hcf, wrap_i64, hst]
      omega
  · have : i = l.length := by omega
    subst this
    rw [List.take_length] at f5
    simp [f5]
    exact hK
end
/-- a blend as far as weights are added up -/
def Okw (l : List Prt) : Prop := l.length ≤ 100 ∧ ∀ i, i < l.length → okS (l.getD i default) ∧ 0 ≤ (l.getD i default).w ∧ (l.getD i default).w ≤ 1000
theorem Okw.bd {l : List Prt} (h : Okw l) {k : Int} : 0 ≤ wtN l k ∧ wtN l k ≤ 100000 := by
  have := wtN_bd (i := k) (B := 1000) (by omega) (A := l) fun p hp => by
    obtain ⟨i, hi, e⟩ := mem_getD hp
    rw [← e]; have := h.2 i hi; omega
  have := h.1
  omega
def mixW (a : List Prt) (wa : Int) (b : List Prt) (wb : Int) (i : Int) : Int := wa * wtN a i + wb * wtN b i
theorem mul_bd2 {a b : Int} (ha : 0 ≤ a ∧ a ≤ 10000000) (hb : 0 ≤ b ∧ b ≤ 100000) : 0 ≤ a * b ∧ a * b ≤ 1000000000000 := by
  refine ⟨Int.mul_nonneg ha.1 hb.1, ?_⟩
  exact Int.le_trans (Int.mul_le_mul_of_nonneg_right ha.2 hb.1) (Int.le_trans (Int.mul_le_mul_of_nonneg_left hb.2 (by omega)) (by omega))
theorem mixW_bd {a b : List Prt} {wa wb : Int} (ha : Okw a) (hb : Okw b) (h1 : 0 ≤ wa ∧ wa ≤ 10000000) (h2 : 0 ≤ wb ∧ wb ≤ 10000000) (i : Int) : 0 ≤ mixW a wa b wb i ∧ mixW a wa b wb i ≤ 2000000000000 := by
  have := mul_bd2 h1 (ha.bd (k := i))
  have := mul_bd2 h2 (hb.bd (k := i))
  unfold mixW
  omega
theorem canN_w {W : Int → Int} {n i : Nat} (hi : i < (canN W n).length) (hW : ∀ i, 0 ≤ W i ∧ W i ≤ 2000000000000) : 1 ≤ ((canN W n).getD i default).w ∧ ((canN W n).getD i default).w ≤ 2000000000000 := by
  obtain ⟨j, _, e, hw⟩ := canN_mem (getD_mem hi)
  have e2 : ((canN W n).getD i default).w = W j := by rw [e]; rfl
  rw [e2]
  have := hW j
  omega
section
variable {lim : Nat} {H : Hp} {K : V → Hp → Prop} {v w : V} {l m : List Prt} {x y u1 u2 u3 : Int}
theorem ref_merged {va vb : V} {a b : List Prt} {wa wb : Int} (hva : LstV prC H va a) (hvb : LstV prC H vb b) (ha : Okw a) (hb : Okw b) (h1 : 0 ≤ wa ∧ wa ≤ 10000000) (h2 : 0 ≤ wb ∧ wb ≤ 10000000) (hlim : lim ≤ H.length)
    (hK : ∀ H' v', HX H H' → LstV prC H' v' (nrmP (canN (mixW a wa b wb) 240)).1 → K (.tup [v', .int .i64 (nrmP (canN (mixW a wa b wb) 240)).2]) H') : VCall tbl lim 44 [va, .int .i64 wa, vb, .int .i64 wb] H K := by
  refine VCall_fn tbl_at44 rfl ?_
  have hWb := mixW_bd ha hb h1 h2
  simp [vf44]
  refine ref_shades hlim fun H1 sv x1 hs => ?_
  replace x1 : HX H H1 := x1
  have l1 := x1.len
  have hva1 := hva.mono x1
  have hvb1 := hvb.mono x1
  simp
  refine wLoop_up 240 (fun i fr L H' => ∃ q, (fr 0 = va ∧ fr 1 = .int .i64 wa ∧ fr 2 = vb ∧ fr 3 = .int .i64 wb ∧ fr 10 = sv ∧ fr 11 = q ∧ fr 12 = .int .i64 (gN (canN (mixW a wa b wb) i) (canN (mixW a wa b wb) i).length : Nat) ∧ fr 13 = .int .i64 i) ∧ HX H1 H' ∧ OwnT H1.length prC H' q (canN (mixW a wa b wb) i)) ⟨.snil, by simp [canN, gN], HX.refl, .nil⟩ ?_
  rintro i hi fr L H2 ⟨q, ⟨f0, f1, f2, f3, f10, f11, f12, f13⟩, x2, hq⟩
  have l2 := x2.len
  have hs2 := hs.lst.mono x2
  simp [f0, f1, f2, f3, f10, f11, f12, f13, hs2.len, shL2_len]
  refine cond_dec (fun ht => ?_) fun hfl => ?_
  · have ht : i < 240 := by omega
    have ads := hs2.at (i := i) (by rw [shL2_len]; omega)
    have lds : ∀ L, vload (some 3) L H2 (ept 3 sv i) = some (.agg [.int .i64 (mkS i).l, .int .i64 (mkS i).t, .int .i64 (mkS i).b]) := fun L => by
      have := hs2.load (i := i) (by rw [shL2_len]; omega) (L := L)
      rw [shL2_at ht] at this; exact this
    simp (disch := omega) [f0, f1, f2, f3, f10, f11, f12, f13, ads, lds, lpId_ept, (hva1.mono x2).stor]
    refine ref_weight (hva1.mono x2) ha.1 ha.2 ht ?_
    have m1 := mul_bd2 h1 (ha.bd (k := (i : Int)))
    have m2 := mul_bd2 h2 (hb.bd (k := (i : Int)))
    have hWi : mixW a wa b wb (i : Int) = wa * wtN a i + wb * wtN b i := rfl
    have hsucc : canN (mixW a wa b wb) (i + 1) = canN (mixW a wa b wb) i ++ if mixW a wa b wb (i : Int) ≠ 0 then [mkP i (mixW a wa b wb i)] else [] := rfl
    have hcl := canN_len (W := mixW a wa b wb) (n := i)
    simp (disch := omega) [f0, f1, f2, f3, f10, f11, f12, f13, ads, lds, lpId_ept, (hvb1.mono x2).stor]
    refine ref_weight (hvb1.mono x2) hb.1 hb.2 ht ?_
    generalize canN (mixW a wa b wb) (i + 1) = D at *
    generalize hP1 : wa * wtN a i = P1 at *
    generalize hP2 : wb * wtN b i = P2 at *
    generalize hWW : mixW a wa b wb (i : Int) = n at *
    have w1 : IntKind.i64.wrap P1 = P1 := wrap_i64 (by omega) (by omega)
    have w2 : IntKind.i64.wrap P2 = P2 := wrap_i64 (by omega) (by omega)
    have w3 : IntKind.i64.wrap (P1 + P2) = n := by rw [wrap_i64 (by omega) (by omega)]; omega
    simp (disch := omega) [f0, f1, f2, f3, f10, f11, f12, f13, hP1, hP2, w1, w2, w3]
    refine cond_dec (fun hpos => ?_) fun hz => ?_
    · rw [if_pos (show n ≠ 0 by omega)] at hsucc
      subst hsucc
      obtain ⟨nn, hnn⟩ : ∃ nn : Nat, n = nn := ⟨n.toNat, by omega⟩
      generalize canN (mixW a wa b wb) i = C at *
      obtain ⟨v', H', a1, a2, a3, a4, a5, a6⟩ := hq.append (lim := lim) (bytes := 32) (x := mkP i n) (cs := [.int .i64 (mkS i).l, .int .i64 (mkS i).t, .int .i64 (mkS i).b, .int .i64 n]) rfl ⟨by omega, by omega⟩ (by omega) (by omega)
      have hgs := gN_snoc (A := C) (p := mkP i n)
      have hgn : (mkP i n).w.toNat = nn := by simp only [mkP]; omega
      rw [hgn] at hgs
      have hCl : (C ++ [mkP i n]).length = C.length + 1 := by simp
      rw [hCl, hgs]
      simp (disch := omega) [f0, f1, f2, f3, f10, f11, f12, f13, ads, lds, lpId_ept, vbslice_some, splice, iz4, a1]
      rw [hnn]
      refine ref_divisor ?_
      simp (disch := omega) [f0, f1, f2, f3, f10, f11, f13, wrap_i64]
      first
        | exact ⟨by omega, a3 _ x2 (Nat.le_refl _), by rw [← hnn]; exact a2⟩
        | (rw [← hnn]; exact ⟨by omega, a3 _ x2 (Nat.le_refl _), a2⟩)
    · rw [if_neg (show ¬ n ≠ 0 by omega), List.append_nil] at hsucc
      subst hsucc
      simp (disch := omega) [f0, f1, f2, f3, f10, f11, f12, f13, wrap_i64]
      exact ⟨by omega, x2, hq⟩
  have hi4 : i = 240 := by omega
  subst hi4
  have hCw := fun i hi => canN_w (W := mixW a wa b wb) (n := 240) (i := i) hi hWb
  have hCl := canN_len (W := mixW a wa b wb) (n := 240)
  generalize canN (mixW a wa b wb) 240 = C at *
  clear f0 f1 f2 f3 f10 f13
  have e6 : decide (6 < (C.length : Int)) = decide (6 < C.length) := by simp only [decide_eq_decide]; omega
  simp [f11, f12]
  by_cases h0 : C.length = 0
  · have hC0 : C = [] := List.length_eq_zero_iff.1 h0
    subst hC0
    have := hK H2 q (x1.trans x2) hq.lst
    have e : nrmP [] = ([], 0) := rfl
    rw [e] at this
    refine wLoop_round ?_
    have hlen := hq.lst.len
    have hst := hq.lst.stor
    simp [f11, hlen, hst]
    exact this
  have hR : RowP H1.length H2 q C [] := by
    cases hq with
    | nil => simp at h0
    | row h1 h2 => exact ⟨_, h1, rfl, by rw [List.append_nil]; exact h2⟩
  have hgp := gN_pos (L := C) (n := C.length) (by omega) (Nat.le_refl _) fun i hi => (hCw i hi).1
  generalize hg : gN C C.length = g at *
  refine wLoop_up C.length (fun i fr L H' => ∃ M, (fr 11 = q ∧ fr 12 = .int .i64 (g : Nat) ∧ fr 15 = .int .i64 i) ∧ H' = setH H2 q (prC.all M ++ []) ∧ M.length = C.length ∧ (∀ j, M.getD j default = if j < i then dvW g (C.getD j default) else C.getD j default) ∧ allN (ltB g C) i = true) ⟨C, by simp [f11, f12], hR.same.symm, rfl, fun j => by simp, rfl⟩ ?_
  clear f11 f12
  rintro i hi fr L H' ⟨M, ⟨f11, f12, f15⟩, e0, hM, hMj, hall⟩
  subst e0
  have hR2 := hR.put (m := M) hM
  have hx3 : ∀ cs, HX H (setH H2 q cs) := fun cs => HX.of (by rw [hR.len2]; omega) fun b hb => by rw [hR.old (by omega)]; exact (x1.trans x2).same hb
  simp [f11, f12, f15, hR2.pre.lst.len, hM, -List.append_nil]
  refine cond_dec (fun ht => ?_) fun hfl => ?_
  · have ht : i < C.length := by omega
    have hwi := hCw i ht
    have hMi : M.getD i default = C.getD i default := by rw [hMj i, if_neg (by omega)]
    have ad := hR2.pre.lst.at (i := i) (by omega)
    have fa3 : vfaddr 3 (ept 4 q i) = some (eptf 4 q i 3) := hR2.pre.lst.faddr (by omega)
    have gw := fun L => prt_get hR2.pre.lst (i := i) (j := 3) (by omega) (by omega) (L := L)
    have hq1 : 0 ≤ (C.getD i default).w.tdiv g ∧ (C.getD i default).w.tdiv g ≤ (C.getD i default).w := by
      rw [Int.tdiv_eq_ediv_of_nonneg (by omega)]
      exact ⟨Int.ediv_nonneg (by omega) (by omega), Int.ediv_le_self _ (by omega)⟩
    have hdw : (dvW g (C.getD i default)).w = (C.getD i default).w.tdiv g := rfl
    have hg0 : ¬ (g : Int) = 0 := by omega
    have sw := fun L => hR2.store (lim := lim) (by omega) (i := i) (by omega) ((C.getD i default).w.tdiv g) L
    simp only [hR.twice] at sw
    have hMs : M.set i (setW (M.getD i default) ((C.getD i default).w.tdiv g)) = M.set i (dvW g (C.getD i default)) := by rw [hMi]; rfl
    simp only [hMs] at sw
    have hM3 : (M.set i (dvW g (C.getD i default))).length = C.length := by simpa using hM
    have hR3 := hR.put (m := M.set i (dvW g (C.getD i default))) hM3
    have ad3 := hR3.pre.lst.at (i := i) (by omega)
    have gw3 := fun L => prt_get hR3.pre.lst (i := i) (j := 3) (by omega) (by omega) (L := L)
    have hget : (M.set i (dvW g (C.getD i default))).getD i default = dvW g (C.getD i default) := by
      rw [List.getD_eq_getElem?_getD, List.getElem?_set_self (by omega)]; rfl
    simp only [hget, hdw] at gw3
    simp only [hMi] at gw
    generalize hqq : (C.getD i default).w.tdiv g = qq at *
    have hwq : IntKind.i64.wrap qq = qq := wrap_i64 (by omega) (by omega)
    simp (disch := omega) [f11, f12, f15, ad, fa3, gw, lpId_ept, lpId_eptf, rd4_3, hg0, hqq, hwq, sw, ad3, gw3, -vstore, -List.append_nil]
    refine cond_dec (fun hbig => ?_) fun hbig => ?_
    · have hno : allN (ltB g C) C.length = false := allN_not ht (by simp only [ltB, hdw, hqq]; exact decide_eq_false (by omega))
      have e : nrmP C = ([], 4) := by
        unfold nrmP
        split
        · rfl
        · rw [hg, if_neg (by rw [hno]; simp)]
      have := hK _ .snil (hx3 (prC.all (M.set i (dvW g (C.getD i default))) ++ [])) (by rw [e]; exact .nil)
      rw [e] at this
      simp [-List.append_nil]
      exact this
    · simp (disch := omega) [f11, f12, f15, wrap_i64, -List.append_nil]
      refine ⟨by omega, M.set i (dvW g (C.getD i default)), rfl, hM3, fun j => ?_, ?_⟩
      · by_cases e : j = i
        · subst e; rw [hget, if_pos (by omega)]
        · have : (M.set i (dvW g (C.getD i default))).getD j default = M.getD j default := by
            rw [List.getD_eq_getElem?_getD, List.getElem?_set_ne (fun h => e h.symm), ← List.getD_eq_getElem?_getD]
          rw [this, hMj j]
          by_cases hji : j < i
          · rw [if_pos hji, if_pos (by omega)]
          · rw [if_neg hji, if_neg (by omega)]
      · simp only [allN, hall, Bool.true_and, ltB, hdw, hqq]
        exact decide_eq_true (by omega)
  · have hil : i = C.length := by omega
    subst hil
    have hMe : M = C.map (dvW g) := by
      refine same_of (by simpa using hM) fun j hj => ?_
      rw [hMj j, if_pos (by omega), List.getD_eq_getElem?_getD, List.getD_eq_getElem?_getD, List.getElem?_map, List.getElem?_eq_getElem (by omega)]
      rfl
    have hst := hR2.pre.lst.stor
    have hlen := hR2.pre.lst.len
    rw [hM] at hlen
    by_cases h6 : 6 < C.length
    · have e : nrmP C = ([], 4) := by unfold nrmP; rw [if_pos h6]
      have := hK _ .snil (hx3 (prC.all M ++ [])) (by rw [e]; exact .nil)
      rw [e] at this
      simp [f11, hlen, e6, h6, -List.append_nil]
      exact this
    · have e : nrmP C = (M, 0) := by unfold nrmP; rw [if_neg h6, hg, if_pos hall, hMe]
      have := hK _ q (hx3 (prC.all M ++ [])) (by rw [e]; exact hR2.pre.lst)
      rw [e] at this
      simp [f11, hlen, e6, h6, hst, -List.append_nil]
      exact this
end
theorem pts_of {H : Hp} {v : V} {d : CD} (h : RepT H (.sl [cInt, cInt, cInt, cInt]) v d) : ∃ l, LstV prC H v l := by
  obtain ⟨l, h1, _, _⟩ := lst_of (c := prC) rfl (fun z => True) (fun vs ds h => by
    obtain ⟨v0, u0, _, _, rfl, _, p0, q0⟩ := reps_cons h
    obtain ⟨v1, u1, _, _, rfl, _, p1, q1⟩ := reps_cons q0
    obtain ⟨v2, u2, _, _, rfl, _, p2, q2⟩ := reps_cons q1
    obtain ⟨v3, u3, _, _, rfl, _, p3, q3⟩ := reps_cons q2
    have e := reps_nil q3
    subst e
    obtain ⟨n0, rfl, c0⟩ := int_of p0
    obtain ⟨n1, rfl, c1⟩ := int_of p1
    obtain ⟨n2, rfl, c2⟩ := int_of p2
    obtain ⟨n3, rfl, c3⟩ := int_of p3
    exact ⟨⟨n0, n1, n2, n3⟩, rfl, trivial⟩) h
  exact ⟨l, h1⟩
theorem blP_okw {l : List Prt} (h : blP l = 0) : Okw l := by
  obtain ⟨h1, h2, h3⟩ := blP_ok h
  exact ⟨by omega, fun i hi => by have := h3 i hi; exact ⟨this.1, by omega, by omega⟩⟩
theorem okw_nil : Okw [] := ⟨by simp, fun i hi => by simp at hi⟩
theorem mixW_one {l : List Prt} : mixW l 1 [] 0 = wtN l := funext fun i => by simp [mixW]
section
variable {lim : Nat} {H : Hp} {K : V → Hp → Prop} {v w : V} {l m : List Prt} {x y u1 u2 u3 : Int}
theorem dye_Normal (hv : LstV prC H v l) (hlim : lim ≤ H.length) (hK : ∀ H' v', HX H H' → PreT H.length H' v' (normP l).1 → K (.tup [v', .int .i64 (normP l).2]) H') : VCall tbl lim 15 [v] H K := by
  refine VCall_fn tbl_at15 rfl ?_
  have hst := hv.stor
  simp [vf15, hst]
  refine dye_ValidateBlend hv ?_
  by_cases hb : blP l = 0
  case neg =>
    have e : normP l = ([], blP l) := by unfold normP; rw [if_neg hb]
    have := hK H .snil HX.refl (by rw [e]; exact .nil)
    rw [e] at this
    simp [hb]
    exact this
  obtain ⟨h1, h2, h3⟩ := blP_ok hb
  obtain ⟨c1, c2, c3, c4⟩ := colP_spec hb
  have e : normP l = nrmP (colP l) := by unfold normP; rw [if_pos hb]
  rw [e] at hK
  simp [hb, vbslice_some, hst, splice, hv.one]
  have x0 : HX H (H ++ [.row [v] true]) := HX.push
  have hb1 : LstV vC (H ++ [.row [v] true]) (.sl H.length 0 1 1) [v] := LstV.sl (c := vC) (l := [v]) (off := 0) (cs := [v]) (own := true) (by simp) (by simp) rfl
  have hv1 := hv.mono x0
  have hfl : [l].flatten = l := by simp
  generalize H ++ [.row [v] true] = H0 at *
  have l0 := x0.len
  refine dye_collect hb1 (Ls := [l]) rfl (fun i hi => ?_) ⟨by simp, by simp⟩ (by rw [hfl]; omega) (by omega) (B := 1000) ⟨by omega, by omega⟩ (fun p hp => ?_) fun H2 v2 x2 hp2 => ?_
  · have : i = 0 := by simp at hi; omega
    subst this
    exact ⟨hv1, h2⟩
  · rw [hfl] at hp
    obtain ⟨i, hi, e⟩ := mem_getD hp
    rw [← e]; have := h3 i hi; exact ⟨this.1, by omega, by omega⟩
  rw [hfl] at hp2
  replace x2 : HX H0 H2 := x2
  have l2 := x2.len
  simp [hp2.lst.stor]
  refine dye_normal hp2 (by omega) (by omega) (fun i hi => by have := c4 i hi; omega) fun H3 v3 l3 ho hp3 => ?_
  have x3 : HX H H3 := HX.of (by omega) fun b hb => by rw [ho b (by omega)]; exact (x0.trans x2).same hb
  have := hK H3 v3 x3 (hp3.le (by omega))
  simp [hp3.lst.stor]
  exact this
theorem ref_Normal (hv : LstV prC H v l) (hlim : lim ≤ H.length) (hK : ∀ H' v', HX H H' → LstV prC H' v' (normP l).1 → K (.tup [v', .int .i64 (normP l).2]) H') : VCall tbl lim 16 [v] H K := by
  refine VCall_fn tbl_at16 rfl ?_
  have hst := hv.stor
  simp [vf16, hst]
  refine ref_ValidateBlend hv ?_
  by_cases hb : blP l = 0
  case neg =>
    have e : normP l = ([], blP l) := by unfold normP; rw [if_neg hb]
    have := hK H .snil HX.refl (by rw [e]; exact .nil)
    rw [e] at this
    simp [hb]
    exact this
  have e : normP l = nrmP (canN (mixW l 1 [] 0) 240) := by unfold normP; rw [if_pos hb, mixW_one]; rfl
  rw [e] at hK
  simp [hb, hst]
  refine ref_merged hv (.nil : LstV prC H .snil []) (blP_okw hb) okw_nil (by omega) (by omega) hlim fun H2 v2 x2 h2 => ?_
  have := hK H2 v2 x2 h2
  simp [h2.stor]
  exact this
theorem law_copied (hv : LstV prC H v l) (hl : l.length ≤ 1000) (hlim : lim ≤ H.length) (hK : ∀ H' v', HX H H' → LstV prC H' v' l → K v' H') : VCall tbl lim 14 [v] H K := by
  refine VCall_fn tbl_at14 rfl ?_
  have hv2 := hv.mono (H' := H ++ [.row [] true]) HX.push
  have ap : vappend lim 4 32 (H ++ [.row [] true]) (.sl H.length 0 0 4) v = some (.sl (H.length + 1) 0 l.length 4, (H ++ [Blk.row [] true]).set H.length .dead ++ [.row (prC.all l) true]) := by
    simp [vappend, hv2.cells, hv2.len, hlim, Cod.all_len, show l.length * 32 ≤ 140737488355328 by omega, show l.length < 4611686018427387904 by omega]
  have o : LstV prC ((H ++ [Blk.row [] true]).set H.length .dead ++ [.row (prC.all l) true]) (.sl (H.length + 1) 0 l.length 4) l := by
    have : H.length + 1 = ((H ++ [Blk.row [] true]).set H.length .dead).length := by simp
    rw [this]
    exact (OwnT.new (c := prC) (n := 0) (by omega)).lst
  have x : HX H ((H ++ [Blk.row [] true]).set H.length .dead ++ [.row (prC.all l) true]) := by
    refine HX.of (by simp <;> omega) fun i hi => ?_
    rw [List.getElem?_append_left (by simp; omega), List.getElem?_set_ne (by omega), List.getElem?_append_left hi]
  have := hK _ _ x o
  have e : ((H ++ [Blk.row [] true]).set H.length .dead ++ [Blk.row (prC.all l) true]) = H ++ [.dead, .row (prC.all l) true] := by simp
  rw [e] at this
  simp [vf14, vbslice_some, ap]
  exact this
theorem law_spoil {n : Nat} (hp : PreT n H v l) (hlim : lim ≤ n) (hl : l.length ≤ 1000) (hK : ∀ H', H'.length = H.length → (∀ b, b < n → H'[b]? = H[b]?) → K (.tup []) H') : VCall tbl lim 20 [v] H K := by
  refine VCall_fn tbl_at20 rfl ?_
  have hlen := hp.lst.len
  simp [vf20]
  by_cases h0 : l.length = 0
  · have := hK H rfl fun _ _ => rfl
    refine wLoop_round ?_
    simp [hlen, h0]
    exact this
  obtain ⟨R, hR⟩ := hp.cut (by omega)
  refine wLoop_up l.length (fun i fr L H' => ∃ M, (fr 0 = v ∧ fr 2 = .int .i64 i) ∧ H' = setH H v (prC.all M ++ R) ∧ M.length = l.length) ⟨l, by simp, hR.same.symm, rfl⟩ ?_
  rintro i hi fr L H' ⟨M, ⟨f0, f2⟩, e0, hM⟩
  subst e0
  have hR2 := hR.put (m := M) hM
  simp [f0, f2, hR2.pre.lst.len, hM]
  refine cond_dec (fun ht => ?_) fun hfl => ?_
  · have ht : i < l.length := by omega
    have ad := hR2.pre.lst.at (i := i) (by omega)
    have fa3 : vfaddr 3 (ept 4 v i) = some (eptf 4 v i 3) := hR2.pre.lst.faddr (by omega)
    have sw := fun L => hR2.store (lim := lim) hlim (i := i) (by omega) (-1) L
    simp only [hR.twice] at sw
    simp (disch := omega) [f0, f2, ad, fa3, sw, wrap_i64, -vstore]
    exact ⟨by omega, _, rfl, by simpa using hM⟩
  · have := hK (setH H v (prC.all M ++ R)) hR.len2 fun b hb => hR.old hb
    simp
    exact this
theorem normP_len : (normP l).1.length ≤ 6 := by
  by_cases h : (normP l).2 = 0
  · exact (norm_norm h).2
  · unfold normP at h ⊢
    split at h
    · rename_i hb
      rw [if_pos hb]
      unfold nrmP at h ⊢
      split at h
      · rename_i h6; rw [if_pos h6]; simp
      · rename_i h6
        rw [if_neg h6]
        split at h
        · simp at h
        · rename_i hal; rw [if_neg hal]; simp
    · rename_i hb; rw [if_neg hb]; simp
theorem law_DyeBlends (hv : LstV prC H v l) (hlim : lim ≤ H.length) (hK : ∀ H', K (.bool true) H') : VCall tbl lim 3 [v] H K := by
  refine VCall_fn tbl_at3 rfl ?_
  simp [vf3, hv.stor]
  refine law_many hv ?_
  refine cond_dec (fun h => ?_) fun h => ?_
  · simp
    refine law_known hlim fun H1 => ?_
    simp; exact hK _
  simp [hv.stor]
  refine law_copied hv (by omega) hlim fun H1 own x1 ho => ?_
  replace x1 : HX H H1 := x1
  have l1 := x1.len
  have hv1 := hv.mono x1
  have hn6 := normP_len (l := l)
  have hn62 := normP_len (l := (normP l).1)
  simp [ho.stor]
  refine dye_Normal ho (by omega) fun H2 a x2 ha => ?_
  replace x2 : HX H1 H2 := x2
  have l2 := x2.len
  have hv2 := hv1.mono x2
  simp [hv.stor]
  refine ref_Normal hv2 (by omega) fun H3 b x3 hb => ?_
  replace x3 : HX H2 H3 := x3
  have l3 := x3.len
  have hv3 := hv2.mono x3
  have ha3 := ha.mono x3
  simp [hv.stor]
  refine dye_ValidateBlend hv3 ?_
  simp [hv.stor]
  refine ref_ValidateBlend hv3 ?_
  simp [ha3.lst.stor, hb.stor]
  refine ref_SameParts ha3.lst hb (by omega) (by omega) ?_
  have hsame : sameP (normP l).1 (normP l).1 = true := decide_eq_true rfl
  rw [hsame]
  simp [ha3.lst.stor]
  refine dye_Normal ha3.lst (by omega) fun H4 c x4 hc => ?_
  replace x4 : HX H3 H4 := x4
  have l4 := x4.len
  have ha4 := ha3.mono x4
  have hb4 := hb.mono x4
  have fin : ∀ H5, (∀ b, b < H1.length → H5[b]? = H4[b]?) → H5.length = H4.length → HX H1 H5 := fun H5 h1 h2 => HX.of (by omega) fun b hb => by rw [h1 b hb]; exact ((x2.trans x3).trans x4).same hb
  by_cases he : (normP l).2 = 0
  · have hnn := (norm_norm he).1
    rw [hnn] at hc ⊢
    simp only at hc
    simp [he, hc.lst.stor, hb.stor]
    refine ref_SameParts hc.lst hb4 (by omega) (by omega) ?_
    rw [hsame]
    simp [ha4.lst.stor]
    refine law_spoil ha4 (by omega) (by omega) fun H5 l5 o5 => ?_
    have x5 := fin H5 o5 l5
    simp [ho.stor, hv.stor]
    refine ref_SameParts (ho.mono x5) (hv1.mono x5) (by omega) (by omega) ?_
    have hsl : sameP l l = true := decide_eq_true rfl
    rw [hsl]
    simp
    refine law_known (by omega) fun H6 => ?_
    simp; exact hK _
  · have vwd : vwant false dv = false := rfl
    have vwt : vwant true dv = false := rfl
    simp [eq_false he, ha4.lst.stor, vwd, vwt]
    refine law_spoil ha4 (by omega) (by omega) fun H5 l5 o5 => ?_
    have x5 := fin H5 o5 l5
    simp [ho.stor, hv.stor]
    refine ref_SameParts (ho.mono x5) (hv1.mono x5) (by omega) (by omega) ?_
    have hsl : sameP l l = true := decide_eq_true rfl
    rw [hsl]
    simp
    refine law_known (by omega) fun H6 => ?_
    simp; exact hK _
end
theorem rd4n1 {a b c d : V} : rd none [a, b, c, d] 1 = some b := Eq.trans rfl rfl
theorem rd4n2 {a b c d : V} : rd none [a, b, c, d] 2 = some c := Eq.trans rfl rfl
theorem rd4n3 {a b c d : V} : rd none [a, b, c, d] 3 = some d := Eq.trans rfl rfl
attribute [local simp] rd4n1 rd4n2 rd4n3
structure Mxt where
  a : List Prt
  b : List Prt
  x : Int
  y : Int
inductive MxtV (H : Hp) : List V → Mxt → Prop
  | mk {va vb : V} {a b : List Prt} {x y : Int} : LstV prC H va a → LstV prC H vb b → I64 x → I64 y → MxtV H [va, vb, .int .i64 x, .int .i64 y] ⟨a, b, x, y⟩
theorem mxt_of {H : Hp} {ws : List V} {ds : List CD} (h : RepTs H [.sl [cInt, cInt, cInt, cInt], .sl [cInt, cInt, cInt, cInt], cInt, cInt] ws ds) : ∃ f, MxtV H ws f := by
  obtain ⟨v0, u0, _, _, rfl, _, p0, q0⟩ := reps_cons h
  obtain ⟨v1, u1, _, _, rfl, _, p1, q1⟩ := reps_cons q0
  obtain ⟨v2, u2, _, _, rfl, _, p2, q2⟩ := reps_cons q1
  obtain ⟨v3, u3, _, _, rfl, _, p3, q3⟩ := reps_cons q2
  have e := reps_nil q3
  subst e
  obtain ⟨a, ha⟩ := pts_of p0
  obtain ⟨b, hb⟩ := pts_of p1
  obtain ⟨n2, rfl, c2⟩ := int_of p2
  obtain ⟨n3, rfl, c3⟩ := int_of p3
  exact ⟨⟨a, b, n2, n3⟩, .mk ha hb c2 c3⟩
def bothE (a b : List Prt) : Int := if blP a ≠ 0 then blP a else blP b
theorem bothE_ok {a b : List Prt} (h : bothE a b = 0) : blP a = 0 ∧ blP b = 0 := by
  unfold bothE at h
  split at h
  · rename_i h1; exact absurd h h1
  · rename_i h1; exact ⟨Classical.not_not.1 h1, h⟩
def badM (x y : Int) : Prop := ¬ (0 ≤ x ∧ x ≤ 1000) ∨ ¬ (0 ≤ y ∧ y ≤ 1000) ∨ x + y = 0
instance {x y : Int} : Decidable (badM x y) := by unfold badM; infer_instance
def mixP (a : List Prt) (x : Int) (b : List Prt) (y : Int) : List Prt × Int :=
  if bothE a b ≠ 0 then ([], bothE a b) else if badM x y then ([], 1) else nrmP (canN (mixW a (x * totP b) b (y * totP a)) 240)
theorem nrmP_len {l : List Prt} : (nrmP l).1.length ≤ 6 := by
  unfold nrmP
  split
  · simp
  · split
    · simp; omega
    · simp
theorem mixP_len {a b : List Prt} {x y : Int} : (mixP a x b y).1.length ≤ 6 := by
  unfold mixP
  split
  · simp
  · split
    · simp
    · exact nrmP_len
theorem mixP_comm {a b : List Prt} {x y : Int} (h : (mixP a x b y).2 = 0) : mixP b y a x = mixP a x b y := by
  have h1 : bothE a b = 0 := by
    apply Classical.byContradiction
    intro hn
    unfold mixP at h
    rw [if_pos hn] at h
    exact hn h
  have h3 : ¬ badM x y := by
    intro hn
    unfold mixP at h
    rw [if_neg (fun hh => hh h1), if_pos hn] at h
    simp at h
  obtain ⟨ha, hb⟩ := bothE_ok h1
  have h2 : bothE b a = 0 := by unfold bothE; rw [if_neg (fun hh => hh hb)]; exact ha
  have h4 : ¬ badM y x := by
    intro hh
    apply h3
    unfold badM at hh ⊢
    omega
  have e1 : mixP b y a x = nrmP (canN (mixW b (y * totP a) a (x * totP b)) 240) := by unfold mixP; rw [if_neg (fun hh => hh h2), if_neg h4]
  have e2 : mixP a x b y = nrmP (canN (mixW a (x * totP b) b (y * totP a)) 240) := by unfold mixP; rw [if_neg (fun hh => hh h1), if_neg h3]
  have : mixW b (y * totP a) a (x * totP b) = mixW a (x * totP b) b (y * totP a) := funext fun i => by unfold mixW; exact Int.add_comm _ _
  rw [e1, e2, this]
theorem tot_rng {l : List Prt} (h : blP l = 0) : 0 ≤ totP l ∧ totP l ≤ 6000 := by
  obtain ⟨h1, h2, h3⟩ := blP_ok h
  have key : ∀ n, n ≤ l.length → 0 ≤ totN l n ∧ totN l n ≤ 1000 * n := fun n => by
    induction n with
    | zero => intro _; simp [totN]
    | succ n ih =>
      intro hn
      have := ih (by omega)
      have := h3 n (by omega)
      simp only [totN]; omega
  have := key l.length (Nat.le_refl _)
  unfold totP
  omega
theorem mul_tot {x t : Int} (hx : 0 ≤ x ∧ x ≤ 1000) (ht : 0 ≤ t ∧ t ≤ 6000) : 0 ≤ x * t ∧ x * t ≤ 10000000 := by
  refine ⟨Int.mul_nonneg hx.1 ht.1, ?_⟩
  exact Int.le_trans (Int.mul_le_mul_of_nonneg_right hx.2 ht.1) (by omega)
def scW (x : Int) (p : Prt) : Prt := ⟨p.l, p.t, p.b, p.w * x⟩
def scN (x : Int) (l : List Prt) (i : Nat) : List Prt := (l.take i).map (scW x)
theorem scN_succ {x : Int} {l : List Prt} {i : Nat} (h : i < l.length) : scN x l (i + 1) = scN x l i ++ [scW x (l.getD i default)] := by
  unfold scN; rw [take_snocP h, List.map_append]; rfl
theorem scN_len {x : Int} {l : List Prt} {i : Nat} : (scN x l i).length ≤ l.length := by unfold scN; rw [List.length_map, List.length_take]; omega
theorem wtN_sc {x i : Int} : ∀ {l : List Prt}, wtN (l.map (scW x)) i = x * wtN l i
  | [] => by simp [wtN]
  | p :: l => by
    have ih := wtN_sc (x := x) (i := i) (l := l)
    have e : numS (scW x p) = numS p := rfl
    simp only [List.map_cons, wtN, ih, e, Int.mul_add]
    split
    · simp only [scW]; rw [Int.mul_comm]
    · simp
section
variable {lim : Nat} {H : Hp} {K : V → Hp → Prop} {v w va vb : V} {l m a b : List Prt} {x y u1 u2 u3 : Int}
theorem dye_scaled (hv : LstV prC H v l) (hl : l.length ≤ 100) (hx : -10000000 ≤ x ∧ x ≤ 10000000) (hw : ∀ i, i < l.length → 0 ≤ (l.getD i default).w ∧ (l.getD i default).w ≤ 1000) (hlim : lim ≤ H.length) (hK : ∀ H' v', HX H H' → OwnT H.length prC H' v' (l.map (scW x)) → K v' H') : VCall tbl lim 50 [v, .int .i64 x] H K := by
  refine VCall_fn tbl_at50 rfl ?_
  simp [vf50, hv.len]
  refine wLoop_up l.length (fun i fr L H' => ∃ q, (fr 1 = .int .i64 x ∧ fr 8 = v ∧ fr 9 = .int .i64 l.length ∧ fr 10 = .int .i64 i ∧ fr 5 = q) ∧ HX H H' ∧ OwnT H.length prC H' q (scN x l i)) ⟨.snil, by simp [hv.len], HX.refl, .nil⟩ ?_
  rintro i hi fr L H1 ⟨q, ⟨f1, f8, f9, f10, f5⟩, x1, hq⟩
  have l1 := x1.len
  have hv1 := hv.mono x1
  simp [f1, f8, f9, f10, f5]
  refine cond_dec (fun ht => ?_) fun hfl => ?_
  · have ht : i < l.length := by omega
    have hwi := hw i ht
    have ld := fun L => prt_load hv1 ht (L := L)
    have hts := scN_succ (x := x) ht
    rw [hts]
    have hpb : -10000000000 ≤ (l.getD i default).w * x ∧ (l.getD i default).w * x ≤ 10000000000 := by
      have q1 := Int.mul_le_mul_of_nonneg_left hx.2 hwi.1
      have q2 := Int.mul_le_mul_of_nonneg_left hx.1 hwi.1
      generalize (l.getD i default).w * x = z at *
      omega
    have hlt := scN_len (x := x) (l := l) (i := i)
    replace hlt : (scN x l i).length < 1000000 := by omega
    generalize l.getD i default = p at *
    generalize scN x l i = C at *
    obtain ⟨v', H', a1, a2, a3, a4, a5, a6⟩ := hq.append (lim := lim) (bytes := 32) (x := scW x p) (cs := [.int .i64 p.l, .int .i64 p.t, .int .i64 p.b, .int .i64 (p.w * x)]) rfl ⟨by omega, by omega⟩ (by omega) hlt
    have hwz : IntKind.i64.wrap (p.w * x) = p.w * x := wrap_i64 (by omega) (by omega)
    generalize hz : p.w * x = z at *
    simp (disch := omega) [f1, f8, f9, f10, f5, hv1.at ht, ld, lpId_ept, lastO, lastS, splice44, iz4, rd43, rd4_3, hz, hwz, vbslice_some, splice, a1, wrap_i64]
    exact ⟨by omega, a3 _ x1 (Nat.le_refl _), a2⟩
  · have : i = l.length := by omega
    subst this
    unfold scN at hq
    rw [List.take_length] at hq
    have := hK H1 q x1 hq
    simp [f5, hq.lst.stor]
    exact this
theorem dye_both (ha : LstV prC H va a) (hb : LstV prC H vb b) (hK : K (.int .i64 (bothE a b)) H) : VCall tbl lim 48 [va, vb] H K := by
  refine VCall_fn tbl_at48 rfl ?_
  simp [vf48, ha.stor]
  refine dye_ValidateBlend ha ?_
  by_cases h : blP a = 0
  · simp [h, hb.stor]
    refine dye_ValidateBlend hb ?_
    simp
    simpa [bothE, h] using hK
  · simp [h]
    simpa [bothE, h] using hK
theorem ref_both (ha : LstV prC H va a) (hb : LstV prC H vb b) (hK : K (.int .i64 (bothE a b)) H) : VCall tbl lim 52 [va, vb] H K := by
  refine VCall_fn tbl_at52 rfl ?_
  simp [vf52, ha.stor]
  refine ref_ValidateBlend ha ?_
  by_cases h : blP a = 0
  · simp [h, hb.stor]
    refine ref_ValidateBlend hb ?_
    simp
    simpa [bothE, h] using hK
  · simp [h]
    simpa [bothE, h] using hK
theorem ref_Mix (ha : LstV prC H va a) (hb : LstV prC H vb b) (hx : I64 x) (hy : I64 y) (hlim : lim ≤ H.length) (hK : ∀ H' v', HX H H' → LstV prC H' v' (mixP a x b y).1 → K (.tup [v', .int .i64 (mixP a x b y).2]) H') : VCall tbl lim 22 [va, .int .i64 x, vb, .int .i64 y] H K := by
  refine VCall_fn tbl_at22 rfl ?_
  simp [vf22, ha.stor, hb.stor]
  refine ref_both ha hb ?_
  by_cases h0 : bothE a b = 0
  case neg =>
    have e : mixP a x b y = ([], bothE a b) := by unfold mixP; rw [if_pos h0]
    have := hK H .snil HX.refl (by rw [e]; exact .nil)
    rw [e] at this
    simp [h0]
    exact this
  obtain ⟨ba, bb⟩ := bothE_ok h0
  have bad : badM x y → K (.tup [.snil, .int .i64 1]) H := fun hbd => by
    have e : mixP a x b y = ([], 1) := by unfold mixP; rw [if_neg (by rw [h0]; simp), if_pos hbd]
    have := hK H .snil HX.refl (by rw [e]; exact .nil)
    rw [e] at this
    exact this
  simp [h0]
  refine ref_within ?_
  by_cases h1 : 0 ≤ x ∧ x ≤ 1000
  case neg =>
    have := bad (Or.inl h1)
    rw [decide_eq_false h1]
    simp
    exact this
  rw [decide_eq_true h1]
  simp
  refine ref_within ?_
  by_cases h2 : 0 ≤ y ∧ y ≤ 1000
  case neg =>
    have := bad (Or.inr (Or.inl h2))
    rw [decide_eq_false h2]
    simp
    exact this
  rw [decide_eq_true h2]
  have w1 : IntKind.i64.wrap (x + y) = x + y := wrap_i64 (by omega) (by omega)
  by_cases h3 : x + y = 0
  case pos =>
    have := bad (Or.inr (Or.inr h3))
    simp [w1, h3]
    exact this
  have hnb : ¬ badM x y := by unfold badM; omega
  have e : mixP a x b y = nrmP (canN (mixW a (x * totP b) b (y * totP a)) 240) := by unfold mixP; rw [if_neg (by rw [h0]; simp), if_neg hnb]
  rw [e] at hK
  have ta := tot_rng ba
  have tb := tot_rng bb
  have m1 := mul_tot h1 tb
  have m2 := mul_tot h2 ta
  have wa := fun i (hi : i < a.length) => (blP_okw ba).2 i hi
  have wb := fun i (hi : i < b.length) => (blP_okw bb).2 i hi
  have oa := blP_okw ba
  have ob := blP_okw bb
  simp [w1, h3, hb.stor, ha.stor]
  refine ref_total hb (B := 1000) (by omega) (by have := ob.1; omega) (fun i hi => by have := wb i hi; omega) ?_
  have w2 : IntKind.i64.wrap (x * totP b) = x * totP b := wrap_i64 (by omega) (by omega)
  have w3 : IntKind.i64.wrap (y * totP a) = y * totP a := wrap_i64 (by omega) (by omega)
  generalize hX : x * totP b = X at *
  generalize hY : y * totP a = Y at *
  simp [hX, w2, ha.stor]
  refine ref_total ha (B := 1000) (by omega) (by have := oa.1; omega) (fun i hi => by have := wa i hi; omega) ?_
  simp [hY, w3, ha.stor, hb.stor]
  refine ref_merged ha hb oa ob m1 m2 hlim fun H2 v2 x2 h2 => ?_
  have := hK H2 v2 x2 h2
  simp [h2.stor]
  exact this
theorem dye_Mix (ha : LstV prC H va a) (hb : LstV prC H vb b) (hx : I64 x) (hy : I64 y) (hlim : lim ≤ H.length) (hK : ∀ H' v', HX H H' → LstV prC H' v' (mixP a x b y).1 → K (.tup [v', .int .i64 (mixP a x b y).2]) H') : VCall tbl lim 21 [va, .int .i64 x, vb, .int .i64 y] H K := by
  refine VCall_fn tbl_at21 rfl ?_
  simp [vf21, ha.stor, hb.stor]
  refine dye_both ha hb ?_
  by_cases h0 : bothE a b = 0
  case neg =>
    have e : mixP a x b y = ([], bothE a b) := by unfold mixP; rw [if_pos h0]
    have := hK H .snil HX.refl (by rw [e]; exact .nil)
    rw [e] at this
    simp [h0]
    exact this
  obtain ⟨ba, bb⟩ := bothE_ok h0
  have bad : badM x y → K (.tup [.snil, .int .i64 1]) H := fun hbd => by
    have e : mixP a x b y = ([], 1) := by unfold mixP; rw [if_neg (by rw [h0]; simp), if_pos hbd]
    have := hK H .snil HX.refl (by rw [e]; exact .nil)
    rw [e] at this
    exact this
  simp [h0]
  refine dye_isWeight ?_
  by_cases h1 : 0 ≤ x ∧ x ≤ 1000
  case neg =>
    have := bad (Or.inl h1)
    rw [decide_eq_false h1]
    simp
    exact this
  rw [decide_eq_true h1]
  simp
  refine dye_isWeight ?_
  by_cases h2 : 0 ≤ y ∧ y ≤ 1000
  case neg =>
    have := bad (Or.inr (Or.inl h2))
    rw [decide_eq_false h2]
    simp
    exact this
  rw [decide_eq_true h2]
  have w1 : IntKind.i64.wrap (x + y) = x + y := wrap_i64 (by omega) (by omega)
  by_cases h3 : x + y = 0
  case pos =>
    have := bad (Or.inr (Or.inr h3))
    simp [w1, h3]
    exact this
  have hnb : ¬ badM x y := by unfold badM; omega
  have e : mixP a x b y = nrmP (canN (mixW a (x * totP b) b (y * totP a)) 240) := by unfold mixP; rw [if_neg (by rw [h0]; simp), if_neg hnb]
  rw [e] at hK
  have ta := tot_rng ba
  have tb := tot_rng bb
  have m1 := mul_tot h1 tb
  have m2 := mul_tot h2 ta
  have oa := blP_okw ba
  have ob := blP_okw bb
  have wa := fun i (hi : i < a.length) => oa.2 i hi
  have wb := fun i (hi : i < b.length) => ob.2 i hi
  have la := (blP_ok ba).2.1
  have lb := (blP_ok bb).2.1
  have la6 := (blP_ok ba).1
  have lb6 := (blP_ok bb).1
  simp [w1, h3, hb.stor, ha.stor]
  refine dye_total hb (B := 1000) (by omega) (by omega) (fun i hi => by have := wb i hi; omega) ?_
  have w2 : IntKind.i64.wrap (x * totP b) = x * totP b := wrap_i64 (by omega) (by omega)
  have w3 : IntKind.i64.wrap (y * totP a) = y * totP a := wrap_i64 (by omega) (by omega)
  generalize hX : x * totP b = X at *
  generalize hY : y * totP a = Y at *
  simp [hX, w2, ha.stor]
  refine dye_scaled ha oa.1 (by omega) (fun i hi => (wa i hi).2) hlim fun H1 sa x1 hsa => ?_
  replace x1 : HX H H1 := x1
  have l1 := x1.len
  have ha1 := ha.mono x1
  have hb1 := hb.mono x1
  simp [ha.stor]
  refine dye_total ha1 (B := 1000) (by omega) (by omega) (fun i hi => by have := wa i hi; omega) ?_
  simp [hY, w3, hb.stor]
  refine dye_scaled hb1 ob.1 (by omega) (fun i hi => (wb i hi).2) (by omega) fun H2 sb x2 hsb => ?_
  replace x2 : HX H1 H2 := x2
  have l2 := x2.len
  have hsa2 := hsa.lst.mono x2
  simp [vbslice_some, splice, hsa2.stor, hsa2.one, hsb.lst.stor, hsb.lst.one]
  have x3 : HX H2 (H2 ++ [.row [sa, sb] true]) := HX.push
  have hb3 : LstV vC (H2 ++ [.row [sa, sb] true]) (.sl H2.length 0 2 1) [sa, sb] := LstV.sl (c := vC) (l := [sa, sb]) (off := 0) (cs := [sa, sb]) (own := true) (by simp) (by simp) rfl
  have hsa3 := hsa2.mono x3
  have hsb3 := hsb.lst.mono x3
  have hfl : [a.map (scW X), b.map (scW Y)].flatten = a.map (scW X) ++ b.map (scW Y) := by simp
  have hcol : colP (a.map (scW X) ++ b.map (scW Y)) = canN (mixW a X b Y) 240 := by
    unfold colP
    congr 1
    exact funext fun i => by rw [wtN_append, wtN_sc, wtN_sc]; rfl
  generalize H2 ++ [.row [sa, sb] true] = H3 at *
  have l3 := x3.len
  have hscm : ∀ (l : List Prt) (Z : Int), (0 ≤ Z ∧ Z ≤ 10000000) → Okw l → ∀ p, p ∈ l.map (scW Z) → okS p ∧ -10000000000 ≤ p.w ∧ p.w ≤ 10000000000 := fun l Z hZ ho p hp => by
    obtain ⟨q, hq, e⟩ := List.mem_map.1 hp
    obtain ⟨i, hi, e2⟩ := mem_getD hq
    have hw := ho.2 i hi
    rw [e2] at hw
    rw [← e]
    refine ⟨hw.1, ?_⟩
    have q1 := Int.mul_le_mul_of_nonneg_left hZ.2 hw.2.1
    have q2 := Int.mul_nonneg hw.2.1 hZ.1
    simp only [scW]
    generalize q.w * Z = z at *
    omega
  refine dye_collect hb3 (Ls := [a.map (scW X), b.map (scW Y)]) rfl (fun i hi => ?_) ⟨by simp, by simp⟩ (by rw [hfl]; simp; omega) (by omega) (B := 10000000000) ⟨by omega, by omega⟩ (fun p hp => ?_) fun H4 v4 x4 hp4 => ?_
  · have : i = 0 ∨ i = 1 := by simp at hi; omega
    rcases this with rfl | rfl
    · exact ⟨hsa3, by show 0 < (a.map (scW X)).length; rw [List.length_map]; exact la⟩
    · exact ⟨hsb3, by show 0 < (b.map (scW Y)).length; rw [List.length_map]; exact lb⟩
  · rw [hfl] at hp
    rcases List.mem_append.1 hp with hp | hp
    · exact hscm a X m1 oa p hp
    · exact hscm b Y m2 ob p hp
  rw [hfl, hcol] at hp4
  replace x4 : HX H3 H4 := x4
  have l4 := x4.len
  have hWb := mixW_bd oa ob m1 m2
  have hcl := canN_len (W := mixW a X b Y) (n := 240)
  simp [hp4.lst.stor]
  refine dye_normal hp4 (by omega) (by omega) (fun i hi => by have := canN_w (W := mixW a X b Y) (n := 240) hi hWb; omega) fun H5 v5 l5 ho hp5 => ?_
  have x5 : HX H H5 := HX.of (by omega) fun b hb => by rw [ho b (by omega)]; exact (((x1.trans x2).trans x3).trans x4).same hb
  have := hK H5 v5 x5 hp5.lst
  simp [hp5.lst.stor]
  exact this
theorem law_DyeMixes {ws : List V} {f : Mxt} (hv : MxtV H ws f) (hlim : lim ≤ H.length) (hK : ∀ H', K (.bool true) H') : VCall tbl lim 4 [.agg ws] H K := by
  cases hv with
  | mk ha hb hx hy =>
    rename_i va vb a b x y
    refine VCall_fn tbl_at4 rfl ?_
    simp [vf4, ha.stor, hb.stor]
    refine law_many ha ?_
    by_cases q1 : 100 < a.length
    · simp [q1]
      refine law_known hlim fun H1 => ?_
      simp; exact hK _
    simp [q1, hb.stor]
    refine law_many hb ?_
    by_cases q2 : 100 < b.length
    · simp [q2]
      refine law_known hlim fun H1 => ?_
      simp; exact hK _
    have n1 := mixP_len (a := a) (x := x) (b := b) (y := y)
    have n2 := mixP_len (a := b) (x := y) (b := a) (y := x)
    simp [q2, ha.stor, hb.stor]
    refine dye_Mix ha hb hx hy hlim fun H1 c x1 hc => ?_
    replace x1 : HX H H1 := x1
    have l1 := x1.len
    simp [ha.stor, hb.stor]
    refine ref_Mix (ha.mono x1) (hb.mono x1) hx hy (by omega) fun H2 d x2 hd => ?_
    replace x2 : HX H1 H2 := x2
    have l2 := x2.len
    have hc2 := hc.mono x2
    simp [hc2.stor, hd.stor]
    refine ref_SameParts hc2 hd (by omega) (by omega) ?_
    have hsame : sameP (mixP a x b y).1 (mixP a x b y).1 = true := decide_eq_true rfl
    rw [hsame]
    simp [ha.stor, hb.stor]
    refine dye_Mix ((hb.mono x1).mono x2) ((ha.mono x1).mono x2) hy hx (by omega) fun H3 g x3 hg => ?_
    replace x3 : HX H2 H3 := x3
    have l3 := x3.len
    have hc3 := hc2.mono x3
    by_cases he : (mixP a x b y).2 = 0
    · have hcm := mixP_comm he
      rw [hcm] at hg ⊢
      simp [he, hc3.stor, hg.stor]
      refine ref_SameParts hc3 hg (by omega) (by omega) ?_
      rw [hsame]
      simp
      refine law_known (by omega) fun H6 => ?_
      simp; exact hK _
    · have vwd : vwant false dv = false := rfl
      have vwt : vwant true dv = false := rfl
      simp [eq_false he, vwd, vwt]
      refine law_known (by omega) fun H6 => ?_
      simp; exact hK _
end
def sumA (W : Int → Int) : Nat → Int
  | 0 => 0
  | n + 1 => sumA W n + absP (W (n : Int))
def absS : List Prt → Int
  | [] => 0
  | p :: A => absP p.w + absS A
theorem absS_append {B : List Prt} : ∀ {A : List Prt}, absS (A ++ B) = absS A + absS B
  | [] => by simp [absS]
  | p :: A => by
    have ih := absS_append (B := B) (A := A)
    simp only [List.cons_append, absS, ih]; omega
theorem absS_canN {W : Int → Int} : ∀ {n : Nat}, absS (canN W n) = sumA W n
  | 0 => rfl
  | n + 1 => by
    have ih := absS_canN (W := W) (n := n)
    unfold canN
    rw [absS_append, ih]
    simp only [sumA]
    by_cases h : W (n : Int) ≠ 0
    · rw [if_pos h]; simp [absS, mkP]
    · rw [if_neg h]
      have : W (n : Int) = 0 := Classical.not_not.1 h
      rw [this]; rfl
theorem absP_bd {n B : Int} (h : -B ≤ n ∧ n ≤ B) : 0 ≤ absP n ∧ absP n ≤ B := by unfold absP; omega
theorem sumA_bd {W : Int → Int} {B : Int} (hB : 0 ≤ B) (h : ∀ i, -B ≤ W i ∧ W i ≤ B) : ∀ {n : Nat}, 0 ≤ sumA W n ∧ sumA W n ≤ B * n
  | 0 => by simp [sumA]
  | n + 1 => by
    have ih := sumA_bd hB h (n := n)
    have := absP_bd (h (n : Int))
    simp only [sumA]
    rw [show ((n + 1 : Nat) : Int) = (n : Int) + 1 from rfl, Int.mul_add, Int.mul_one]
    omega
theorem absS_bd {B : Int} (hB : 0 ≤ B) : ∀ {A : List Prt}, (∀ p, p ∈ A → -B ≤ p.w ∧ p.w ≤ B) → 0 ≤ absS A ∧ absS A ≤ B * A.length
  | [], _ => by simp [absS]
  | p :: A, h => by
    have ih := absS_bd hB (A := A) fun q hq => h q (List.mem_cons_of_mem _ hq)
    have := absP_bd (h p (List.mem_cons_self ..))
    simp only [absS, List.length_cons]
    rw [show ((A.length + 1 : Nat) : Int) = (A.length : Int) + 1 from rfl, Int.mul_add, Int.mul_one]
    omega
theorem absS_step {l : List Prt} {i : Nat} (hi : i < l.length) : absS (l.take (i + 1)) = absS (l.take i) + absP (l.getD i default).w := by
  rw [take_snocP hi, absS_append]; simp [absS]
def distW (a b : List Prt) : Int → Int := mixW a (totP b) b (-(totP a))
def numP (a b : List Prt) : Int := sumA (distW a b) 240
def denP (a b : List Prt) : Int := 2 * totP a * totP b
def gcdD (a b : List Prt) : Nat := Nat.gcd (numP a b).toNat (denP a b).toNat
def apO (a b : List Prt) : (Int × Int) × Int := if bothE a b ≠ 0 then ((0, 0), bothE a b) else (((numP a b).tdiv (gcdD a b), (denP a b).tdiv (gcdD a b)), 0)
theorem tot_pos {l : List Prt} (h : blP l = 0) : 1 ≤ totP l := by
  obtain ⟨h1, h2, h3⟩ := blP_ok h
  have key : ∀ n : Nat, n ≤ l.length → (n : Int) ≤ totN l n := fun n => by
    induction n with
    | zero => intro _; simp [totN]
    | succ n ih =>
      intro hn
      have := ih (by omega)
      have := h3 n (by omega)
      simp only [totN]; omega
  have := key l.length (Nat.le_refl _)
  unfold totP
  omega
theorem den_rng {a b : List Prt} (ha : blP a = 0) (hb : blP b = 0) : 1 ≤ denP a b ∧ denP a b ≤ 72000000 := by
  have a1 := tot_pos ha
  have a2 := (tot_rng ha).2
  have b1 := tot_pos hb
  have b2 := (tot_rng hb).2
  unfold denP
  have q1 : 1 * 1 ≤ (2 * totP a) * totP b := Int.mul_le_mul (by omega) b1 (by omega) (by omega)
  have q2 : (2 * totP a) * totP b ≤ 12000 * 6000 := Int.mul_le_mul (by omega) b2 (by omega) (by omega)
  omega
theorem dist_bd {a b : List Prt} (ha : blP a = 0) (hb : blP b = 0) (i : Int) : -1000000000000 ≤ distW a b i ∧ distW a b i ≤ 1000000000000 := by
  have oa := blP_okw ha
  have ob := blP_okw hb
  have m1 := mul_bd2 (a := totP b) (by have := tot_rng hb; omega) (oa.bd (k := i))
  have m2 := mul_bd2 (a := totP a) (by have := tot_rng ha; omega) (ob.bd (k := i))
  unfold distW mixW
  rw [Int.neg_mul]
  omega
theorem num_rng {a b : List Prt} (ha : blP a = 0) (hb : blP b = 0) : 0 ≤ numP a b ∧ numP a b ≤ 240000000000000 := by
  have := sumA_bd (W := distW a b) (B := 1000000000000) (by omega) (dist_bd ha hb) (n := 240)
  unfold numP
  omega
theorem tdiv_rng {x : Int} {g : Nat} (hx : 0 ≤ x) : 0 ≤ x.tdiv g ∧ x.tdiv g ≤ x := by
  rw [Int.tdiv_eq_ediv_of_nonneg hx]
  exact ⟨Int.ediv_nonneg hx (Int.natCast_nonneg g), Int.ediv_le_self _ hx⟩
theorem gcdD_pos {a b : List Prt} (ha : blP a = 0) (hb : blP b = 0) : 0 < gcdD a b := by
  have := (den_rng ha hb).1
  exact Nat.gcd_pos_of_pos_right _ (by omega)
theorem keepL0 {L : Lo} {q : Nat} {c : List V} (h : L[q]? = some c) : ∀ d, (L ++ [d])[q]? = some c := fun d => by
  rw [List.getElem?_append_left (List.getElem?_eq_some_iff.1 h).1]; exact h
theorem rd2w {a b : V} : rd (some 2) [a, b] 0 = some (.agg [a, b]) := Eq.trans rfl rfl
theorem iz2 : ints (zs 2) = [.int .i64 0, .int .i64 0] := Eq.trans rfl rfl
section
variable {lim : Nat} {H : Hp} {K : V → Hp → Prop} {v w va vb : V} {l m a b : List Prt} {x y n u1 u2 u3 : Int}
theorem dye_absN (hn : -1000000000000000000 ≤ n ∧ n ≤ 1000000000000000000) (hK : K (.int .i64 (absP n)) H) : VCall tbl lim 54 [.int .i64 n] H K := by
  refine VCall_fn tbl_at54 rfl ?_
  have w1 : IntKind.i64.wrap (0 - n) = -n := by rw [wrap_i64 (by omega) (by omega)]; omega
  have w2 : IntKind.i64.wrap (-n) = -n := wrap_i64 (by omega) (by omega)
  simp [vf54, w1, w2]
  simpa [absP] using hK
theorem ref_apartN (hn : -1000000000000000000 ≤ n ∧ n ≤ 1000000000000000000) (hK : K (.int .i64 (absP n)) H) : VCall tbl lim 78 [.int .i64 n] H K := by
  refine VCall_fn tbl_at78 rfl ?_
  have w1 : IntKind.i64.wrap (0 - n) = -n := by rw [wrap_i64 (by omega) (by omega)]; omega
  have w2 : IntKind.i64.wrap (-n) = -n := wrap_i64 (by omega) (by omega)
  simp [vf78, w1, w2]
  simpa [absP] using hK
theorem ref_distance (ha : LstV prC H va a) (hb : LstV prC H vb b) (ba : blP a = 0) (bb : blP b = 0) (hlim : lim ≤ H.length) (hK : ∀ H', HX H H' → K (.agg [.int .i64 ((numP a b).tdiv (gcdD a b)), .int .i64 ((denP a b).tdiv (gcdD a b))]) H') : VCall tbl lim 56 [va, vb] H K := by
  refine VCall_fn tbl_at56 rfl ?_
  have oa := blP_okw ba
  have ob := blP_okw bb
  have ta := tot_rng ba
  have tb := tot_rng bb
  have hdb := dist_bd ba bb
  simp [vf56, iz2]
  refine ref_shades hlim fun H1 sv x1 hs => ?_
  replace x1 : HX H H1 := x1
  have l1 := x1.len
  have ha1 := ha.mono x1
  have hb1 := hb.mono x1
  simp
  refine wLoop_up 240 (fun i fr L H' => (fr 0 = va ∧ fr 1 = vb ∧ fr 4 = .lp 0 0 ∧ fr 5 = sv ∧ fr 7 = .int .i64 i ∧ fr 6 = .int .i64 (sumA (distW a b) i)) ∧ L[0]? = some [.int .i64 0, .int .i64 0] ∧ H' = H1) ⟨by simp [sumA], rfl, rfl⟩ ?_
  rintro i hi fr L H2 ⟨⟨f0, f1, f4, f5, f7, f6⟩, z0, e0⟩
  have e0 := e0.symm
  subst e0
  simp [f0, f1, f4, f5, f7, f6, hs.lst.len, shL2_len]
  refine cond_dec (fun ht => ?_) fun hfl => ?_
  · have ht : i < 240 := by omega
    have ads := hs.lst.at (i := i) (by rw [shL2_len]; omega)
    have lds : ∀ L, vload (some 3) L H1 (ept 3 sv i) = some (.agg [.int .i64 (mkS i).l, .int .i64 (mkS i).t, .int .i64 (mkS i).b]) := fun L => by
      have := hs.lst.load (i := i) (by rw [shL2_len]; omega) (L := L)
      rw [shL2_at ht] at this; exact this
    have m1 := mul_bd2 (a := totP b) (by omega) (oa.bd (k := (i : Int)))
    have m2 := mul_bd2 (a := totP a) (by omega) (ob.bd (k := (i : Int)))
    have hd1 := hdb i
    have hsb := sumA_bd (W := distW a b) (B := 1000000000000) (by omega) hdb (n := i)
    have hdi : distW a b i = wtN a i * totP b - wtN b i * totP a := by
      unfold distW mixW
      rw [Int.neg_mul, Int.mul_comm (totP b), Int.mul_comm (totP a)]; omega
    rw [Int.mul_comm] at m1 m2
    have hss : sumA (distW a b) (i + 1) = sumA (distW a b) i + absP (distW a b i) := rfl
    rw [hss]
    have hab := absP_bd hd1
    simp (disch := omega) [f0, f1, f4, f5, f7, f6, ads, lds, lpId_ept, ha1.stor]
    refine ref_weight ha1 oa.1 oa.2 ht ?_
    simp (disch := omega) [f0, f1, f4, f5, f7, f6, ads, lds, lpId_ept, hb1.stor]
    refine ref_total hb1 (B := 1000) (by omega) (by have := ob.1; omega) (fun i hi => by have := ob.2 i hi; omega) ?_
    simp (disch := omega) [f0, f1, f4, f5, f7, f6, ads, lds, lpId_ept, hb1.stor]
    refine ref_weight hb1 ob.1 ob.2 ht ?_
    simp (disch := omega) [f0, f1, f4, f5, f7, f6, ads, lds, lpId_ept, ha1.stor]
    refine ref_total ha1 (B := 1000) (by omega) (by have := oa.1; omega) (fun i hi => by have := oa.2 i hi; omega) ?_
    have w1 : IntKind.i64.wrap (wtN a i * totP b) = wtN a i * totP b := wrap_i64 (by omega) (by omega)
    have w2 : IntKind.i64.wrap (wtN b i * totP a) = wtN b i * totP a := wrap_i64 (by omega) (by omega)
    have w3 : IntKind.i64.wrap (wtN a i * totP b - wtN b i * totP a) = distW a b i := by rw [hdi, wrap_i64 (by omega) (by omega)]
    simp [w1, w2, w3]
    refine ref_apartN (by omega) ?_
    simp (disch := omega) [f0, f1, f4, f5, f7, f6, wrap_i64]
    first | exact ⟨by omega, z0⟩ | exact z0 | exact ⟨by omega, by omega, z0⟩
  have hi4 : i = 240 := by omega
  subst hi4
  have hnum : sumA (distW a b) 240 = numP a b := rfl
  rw [hnum] at f6
  have nr := num_rng ba bb
  have dr := den_rng ba bb
  have hgp := gcdD_pos ba bb
  have d1 : IntKind.i64.wrap (2 * totP a) = 2 * totP a := wrap_i64 (by omega) (by omega)
  have d2 : IntKind.i64.wrap (2 * totP a * totP b) = denP a b := wrap_i64 (by unfold denP at dr; omega) (by unfold denP at dr; omega)
  simp [f0, f1, ha1.stor]
  refine ref_total ha1 (B := 1000) (by omega) (by have := oa.1; omega) (fun i hi => by have := oa.2 i hi; omega) ?_
  simp [f0, f1, hb1.stor, d1]
  refine ref_total hb1 (B := 1000) (by omega) (by have := ob.1; omega) (fun i hi => by have := ob.2 i hi; omega) ?_
  simp [f6, d2]
  have hgd : (Nat.gcd (numP a b).toNat (denP a b).toNat) = gcdD a b := rfl
  have t1 := tdiv_rng (g := gcdD a b) nr.1
  have t2 := tdiv_rng (x := denP a b) (g := gcdD a b) (by omega)
  have hK := hK H1 x1
  generalize gcdD a b = g at *
  generalize numP a b = nu at *
  generalize denP a b = de at *
  obtain ⟨nn, rfl⟩ := Int.eq_ofNat_of_zero_le nr.1
  obtain ⟨dd, rfl⟩ := Int.eq_ofNat_of_zero_le (show 0 ≤ de by omega)
  refine ref_divisor ?_
  simp only [Int.toNat_natCast] at hgd
  rw [hgd]
  have hg0 : ¬ (g : Int) = 0 := by omega
  have w5 : IntKind.i64.wrap ((nn : Int).tdiv g) = (nn : Int).tdiv g := wrap_i64 (by omega) (by omega)
  have w6 : IntKind.i64.wrap ((dd : Int).tdiv g) = (dd : Int).tdiv g := wrap_i64 (by omega) (by omega)
  generalize hA : (nn : Int).tdiv g = A at *
  generalize hB : (dd : Int).tdiv g = B at *
  have v1 : vbin .quo (.int .i64 (nn : Int)) (.int .i64 (g : Int)) = some (.int .i64 A) := by rw [vbin_quo hg0, hA, w5]
  have v2 : vbin .quo (.int .i64 (dd : Int)) (.int .i64 (g : Int)) = some (.int .i64 B) := by rw [vbin_quo hg0, hB, w6]
  have zs0 : (L.set 0 [V.int .i64 A, V.int .i64 B])[0]? = some [.int .i64 A, .int .i64 B] := List.getElem?_set_self (List.getElem?_eq_some_iff.1 z0).1
  simp [f4, f6, v1, v2, z0, splice, zs0, rd2w, -vbin_quo]
  exact hK
theorem dye_Apart (ha : LstV prC H va a) (hb : LstV prC H vb b) (hlim : lim ≤ H.length) (hK : ∀ H', HX H H' → K (.tup [.agg [.int .i64 (apO a b).1.1, .int .i64 (apO a b).1.2], .int .i64 (apO a b).2]) H') : VCall tbl lim 23 [va, vb] H K := by
  refine VCall_fn tbl_at23 rfl ?_
  simp [vf23, iz2, ha.stor, hb.stor]
  refine dye_both ha hb ?_
  by_cases h0 : bothE a b = 0
  case neg =>
    have e : apO a b = ((0, 0), bothE a b) := by unfold apO; rw [if_pos h0]
    have := hK H HX.refl
    rw [e] at this
    simp [h0, splice]
    exact this
  obtain ⟨ba, bb⟩ := bothE_ok h0
  have e : apO a b = (((numP a b).tdiv (gcdD a b), (denP a b).tdiv (gcdD a b)), 0) := by unfold apO; rw [if_neg (fun h => h h0)]
  rw [e] at hK
  have oa := blP_okw ba
  have ob := blP_okw bb
  have ta := tot_rng ba
  have tb := tot_rng bb
  have hdb := dist_bd ba bb
  have la := (blP_ok ba).2.1
  have lb := (blP_ok bb).2.1
  have la6 := (blP_ok ba).1
  have lb6 := (blP_ok bb).1
  simp [h0, hb.stor]
  refine dye_total hb (B := 1000) (by omega) (by omega) (fun i hi => by have := ob.2 i hi; omega) ?_
  simp [ha.stor]
  refine dye_scaled ha oa.1 (by omega) (fun i hi => (oa.2 i hi).2) hlim fun H1 sa x1 hsa => ?_
  replace x1 : HX H H1 := x1
  have l1 := x1.len
  have ha1 := ha.mono x1
  have hb1 := hb.mono x1
  simp [ha.stor]
  refine dye_total ha1 (B := 1000) (by omega) (by omega) (fun i hi => by have := oa.2 i hi; omega) ?_
  have wn : IntKind.i64.wrap (0 - totP a) = -(totP a) := by rw [wrap_i64 (by omega) (by omega)]; omega
  have wn2 : IntKind.i64.wrap (-(totP a)) = -(totP a) := wrap_i64 (by omega) (by omega)
  simp [wn, wn2, hb.stor]
  refine dye_scaled hb1 ob.1 (by omega) (fun i hi => (ob.2 i hi).2) (by omega) fun H2 sb x2 hsb => ?_
  replace x2 : HX H1 H2 := x2
  have l2 := x2.len
  have hsa2 := hsa.lst.mono x2
  simp [vbslice_some, splice, hsa2.stor, hsa2.one, hsb.lst.stor, hsb.lst.one]
  have x3 : HX H2 (H2 ++ [.row [sa, sb] true]) := HX.push
  have hb3 : LstV vC (H2 ++ [.row [sa, sb] true]) (.sl H2.length 0 2 1) [sa, sb] := LstV.sl (c := vC) (l := [sa, sb]) (off := 0) (cs := [sa, sb]) (own := true) (by simp) (by simp) rfl
  have hsa3 := hsa2.mono x3
  have hsb3 := hsb.lst.mono x3
  have hfl : [a.map (scW (totP b)), b.map (scW (-(totP a)))].flatten = a.map (scW (totP b)) ++ b.map (scW (-(totP a))) := by simp
  have hcol : colP (a.map (scW (totP b)) ++ b.map (scW (-(totP a)))) = canN (distW a b) 240 := by
    unfold colP
    congr 1
    exact funext fun i => by rw [wtN_append, wtN_sc, wtN_sc]; rfl
  generalize H2 ++ [.row [sa, sb] true] = H3 at *
  have l3 := x3.len
  have hscm : ∀ (l : List Prt) (Z : Int), (-10000000 ≤ Z ∧ Z ≤ 10000000) → Okw l → ∀ p, p ∈ l.map (scW Z) → okS p ∧ -10000000000 ≤ p.w ∧ p.w ≤ 10000000000 := fun l Z hZ ho p hp => by
    obtain ⟨q, hq, e⟩ := List.mem_map.1 hp
    obtain ⟨i, hi, e2⟩ := mem_getD hq
    have hw := ho.2 i hi
    rw [e2] at hw
    rw [← e]
    refine ⟨hw.1, ?_⟩
    have q1 := Int.mul_le_mul_of_nonneg_left hZ.2 hw.2.1
    have q2 := Int.mul_le_mul_of_nonneg_left hZ.1 hw.2.1
    simp only [scW]
    generalize q.w * Z = z at *
    omega
  refine dye_collect hb3 (Ls := [a.map (scW (totP b)), b.map (scW (-(totP a)))]) rfl (fun i hi => ?_) ⟨by simp, by simp⟩ (by rw [hfl]; simp; omega) (by omega) (B := 10000000000) ⟨by omega, by omega⟩ (fun p hp => ?_) fun H4 v4 x4 hp4 => ?_
  · have : i = 0 ∨ i = 1 := by simp at hi; omega
    rcases this with rfl | rfl
    · exact ⟨hsa3, by show 0 < (a.map (scW (totP b))).length; rw [List.length_map]; exact la⟩
    · exact ⟨hsb3, by show 0 < (b.map (scW (-(totP a)))).length; rw [List.length_map]; exact lb⟩
  · rw [hfl] at hp
    rcases List.mem_append.1 hp with hp | hp
    · exact hscm a _ (by omega) oa p hp
    · exact hscm b _ (by omega) ob p hp
  rw [hfl, hcol] at hp4
  replace x4 : HX H3 H4 := x4
  have l4 := x4.len
  have ha4 := ((ha1.mono x2).mono x3).mono x4
  have hb4 := ((hb1.mono x2).mono x3).mono x4
  have hcl := canN_len (W := distW a b) (n := 240)
  have hcw : ∀ p, p ∈ canN (distW a b) 240 → -1000000000000 ≤ p.w ∧ p.w ≤ 1000000000000 := fun p hp => by
    obtain ⟨j, _, e, _⟩ := canN_mem hp
    rw [e]; exact hdb j
  have habs : absS (canN (distW a b) 240) = numP a b := absS_canN
  generalize canN (distW a b) 240 = C at *
  simp [hp4.lst.len]
  refine wLoop_up C.length (fun i fr L H' => (fr 0 = va ∧ fr 1 = vb ∧ fr 4 = .lp 0 0 ∧ fr 29 = v4 ∧ fr 30 = .int .i64 C.length ∧ fr 31 = .int .i64 i ∧ fr 7 = .int .i64 (absS (C.take i))) ∧ L[0]? = some [.int .i64 0, .int .i64 0] ∧ H' = H4) ⟨by simp [hp4.lst.len, absS], rfl, rfl⟩ ?_
  rintro i hi fr L H5 ⟨⟨f0, f1, f4, f29, f30, f31, f7⟩, z0, e0⟩
  have e0 := e0.symm
  subst e0
  simp [f0, f1, f4, f29, f30, f31, f7]
  refine cond_dec (fun ht => ?_) fun hfl => ?_
  · have ht : i < C.length := by omega
    have ld := fun L => prt_load hp4.lst ht (L := L)
    have hpw := hcw _ (getD_mem ht)
    have hss := absS_step ht
    have hsb := absS_bd (B := 1000000000000) (by omega) (A := C.take i) fun p hp => hcw p (List.mem_of_mem_take hp)
    have htl : (C.take i).length ≤ 240 := by rw [List.length_take]; omega
    have hab := absP_bd hpw
    rw [hss]
    generalize absS (C.take i) = S at *
    simp (disch := omega) [f0, f1, f4, f29, f30, f31, f7, hp4.lst.at ht, ld, lpId_ept, lastO, lastS, splice44, iz4, rd4_3]
    refine dye_absN (by omega) ?_
    simp (disch := omega) [f0, f1, f4, f29, f30, f31, f7, wrap_i64]
    have hk := fun d => keepL0 z0 d
    first | exact ⟨by omega, hk _⟩ | exact hk _ | exact ⟨by omega, by omega, hk _⟩
  have hi4 : i = C.length := by omega
  subst hi4
  rw [List.take_length, habs] at f7
  have nr := num_rng ba bb
  have dr := den_rng ba bb
  have hgp := gcdD_pos ba bb
  have d1 : IntKind.i64.wrap (2 * totP a) = 2 * totP a := wrap_i64 (by omega) (by omega)
  have d2 : IntKind.i64.wrap (2 * totP a * totP b) = denP a b := wrap_i64 (by unfold denP at dr; omega) (by unfold denP at dr; omega)
  simp [f0, f1, ha.stor]
  refine dye_total ha4 (B := 1000) (by omega) (by omega) (fun i hi => by have := oa.2 i hi; omega) ?_
  simp [f0, f1, hb.stor, d1]
  refine dye_total hb4 (B := 1000) (by omega) (by omega) (fun i hi => by have := ob.2 i hi; omega) ?_
  simp [f7, d2]
  have hgd : (Nat.gcd (numP a b).toNat (denP a b).toNat) = gcdD a b := rfl
  have t1 := tdiv_rng (g := gcdD a b) nr.1
  have t2 := tdiv_rng (x := denP a b) (g := gcdD a b) (by omega)
  have hK := hK H4 (((x1.trans x2).trans x3).trans x4)
  generalize gcdD a b = g at *
  generalize numP a b = nu at *
  generalize denP a b = de at *
  obtain ⟨nn, rfl⟩ := Int.eq_ofNat_of_zero_le nr.1
  obtain ⟨dd, rfl⟩ := Int.eq_ofNat_of_zero_le (show 0 ≤ de by omega)
  refine dye_gcd ?_
  simp only [Int.toNat_natCast] at hgd
  rw [hgd]
  have hg0 : ¬ (g : Int) = 0 := by omega
  have w5 : IntKind.i64.wrap ((nn : Int).tdiv g) = (nn : Int).tdiv g := wrap_i64 (by omega) (by omega)
  have w6 : IntKind.i64.wrap ((dd : Int).tdiv g) = (dd : Int).tdiv g := wrap_i64 (by omega) (by omega)
  simp only at hK
  generalize hA : (nn : Int).tdiv g = A at *
  generalize hB : (dd : Int).tdiv g = B at *
  have v1 : vbin .quo (.int .i64 (nn : Int)) (.int .i64 (g : Int)) = some (.int .i64 A) := by rw [vbin_quo hg0, hA, w5]
  have v2 : vbin .quo (.int .i64 (dd : Int)) (.int .i64 (g : Int)) = some (.int .i64 B) := by rw [vbin_quo hg0, hB, w6]
  have zs0 : (L.set 0 [V.int .i64 A, V.int .i64 B])[0]? = some [.int .i64 A, .int .i64 B] := List.getElem?_set_self (List.getElem?_eq_some_iff.1 z0).1
  simp [f4, f7, v1, v2, z0, splice, zs0, rd2w, -vbin_quo]
  exact hK
end
def badR (n d : Int) : Bool := decide (d < 1) || (decide (1000 < d) || (decide (n < 0) || (decide (d < n) || !decide (Nat.gcd n.toNat d.toNat = 1))))
def matP (a b : List Prt) (n d : Int) : Bool × Int :=
  if (apO a b).2 ≠ 0 then (false, (apO a b).2) else if badR n d = true then (false, 1) else (decide ((apO a b).1.1 * d ≤ n * (apO a b).1.2), 0)
theorem apO_err {a b : List Prt} : (apO a b).2 = bothE a b := by
  unfold apO
  split
  · rfl
  · rename_i h; exact (Classical.not_not.1 h).symm
theorem apO_ok {a b : List Prt} (h : bothE a b = 0) : apO a b = (((numP a b).tdiv (gcdD a b), (denP a b).tdiv (gcdD a b)), 0) := by unfold apO; rw [if_neg (fun hh => hh h)]
theorem apO_bd {a b : List Prt} : (0 ≤ (apO a b).1.1 ∧ (apO a b).1.1 ≤ 240000000000000) ∧ 0 ≤ (apO a b).1.2 ∧ (apO a b).1.2 ≤ 72000000 := by
  by_cases h : bothE a b = 0
  · obtain ⟨ba, bb⟩ := bothE_ok h
    rw [apO_ok h]
    have nr := num_rng ba bb
    have dr := den_rng ba bb
    have t1 := tdiv_rng (g := gcdD a b) nr.1
    have t2 := tdiv_rng (x := denP a b) (g := gcdD a b) (by omega)
    simp only
    omega
  · have : apO a b = ((0, 0), bothE a b) := by unfold apO; rw [if_pos h]
    rw [this]; simp
section
variable {lim : Nat} {H : Hp} {K : V → Hp → Prop} {v w va vb : V} {l m a b : List Prt} {x y n d : Int}
theorem ref_Apart (ha : LstV prC H va a) (hb : LstV prC H vb b) (hlim : lim ≤ H.length) (hK : ∀ H', HX H H' → K (.tup [.agg [.int .i64 (apO a b).1.1, .int .i64 (apO a b).1.2], .int .i64 (apO a b).2]) H') : VCall tbl lim 24 [va, vb] H K := by
  refine VCall_fn tbl_at24 rfl ?_
  simp [vf24, iz2, ha.stor, hb.stor]
  refine ref_both ha hb ?_
  by_cases h0 : bothE a b = 0
  case neg =>
    have e : apO a b = ((0, 0), bothE a b) := by unfold apO; rw [if_pos h0]
    have := hK H HX.refl
    rw [e] at this
    simp [h0, splice]
    exact this
  obtain ⟨ba, bb⟩ := bothE_ok h0
  rw [apO_ok h0] at hK
  simp [h0, ha.stor, hb.stor]
  refine ref_distance ha hb ba bb hlim fun H1 x1 => ?_
  have := hK H1 x1
  simp [splice, rd2w]
  exact this
theorem dye_Matches (ha : LstV prC H va a) (hb : LstV prC H vb b) (hn : I64 n) (hd : I64 d) (hlim : lim ≤ H.length) (hK : ∀ H', HX H H' → K (.tup [.bool (matP a b n d).1, .int .i64 (matP a b n d).2]) H') : VCall tbl lim 25 [va, vb, .agg [.int .i64 n, .int .i64 d]] H K := by
  refine VCall_fn tbl_at25 rfl ?_
  simp [vf25, iz2, ha.stor, hb.stor]
  refine dye_Apart ha hb hlim fun H1 x1 => ?_
  have hK := hK H1 x1
  have hbd := apO_bd (a := a) (b := b)
  unfold matP at hK
  generalize apO a b = o at *
  obtain ⟨⟨p, q⟩, e⟩ := o
  simp only at hK hbd
  by_cases he : e = 0
  case neg =>
    rw [if_pos he] at hK
    simp [he, splice]
    exact hK
  subst he
  rw [if_neg (by simp)] at hK
  by_cases h1 : d < 1
  · have : badR n d = true := by unfold badR; rw [decide_eq_true h1]; rfl
    rw [if_pos this] at hK
    simp [splice, h1]
    exact hK
  by_cases h2 : 1000 < d
  · have : badR n d = true := by unfold badR; rw [decide_eq_true h2]; simp
    rw [if_pos this] at hK
    simp [splice, h1, h2]
    exact hK
  by_cases h3 : n < 0
  · have : badR n d = true := by unfold badR; rw [decide_eq_true h3]; simp
    rw [if_pos this] at hK
    simp [splice, h1, h2, h3]
    exact hK
  by_cases h4 : d < n
  · have : badR n d = true := by unfold badR; rw [decide_eq_true h4]; simp
    rw [if_pos this] at hK
    simp [splice, h1, h2, h3, h4]
    exact hK
  obtain ⟨nn, rfl⟩ := Int.eq_ofNat_of_zero_le (show 0 ≤ n by omega)
  obtain ⟨dd, rfl⟩ := Int.eq_ofNat_of_zero_le (show 0 ≤ d by omega)
  simp (disch := omega) [splice, h1, h2, h3, h4]
  refine dye_gcd ?_
  have eb : badR nn dd = !decide (Nat.gcd nn dd = 1) := by
    unfold badR
    rw [decide_eq_false h1, decide_eq_false h2, decide_eq_false h3, decide_eq_false h4]
    simp
  rw [eb] at hK
  by_cases h5 : Nat.gcd nn dd = 1
  case neg =>
    have h5' : ¬ ((Nat.gcd nn dd : Nat) : Int) = 1 := by omega
    rw [decide_eq_false h5] at hK
    simp [h5, h5']
    simpa using hK
  rw [decide_eq_true h5] at hK
  have m1 : 0 ≤ p * dd ∧ p * dd ≤ 240000000000000 * 1000 := ⟨Int.mul_nonneg hbd.1.1 (by omega), Int.mul_le_mul hbd.1.2 (by omega) (by omega) (by omega)⟩
  have m2 : 0 ≤ (nn : Int) * q ∧ (nn : Int) * q ≤ 1000 * 72000000 := ⟨Int.mul_nonneg (by omega) hbd.2.1, Int.mul_le_mul (by omega) hbd.2.2 hbd.2.1 (by omega)⟩
  have w1 : IntKind.i64.wrap (p * dd) = p * dd := wrap_i64 (by omega) (by omega)
  have w2 : IntKind.i64.wrap ((nn : Int) * q) = nn * q := wrap_i64 (by omega) (by omega)
  simp [h5, w1, w2]
  simpa using hK
theorem ref_Matches (ha : LstV prC H va a) (hb : LstV prC H vb b) (hn : I64 n) (hd : I64 d) (hlim : lim ≤ H.length) (hK : ∀ H', HX H H' → K (.tup [.bool (matP a b n d).1, .int .i64 (matP a b n d).2]) H') : VCall tbl lim 26 [va, vb, .agg [.int .i64 n, .int .i64 d]] H K := by
  refine VCall_fn tbl_at26 rfl ?_
  simp [vf26, iz2, ha.stor, hb.stor]
  refine ref_both ha hb ?_
  have hbd := apO_bd (a := a) (b := b)
  unfold matP at hK
  rw [apO_err] at hK
  by_cases he : bothE a b = 0
  case neg =>
    rw [if_pos he] at hK
    have := hK H HX.refl
    simp [he]
    exact this
  obtain ⟨ba, bb⟩ := bothE_ok he
  rw [if_neg (fun h => h he)] at hK
  have bad : badR n d = true → K (.tup [.bool false, .int .i64 1]) H := fun h => by
    have := hK H HX.refl
    rw [if_pos h] at this
    exact this
  simp [he]
  refine ref_within ?_
  by_cases h1 : 1 ≤ d ∧ d ≤ 1000
  case neg =>
    have hb1 : badR n d = true := by
      unfold badR
      by_cases q : d < 1
      · rw [decide_eq_true q]; rfl
      · rw [decide_eq_true (show 1000 < d by omega)]; simp
    have := bad hb1
    rw [decide_eq_false h1]
    simp
    exact this
  rw [decide_eq_true h1]
  simp
  refine ref_within ?_
  by_cases h2 : 0 ≤ n ∧ n ≤ d
  case neg =>
    have hb1 : badR n d = true := by
      unfold badR
      by_cases q : n < 0
      · rw [decide_eq_true q]; simp
      · rw [decide_eq_true (show d < n by omega)]; simp
    have := bad hb1
    rw [decide_eq_false h2]
    simp
    exact this
  rw [decide_eq_true h2]
  obtain ⟨nn, rfl⟩ := Int.eq_ofNat_of_zero_le (show 0 ≤ n by omega)
  obtain ⟨dd, rfl⟩ := Int.eq_ofNat_of_zero_le (show 0 ≤ d by omega)
  simp
  refine ref_divisor ?_
  have eb : badR nn dd = !decide (Nat.gcd nn dd = 1) := by
    unfold badR
    rw [decide_eq_false (show ¬ (dd : Int) < 1 by omega), decide_eq_false (show ¬ 1000 < (dd : Int) by omega), decide_eq_false (show ¬ (nn : Int) < 0 by omega), decide_eq_false (show ¬ (dd : Int) < nn by omega)]
    simp
  by_cases h5 : Nat.gcd nn dd = 1
  case neg =>
    have h5' : ¬ ((Nat.gcd nn dd : Nat) : Int) = 1 := by omega
    have := bad (by rw [eb, decide_eq_false h5]; rfl)
    simp [h5, h5']
    exact this
  have hnb : ¬ badR nn dd = true := by rw [eb, decide_eq_true h5]; simp
  rw [if_neg hnb] at hK
  rw [apO_ok he] at hK hbd
  simp only at hK hbd
  simp [h5, ha.stor, hb.stor]
  refine ref_distance ha hb ba bb hlim fun H1 x1 => ?_
  have hK := hK H1 x1
  generalize (numP a b).tdiv (gcdD a b) = p at *
  generalize (denP a b).tdiv (gcdD a b) = q at *
  have m1 : 0 ≤ p * dd ∧ p * dd ≤ 240000000000000 * 1000 := ⟨Int.mul_nonneg hbd.1.1 (by omega), Int.mul_le_mul hbd.1.2 (by omega) (by omega) (by omega)⟩
  have m2 : 0 ≤ (nn : Int) * q ∧ (nn : Int) * q ≤ 1000 * 72000000 := ⟨Int.mul_nonneg (by omega) hbd.2.1, Int.mul_le_mul (by omega) hbd.2.2 hbd.2.1 (by omega)⟩
  have w1 : IntKind.i64.wrap (p * dd) = p * dd := wrap_i64 (by omega) (by omega)
  have w2 : IntKind.i64.wrap ((nn : Int) * q) = nn * q := wrap_i64 (by omega) (by omega)
  simp [splice, w1, w2]
  simpa using hK
theorem law_DyeMatches (ha : LstV prC H va a) (hb : LstV prC H vb b) (hlim : lim ≤ H.length) (hn : I64 n) (hd : I64 d) (hK : ∀ H', K (.bool true) H') : VCall tbl lim 6 [va, vb, .agg [.int .i64 n, .int .i64 d]] H K := by
  refine VCall_fn tbl_at6 rfl ?_
  simp [vf6, ha.stor, hb.stor]
  refine law_many ha ?_
  by_cases q1 : 100 < a.length
  · simp [q1]
    refine law_known hlim fun H1 => ?_
    simp; exact hK _
  simp [q1, hb.stor]
  refine law_many hb ?_
  by_cases q2 : 100 < b.length
  · simp [q2]
    refine law_known hlim fun H1 => ?_
    simp; exact hK _
  simp [q2, ha.stor, hb.stor, rd2w]
  refine dye_Matches ha hb hn hd hlim fun H1 x1 => ?_
  replace x1 : HX H H1 := x1
  have l1 := x1.len
  simp [ha.stor, hb.stor, rd2w]
  refine ref_Matches (ha.mono x1) (hb.mono x1) hn hd (by omega) fun H2 x2 => ?_
  replace x2 : HX H1 H2 := x2
  have l2 := x2.len
  simp
  refine law_known (by omega) fun H3 => ?_
  simp; exact hK _
end
end Go.Proofs.Ytkmcdiajcnejiaa.Vm
