/- Laws of hair over the machine: Handfuls. -/
import Derived.Test.YtgmbjfdhbfhmgaaHaQ
namespace Go.Proofs.Ytgmbjfdhbfhmgaa.Vm
open Go
set_option maxRecDepth 100000
set_option linter.unusedSimpArgs false
set_option linter.unusedVariables false
attribute [-simp] List.getD_eq_getElem?_getD

/-! lists of bundles -/
def prC : Cod (V × V) 2 := ⟨fun p => [p.1, p.2], fun _ => rfl⟩
def zF : HF := fun _ _ => 0
/-- a list of bundles that the call made: of each, what hairs -/
structure HfV (n : Nat) (H : Hp) (v : V) (fs : List HF) (ps : List (V × V)) : Prop where
  own : OwnT n prC H v ps
  len : ps.length = fs.length
  at' : ∀ i, i < ps.length → OwnV n H (ps.getD i default).1 (sideF (fs.getD i zF) 0) ∧ OwnV n H (ps.getD i default).2 (sideF (fs.getD i zF) 1)
  non : ps = [] → v = .snil
theorem HfV.nil {n : Nat} {H : Hp} : HfV n H .snil [] [] := ⟨.nil, rfl, fun i hi => by simp at hi, fun _ => rfl⟩
theorem HfV.mono {n : Nat} {H H' : Hp} {v : V} {fs : List HF} {ps : List (V × V)} (hx : HX H H') (h : HfV n H v fs ps) : HfV n H' v fs ps :=
  ⟨h.own.mono hx, h.len, fun i hi => ⟨(h.at' i hi).1.mono hx, (h.at' i hi).2.mono hx⟩, h.non⟩
theorem HfV.le {n m : Nat} {H : Hp} {v : V} {fs : List HF} {ps : List (V × V)} (hnm : n ≤ m) (h : HfV m H v fs ps) : HfV n H v fs ps :=
  ⟨h.own.le hnm, h.len, fun i hi => ⟨(h.at' i hi).1.le hnm, (h.at' i hi).2.le hnm⟩, h.non⟩
theorem HfV.vlen {n : Nat} {H : Hp} {v : V} {fs : List HF} {ps : List (V × V)} (h : HfV n H v fs ps) : vlenS v = some (.int .i64 fs.length) := by rw [← h.len]; exact h.own.lst.len
theorem OwnV.head {n : Nat} {H : Hp} {v : V} {l : List Int} (h : OwnV n H v l) : ∀ k x, v ≠ .int k x := by cases h <;> simp
/-- a list of ints is no list of bundles -/
theorem HfV.apart {n m : Nat} {H : Hp} {v p : V} {fs : List HF} {ps : List (V × V)} {l : List Int} (h : HfV n H v fs ps) (hp : OwnV m H p l) {b o k z o' k' z' : Nat} (hb : p = .sl b o k z) (hv : v = .sl b o' k' z') : False := by
  subst hb
  have h1 := h.own
  have hn := h.non
  subst hv
  cases hp with
  | row g1 g2 =>
    cases h1 with
    | row g3 g4 =>
      rw [g2] at g4
      injection g4 with g4
      injection g4 with g4
      match hps : ps with
      | [] => have := hn rfl; cases this
      | p :: ps =>
        have := (h.at' 0 (by simp)).1.head
        simp only [List.getD_cons_zero] at this
        rw [Cod.all_cons] at g4
        match l with
        | [] => simp [ints, prC] at g4
        | x :: l =>
          simp only [ints, prC, List.map_cons, List.cons_append, List.cons.injEq] at g4
          exact this _ _ g4.1.symm
theorem OwnV.keep2 {m : Nat} {H H' : Hp} {p : V} {l : List Int} (hp : OwnV m H p l) (hk : ∀ b o k z, p = .sl b o k z → H'[b]? = H[b]?) : OwnV m H' p l := by
  cases hp with
  | nil => exact .nil
  | row g1 g2 => exact .row g1 (by rw [hk _ _ _ _ rfl]; exact g2)
theorem HfV.append {n lim : Nat} {H H1 : Hp} {v a b : V} {fs : List HF} {ps : List (V × V)} {f : HF} (h : HfV n H v fs ps) (hx : HX H H1) (ha : OwnV n H1 a (sideF f 0)) (hb : OwnV n H1 b (sideF f 1)) (hn : lim ≤ n ∧ n ≤ H.length) (hl : fs.length < 1000000) :
    ∃ v' H2, vappend lim 2 48 (H1 ++ [.row [a, b] true]) v (.sl H1.length 0 1 2) = some (v', H2) ∧ HfV n H2 v' (fs ++ [f]) (ps ++ [(a, b)]) ∧ (∀ H0, HX H0 H → H0.length ≤ n → HX H0 H2) ∧ n ≤ H2.length := by
  have h1 := h.mono hx
  have hlen := hx.len
  obtain ⟨v', H2, a1, a2, a3, a4, a5, a6⟩ := h1.own.append (lim := lim) (bytes := 48) (x := (a, b)) (cs := [a, b]) rfl ⟨hn.1, by omega⟩ (by omega) (by rw [h.len]; exact hl)
  have kp : ∀ {p : V} {l : List Int}, OwnV n H1 p l → OwnV n H2 p l := fun {p l} hp => hp.keep2 fun b' o k z e => a6 b' (hp.below _ _ _ _ e) fun o' k' z' e' => h1.apart hp e e'
  refine ⟨v', H2, a1, ⟨a2, by simp [h.len], fun i hi => ?_, fun e => by simp at e⟩, fun H0 h0 hk => a3 H0 (h0.trans hx) hk, a4⟩
  by_cases hlt : i < ps.length
  · have := h1.at' i hlt
    have e1 : (ps ++ [(a, b)]).getD i default = ps.getD i default := by simp only [List.getD_eq_getElem?_getD]; rw [List.getElem?_append_left hlt]
    have e2 : (fs ++ [f]).getD i zF = fs.getD i zF := by simp only [List.getD_eq_getElem?_getD]; rw [List.getElem?_append_left (by rw [← h.len]; exact hlt)]
    rw [e1, e2]
    exact ⟨kp this.1, kp this.2⟩
  · have hi : i < ps.length + 1 := by simpa using hi
    have : i = ps.length := by omega
    subst this
    have e1 : (ps ++ [(a, b)]).getD ps.length default = (a, b) := by simp [List.getD_eq_getElem?_getD]
    have e2 : (fs ++ [f]).getD ps.length zF = f := by rw [h.len]; simp [List.getD_eq_getElem?_getD]
    rw [e1, e2]
    exact ⟨kp ha, kp hb⟩
theorem HfV.load {n : Nat} {H : Hp} {v : V} {fs : List HF} {ps : List (V × V)} (h : HfV n H v fs ps) {i : Nat} (hi : i < fs.length) : ∃ a b, (∀ L, vload (some 2) L H (ept 2 v i) = some (.agg [a, b])) ∧ OwnV n H a (sideF (fs.getD i zF) 0) ∧ OwnV n H b (sideF (fs.getD i zF) 1) := by
  have hi' : i < ps.length := by rw [h.len]; exact hi
  exact ⟨_, _, fun L => h.own.lst.load hi', (h.at' i hi').1, (h.at' i hi').2⟩
theorem HfV.at {n : Nat} {H : Hp} {v : V} {fs : List HF} {ps : List (V × V)} (h : HfV n H v fs ps) {i : Nat} (hi : i < fs.length) : viaddrS 2 v (.int .i64 (i : Int)) = some (ept 2 v i) := h.own.lst.at (by rw [h.len]; exact hi)

/-! drawing again and again -/
def dT (f : HF) (n : Int) (i : Nat) : Int := min ((i : Int) * n) (cntF f)
def hndF (f : HF) (n : Int) (i : Nat) : HF := fun w L => drw f (dT f n (i + 1)) w L - drw f (dT f n i) w L
def hndL (f : HF) (n : Int) (k : Nat) : List HF := (List.range k).map (hndF f n)
def hndQ (f : HF) (n : Int) : Nat := ((cntF f).toNat + n.toNat - 1) / n.toNat
theorem hndQ_iff {f : HF} {n : Int} (hn : 1 ≤ n) (hc : 0 ≤ cntF f) {i : Nat} : i < hndQ f n ↔ (i : Int) * n < cntF f := by
  obtain ⟨N, rfl⟩ : ∃ N : Nat, n = N := ⟨n.toNat, by omega⟩
  obtain ⟨C, hC⟩ : ∃ C : Nat, cntF f = C := ⟨(cntF f).toNat, by omega⟩
  have h1 : i < (C + N - 1) / N ↔ i + 1 ≤ (C + N - 1) / N := Iff.rfl
  simp only [hndQ, hC, Int.toNat_natCast]
  rw [h1, Nat.le_div_iff_mul_le (by omega), Nat.add_mul]
  rw [← Int.natCast_mul]
  omega
theorem dT_step {f : HF} {n : Int} (hn : 1 ≤ n) (hc : 0 ≤ cntF f) (i : Nat) : dT f n (i + 1) = dT f n i + min n (cntF f - dT f n i) ∧ 0 ≤ dT f n i ∧ dT f n i ≤ cntF f := by
  have h0 : 0 ≤ (i : Int) * n := Int.mul_nonneg (by omega) (by omega)
  have e : ((i + 1 : Nat) : Int) * n = i * n + n := by rw [Int.natCast_add, Int.add_mul]; simp
  simp only [dT, e]; omega
theorem dT_zero {f : HF} {n : Int} (hc : 0 ≤ cntF f) : dT f n 0 = 0 := by simp [dT]; omega
theorem hndL_len {f : HF} {n : Int} {k : Nat} : (hndL f n k).length = k := by simp [hndL]
theorem hndL_snoc {f : HF} {n : Int} {k : Nat} : hndL f n (k + 1) = hndL f n k ++ [hndF f n k] := by simp [hndL, List.range_succ]
theorem hndL_get {f : HF} {n : Int} {k i : Nat} (h : i < k) : (hndL f n k).getD i zF = hndF f n i := by simp [hndL, List.getD_eq_getElem?_getD, h]
theorem side_congr {f g : HF} {w : Nat} (h : ∀ n, 1 ≤ n → n ≤ 24 → f w n = g w n) : sideF f w = sideF g w := by
  unfold sideF
  rw [lastN_congr (k := 24) h]
  exact listN_congr fun n h1 h2 => h n h1 (by have := lastN_le (g w) 24; omega)
theorem cnt_left {f : HF} (hf : ∀ w n, 0 ≤ f w n) {m : Int} (hm : 0 ≤ m ∧ m ≤ cntF f) : cntF (subF f (drw f m)) = cntF f - m := by
  have := abv_drw hf hm.1 24 (by omega)
  have h2 := hm.2
  simp only [cntF, abv_sub, this] at *; omega
theorem hnd_drw {f : HF} (hf : ∀ w n, 0 ≤ f w n) {n : Int} (hn : 1 ≤ n) (hc : 0 ≤ cntF f) {i w L : Nat} (hw : w < 2) (h1 : 1 ≤ L) (h2 : L ≤ 24) : drw (subF f (drw f (dT f n i))) (min n (cntF f - dT f n i)) w L = hndF f n i w L := by
  obtain ⟨a, b, c⟩ := dT_step hn hc i
  have := drw_two hf (n := dT f n i) (m := min n (cntF f - dT f n i)) b (by omega) hw h1 h2
  rw [← a] at this
  simp only [hndF]; omega
theorem sub_hnd {f : HF} (hf : ∀ w n, 0 ≤ f w n) {n : Int} (hn : 1 ≤ n) (hc : 0 ≤ cntF f) {i : Nat} : mk48 (subF (subF f (drw f (dT f n i))) (drw (subF f (drw f (dT f n i))) (min n (cntF f - dT f n i)))) = mk48 (subF f (drw f (dT f n (i + 1)))) ∧
    mk50 (subF (subF f (drw f (dT f n i))) (drw (subF f (drw f (dT f n i))) (min n (cntF f - dT f n i)))) = mk50 (subF f (drw f (dT f n (i + 1)))) := by
  have e : ∀ w L, w < 2 → 1 ≤ L → L ≤ 24 → subF (subF f (drw f (dT f n i))) (drw (subF f (drw f (dT f n i))) (min n (cntF f - dT f n i))) w L = subF f (drw f (dT f n (i + 1))) w L := by
    intro w L hw h1 h2
    have := hnd_drw hf hn hc (i := i) hw h1 h2
    simp only [subF] at this ⊢
    rw [this]; simp only [hndF]; omega
  exact ⟨mk48_congr e, mk50_congr e⟩

/-- the error of handfuls -/
def hfE (r w : List Int) (n : Int) : Int := if errOf r w = 0 then if n < 1 then 1 else if 200 * n < cntF (op r w) then 4 else 0 else errOf r w

section
variable {lim : Nat} {H : Hp} {K : V → Hp → Prop} {r w : List Int} {bv : V} {n : Int}

theorem tdiv_bd2 {n d : Int} (hn : 0 ≤ n) (hd : 0 < d) : 0 ≤ n.tdiv d ∧ n.tdiv d ≤ n := by
  obtain ⟨a, rfl⟩ := Int.eq_ofNat_of_zero_le hn
  obtain ⟨b, rfl⟩ := Int.eq_ofNat_of_zero_le (Int.le_of_lt hd)
  rw [tdiv_nat]
  have := Nat.div_le_self a b
  exact ⟨Int.natCast_nonneg _, Int.ofNat_le.2 this⟩

theorem hair_Handfuls (hb : BunV H r w bv) (hlim : lim ≤ H.length) (hn : I64 n) (hE : ∀ H', HX H H' → hfE r w n ≠ 0 → K (.tup [.snil, .int .i64 (hfE r w n)]) H')
    (hK : ∀ H' v ps, HX H H' → hfE r w n = 0 → errOf r w = 0 → 1 ≤ n → HfV H.length H' v (hndL (op r w) n (hndQ (op r w) n)) ps → K (.tup [v, .int .i64 0]) H') : VCall tbl lim 54 [bv, .int .i64 n] H K := by
  refine VCall_fn tbl_at54 rfl ?_
  simp [vf54, hb.stor.1, hb.load]
  refine hair_open2 hb hlim (fun he H1 x1 => ?_) fun he H1 x1 => ?_
  · have := hE H1 x1
    simp only [hfE, he, if_false] at this
    simp [he]
    exact this he
  replace x1 : HX H H1 := x1
  have l1 := x1.len
  simp
  refine cond_dec (fun h1 => ?_) fun h1 => ?_
  · have := hE H1 x1
    simp only [hfE, he, if_true, h1] at this
    simp
    exact this (by decide)
  have of := op_mil (r := r) (w := w)
  have of0 := fun a b => (of a b).1
  have of9 := op_bd' (r := r) (w := w)
  have c0 := cntF_op (r := r) (w := w)
  simp only [hfE, he, if_true, h1, if_false] at hE hK
  generalize op r w = f at *
  simp
  refine sheaf_count2 of9 ?_
  have hdiv : ((cntF f - 1).tdiv n ≥ 200 ∧ 0 < cntF f) ↔ 200 * n < cntF f := by
    by_cases hc : 0 < cntF f
    · obtain ⟨C, hC⟩ : ∃ C : Nat, cntF f - 1 = C := ⟨(cntF f - 1).toNat, by omega⟩
      obtain ⟨N, rfl⟩ : ∃ N : Nat, n = N := ⟨n.toNat, by omega⟩
      rw [hC, tdiv_nat]
      have h200 : 200 ≤ C / N ↔ 200 * N ≤ C := Nat.le_div_iff_mul_le (by omega)
      omega
    · omega
  have tb := fun h : 0 < cntF f => tdiv_bd2 (n := cntF f - 1) (d := n) (by omega) (by omega)
  by_cases hbig : 200 * n < cntF f
  · obtain ⟨q1, q2⟩ := hdiv.2 hbig
    have := tb q2
    simp (disch := omega) [q2, wrap_i64, show (200 : Int) ≤ (cntF f - 1).tdiv n by omega]
    have := hE H1 x1
    simp only [hbig, if_true] at this
    exact this (by decide)
  have hQ : hndQ f n ≤ 200 := by
    by_cases h : 200 < hndQ f n
    · have := (hndQ_iff (f := f) (n := n) (by omega) c0.1 (i := 200)).1 h
      omega
    · omega
  have hcond : (200 ≤ (cntF f - 1).tdiv n) → ¬ 0 < cntF f := fun q1 q2 => hbig (hdiv.1 ⟨q1, q2⟩)
  simp only [hbig, if_false] at hE hK
  by_cases hc0 : 0 < cntF f
  case neg =>
    have hz : cntF f = 0 := by omega
    have hq0 : hndQ f n = 0 := by
      by_cases h : 0 < hndQ f n
      · have := (hndQ_iff (f := f) (n := n) (by omega) c0.1 (i := 0)).1 h
        simp at this; omega
      · omega
    simp [hz]
    refine wLoop_round ?_
    simp [hz]
    refine hK H1 .snil [] x1 trivial trivial (by omega) ?_
    rw [hq0]
    exact .nil
  have h200 : ¬ (200 ≤ (cntF f - 1).tdiv n) := fun q => hcond q hc0
  have := tb hc0
  simp (disch := omega) [hc0, wrap_i64, h200]
  have hT0 := dT_zero (f := f) (n := n) c0.1
  have hm0 : mk48 (subF f (drw f (dT f n 0))) = mk48 f := mk48_congr fun w L hw h1 h2 => by
    have := of0 w L
    have := of0 0 L
    rw [hT0]
    have ha := (abv_nonneg (f := f) of9 (24 - L)).1
    simp only [subF, drw]
    split
    · rename_i h; subst h; omega
    · omega
  refine wLoop_up (hndQ f n) (fun i fr L H' => ∃ (X : Lo) (u : V) (ps : List (V × V)), (fr 1 = .int .i64 n ∧ fr 6 = .lp 1 0 ∧ fr 8 = .int .i64 (cntF f - dT f n i) ∧ fr 9 = u) ∧ L = cellsV bv :: ints (mk48 (subF f (drw f (dT f n i)))) :: X ∧ HX H H' ∧ H1.length ≤ H'.length ∧ HfV H1.length H' u (hndL f n i) ps) ⟨[], .snil, [], by simp [hT0], by simp [hm0], x1, Nat.le_refl _, .nil⟩ ?_
  rintro i hi fr L H' ⟨X, u, ps, ⟨f1, f6, f8, f9⟩, rfl, hx, hl, hu⟩
  have hXc : ∀ c : List V, (X ++ [c])[X.length]? = some c := fun _ => List.getElem?_concat_length
  have hXd : ∀ c d : List V, (X ++ [c, d])[X.length]? = some c := fun c d => by simp
  have hXe : ∀ c d : List V, (X ++ [c, d])[X.length + 1]? = some d := fun c d => by rw [List.getElem?_append_right (by omega)]; simp
  obtain ⟨s1, s2, s3⟩ := dT_step (f := f) (n := n) (by omega) c0.1 i
  have iq := hndQ_iff (f := f) (n := n) (by omega) c0.1 (i := i)
  have hT : dT f n i < cntF f ↔ i < hndQ f n := by
    rw [iq]; simp only [dT]; omega
  have sb := subF_bd (f := f) (g := drw f (dT f n i)) (fun a b => drw_bd of a b) of
  have sb9 : ∀ a b, 0 ≤ subF f (drw f (dT f n i)) a b ∧ subF f (drw f (dT f n i)) a b ≤ 1000000000 := fun a b => ⟨(sb a b).1, by have := (sb a b).2; omega⟩
  simp [f1, f6, f8, f9]
  refine cond_dec (fun ht => ?_) fun hf => ?_
  · have hlt : i < hndQ f n := hT.1 (by omega)
    have dd := fun a b => drw_bd (f := subF f (drw f (dT f n i))) (n := min n (cntF f - dT f n i)) sb a b
    simp [f1, f6, f8, f9]
    refine sheaf_draw (by omega) sb9 ?_
    simp (disch := omega) [f1, f6, f8, f9, hXd, hXe, hXc]
    refine hair_trimmed (by omega) fun H2 v x2 o2 => ?_
    replace x2 : HX H' H2 := x2
    have l2 := x2.len
    obtain ⟨q1, q2⟩ := o2
    rename_i a b
    have eh : ∀ w, w < 2 → sideF (drw (subF f (drw f (dT f n i))) (min n (cntF f - dT f n i))) w = sideF (hndF f n i) w := fun w hw => side_congr fun L g1 g2 => hnd_drw of0 (by omega) c0.1 hw g1 g2
    rw [eh 0 (by omega)] at q1
    rw [eh 1 (by omega)] at q2
    obtain ⟨v', H3, e1, e2, e3, e4⟩ := hu.append (lim := lim) x2 (q1.le (by omega)) (q2.le (by omega)) ⟨by omega, hl⟩ (by rw [hndL_len]; omega)
    obtain ⟨sm, _⟩ := sub_hnd of0 (show 1 ≤ n by omega) c0.1 (i := i)
    have cl := cnt_left of0 (m := dT f n (i + 1)) (by omega)
    have smS : (mk48 fun w L => subF f (drw f (dT f n i)) w L - drw (subF f (drw f (dT f n i))) (min n (cntF f - dT f n i)) w L) = mk48 (subF f (drw f (dT f n (i + 1)))) := sm
    have sb' := subF_bd (f := f) (g := drw f (dT f n (i + 1))) (fun a b => drw_bd of a b) of
    simp [f1, f6, f8, f9, q1.sl.stor, q2.sl.stor, q1.sl.one, q2.sl.one, e1, hXd, hXe, hXc, smS]
    refine sheaf_count2 (fun a b => ⟨(sb' a b).1, by have := (sb' a b).2; omega⟩) ?_
    rw [cl]
    simp [f1, f6, f8, f9]
    exact ⟨hlt, e3 H hx (by omega), by omega, ps ++ [(a, b)], by rw [hndL_snoc]; exact e2⟩
  · have hge : ¬ i < hndQ f n := fun h => hf (by have := hT.2 h; omega)
    have : i = hndQ f n := by omega
    subst this
    simp [f9, hu.own.lst.stor]
    exact hK H' u ps hx trivial trivial (by omega) (hu.le (by omega))
end
end Go.Proofs.Ytgmbjfdhbfhmgaa.Vm
