/- The stable sort of entries over the machine: insertion sort, turning. -/
import Derived.Test.YtlkoedoannjojaaCaL
import Derived.Test.YtlkoedoannjojaaSrP
namespace Go.Proofs.Ytlkoedoannjojaa.Vm
open Go
set_option maxRecDepth 100000
set_option linter.unusedSimpArgs false
set_option linter.unusedVariables false
attribute [-simp] List.getD_eq_getElem?_getD
/-- a row of entries that is worked on; all other old rows stand -/
structure RowE (b : Nat) (H : Hp) (l : List En) (H' : Hp) : Prop where
  row : H'[b]? = some (.row (enC.all l) true)
  len : H.length ≤ H'.length
  oth : ∀ b', b' < H.length → b' ≠ b → H'[b']? = H[b']?
theorem RowE.refl {b : Nat} {H : Hp} {l : List En} (h : H[b]? = some (.row (enC.all l) true)) : RowE b H l H := ⟨h, Nat.le_refl _, fun _ _ _ => rfl⟩
theorem RowE.trans {b : Nat} {H H1 H2 : Hp} {l l' : List En} (h : RowE b H l H1) (k : RowE b H1 l' H2) : RowE b H l' H2 :=
  ⟨k.row, Nat.le_trans h.len k.len, fun b' h1 h2 => (k.oth b' (Nat.lt_of_lt_of_le h1 h.len) h2).trans (h.oth b' h1 h2)⟩
theorem RowE.lt {b : Nat} {H H1 : Hp} {l : List En} (h : RowE b H l H1) : b < H1.length := (List.getElem?_eq_some_iff.1 h.row).1
theorem RowE.grow {b : Nat} {H H1 H2 : Hp} {l : List En} (h : RowE b H l H1) (x : HX H1 H2) : RowE b H l H2 :=
  ⟨x.get h.row, Nat.le_trans h.len x.len, fun b' h1 h2 => (x.same (Nat.lt_of_lt_of_le h1 h.len)).trans (h.oth b' h1 h2)⟩
theorem RowE.set {b : Nat} {H H1 : Hp} {l l' : List En} (h : RowE b H l H1) : RowE b H l' (H1.set b (.row (enC.all l') true)) :=
  ⟨setGet h.lt, by simpa using h.len, fun b' h1 h2 => by rw [List.getElem?_set_ne (fun e => h2 e.symm)]; exact h.oth b' h1 h2⟩
theorem row_ld {H : Hp} {b : Nat} {l : List En} (h : H[b]? = some (.row (enC.all l) true)) {i : Nat} (hi : i < l.length) {L : Lo} : vload (some 6) L H (.ptr b (i * 6)) = some (.agg [.int .i64 (l.getD i default).p, .int .i64 (l.getD i default).s, .int .i64 (l.getD i default).a, .int .i64 (l.getD i default).b, .int .i64 (l.getD i default).c, .str (l.getD i default).t]) := by
  have o : OwnT 0 enC H (.sl b 0 l.length 6) l := .row (Nat.zero_le _) h
  have := en_load o.lst hi (L := L)
  rw [show ept 6 (.sl b 0 l.length 6) i = .ptr b (0 + i * 6) from rfl, Nat.zero_add] at this
  exact this
theorem row_st {lim : Nat} {H : Hp} {b : Nat} {l : List En} (h : H[b]? = some (.row (enC.all l) true)) (hlim : lim ≤ b) {i : Nat} (hi : i < l.length) {L : Lo} (e : En) : vstore lim L H (.ptr b (i * 6)) (.agg [.int .i64 e.p, .int .i64 e.s, .int .i64 e.a, .int .i64 e.b, .int .i64 e.c, .str e.t]) 6 = some (L, H.set b (.row (enC.all (l.set i e)) true)) := by
  have o : OwnT b enC H (.sl b 0 l.length 6) l := .row (Nat.le_refl _) h
  have := o.store (lim := lim) (i := i) (j := 0) (x := .agg [.int .i64 e.p, .int .i64 e.s, .int .i64 e.a, .int .i64 e.b, .int .i64 e.c, .str e.t]) (y := e) (L := L) (sz := 6) hlim hi rfl rfl (by omega) (by
    show e.cells = splice (l.getD i default).cells 0 e.cells
    simp [En.cells, splice])
  rw [show eptf 6 (.sl b 0 l.length 6) i 0 = .ptr b (0 + i * 6 + 0) from rfl, Nat.zero_add, Nat.add_zero] at this
  exact this
def CmpE (g : FuncId) (cf : En → En → Int) : Prop :=
  ∀ (H : Hp) (lim : Nat) (x y : En) (K : V → Hp → Prop), (∀ H', HX H H' → K (.int .i64 (cf x y)) H') → VCall tbl lim g [.agg x.cells, .agg y.cells] H K
section
variable {lim : Nat} {H : Hp} {K : V → Hp → Prop} {b : Nat} {g : FuncId} {l : List En} {cf : En → En → Int}
theorem isort_en (hb : H[b]? = some (.row (enC.all l) true)) (hlim : lim ≤ b) (hc : CmpE g cf) (ho : Ordr cf) {a e : Nat} (hae : a ≤ e ∧ e ≤ l.length) (hl : l.length ≤ 100000)
    (hK : ∀ H' l', RowE b H l' H' → PermR a e l l' → SortR cf a e l' → K (.tup []) H') : VCall tbl lim 86 [.sl b 0 l.length 6, .int .i64 a, .int .i64 e, .func (.func g) [] []] H K := by
  refine VCall_fn tbl_at86 rfl ?_
  simp (disch := omega) [vf86, wrap_i64]
  refine wLoop_up (e - (a + 1)) (fun i fr L H' => ∃ l', (fr 0 = .sl b 0 l.length 6 ∧ fr 1 = .int .i64 a ∧ fr 2 = .int .i64 e ∧ fr 3 = .func (.func g) [] [] ∧ fr 8 = .int .i64 ((a + 1 + i : Nat) : Int)) ∧ L = [] ∧ RowE b H l' H' ∧ PermR a e l l' ∧ SortR cf a (min e (a + 1 + i)) l') ⟨l, by simp, rfl, RowE.refl hb, PermR.refl, fun p q h1 h2 h3 => by omega⟩ ?_
  rintro i hi fr L H' ⟨l', ⟨f0, f1, f2, f3, f8⟩, rfl, hr, hp, hs⟩
  simp [f0, f1, f2, f3, f8]
  refine cond_dec (fun ht => ?_) fun hfl => ?_
  · have ht : i < e - (a + 1) := by omega
    rw [Nat.min_eq_right (by omega)] at hs
    simp [f8]
    refine wLoop_m (n := i + 1) (fun m fr L H' => ∃ l', (fr 0 = .sl b 0 l.length 6 ∧ fr 1 = .int .i64 a ∧ fr 2 = .int .i64 e ∧ fr 3 = .func (.func g) [] [] ∧ fr 8 = .int .i64 ((a + 1 + i : Nat) : Int) ∧ fr 9 = .int .i64 ((a + m : Nat) : Int)) ∧ L = [] ∧ RowE b H l' H' ∧ PermR a e l l' ∧ m ≤ i + 1 ∧ InsR cf a (a + 1 + i) (a + m) l') ⟨l', by simp [f0, f1, f2, f3, f8]; omega, rfl, hr, hp, Nat.le_refl _, by rw [show a + (i + 1) = a + 1 + i by omega]; exact InsR.start hs⟩ ?_
    clear f0 f1 f2 f3 f8 hr hp hs l'
    rintro m fr L H' ⟨l', ⟨f0, f1, f2, f3, f8, f9⟩, rfl, hr, hp, hm, hI⟩
    have hlen := hp.len
    by_cases hm0 : m = 0
    · subst hm0
      have hs := hI.done ho (by omega) (by omega) (Or.inl rfl)
      simp (disch := omega) [f0, f1, f2, f3, f8, f9, wrap_i64]
      refine ⟨by omega, by omega, l', hr, hp, ?_⟩
      rw [show a + 1 + (i + 1) = a + 1 + i + 1 by omega]; exact hs
    · have e1 : ((a : Int) + (m : Int)).toNat = a + m := by omega
      have e2 : ((a : Int) + (m : Int) - 1).toNat = a + m - 1 := by omega
      have g1 := row_ld hr.row (i := a + m) (by omega) (L := [])
      have g2 := row_ld hr.row (i := a + m - 1) (by omega) (L := [])
      have hgt : ((a : Int) < (a : Int) + (m : Int)) = True := eq_true (by omega)
      simp (disch := omega) [f0, f1, f2, f3, f8, f9, hgt, wrap_i64, e1, e2, g1, g2, -vload_ptrO]
      refine hc _ _ (l'.getD (a + m) default) (l'.getD (a + m - 1) default) _ fun H2 x2 => ?_
      have hr2 := hr.grow x2
      have g1 := row_ld hr2.row (i := a + m) (by omega) (L := [])
      have g2 := row_ld hr2.row (i := a + m - 1) (by omega) (L := [])
      simp
      refine cond_dec (fun hlt => ?_) fun hlt => ?_
      · have w1 := row_st hr2.row hlim (i := a + m) (by omega) (L := []) (l'.getD (a + m - 1) default)
        have hr3 := hr2.set (l' := l'.set (a + m) (l'.getD (a + m - 1) default))
        have w2 := row_st hr3.row hlim (i := a + m - 1) (by simp; omega) (L := []) (l'.getD (a + m) default)
        have hr4 := hr3.set (l' := swp l' (a + m) (a + m - 1))
        have hsw := InsR.swap ho hI (by omega) (by omega) (by omega) hlt
        have hsw : InsR cf a (a + 1 + i) (a + (m - 1)) (swp l' (a + m) (a + m - 1)) := by
          have e3 : a + (m - 1) = a + m - 1 := by omega
          rw [e3]; exact hsw
        have hps := hp.trans (swp_perm (l := l') (i := a + m) (j := a + m - 1) (a := a) (b := e) ⟨by omega, by omega⟩ ⟨by omega, by omega⟩ (by omega))
        simp (disch := omega) [f0, f1, f2, f3, f8, f9, wrap_i64, e1, e2, g1, g2, w1, w2, -vstore, -vload_ptrO]
        first | exact ⟨m - 1, by omega, by omega, _, hr2.set (l' := swp l' (a + m) (a + m - 1)), hps, by omega, hsw⟩ | exact ⟨m - 1, by omega, by omega, _, hr4, hps, by omega, hsw⟩
      · have hs := hI.done ho (by omega) (by omega) (Or.inr hlt)
        simp (disch := omega) [f0, f1, f2, f3, f8, f9, wrap_i64]
        refine ⟨by omega, by omega, l', hr2, hp, ?_⟩
        rw [show a + 1 + (i + 1) = a + 1 + i + 1 by omega]; exact hs
  · have : e ≤ a + 1 + i := by omega
    rw [Nat.min_eq_left this] at hs
    simp
    exact hK _ _ hr hp hs
theorem swapRange_en (hb : H[b]? = some (.row (enC.all l) true)) (hlim : lim ≤ b) {x y n : Nat} {f : V} (hxy : x + n ≤ y) (hy : y + n ≤ l.length) (hl : l.length ≤ 100000)
    (hK : ∀ H', RowE b H (swr l x y n) H' → K (.tup []) H') : VCall tbl lim 95 [.sl b 0 l.length 6, .int .i64 x, .int .i64 y, .int .i64 n, f] H K := by
  refine VCall_fn tbl_at95 rfl ?_
  simp (disch := omega) [vf95, wrap_i64]
  refine wLoop_up n (fun i fr L H' => (fr 0 = .sl b 0 l.length 6 ∧ fr 1 = .int .i64 x ∧ fr 2 = .int .i64 y ∧ fr 3 = .int .i64 n ∧ fr 10 = .int .i64 i) ∧ L = [] ∧ RowE b H (swr l x y i) H') ⟨by simp, rfl, RowE.refl hb⟩ ?_
  rintro i hi fr L H' ⟨⟨f0, f1, f2, f3, f10⟩, rfl, hr⟩
  simp [f0, f1, f2, f3, f10]
  refine cond_dec (fun ht => ?_) fun hfl => ?_
  · have ht : i < n := by omega
    have hlen : (swr l x y i).length = l.length := swr_len
    have e1 : ((x : Int) + (i : Int)).toNat = x + i := by omega
    have e2 : ((y : Int) + (i : Int)).toNat = y + i := by omega
    have g1 := row_ld hr.row (i := x + i) (by omega) (L := [])
    have g2 := row_ld hr.row (i := y + i) (by omega) (L := [])
    have w1 := row_st hr.row hlim (i := x + i) (by omega) (L := []) ((swr l x y i).getD (y + i) default)
    have hr3 := hr.set (l' := (swr l x y i).set (x + i) ((swr l x y i).getD (y + i) default))
    have w2 := row_st hr3.row hlim (i := y + i) (by simp; omega) (L := []) ((swr l x y i).getD (x + i) default)
    have hr4 := hr3.set (l' := swp (swr l x y i) (x + i) (y + i))
    simp (disch := omega) [f0, f1, f2, f3, f10, wrap_i64, e1, e2, g1, g2, w1, w2, -vstore, -vload_ptrO]
    first | exact ⟨by omega, hr.set (l' := swp (swr l x y i) (x + i) (y + i))⟩ | exact ⟨by omega, hr4⟩
  have : i = n := by omega
  subst this
  simp
  exact hK _ hr
theorem rotate_en (hb : H[b]? = some (.row (enC.all l) true)) (hlim : lim ≤ b) {x m y : Nat} {f : V} (hf : stor f = true) (hxm : x < m) (hmy : m < y) (hy : y ≤ l.length) (hl : l.length ≤ 100000)
    (hK : ∀ H' l', RowE b H l' H' → PermR x y l l' → RotR x m y l l' → K (.tup []) H') : VCall tbl lim 93 [.sl b 0 l.length 6, .int .i64 x, .int .i64 m, .int .i64 y, f] H K := by
  refine VCall_fn tbl_at93 rfl ?_
  simp (disch := omega) [vf93, wrap_i64]
  refine wLoop_m (n := y - x) (fun k fr L H' => ∃ l' i j, (fr 0 = .sl b 0 l.length 6 ∧ fr 2 = .int .i64 m ∧ fr 4 = f ∧ fr 10 = .int .i64 (i : Nat) ∧ fr 11 = .int .i64 (j : Nat)) ∧ L = [] ∧ RowE b H l' H' ∧ PermR x y l l' ∧ RotI x m y i j l l' ∧ (0 < i ∧ 0 < j ∧ x ≤ m - i ∧ i ≤ m ∧ m + j ≤ y) ∧ k = i + j) ⟨l, m - x, y - m, by simp; omega, rfl, RowE.refl hb, PermR.refl, RotI.start ⟨by omega, by omega⟩, by omega, by omega⟩ ?_
  rintro k fr L H' ⟨l', i, j, ⟨f0, f2, f4, f10, f11⟩, rfl, hr, hp, hI, hij, hk⟩
  have hlen := hp.len
  simp [f0, f2, f4, f10, f11]
  by_cases e : i = j
  · subst e
    simp (disch := omega) [f0, f2, f4, f10, f11, wrap_i64, hf]
    have e1 : (m : Int) - (i : Int) = ((m - i : Nat) : Int) := by omega
    rw [e1, ← hlen]
    refine swapRange_en hr.row hlim (x := m - i) (y := m) (n := i) (by omega) (by omega) (by omega) fun H2 hr2 => ?_
    simp
    exact hK _ _ (hr.trans hr2) (hp.trans (swr_perm (by omega) (by omega) (by omega) (by omega) (by omega))) (hI.done (by omega) (by omega))
  · have e' : ¬ (i : Int) = (j : Int) := by omega
    by_cases h : j < i
    · simp (disch := omega) [f0, f2, f4, f10, f11, wrap_i64, hf, eq_false e', h, show (j : Int) < i by omega]
      have e1 : (m : Int) - (i : Int) = ((m - i : Nat) : Int) := by omega
      rw [e1, ← hlen]
      refine swapRange_en hr.row hlim (x := m - i) (y := m) (n := j) (by omega) (by omega) (by omega) fun H2 hr2 => ?_
      simp (disch := omega) [f0, f2, f4, f10, f11, wrap_i64]
      refine ⟨_, ?_, swr l' (m - i) m j, i - j, j, (by omega), hr.trans hr2, hp.trans (swr_perm (by omega) (by omega) (by omega) (by omega) (by omega)), hI.more (by omega) h (by omega), by omega, rfl⟩
      omega
    · simp (disch := omega) [f0, f2, f4, f10, f11, wrap_i64, hf, eq_false e', h, show ¬ (j : Int) < i by omega]
      have e1 : (m : Int) - (i : Int) = ((m - i : Nat) : Int) := by omega
      have e2 : (m : Int) + (j : Int) - (i : Int) = ((m + j - i : Nat) : Int) := by omega
      rw [e1, e2, ← hlen]
      refine swapRange_en hr.row hlim (x := m - i) (y := m + j - i) (n := i) (by omega) (by omega) (by omega) fun H2 hr2 => ?_
      simp (disch := omega) [f0, f2, f4, f10, f11, wrap_i64]
      refine ⟨_, ?_, swr l' (m - i) (m + j - i) i, i, j - i, (by omega), hr.trans hr2, hp.trans (swr_perm (by omega) (by omega) (by omega) (by omega) (by omega)), hI.less (by omega) (by omega) (by omega), by omega, rfl⟩
      omega
end
end Go.Proofs.Ytlkoedoannjojaa.Vm
