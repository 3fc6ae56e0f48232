/- Changes of words that leave the plait the same. -/
import Derived.Test.YtalejadhccgckaaDoorPqJ
namespace Go.Proofs.YtalejadhccgckaaDoor.Vm
open Go
set_option maxRecDepth 100000
set_option linter.unusedSimpArgs false
set_option linter.unusedVariables false
attribute [-simp] List.getD_eq_getElem?_getD

/-! who stands where -/
structure P3 where
  a : Int
  b : Int
  c : Int
def P3.step (l : Nat) (p : P3) : P3 := if l = 97 ∨ l = 65 then ⟨p.b, p.a, p.c⟩ else ⟨p.a, p.c, p.b⟩
def prL (p : P3) (l : List Nat) : P3 := l.foldl (fun p c => p.step c) p
theorem prL_app {p : P3} {l k : List Nat} : prL p (l ++ k) = prL (prL p l) k := List.foldl_append
def F9.pr (f : F9) : P3 := ⟨f.a, f.b, f.c⟩
theorem pr_step {f : F9} {c : Nat} (h : isLet c) : (f.step c).pr = f.pr.step c := by
  rcases h with rfl | rfl | rfl | rfl <;> rfl
theorem fol_lst {s : ByteArray} (hv : vld s = true) : ∀ n, n ≤ s.size → (fol (chT s) n).pr = prL ⟨0, 1, 2⟩ ((lst s).take n)
  | 0, _ => rfl
  | n + 1, h => by
    rw [lst_take h, prL_app, ← fol_lst hv n (by omega)]
    exact pr_step (vld_at hv (by omega))
theorem fol_all {s : ByteArray} (hv : vld s = true) : (fol (chT s) s.size).pr = prL ⟨0, 1, 2⟩ (lst s) := by
  rw [fol_lst hv _ (Nat.le_refl _), ← lst_len, List.take_length]
theorem endV_eq {u v : ByteArray} (hu : vld u = true) (hv : vld v = true) (h : prL ⟨0, 1, 2⟩ (lst u) = prL ⟨0, 1, 2⟩ (lst v)) : endV u = endV v := by
  rw [← fol_all hu, ← fol_all hv] at h
  simp only [F9.pr, P3.mk.injEq] at h
  simp only [endV, hu, hv, if_true, F9.E, en, h]
/-- letters that do the same -/
def Act (l k : List Nat) : Prop := (∀ m, matL m l = matL m k) ∧ (∀ n, cntS n l = cntS n k) ∧ ∀ p, prL p l = prL p k
theorem Act.refl {l : List Nat} : Act l l := ⟨fun _ => rfl, fun _ => rfl, fun _ => rfl⟩
theorem Act.trans {l k j : List Nat} (h : Act l k) (g : Act k j) : Act l j := ⟨fun m => (h.1 m).trans (g.1 m), fun n => (h.2.1 n).trans (g.2.1 n), fun p => (h.2.2 p).trans (g.2.2 p)⟩
theorem Act.mid {l k a b : List Nat} (h : Act l k) : Act (a ++ (l ++ b)) (a ++ (k ++ b)) :=
  ⟨fun m => by simp only [matL_app, h.1], fun n => by simp only [cntS_app, h.2.1], fun p => by simp only [prL_app, h.2.2]⟩
theorem Act.pair {c : Nat} (h : isLet c) : Act [] [c, op c] :=
  ⟨fun m => (step_op h).symm, fun n => (cnt_op h).symm, fun p => by rcases h with rfl | rfl | rfl | rfl <;> rfl⟩
theorem Act.tw : Act [97, 98, 97] [98, 97, 98] :=
  ⟨fun m => matL_aba.trans (tw_aba (c := 98) (o := 97) (Or.inr rfl) (Or.inl rfl) (by decide)).symm, fun n => rfl, fun p => rfl⟩
theorem Act.wt : Act [98, 97, 98] [97, 98, 97] := ⟨fun m => (Act.tw.1 m).symm, fun n => rfl, fun p => rfl⟩
/-- changes -/
structure Ch where
  at_ : Int
  kind : Int
  deriving Inhabited
def Ch.cells (a : Ch) : List V := [.int .i64 a.at_, .int .i64 a.kind]
def chC : Cod Ch 2 := ⟨Ch.cells, fun _ => rfl⟩
theorem chs_of {H : Hp} {v : V} {d : CD} (h : RepT H (.sl [cInt, cInt]) v d) : ∃ l, LstV chC H v l := by
  obtain ⟨l, h1, _, _⟩ := lst_of (c := chC) rfl (fun z => True) (fun vs ds h => by
    obtain ⟨v0, u0, _, _, rfl, _, p0, q0⟩ := reps_cons h
    obtain ⟨v1, u1, _, _, rfl, _, p1, q1⟩ := reps_cons q0
    have e := reps_nil q1
    subst e
    obtain ⟨n0, rfl, c0⟩ := int_of p0
    obtain ⟨n1, rfl, c1⟩ := int_of p1
    exact ⟨⟨n0, n1⟩, rfl, trivial⟩) h
  exact ⟨l, h1⟩
theorem wrapU_nn {k : Int} : 0 ≤ IntKind.wrap .u64 k := by
  simp [IntKind.wrap, IntKind.bits, IntKind.signed]; omega
theorem wrapU_sm {n : Int} (h : 0 ≤ n ∧ n < 1000000) : IntKind.wrap .u64 n = n := by
  simp [IntKind.wrap, IntKind.bits, IntKind.signed]; omega
theorem tmod_sm {k n : Int} (hn : 0 < n) : ∃ j : Nat, (IntKind.wrap .u64 k).tmod n = j ∧ (j : Int) < n := by
  have h0 := @wrapU_nn k
  have h1 := Int.tmod_nonneg n h0
  have h2 := Int.tmod_lt_of_pos (IntKind.wrap .u64 k) hn
  exact ⟨((IntKind.wrap .u64 k).tmod n).toNat, by omega, by omega⟩
theorem tx_lst {s : ByteArray} : tx (lst s) = s := lst_inj (lst_tx fun c hc => by
  obtain ⟨b, _, rfl⟩ := List.mem_map.1 hc
  exact b.toNat_lt)
theorem cut_lo {l : List Nat} {j : Nat} (h : j ≤ l.length) : vslT (.str (tx l)) none (some (.int .i64 (j : Int))) = some (.str (tx (l.take j))) := by
  have hz : (tx l).size = l.length := tx_size
  simp only [vslT, vbounds, vint, hz]
  rw [if_pos (by omega), if_pos (by omega)]
  simp only [Int.toNat_natCast, Int.toNat_zero, tx_cut, List.drop_zero]
theorem cut_hi {l : List Nat} {j : Nat} {i : Int} (hi : i = j) (h : j ≤ l.length) : vslT (.str (tx l)) (some (.int .i64 i)) none = some (.str (tx (l.drop j))) := by
  subst hi
  have hz : (tx l).size = l.length := tx_size
  simp only [vslT, vbounds, vint, hz]
  rw [if_pos (by omega), if_pos (by omega)]
  have e2 : ((l.length : Nat) : Int).toNat = l.length := rfl
  simp only [Int.toNat_natCast, tx_drop]
theorem cut_3 {l : List Nat} {j : Nat} (h : j + 3 ≤ l.length) : vslT (.str (tx l)) (some (.int .i64 (j : Int))) (some (.int .i64 ((j : Int) + 3))) = some (.str (tx [l.getD j 0, l.getD (j + 1) 0, l.getD (j + 2) 0])) := by
  have hz : (tx l).size = l.length := tx_size
  simp only [vslT, vbounds, vint, hz]
  rw [if_pos (by omega), if_pos (by omega)]
  have e1 : ((j : Int) + 3).toNat = j + 3 := by omega
  simp only [Int.toNat_natCast, e1, tx_cut, cut3 h]
theorem three {l : List Nat} {j : Nat} (h : j + 3 ≤ l.length) : l = l.take j ++ ([l.getD j 0, l.getD (j + 1) 0, l.getD (j + 2) 0] ++ l.drop (j + 3)) := by
  rw [← cut3 h]
  have : l.drop (j + 3) = (l.drop j).drop 3 := by rw [List.drop_drop]
  rw [this, List.drop_take, show j + 3 - j = 3 by omega, List.take_append_drop, List.take_append_drop]
theorem vadd_tx {l k : List Nat} (h : l.length + k.length ≤ 1000000) : vbin .add (.str (tx l)) (.str (tx k)) = some (.str (tx (l ++ k))) := by
  rw [vadd_str (by rw [tx_size, tx_size]; exact h), tx_app]
theorem changed_r {H : Hp} {lim : Nat} {l : List Nat} {x y : Int} {K : V → Hp → Prop} (hb : l.length ≤ 60) (hl : allL l)
    (hK : ∀ l', Act l l' → l'.length ≤ 62 → (∀ c ∈ l', c < 256) → K (.str (tx l')) H) : VCall tbl lim 49 [.str (tx l), .agg [.int .i64 x, .int .i64 y]] H K := by
  have hB : ∀ c ∈ l, c < 256 := fun c hc => by rcases hl c hc with e | e | e | e <;> omega
  have hz : (tx l).size = l.length := tx_size
  obtain ⟨j, hj, hj2⟩ := tmod_sm (k := x) (n := (l.length : Int) + 1) (by omega)
  obtain ⟨q, hq, hq2⟩ := tmod_sm (k := y) (n := 6) (by omega)
  have hu := wrapU_sm (n := (l.length : Int) + 1) (by omega)
  have b1 := vbin_rem (k := .u64) (a := IntKind.wrap .u64 x) (b := (l.length : Int) + 1) (by omega)
  have b2 := vbin_rem (k := .u64) (a := IntKind.wrap .u64 y) (b := 6) (by omega)
  rw [hj] at b1
  rw [hq] at b2
  have hj3 : j ≤ l.length := by omega
  have c1 := cut_lo hj3
  have c2 := cut_hi (i := (j : Int)) rfl hj3
  refine VCall_fn tbl_at49 rfl ?_
  have aS : ∀ c : Nat, isLet c → K (.str (tx (l.take j ++ [c, op c] ++ l.drop j))) H := fun c hc => by
    refine hK _ ?_ ?_ ?_
    · have h := (Act.pair hc).mid (a := l.take j) (b := l.drop j)
      simp only [List.nil_append, List.take_append_drop] at h
      rw [List.append_assoc]; exact h
    · simp; omega
    · intro d hd
      rcases List.mem_append.1 hd with hd | hd
      · rcases List.mem_append.1 hd with hd | hd
        · exact hB d (List.mem_of_mem_take hd)
        · have : isLet d := by
            simp at hd
            rcases hd with rfl | rfl
            · exact hc
            · exact op_let hc
          rcases this with e | e | e | e <;> omega
      · exact hB d (List.mem_of_mem_drop hd)
  have e1 : tx [97, 65] = ⟨[97, 65].toArray⟩ := rfl
  have e2 : tx [65, 97] = ⟨[65, 97].toArray⟩ := rfl
  have e3 : tx [98, 66] = ⟨[98, 66].toArray⟩ := rfl
  have e4 : tx [66, 98] = ⟨[66, 98].toArray⟩ := rfl
  simp (disch := omega) [vf49, splice, rd2a, rd2b, vlenT_str, hz, hu, b1, b2, wrap_i64]
  have rA : ∀ a b c d : V, rd none [a, b, c, d] 0 = some a := fun _ _ _ _ => rfl
  have rB' : ∀ a b c d : V, rd none [a, b, c, d] 1 = some b := fun _ _ _ _ => rfl
  have rC : ∀ a b c d : V, rd none [a, b, c, d] 2 = some c := fun _ _ _ _ => rfl
  have rD : ∀ a b c d : V, rd none [a, b, c, d] 3 = some d := fun _ _ _ _ => rfl
  have tl : (l.take j).length ≤ 60 := by rw [List.length_take]; omega
  have dl : (l.drop j).length ≤ 60 := by rw [List.length_drop]; omega
  have hq6 : q = 0 ∨ q = 1 ∨ q = 2 ∨ q = 3 ∨ (4 ≤ q ∧ q < 6) := by omega
  rcases hq6 with rfl | rfl | rfl | rfl | hq6
  · have k := aS 97 (Or.inl rfl)
    rw [op97] at k
    have v1 := vadd_tx (l := l.take j) (k := [97, 65]) (by simp; omega)
    rw [e1] at v1
    have v2 := vadd_tx (l := l.take j ++ [97, 65]) (k := l.drop j) (by simp; omega)
    simp (disch := omega) [rA, rB', rC, rD, c1, c2, v1, v2]
    simpa using k
  · have k := aS 65 (Or.inr (Or.inl rfl))
    rw [op65] at k
    have v1 := vadd_tx (l := l.take j) (k := [65, 97]) (by simp; omega)
    rw [e2] at v1
    have v2 := vadd_tx (l := l.take j ++ [65, 97]) (k := l.drop j) (by simp; omega)
    simp (disch := omega) [rA, rB', rC, rD, c1, c2, v1, v2]
    simpa using k
  · have k := aS 98 (Or.inr (Or.inr (Or.inl rfl)))
    rw [op98] at k
    have v1 := vadd_tx (l := l.take j) (k := [98, 66]) (by simp; omega)
    rw [e3] at v1
    have v2 := vadd_tx (l := l.take j ++ [98, 66]) (k := l.drop j) (by simp; omega)
    simp (disch := omega) [rA, rB', rC, rD, c1, c2, v1, v2]
    simpa using k
  · have k := aS 66 (Or.inr (Or.inr (Or.inr rfl)))
    rw [op66] at k
    have v1 := vadd_tx (l := l.take j) (k := [66, 98]) (by simp; omega)
    rw [e4] at v1
    have v2 := vadd_tx (l := l.take j ++ [66, 98]) (k := l.drop j) (by simp; omega)
    simp (disch := omega) [rA, rB', rC, rD, c1, c2, v1, v2]
    simpa using k
  · have hq7 : ((q : Int) < 4) = False := eq_false (by omega)
    simp (disch := omega) [hq7, hz, vlenT_str, wrap_i64]
    by_cases h3 : j + 3 ≤ l.length
    case neg =>
      have h3' : ((l.length : Int) < (j : Int) + 3) = True := eq_true (by omega)
      simp [h3']
      exact hK l Act.refl (by omega) hB
    have h3' : ((l.length : Int) < (j : Int) + 3) = False := eq_false (by omega)
    have c3 := cut_3 h3
    have c4 := cut_hi (l := l) (i := (j : Int) + 3) (j := j + 3) (by omega) h3
    have t3 := three h3
    have bb : ∀ i, i < l.length → l.getD i 0 < 256 := fun i hi => by
      rw [List.getD_eq_getElem?_getD, List.getElem?_eq_getElem hi]
      exact hB _ (List.getElem_mem hi)
    have b0 := bb j (by omega)
    have b1' := bb (j + 1) (by omega)
    have b2' := bb (j + 2) (by omega)
    generalize l.getD j 0 = x0 at c3 t3 b0
    generalize l.getD (j + 1) 0 = x1 at c3 t3 b1'
    generalize l.getD (j + 2) 0 = x2 at c3 t3 b2'
    have l3 : ∀ c ∈ [x0, x1, x2], c < 256 := by
      intro w hw; simp at hw; rcases hw with rfl | rfl | rfl <;> assumption
    have q1 := veq_txB l3 (m := [97, 98, 97]) (by simp)
    have q2 := veq_txB l3 (m := [98, 97, 98]) (by simp)
    have f1 : tx [97, 98, 97] = ⟨[97, 98, 97].toArray⟩ := rfl
    have f2 : tx [98, 97, 98] = ⟨[98, 97, 98].toArray⟩ := rfl
    rw [f1] at q1
    rw [f2] at q2
    have d3 : (l.drop (j + 3)).length ≤ 60 := by rw [List.length_drop]; omega
    have ds : (l.take j).length + (l.drop (j + 3)).length + 3 ≤ 60 := by rw [List.length_take, List.length_drop]; omega
    have byt : ∀ z : List Nat, allP z → ∀ c ∈ l.take j ++ (z ++ l.drop (j + 3)), c < 256 := by
      intro z hz' d hd
      rcases List.mem_append.1 hd with hd | hd
      · exact hB d (List.mem_of_mem_take hd)
      · rcases List.mem_append.1 hd with hd | hd
        · rcases hz' d hd with e | e <;> omega
        · exact hB d (List.mem_of_mem_drop hd)
    by_cases h1 : [x0, x1, x2] = [97, 98, 97]
    · have v1 := vadd_tx (l := l.take j) (k := [98, 97, 98]) (by simp; omega)
      rw [f2] at v1
      have v2 := vadd_tx (l := l.take j ++ [98, 97, 98]) (k := l.drop (j + 3)) (by simp; omega)
      have k := hK (l.take j ++ ([98, 97, 98] ++ l.drop (j + 3))) (by
        have h := Act.tw.mid (a := l.take j) (b := l.drop (j + 3))
        rw [← h1, ← t3] at h; exact h) (by simp; omega) (byt _ (lit3 (Or.inr rfl) (Or.inl rfl)))
      rw [← List.append_assoc] at k
      have q1' := q1
      rw [decide_eq_true h1] at q1'
      simp (disch := omega) [h3', c1, c3, c4, q1', v1, v2, wrap_i64]
      simpa using k
    · rw [decide_eq_false h1] at q1
      by_cases h2 : [x0, x1, x2] = [98, 97, 98]
      · have v1 := vadd_tx (l := l.take j) (k := [97, 98, 97]) (by simp; omega)
        rw [f1] at v1
        have v2 := vadd_tx (l := l.take j ++ [97, 98, 97]) (k := l.drop (j + 3)) (by simp; omega)
        have k := hK (l.take j ++ ([97, 98, 97] ++ l.drop (j + 3))) (by
          have h := Act.wt.mid (a := l.take j) (b := l.drop (j + 3))
          rw [← h2, ← t3] at h; exact h) (by simp; omega) (byt _ (lit3 (Or.inl rfl) (Or.inr rfl)))
        rw [← List.append_assoc] at k
        rw [decide_eq_true h2] at q2
        simp (disch := omega) [h3', c1, c3, c4, q1, q2, v1, v2, wrap_i64]
        simpa using k
      · rw [decide_eq_false h2] at q2
        simp (disch := omega) [h3', c1, c3, c4, q1, q2, wrap_i64]
        exact hK l Act.refl (by omega) hB
theorem law_PlaitChanges {H : Hp} {lim : Nat} {s : ByteArray} {v : V} {l : List Ch} {K : V → Hp → Prop} (hl : LstV chC H v l) (hH : HX glHp H) (hlim : lim ≤ H.length) (h1 : s.size ≤ maxLen) (hK : ∀ X, K (.bool true) (H ++ X)) : VCall tbl lim 11 [.str s, v] H K := by
  have hc := chk_of hH
  refine VCall_fn tbl_at11 rfl ?_
  simp [vf11, hl.len, hl.stor]
  refine long_t ?_
  by_cases hu : 200 < s.size
  · simp [hu]
    exact known_t hc hlim fun X => by simp; exact hK X
  simp [hu]
  refine valid_t hlim fun X0 => ?_
  cases hv : vld s with
  | false =>
    simp [hl.len, hl.stor]
    exact known_t (chk_app hc) (by simp; omega) fun W => by simp; exact hK _
  | true =>
    have hb := vld_len hv
    simp [hl.len, hl.stor]
    by_cases hn : 100 < l.length
    · have hn' : ((100 : Int) < (l.length : Int)) = True := eq_true (by omega)
      simp [hn']
      exact known_t (chk_app hc) (by simp; omega) fun W => by simp; exact hK _
    have hn' : ((100 : Int) < (l.length : Int)) = False := eq_false (by omega)
    simp [hn']
    refine wLoop_up l.length (fun i fr L H' => (fr 0 = .str s ∧ fr 1 = v ∧ fr 6 = .int .i64 i) ∧ (∃ u, fr 5 = .str u ∧ vld u = true ∧ Act (lst s) (lst u)) ∧ L = [] ∧ (∃ X, H' = H ++ X) ∧ i ≤ l.length) ⟨by simp, ⟨s, by simp, hv, Act.refl⟩, rfl, ⟨_, rfl⟩, by omega⟩ ?_
    rintro i hi fr L H' ⟨⟨f0, f1, f6⟩, ⟨u, f5, vu, au⟩, rfl, ⟨X, rfl⟩, hle⟩
    have hub := vld_len vu
    by_cases hp : i < l.length
    · have hp' : ((i : Int) < (l.length : Int)) = True := eq_true (by omega)
      have hl2 := hl.mono ⟨X, rfl⟩
      have hld := hl2.load hp (L := [])
      have had := hl2.at hp
      have hcell : chC.cells (l.getD i default) = [.int .i64 (l.getD i default).at_, .int .i64 (l.getD i default).kind] := rfl
      rw [hcell] at hld
      simp [f0, f1, f5, f6, hp', hl.len, hl.stor, had, hld]
      rw [show u = tx (lst u) from tx_lst.symm]
      refine changed_r (by rw [lst_len]; exact hub) (allL_vld vu) fun l' a1 a2 a3 => ?_
      rw [tx_lst]
      simp [f0, f1, f5, f6]
      refine valid_t (by simp; omega) fun Y => ?_
      cases hv2 : vld (tx l') with
      | false =>
        simp (disch := omega) [f0, f1, f5, f6, wrap_i64]
        exact ⟨hp, ⟨vu, au⟩, hp⟩
      | true =>
        have e := lst_tx a3
        have a4 : Act (lst s) (lst (tx l')) := by rw [e]; exact au.trans a1
        simp (disch := omega) [f0, f1, f5, f6, wrap_i64]
        exact ⟨hp, ⟨hv2, a4⟩, hp⟩
    · have hp' : ((i : Int) < (l.length : Int)) = False := eq_false (by omega)
      have q1 : eqv s u = true := eqv_of hv vu (au.1 _) (au.2.1 _)
      have q2 := endV_eq hv vu (au.2.2 _)
      have q3 : cntL (chT s) s.size = cntL (chT u) u.size := by rw [cnt_all, cnt_all]; exact au.2.1 _
      have hs : samV s u = .tup [.bool true, .int .i64 0] := by simp [samV, hv, vu, q1]
      have hc1 : croV s = .tup [.int .i64 (cntL (chT s) s.size), .int .i64 0] := by simp [croV, hv]
      have hc2 : croV u = .tup [.int .i64 (cntL (chT s) s.size), .int .i64 0] := by simp [croV, vu, q3]
      have he : ∃ n0 n1 n2 : Int, endV s = .tup [.agg [.int .i64 n0, .int .i64 n1, .int .i64 n2], .int .i64 0] := by
        simp only [endV, hv, if_true, F9.E]; exact ⟨_, _, _, rfl⟩
      obtain ⟨n0, n1, n2, he⟩ := he
      have he2 : endV u = .tup [.agg [.int .i64 n0, .int .i64 n1, .int .i64 n2], .int .i64 0] := by rw [← q2, he]
      have hve : veqA false [.int .i64, .int .i64, .int .i64] (.agg [.int .i64 n0, .int .i64 n1, .int .i64 n2]) (.agg [.int .i64 n0, .int .i64 n1, .int .i64 n2]) = some (.bool true) := by simp [veqA, eqCells, eqCell]
      generalize cntL (chT s) s.size = cn at hc1 hc2
      simp [f0, f1, f5, f6, hp', hl.len, hl.stor]
      refine same_t (chk_app hc) (by simp; omega) fun X2 => ?_
      simp [hs, f0, f5]
      refine ends_t (by simp; omega) fun X3 => ?_
      simp [he, f0, f5, splice]
      refine ends_t (by simp; omega) fun X4 => ?_
      simp [he2, f0, f5, splice]
      refine cross_t (by simp; omega) fun X5 => ?_
      simp [hc1, f0, f5]
      refine cross_t (by simp; omega) fun X6 => ?_
      simp [hc2, rd3w, hve]
      exact known_t (chk_app hc) (by simp; omega) fun W => by simp; exact hK _
end Go.Proofs.YtalejadhccgckaaDoor.Vm
