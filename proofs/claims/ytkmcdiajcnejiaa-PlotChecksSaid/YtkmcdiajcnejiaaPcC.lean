/- Package plot over the machine: how many wigs any assignment uses; PlotChecks. -/
import Derived.Test.YtkmcdiajcnejiaaPcB
namespace Go.Proofs.Ytkmcdiajcnejiaa.Vm
open Go
set_option maxRecDepth 100000
set_option maxHeartbeats 1000000
set_option linter.unusedSimpArgs false
set_option linter.unusedVariables false
attribute [-simp] List.getD_eq_getElem?_getD
/-- a map that tells the numbers of a list -/
def mKeys (l : List Int) : List (V × V) := l.map fun n => (.int .i64 n, .bool true)
theorem mKeys_len {l : List Int} : (mKeys l).length = l.length := by simp [mKeys]
theorem mKeys_snoc {l : List Int} {n : Int} : mKeys (l ++ [n]) = mKeys l ++ [(.int .i64 n, .bool true)] := by simp [mKeys]
theorem eqI {a b : Int} : eqCells [.int .i64] (cellsV (.int .i64 a)) (cellsV (.int .i64 b)) = some (a == b) := by
  have : eqCells [.int .i64] (cellsV (.int .i64 a)) (cellsV (.int .i64 b)) = some ((a == b) && true) := Eq.trans rfl rfl
  rw [this, Bool.and_true]
theorem mfind_step {a b : Int} {u : V} {rest : List (V × V)} : mfind [.int .i64] (.int .i64 a) ((.int .i64 b, u) :: rest) = (if a = b then some (some (0, u)) else match mfind [.int .i64] (.int .i64 a) rest with
      | some (some (i, u)) => some (some (i + 1, u))
      | r => r) := by
  have h : (if isAggV (.int .i64 a) == isAggV (.int .i64 b) then eqCells [.int .i64] (cellsV (.int .i64 a)) (cellsV (.int .i64 b)) else none) = some (a == b) := by rw [eqI]; rfl
  conv => lhs; unfold mfind
  rw [h]
  by_cases e : a = b
  · subst e
    have : (a == a) = true := by simp
    rw [this, if_pos rfl]
  · have : (a == b) = false := by simp [e]
    rw [this, if_neg e]
    rfl
theorem mfind_no {a : Int} : ∀ {l : List Int}, a ∉ l → mfind [.int .i64] (.int .i64 a) (mKeys l) = some none
  | [], _ => Eq.trans rfl rfl
  | b :: l, h => by
    have ih := mfind_no (a := a) (l := l) fun hh => h (List.mem_cons_of_mem _ hh)
    have hne : ¬ a = b := fun e => h (by simp [e])
    have : mKeys (b :: l) = (.int .i64 b, .bool true) :: mKeys l := Eq.trans rfl rfl
    rw [this, mfind_step, if_neg hne, ih]
theorem mfind_yes {a : Int} : ∀ {l : List Int}, a ∈ l → ∃ j, mfind [.int .i64] (.int .i64 a) (mKeys l) = some (some (j, .bool true)) ∧ (mKeys l).set j (.int .i64 a, .bool true) = mKeys l
  | b :: l, h => by
    have hk : mKeys (b :: l) = (.int .i64 b, .bool true) :: mKeys l := Eq.trans rfl rfl
    rw [hk, mfind_step]
    by_cases e : a = b
    · subst e
      rw [if_pos rfl]
      exact ⟨0, rfl, rfl⟩
    · have hm : a ∈ l := by
        rcases List.mem_cons.1 h with h | h
        · exact absurd h e
        · exact h
      obtain ⟨j, h1, h2⟩ := mfind_yes hm
      rw [if_neg e, h1]
      refine ⟨j + 1, rfl, ?_⟩
      simp only [List.set_cons_succ, h2]
section
variable {lim : Nat} {H : Hp} {K : V → Hp → Prop} {wv : V} {W : List Wr} {r c x y q u1 u2 u3 : Int} {v w : V} {wl : List Int} {T : Nat}
theorem keyI {n : Int} : keyOk false [.int .i64] (.int .i64 n) = true := by
  have : keyOk false [.int .i64] (.int .i64 n) = (eqCells [.int .i64] (cellsV (.int .i64 n)) (cellsV (.int .i64 n))).isSome := by
    unfold keyOk; rfl
  rw [this, eqI]; rfl
/-- a number is told -/
theorem mput_I {l : List Int} {n : Int} (hlim : lim ≤ H.length) : ∃ l', vmput lim false [.int .i64] (H ++ [.map (mKeys l)]) (.mp H.length) (.int .i64 n) (.bool true) = some (H ++ [.map (mKeys l')]) ∧ ((n ∈ l ∧ l' = l) ∨ (n ∉ l ∧ l' = l ++ [n])) := by
  have hg : (H ++ [Blk.map (mKeys l)])[H.length]? = some (.map (mKeys l)) := by simp
  have hs : ∀ es, (H ++ [Blk.map (mKeys l)]).set H.length (.map es) = H ++ [.map es] := fun es => by simp
  have hst : (keyOk false [.int .i64] (.int .i64 n) && stor (.bool true)) = true := by rw [keyI]; rfl
  by_cases hm : n ∈ l
  · obtain ⟨j, h1, h2⟩ := mfind_yes hm
    refine ⟨l, ?_, Or.inl ⟨hm, rfl⟩⟩
    simp only [vmput, hlim, if_true, hg, hst, h1, hs, h2]
  · refine ⟨l ++ [n], ?_, Or.inr ⟨hm, rfl⟩⟩
    simp only [vmput, hlim, if_true, hg, hst, mfind_no hm, hs, mKeys_snoc]
theorem vlenM_I {l : List Int} : vlenM (H ++ [.map (mKeys l)]) (.mp H.length) = some (.int .i64 l.length) := by
  have hg : (H ++ [Blk.map (mKeys l)])[H.length]? = some (.map (mKeys l)) := by simp
  simp only [vlenM, hg, mKeys_len]
theorem cnI_le {P : Nat → Bool} : ∀ {n : Nat}, cnI P 0 n ≤ n
  | 0 => Nat.le_refl _
  | n + 1 => by have := cnI_le (P := P) (n := n); simp only [cnI]; split <;> omega
theorem plot_Used (hw : LstV wrC H wv W) (hv : SlV H v wl) (hlim : lim ≤ H.length) (hK : ∀ H', HX H H' → K (.tup [.int .i64 (usedP ⟨W, r, c⟩ wl), .int .i64 (checkP ⟨W, r, c⟩ wl)]) H') : VCall tbl lim 31 [.agg [wv, .int .i64 r, .int .i64 c], v] H K := by
  refine VCall_fn tbl_at31 rfl ?_
  simp [vf31, hw.stor, hw.one, hv.stor]
  refine plot_Check hw hv ?_
  by_cases hch : checkP ⟨W, r, c⟩ wl = 0
  case neg =>
    have := hK H HX.refl
    simp only [usedP, hch, if_false] at this
    simp [hch]; exact this
  have hu : usedP ⟨W, r, c⟩ wl = (cnI (fstB wl) 0 W.length : Int) := by simp [usedP, hch]
  obtain ⟨hval, hlen, _⟩ := checkP_ok hch
  simp only at hlen
  obtain ⟨g1, g2, g3, g4, g5⟩ := valP_ok hval
  simp only at g1 g2 g3 g4 g5
  have hxm : ∀ es, HX H (H ++ [Blk.map es]) := fun es => HX.push
  simp [hch, hv.len, hlen]
  refine wLoop_up W.length (fun i fr L H' => ∃ l, (fr 7 = .mp H.length ∧ fr 17 = v ∧ fr 18 = .int .i64 W.length ∧ fr 19 = .int .i64 i) ∧ H' = H ++ [.map (mKeys l)] ∧ l.length = cnI (fstB wl) 0 i ∧ ∀ n, n ∈ l ↔ ∃ j, j < i ∧ wl.getD j 0 = n) ⟨[], by simp [hv.len, hlen], by simp [mKeys], rfl, fun n => by simp⟩ ?_
  rintro i hi fr L H' ⟨l, ⟨f7, f17, f18, f19⟩, rfl, hl, hm⟩
  have hv1 := hv.mono (hxm (mKeys l))
  simp [f7, f17, f18, f19]
  refine cond_dec (fun ht => ?_) fun hfl => ?_
  · have ht : i < W.length := by omega
    have ai := hv1.addr (i := (i : Int)) (by omega)
    simp only [Int.toNat_natCast] at ai
    obtain ⟨l', hp, hor⟩ := mput_I (lim := lim) (H := H) (l := l) (n := wl.getD i 0) hlim
    have hi1 := hv1.load (i := i) (by omega) (L := L)
    simp (disch := omega) [f7, f17, f18, f19, ai, hi1, lpId_ept, hp, wrap_i64]
    refine ⟨by omega, l', rfl, ?_, ?_⟩
    · have hcn : cnI (fstB wl) 0 (i + 1) = cnI (fstB wl) 0 i + if fstB wl i = true then 1 else 0 := by simp only [cnI, Nat.zero_add]
      rw [hcn]
      rcases hor with ⟨h1, rfl⟩ | ⟨h1, rfl⟩
      · have : fstB wl i = false := fstB_iff.2 ((hm _).1 h1)
        rw [this, hl]; simp
      · have : fstB wl i = true := by
          cases hf : fstB wl i with
          | true => rfl
          | false => exact absurd ((hm _).2 (fstB_iff.1 hf)) h1
        rw [this, List.length_append, hl]; simp
    · intro n
      rcases hor with ⟨h1, rfl⟩ | ⟨h1, rfl⟩
      · rw [hm n]
        constructor
        · rintro ⟨j, a, b⟩; exact ⟨j, by omega, b⟩
        · rintro ⟨j, a, b⟩
          by_cases e : j = i
          · subst e; rw [← b]; exact (hm _).1 h1
          · exact ⟨j, by omega, b⟩
      · rw [List.mem_append, hm n]
        constructor
        · rintro (⟨j, a, b⟩ | h2)
          · exact ⟨j, by omega, b⟩
          · exact ⟨i, by omega, (List.mem_singleton.1 h2).symm⟩
        · rintro ⟨j, a, b⟩
          by_cases e : j = i
          · subst e; exact Or.inr (List.mem_singleton.2 b.symm)
          · exact Or.inl ⟨j, by omega, b⟩
  · have : i = W.length := by omega
    subst this
    have := hK _ (hxm (mKeys l))
    rw [hu, hch, ← hl] at this
    simp [f7, vlenM_I]
    exact this
theorem ref_Used (hw : LstV wrC H wv W) (hv : SlV H v wl) (hK : K (.tup [.int .i64 (usedP ⟨W, r, c⟩ wl), .int .i64 (checkP ⟨W, r, c⟩ wl)]) H) : VCall tbl lim 32 [.agg [wv, .int .i64 r, .int .i64 c], v] H K := by
  refine VCall_fn tbl_at32 rfl ?_
  simp [vf32, hw.stor, hw.one, hv.stor]
  refine ref_Check hw hv ?_
  by_cases hch : checkP ⟨W, r, c⟩ wl = 0
  case neg =>
    simp only [usedP, hch, if_false] at hK
    simp [hch]; exact hK
  obtain ⟨hval, hwl, _⟩ := checkP_ok hch
  simp only at hwl
  obtain ⟨g1, g2, g3, g4, g5⟩ := valP_ok hval
  simp only at g1 g2 g3 g4 g5
  simp only [usedP, hch, if_true] at hK
  simp [hch]
  have cle : ∀ n, cnI (fstB wl) 0 n ≤ n := fun n => by
    induction n with
    | zero => exact Nat.le_refl _
    | succ n ih => simp only [cnI]; split <;> omega
  refine wLoop_up W.length (fun i fr L H' => (fr 1 = v ∧ fr 7 = .int .i64 (cnI (fstB wl) 0 i) ∧ fr 8 = .int .i64 i) ∧ H' = H) ⟨by simp [cnI], rfl⟩ ?_
  rintro i hi fr L H' ⟨⟨f1, f7, f8⟩, e0⟩
  have e0 := e0.symm
  subst e0
  have cli := cle i
  simp [f1, f7, f8, hv.len, hwl]
  refine cond_dec (fun ht => ?_) fun hfl => ?_
  · have ht : i < W.length := by omega
    simp [f1, f7, f8]
    refine wLoop_post 2 (fun fr L H' => (fr 1 = v ∧ fr 7 = .int .i64 (cnI (fstB wl) 0 i) ∧ fr 8 = .int .i64 i ∧ fr 9 = .int .i64 (if fstB wl i = true then 1 else 0)) ∧ H' = H) ?_ ?_
    · refine wLoop_up i (fun k fr L H' => ∃ z : Int, (fr 1 = v ∧ fr 7 = .int .i64 (cnI (fstB wl) 0 i) ∧ fr 8 = .int .i64 i ∧ fr 10 = .int .i64 k ∧ fr 9 = .int .i64 z) ∧ H' = H ∧ ((z = 1 ∧ ∀ j, j < k → wl.getD j 0 ≠ wl.getD i 0) ∨ (z = 0 ∧ ∃ j, j < k ∧ wl.getD j 0 = wl.getD i 0))) ⟨1, by simp [f1, f7, f8], rfl, Or.inl ⟨rfl, fun j hj => by omega⟩⟩ ?_
      clear f1 f7 f8
      rintro k hk fr L H' ⟨z, ⟨f1, f7, f8, f10, f9⟩, e0, hz⟩
      have e0 := e0.symm
      subst e0
      simp [f1, f7, f8, f10, f9]
      refine cond_dec (fun ht2 => ?_) fun hfl2 => ?_
      · have ht2 : k < i := by omega
        have ai := hv.addr (i := (i : Int)) (by omega)
        have ak := hv.addr (i := (k : Int)) (by omega)
        simp only [Int.toNat_natCast] at ai ak
        by_cases he : wl.getD k 0 = wl.getD i 0
        · simp (disch := omega) [f1, f7, f8, f10, f9, ai, ak, hv.load, lpId_ept, eq_true he, wrap_i64]
          exact ⟨by omega, k, by omega, he⟩
        · simp (disch := omega) [f1, f7, f8, f10, f9, ai, ak, hv.load, lpId_ept, eq_false he, wrap_i64]
          refine ⟨by omega, ?_⟩
          rcases hz with ⟨h1, h2⟩ | ⟨h1, j, h2, h3⟩
          · refine Or.inl ⟨h1, fun j hj => ?_⟩
            by_cases e : j = k
            · subst e; exact he
            · exact h2 j (by omega)
          · exact Or.inr ⟨h1, j, by omega, h3⟩
      · have : k = i := by omega
        subst this
        simp [f1, f7, f8, f9]
        rcases hz with ⟨h1, h2⟩ | ⟨h1, j, h2, h3⟩
        · have : fstB wl k = true := by
            cases hf : fstB wl k with
            | true => rfl
            | false => obtain ⟨j, h3, h4⟩ := fstB_iff.1 hf; exact absurd h4 (h2 j h3)
          rw [this, h1]; rfl
        · have : fstB wl k = false := fstB_iff.2 ⟨j, h2, h3⟩
          rw [this, h1]; rfl
    clear f1 f7 f8
    rintro fr L H2 ⟨⟨f1, f7, f8, f9⟩, e0⟩
    have e0 := e0.symm
    subst e0
    have hcn : cnI (fstB wl) 0 (i + 1) = cnI (fstB wl) 0 i + if fstB wl i = true then 1 else 0 := by simp only [cnI, Nat.zero_add]
    cases hf : fstB wl i with
    | true =>
      rw [hf] at f9 hcn
      simp only [if_true] at f9 hcn
      simp (disch := omega) [f1, f7, f8, f9, wrap_i64, hcn]
      omega
    | false =>
      rw [hf] at f9 hcn
      simp only [Bool.false_eq_true, if_false] at f9 hcn
      simp (disch := omega) [f1, f7, f8, f9, wrap_i64, hcn]
      omega
  · have : i = W.length := by omega
    subst this
    simp [f7]
    exact hK
theorem law_PlotChecks {ws : List V} {p : Ply} (hv : PlyV H ws p) (hx : SlV H v wl) (hlim : lim ≤ H.length) (hK : ∀ H', K (.bool true) H') : VCall tbl lim 9 [.agg ws, v] H K := by
  cases hv with
  | mk hw hr hc =>
    rename_i wv W r c
    refine VCall_fn tbl_at9 rfl ?_
    have d1 : decide (100 < (wl.length : Int)) = decide (100 < wl.length) := by simp only [decide_eq_decide]; omega
    simp [vf9, hw.stor, hw.one, hx.stor]
    refine law_long hw ?_
    by_cases h1 : 60 < W.length
    · simp [h1]
      refine law_known hlim fun H1 _ => ?_
      simp; exact hK _
    by_cases h2 : 100 < wl.length
    · simp [h1, h2, hx.len, d1]
      refine law_known hlim fun H1 _ => ?_
      simp; exact hK _
    simp [h1, h2, hx.len, d1, hw.stor, hx.stor]
    refine plot_Used hw hx hlim fun H1 x1 => ?_
    replace x1 : HX H H1 := x1
    have l1 := x1.len
    have hw1 := hw.mono x1
    have hx1 := hx.mono x1
    simp [hw.stor, hx.stor]
    refine ref_Used hw1 hx1 ?_
    simp [hw.stor, hx.stor]
    refine plot_Check hw1 hx1 ?_
    simp [hw.stor, hx.stor]
    refine ref_Check hw1 hx1 ?_
    simp
    refine law_known (Nat.le_refl _) fun H2 _ => ?_
    simp; exact hK _
end
end Go.Proofs.Ytkmcdiajcnejiaa.Vm
