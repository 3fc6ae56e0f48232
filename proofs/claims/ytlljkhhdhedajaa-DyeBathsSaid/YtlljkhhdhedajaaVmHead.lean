/- One operation of a drawn head, and the whole head. -/
import Derived.Test.YtlljkhhdhedajaaVmInv
namespace Go.Proofs.Ytlljkhhdhedajaa.Vm
open Go
set_option linter.unusedVariables false
set_option linter.unusedSimpArgs false

section
variable {P : Program} {call : CallFn} {glob : List Nat} {nt : Nat} {ops : Array Oper} {head : List VOper} {σ : Nat → St} {acc : Nat → List (Nat × Nat)} {val : Nat → V}
variable {ρ0 : Loc} {lam0 : Lam} {w0 : World} {ρ ρ' : Loc} {lam lam' : Lam} {a : Act} {w w' : World} {listed : Array Bool}

theorem lis_set {k i : Nat} (hk : k < listed.size) : lis (listed.setIfInBounds k true) i = if i = k then true else lis listed i := by
  unfold lis
  by_cases e : i = k
  · subst e; simp [hk]
  · rw [if_neg e, getD_set_ne false (fun h => e h.symm)]

/-- one more is done -/
theorem inv_step (hc : CallExt call) (R : Run call head σ acc val) (G : RegOk P glob nt ops head) (hx : Lex ops) (inv : HeadInv .any ops head.length listed)
    (I : Inv head σ val ρ0 lam0 w0 (lis listed) ρ lam a w) {k : Nat} (hkm : k < head.length) (hk : k ∈ Region.ready .any ops listed) {o : Oper} {vo : VOper} (ho : ops[k]? = some o) (hvo : head[k]? = some vo)
    (hsl : slimOp P glob o = some vo.op) (hdst : vo.dst = o.dst) (hd : ∀ d, o.dst = some d → d < a.tmps.size)
    (hg : (match o.guard with | none => vo.guard = none | some (j, want) => ∃ s, (ops[j]?).bind (·.dst) = some s ∧ vo.guard = some (s, want)))
    {x : Value} (hv : FV ρ' lam' (val k) x) (g : Grow (σ k).H.length (acts head σ k) ρ lam (σ k).L (σ k).H w ρ' lam' (σ (k + 1)).L (σ (k + 1)).H w') (r1 : RelH ρ' (σ (k + 1)).H w')
    (r2 : RelL (fun i => acts head σ k i ∨ (σ k).L.length ≤ i) ρ' lam' (σ (k + 1)).L w') :
    Inv head σ val ρ0 lam0 w0 (lis (listed.setIfInBounds k true)) ρ' lam' (a.put o.dst x) w' := by
  have hun := ready_un hk
  have hklt : k < listed.size := by rw [inv.size]; exact (Array.getElem?_eq_some_iff.1 ho).1
  have hset : ∀ i, lis (listed.setIfInBounds k true) i = if i = k then true else lis listed i := fun i => lis_set hklt
  have hne : ∀ i, i ≠ k → lis (listed.setIfInBounds k true) i = lis listed i := fun i h => by rw [hset, if_neg h]
  have hself : lis (listed.setIfInBounds k true) k = true := by rw [hset, if_pos rfl]
  have fR := I.freeR k hkm hun
  have fL := I.freeL k hkm hun
  have leR := g.leR fR
  have leL := g.leL fL
  obtain ⟨hH1, hH2⟩ := run_H hc R (i := k + 1) (j := head.length) (by omega) (Nat.le_refl _)
  obtain ⟨hK1, hK2⟩ := run_H hc R (i := k) (j := head.length) (by omega) (Nat.le_refl _)
  obtain ⟨hZ1, hZ2⟩ := run_H hc R (i := 0) (j := k) (by omega) (by omega)
  have hHk := g.lenH
  have hLk := g.lenL
  have hLm := run_L hc R (i := k + 1) (j := head.length) (by omega) (Nat.le_refl _)
  have hL0 := run_L hc R (i := 0) (j := k) (by omega) (by omega)
  have keepO : ∀ r, r < w.heap.size → (∀ i, acts head σ k i → lam i ≠ some r) → w'.heap[r]? = w.heap[r]? := fun r hr ht => g.keep r hr noOpen ht
  have newRk : ∀ b r o c, (σ k).H.length ≤ b → b < (σ (k + 1)).H.length → ρ' b = some (r, o, c) → w.heap.size ≤ r := fun b r o c h1 h2 h3 => (g.newR b r o c h1 h2 h3).resolve_right noOpen
  have memk : ∀ {id}, acts head σ k id → ∃ r, lam id = some r := by
    intro id ⟨vo', h1, h2, h3⟩
    rw [hvo] at h1; cases h1
    refine memId_lam (P := P) (glob := glob) (ρ := ρ) (fr := lw (σ 0).fr (dstAt head) val (lis listed) head.length) (a := a) hsl I.fr ?_
    rw [(evVal_congr (call := call) (lim := 0) (L := []) (H := []) (vo := vo) (fun t ht => fr_ready R G hx inv hkm hk ho t ((slot_looks hsl hg).1 t ht)) (fun s want hs => fr_ready R G hx inv hkm hk ho s ((slot_looks hsl hg).2 s want hs))).2.2.1]
    exact h3
  refine ⟨?_, ⟨r1.dom, ?_, ?_⟩, r2.dom, r2.inj, r2.disj, ?_, ?_, ?_, ?_, g.os.trans I.os, g.tape.trans I.tape, g.output.trans I.output, Nat.le_trans I.size g.size, ?_, ?_, ?_, ?_, ?_⟩
  · -- the frame
    have e : lw (σ 0).fr (dstAt head) val (lis (listed.setIfInBounds k true)) head.length = putD (lw (σ 0).fr (dstAt head) val (lis listed) head.length) o.dst (val k) := by
      funext t
      rw [lw_put (S := lis listed) hkm hself hne (fun i h1 h2 hs t hdk hdi => ?_), dstAt_of hvo, hdst]
      obtain ⟨oi, g1, _, g3, _⟩ := G.get i head[i] (List.getElem?_eq_getElem h2)
      rw [dstAt_of (List.getElem?_eq_getElem h2), g3] at hdi
      rw [dstAt_of hvo, hdst] at hdk
      rcases hx.pair k i o oi h1 ho g1 with h4 | h4
      · rw [late_un inv hun h4] at hs; cases hs
      · exact (Oper.apart_spec h4).2.1 t hdk hdi
    rw [e]
    exact (I.fr.mono leR leL).put hv hd
  · -- rows
    intro b r o c cs own hb hrow
    by_cases hlt : b < (σ (k + 1)).H.length
    · rw [hH2 b hlt] at hrow
      exact r1.row b r o c cs own hb hrow
    · rw [g.extR b (Or.inr (by omega))] at hb
      obtain ⟨C, el, fz, h1, h2, h3, h4, h5⟩ := I.H.row b r o c cs own hb hrow
      exact ⟨C, el, fz, by rw [keepO r (I.H.dom b r o c hb) fun i _ hi => I.disj i r b o c hi hb]; exact h1, h2, h3, h4, h5.mono leR⟩
  · -- one row, one block
    intro b1 b2 r o1 c1 o2 c2 cs1 cs2 own2 h1 h2 hr1 hr2
    by_cases n1 : (σ k).H.length ≤ b1 ∧ b1 < (σ (k + 1)).H.length <;> by_cases n2 : (σ k).H.length ≤ b2 ∧ b2 < (σ (k + 1)).H.length
    · rw [hH2 b1 n1.2] at hr1
      rw [hH2 b2 n2.2] at hr2
      exact r1.inj b1 b2 r o1 c1 o2 c2 cs1 cs2 own2 h1 h2 hr1 hr2
    · rw [g.extR b2 (by omega)] at h2
      have := newRk b1 r o1 c1 n1.1 n1.2 h1
      have := I.H.dom b2 r o2 c2 h2
      omega
    · rw [g.extR b1 (by omega)] at h1
      have := newRk b2 r o2 c2 n2.1 n2.2 h2
      have := I.H.dom b1 r o1 c1 h1
      omega
    · rw [g.extR b1 (by omega)] at h1
      rw [g.extR b2 (by omega)] at h2
      exact I.H.inj b1 b2 r o1 c1 o2 c2 cs1 cs2 own2 h1 h2 hr1 hr2
  · -- the activation's variables
    intro id r cs hr hcs
    rw [mw_put (S := lis listed) hkm hself hne (fun hw i h1 h2 hs => ?_)] at hcs
    · split at hcs
      · rename_i hw
        refine r2.row id r cs ?_ hr hcs
        rcases wrt_iff.1 hw with h | h
        · exact Or.inl (stores_acts h)
        · exact Or.inr h.1
      · rename_i hw
        have hnw : ¬ (stores head σ k id ∨ ((σ k).L.length ≤ id ∧ id < (σ (k + 1)).L.length)) := fun h => hw (wrt_iff.2 h)
        have hl : lam id = some r := by
          rw [← g.extL id (by
            by_cases h : id < (σ k).L.length
            · exact Or.inl h
            · exact Or.inr (by
                by_cases h2 : id < (σ (k + 1)).L.length
                · exact absurd (Or.inr ⟨by omega, h2⟩) hnw
                · omega))]; exact hr
        by_cases hact : acts head σ k id
        · rw [mw_ready hc R G inv I hkm hk hact hl] at hcs
          refine r2.row id r cs (Or.inl hact) hr ?_
          obtain ⟨_, _, e3⟩ := run_ext hc R hkm
          rw [e3 id (acts_lt R hact) (fun h => hnw (Or.inl h))]; exact hcs
        · refine ((I.row id r cs hl hcs).mono leR).keep (keepO r (I.dom id r hl) fun i hi hlr => ?_)
          exact hact (by rw [← I.inj i id r hlr hl]; exact hi)
    · cases hwi : wrt head σ i id with
      | false => rfl
      | true =>
        exfalso
        have hLi := run_L hc R (i := k + 1) (j := i) (by omega) (by omega)
        rcases wrt_iff.1 hwi with hsi | ⟨g1, g2⟩
        · rcases wrt_iff.1 hw with hsk | ⟨g1, g2⟩
          · have := late_un inv hun (conflict R G h1 h2 (stores_acts hsk) (stores_acts hsi) (Or.inl hsk))
            rw [hs] at this; cases this
          · obtain ⟨r', hr'⟩ := I.acc i id h2 hs (stores_acts hsi)
            have := fL id g1 g2
            rw [this] at hr'; cases hr'
        · rcases wrt_iff.1 hw with hsk | ⟨k1, k2⟩
          · have := acts_lt R (stores_acts hsk)
            omega
          · omega
  · intro i him hl b h1 h2
    by_cases e : i = k
    · subst e; rw [hself] at hl; cases hl
    · rw [hne i e] at hl
      rw [g.extR b ?_]
      · exact I.freeR i him hl b h1 h2
      · by_cases hlt : i < k
        · have := (run_H hc R (i := i + 1) (j := k) (by omega) (by omega)).1; omega
        · have := (run_H hc R (i := k + 1) (j := i) (by omega) (by omega)).1; omega
  · intro i him hl b h1 h2
    by_cases e : i = k
    · subst e; rw [hself] at hl; cases hl
    · rw [hne i e] at hl
      rw [g.extL b ?_]
      · exact I.freeL i him hl b h1 h2
      · by_cases hlt : i < k
        · have := run_L hc R (i := i + 1) (j := k) (by omega) (by omega); omega
        · have := run_L hc R (i := k + 1) (j := i) (by omega) (by omega); omega
  · intro i id him hl hact
    by_cases e : i = k
    · subst e
      obtain ⟨r, hr⟩ := memk hact
      exact ⟨r, leL _ _ hr⟩
    · rw [hne i e] at hl
      obtain ⟨r, hr⟩ := I.acc i id him hl hact
      exact ⟨r, leL _ _ hr⟩
  · intro b hb
    rw [g.extR b (by omega)]; exact I.extR b hb
  · intro i hi
    rw [g.extL i (by omega)]; exact I.extL i hi
  · intro b r o c h1 h2 hb
    by_cases n : (σ k).H.length ≤ b ∧ b < (σ (k + 1)).H.length
    · exact Nat.le_trans I.size (newRk b r o c n.1 n.2 hb)
    · rw [g.extR b (by omega)] at hb
      exact I.newR b r o c h1 h2 hb
  · intro i r h1 h2 hi
    by_cases n : (σ k).L.length ≤ i ∧ i < (σ (k + 1)).L.length
    · exact Nat.le_trans I.size (g.newL i r n.1 n.2 hi)
    · rw [g.extL i (by omega)] at hi
      exact I.newL i r h1 h2 hi
  · intro r hr hno
    rw [← I.keep r hr hno]
    refine keepO r (Nat.lt_of_lt_of_le hr I.size) fun i _ hi => ?_
    by_cases h1 : i < (σ 0).L.length ∨ (σ head.length).L.length ≤ i
    · rw [I.extL i h1] at hi; exact hno i hi
    · have := I.newL i r (by omega) (by omega) hi; omega

/-- what holds at the start -/
theorem inv_start (hc : CallExt call) (R : Run call head σ acc val) {s : St} (h0 : σ 0 = s) (hst : Stands ρ0 lam0 s a w) (hfR : FreeR ρ0 s.H.length (σ head.length).H.length) (hfL : FreeL lam0 s.L.length (σ head.length).L.length) {S : Nat → Bool}
    (hS : ∀ i, S i = false) : Inv head σ val ρ0 lam0 w S ρ0 lam0 a w := by
  have hlw : ∀ m, lw (σ 0).fr (dstAt head) val S m = (σ 0).fr := by
    intro m
    induction m with
    | zero => rfl
    | succ m ih => simp [lw, hS, ih]
  have hmw : ∀ m id, mw (fun i => (σ i).L) (wrt head σ) S m id = (σ 0).L[id]? := by
    intro m id
    induction m with
    | zero => rfl
    | succ m ih => simp [mw, hS, ih]
  obtain ⟨hH1, hH2⟩ := run_H hc R (i := 0) (j := head.length) (by omega) (Nat.le_refl _)
  subst h0
  refine ⟨by rw [hlw]; exact hst.fr, ⟨hst.H.dom, fun b r o c cs own hb hrow => ?_, fun b1 b2 r o1 c1 o2 c2 cs1 cs2 own2 h1 h2 hr1 hr2 => ?_⟩, hst.L.dom, hst.L.inj, hst.L.disj, fun id r cs hr hcs => ?_, fun i hi _ b h1 h2 => ?_, fun i hi _ b h1 h2 => ?_,
    fun i id _ hl => ?_, rfl, rfl, rfl, Nat.le_refl _, fun _ _ => rfl, fun _ _ => rfl, fun b r o c h1 h2 hb => ?_, fun i r h1 h2 hi => ?_, fun _ _ _ => rfl⟩
  · have : b < (σ 0).H.length := by
      by_cases h : b < (σ 0).H.length
      · exact h
      · have hlt := (List.getElem?_eq_some_iff.1 hrow).1
        rw [hfR b (by omega) hlt] at hb; cases hb
    rw [hH2 b this] at hrow
    exact hst.H.row b r o c cs own hb hrow
  · have lt : ∀ b r o c cs own, ρ0 b = some (r, o, c) → (σ head.length).H[b]? = some (Blk.row cs own) → b < (σ 0).H.length := by
      intro b r o c cs own hb hrow
      by_cases h : b < (σ 0).H.length
      · exact h
      · have hlt := (List.getElem?_eq_some_iff.1 hrow).1
        rw [hfR b (by omega) hlt] at hb; cases hb
    rw [hH2 b1 (lt _ _ _ _ _ _ h1 hr1)] at hr1
    rw [hH2 b2 (lt _ _ _ _ _ _ h2 hr2)] at hr2
    exact hst.H.inj b1 b2 r o1 c1 o2 c2 cs1 cs2 own2 h1 h2 hr1 hr2
  · rw [hmw] at hcs
    exact hst.L.row id r cs trivial hr hcs
  · have q1 := (run_H hc R (i := 0) (j := i) (by omega) (by omega)).1
    have q2 := (run_H hc R (i := i + 1) (j := head.length) (by omega) (Nat.le_refl _)).1
    exact hfR b (by omega) (by omega)
  · have q1 := run_L hc R (i := 0) (j := i) (by omega) (by omega)
    have q2 := run_L hc R (i := i + 1) (j := head.length) (by omega) (Nat.le_refl _)
    exact hfL b (by omega) (by omega)
  · rw [hS i] at hl; cases hl
  · rw [hfR b h1 h2] at hb; cases hb
  · rw [hfL i h1 h2] at hi; cases hi

/-- what holds at the end -/
theorem inv_end (hc : CallExt call) (R : Run call head σ acc val) (I : Inv head σ val ρ0 lam0 w0 (lis listed) ρ lam a w) (hall : ∀ i, i < head.length → lis listed i = true) {lim : Nat} :
    Stands ρ lam (σ head.length) a w ∧ Grow lim (fun _ => True) ρ0 lam0 (σ 0).L (σ 0).H w0 ρ lam (σ head.length).L (σ head.length).H w := by
  obtain ⟨hH1, hH2⟩ := run_H hc R (i := 0) (j := head.length) (by omega) (Nat.le_refl _)
  have hL := run_L hc R (i := 0) (j := head.length) (by omega) (Nat.le_refl _)
  refine ⟨⟨?_, I.H, I.dom, I.inj, I.disj, fun id r cs _ hr hcs => I.row id r cs hr ?_⟩, I.os, I.tape, I.output, I.size, hH1, hL, I.extR, I.extL, fun b r o c h1 h2 h3 => Or.inl (I.newR b r o c h1 h2 h3), I.newL,
    fun r hr _ ht => I.keep r hr fun i => ht i trivial, fun b hb ⟨cs, hcs⟩ => ⟨cs, by rw [← hH2 b hb]; exact hcs⟩⟩
  · have : (σ head.length).fr = lw (σ 0).fr (dstAt head) val (lis listed) head.length := by
      rw [fr_lw R (Nat.le_refl _)]
      funext t
      exact lw_agree fun i hi _ => (hall i hi).symm
    rw [this]; exact I.fr
  · rw [← hcs, L_mw hc R (Nat.le_refl _) id]
    exact mw_agree fun i hi _ => hall i hi

end
end Go.Proofs.Ytlljkhhdhedajaa.Vm
