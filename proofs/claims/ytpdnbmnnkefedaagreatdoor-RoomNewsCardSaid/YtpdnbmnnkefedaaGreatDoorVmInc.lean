/- A drawn region that makes an entry of a map and stores into it (m[k]++): the machine's order stands for whatever order is drawn. -/
import Derived.Test.YtpdnbmnnkefedaaGreatDoorVmAny
namespace Go.Proofs.YtpdnbmnnkefedaaGreatDoor.Vm
open Go
set_option linter.unusedVariables false
set_option linter.unusedSimpArgs false

section
variable {P : Program} {call : CallFn} {glob : List Nat} {nt : Nat} {ops : Array Oper} {head : List VOper} {f : Nat → Fr} {val : Nat → V} {lim : Nat} {L0 : Lo} {H0 H1 : Hp} {e : Nat}
variable {ρ0 : Loc} {lam0 : Lam} {w0 : World} {listed : Array Bool} {r : Option Nat}

theorem eqCell_refl {c : CK} {x : V} {b : Bool} (h : eqCell c x x = some b) : b = true := by
  cases c <;> cases x <;> simp only [eqCell] at h <;> try (cases h; done)
  · split at h
    · cases h; simp
    · cases h
  · cases h; simp
  · cases h; exact ba_beq.2 rfl
theorem eqCells_refl : ∀ {ks : List CK} {xs : List V} {b : Bool}, eqCells ks xs xs = some b → b = true
  | [], [], b, h => by simp [eqCells] at h; exact h
  | k :: ks, x :: xs, b, h => by
    simp only [eqCells] at h
    split at h
    · rename_i p q hp hq
      cases h
      rw [eqCell_refl hp, eqCells_refl hq]; rfl
    · cases h
  | [], x :: xs, b, h => by simp [eqCells] at h
  | k :: ks, [], b, h => by simp [eqCells] at h
theorem keyOk_self {g : Bool} {ks : List CK} {k : V} (h : keyOk g ks k = true) : (if isAggV k == isAggV k then eqCells ks (cellsV k) (cellsV k) else none) = some true := by
  simp only [keyOk, Bool.and_eq_true] at h
  obtain ⟨b, hb⟩ := Option.isSome_iff_exists.1 h.2
  have := eqCells_refl hb
  subst this
  simp [hb]
theorem mfind_setK {ks : List CK} {k : V} (hs : (if isAggV k == isAggV k then eqCells ks (cellsV k) (cellsV k) else none) = some true) : ∀ {es : List (V × V)} {i : Nat} {v : V}, mfind ks k es = some (some (i, v)) → mfind ks k (es.set i (k, v)) = some (some (i, v))
  | [], i, v, h => by simp [mfind] at h
  | (k', u) :: es, i, v, h => by
    simp only [mfind] at h
    split at h
    · cases h
      simp only [List.set_cons_zero, mfind]
      rw [hs]
    · rename_i hq
      cases hm : mfind ks k es with
      | none => rw [hm] at h; cases h
      | some r =>
        rw [hm] at h
        cases r with
        | none => cases h
        | some jv =>
          obtain ⟨j, w⟩ := jv
          simp only at h; cases h
          have ih := mfind_setK hs hm
          simp only [List.set_cons_succ, mfind]
          rw [hq, ih]
    · cases h
theorem mfind_pushK {ks : List CK} {k z : V} (hs : (if isAggV k == isAggV k then eqCells ks (cellsV k) (cellsV k) else none) = some true) : ∀ {es : List (V × V)}, mfind ks k es = some none → mfind ks k (es ++ [(k, z)]) = some (some (es.length, z))
  | [], h => by simp only [List.nil_append, mfind]; rw [hs]; rfl
  | (k', u) :: es, h => by
    simp only [mfind] at h
    split at h
    · cases h
    · rename_i hq
      cases hm : mfind ks k es with
      | none => rw [hm] at h; cases h
      | some r =>
        rw [hm] at h
        cases r with
        | some jv => cases h
        | none =>
          have ih := mfind_pushK (z := z) hs hm
          simp only [List.cons_append, mfind]
          rw [hq, ih]; rfl
    · cases h
/-- what making an entry does -/
theorem vment_spec {g : Bool} {ks : List CK} {z x k v : V} (h : vment lim g ks z H0 x k = some (v, H1)) : ∃ b es es1, H0[b]? = some (.map es) ∧ H1 = H0.set b (.map es1) ∧ vmget g ks false z H1 x k = vmget g ks false z H0 x k := by
  unfold vment at h
  split at h
  case h_2 => cases h
  rename_i b
  split at h
  case isFalse => cases h
  split at h
  case h_2 => cases h
  rename_i es hb
  split at h
  case isFalse => cases h
  rename_i hk
  simp only [Bool.and_eq_true] at hk
  have hs := keyOk_self hk.1
  have hlt : b < H0.length := (List.getElem?_eq_some_iff.1 hb).1
  split at h
  · rename_i i u hf
    cases h
    refine ⟨b, es, _, hb, rfl, ?_⟩
    simp only [vmget, List.getElem?_set_self hlt, hb, hk.1, if_true, mfind_setK hs hf, hf]
  · rename_i hf
    cases h
    refine ⟨b, es, _, hb, rfl, ?_⟩
    simp only [vmget, List.getElem?_set_self hlt, hb, hk.1, if_true, mfind_pushK hs hf, hf]
    rfl
  · cases h

structure RunI (call : CallFn) (lim : Nat) (head : List VOper) (f : Nat → Fr) (val : Nat → V) (L0 : Lo) (H0 H1 : Hp) (e : Nat) : Prop where
  stepf : ∀ (i : Nat) vo, head[i]? = some vo → f (i + 1) = putD (f i) vo.dst (val i)
  quiet : ∀ (i : Nat) vo, head[i]? = some vo → i ≠ e → ∀ H, H = H0 ∨ H = H1 → evVal call lim vo ⟨f i, L0, H⟩ = some (val i, L0, H)
  ent : ∀ vo, head[e]? = some vo → evVal call lim vo ⟨f e, L0, H0⟩ = some (val e, L0, H1)
  len : H1.length = H0.length
  elt : e < head.length

structure RegI (P : Program) (glob : List Nat) (nt : Nat) (ops : Array Oper) (head : List VOper) : Prop where
  get : ∀ (i : Nat) vo, head[i]? = some vo → ∃ o, ops[i]? = some o ∧ slimOp P glob o = some vo.op ∧ vo.dst = o.dst ∧ (∀ d, o.dst = some d → d < nt) ∧
    (match o.guard with | none => vo.guard = none | some (j, want) => ∃ s, (ops[j]?).bind (·.dst) = some s ∧ vo.guard = some (s, want))
  len : head.length ≤ ops.size

theorem fr_lwI (R : RunI call lim head f val L0 H0 H1 e) : ∀ {k : Nat}, k ≤ head.length → f k = lw (f 0) (dstAt head) val (fun _ => true) k
  | 0, _ => rfl
  | k + 1, hk => by
    obtain ⟨vo, hvo⟩ : ∃ vo, head[k]? = some vo := ⟨head[k], List.getElem?_eq_getElem (by omega)⟩
    rw [R.stepf k vo hvo, fr_lwI R (k := k) (by omega)]
    simp [lw, dstAt_of hvo]

theorem fr_readyI (R : RunI call lim head f val L0 H0 H1 e) (G : RegI P glob nt ops head) (hx : Lex ops) (inv : HeadInv .any ops head.length listed) {k : Nat} (hkm : k < head.length) (hk : k ∈ Region.ready .any ops listed) {o : Oper} (ho : ops[k]? = some o) :
    ∀ t ∈ o.looksAt ops, lw (f 0) (dstAt head) val (lis listed) head.length t = f k t := by
  intro t ht
  have hun := ready_un hk
  rw [fr_lwI R (Nat.le_of_lt hkm)]
  have geto : ∀ i, i < head.length → ∃ oi vo, ops[i]? = some oi ∧ head[i]? = some vo ∧ dstAt head i = oi.dst := by
    intro i hi
    obtain ⟨oi, h1, _, h3, _⟩ := G.get i head[i] (List.getElem?_eq_getElem hi)
    exact ⟨oi, head[i], h1, List.getElem?_eq_getElem hi, by rw [dstAt_of (List.getElem?_eq_getElem hi), h3]⟩
  rw [lw_stop (k := k) (Nat.le_of_lt hkm) fun i h1 h2 hd => ?_]
  · refine lw_agree (S' := fun _ => true) fun i hi hd => ?_
    obtain ⟨oi, vo, h1, _, h3⟩ := geto i (by omega)
    rw [h3] at hd
    rcases hx.pair i k oi o hi h1 ho with h4 | h4
    · exact ready_dep hk h4
    · exact absurd ht ((Oper.apart_spec h4).1 t hd)
  · by_cases e : i = k
    · subst e; exact hun
    · obtain ⟨oi, vo, g1, _, g3⟩ := geto i h2
      rw [g3] at hd
      rcases hx.pair k i o oi (by omega) ho g1 with h4 | h4
      · exact late_un inv hun h4
      · exact absurd ht ((Oper.apart_spec h4).2.2 t hd)

/-- how far it is -/
def stI (head : List VOper) (f : Nat → Fr) (val : Nat → V) (L0 : Lo) (H0 H1 : Hp) (e : Nat) (S : Nat → Bool) : St := ⟨lw (f 0) (dstAt head) val S head.length, L0, if S e then H1 else H0⟩

theorem inc_any {Q : Exit → Act → World → Prop} (hcall : CallOk P call) (R : RunI call lim head f val L0 H0 H1 e) (G : RegI P glob nt ops head) (hx : Lex ops)
    (hmode : head.length < ops.size ∧ Region.sinkB .any ops head.length = true ∧ Region.chainB .any ops head.length = true) {n0 : Nat} (hn0 : nt ≤ n0) {d0 : List Deferred}
    (hK : ∀ a ρ lam w, a.tmps.size = n0 → a.defers = d0 → Stands ρ lam ⟨f head.length, L0, H1⟩ a w → Grow lim (fun _ => True) ρ0 lam0 L0 H0 w0 ρ lam L0 H1 w →
      wpOpsIn (rF r) 0 P ops Q (List.range' head.length (ops.size - head.length)) a w) :
    ∀ (c : Nat) (listed : Array Bool) (ρ : Loc) (lam : Lam) (a : Act) (w : World), cnt head.length (fun i => !lis listed i) = c → HeadInv .any ops head.length listed → Stands ρ lam (stI head f val L0 H0 H1 e (lis listed)) a w →
      Grow lim (fun _ => True) ρ0 lam0 L0 H0 w0 ρ lam L0 (if lis listed e then H1 else H0) w → a.tmps.size = n0 → a.defers = d0 →
      wpAnyIn (rF r) 0 P .any ops Q (c + (ops.size - head.length)) listed a w
  | 0, listed, ρ, lam, a, w, hcnt, inv, hst, hgr, hsz, hdf => by
    have hall : ∀ i, i < head.length → lis listed i = true := by
      intro i hi
      have := cnt_zero hcnt i hi
      simpa using this
    have he := hall e R.elt
    rw [he] at hgr
    have hfr : lw (f 0) (dstAt head) val (lis listed) head.length = f head.length := by
      rw [fr_lwI R (Nat.le_refl _)]
      funext t
      exact lw_agree fun i hi _ => hall i hi
    have h1 : Stands ρ lam ⟨f head.length, L0, H1⟩ a w := by
      have := hst
      unfold stI at this
      rw [hfr, he] at this; exact this
    rw [Nat.zero_add]
    have hle := G.len
    refine wpAny_tail hx (m := head.length) (fun hlt => hmode.2.2) (ops.size - head.length) head.length listed a w (Nat.le_refl _) (by omega) inv.size (fun j hj => ?_) (hK a ρ lam w hsz hdf h1 hgr)
    by_cases hlt : j < head.length
    · have := hall j hlt
      have hjl : j < listed.size := by rw [inv.size]; exact hj
      unfold lis at this
      refine ⟨?_, by rw [this]; simp [hlt]⟩
      simp [hjl] at this ⊢
      rw [this]; simp [hlt]
    · have := inv.tail j (by omega) hj
      refine ⟨by rw [this]; simp [hlt], by rw [getD_both this]; simp [hlt]⟩
  | c + 1, listed, ρ, lam, a, w, hcnt, inv, hst, hgr, hsz, hdf => by
    have hle := G.len
    have hex : ∃ i, i < head.length ∧ lis listed i = false := by
      apply Classical.byContradiction
      intro hno
      have : cnt head.length (fun i => !lis listed i) = cnt head.length (fun _ => false) := cnt_congr fun i hi => by
        cases hq : lis listed i with
        | true => rfl
        | false => exact absurd ⟨i, hi, hq⟩ hno
      have hz : ∀ n, cnt n (fun _ => false) = 0 := by
        intro n
        induction n with
        | zero => rfl
        | succ n ih => simp [cnt, ih]
      rw [this, hz] at hcnt
      omega
    obtain ⟨i0, hi0, hun0, hbef⟩ := least hex
    have hun0' : listed.getD i0 true = false := getD_in (by rw [inv.size]; omega) hun0
    have hready : i0 ∈ Region.ready .any ops listed := by
      refine mem_ready.2 ⟨hun0', ops[i0], Array.getElem?_eq_getElem (by omega), fun e he hb => ?_⟩
      exact hbef e.on (hx.back i0 _ (Array.getElem?_eq_getElem (by omega)) e he hb)
    rw [show c + 1 + (ops.size - head.length) = (c + (ops.size - head.length)) + 1 by omega]
    refine ⟨fun h0 => absurd hready (by rw [h0]; simp), fun k hk => ?_⟩
    have hkm : k < head.length := by
      obtain ⟨h1, h2, h3⟩ := hmode
      rcases Nat.lt_or_ge k head.length with h | h
      · exact h
      · exact absurd hk (tail_waits h2 h3 h1 inv _ i0 rfl hi0 hun0' k h)
    have hvo : head[k]? = some head[k] := List.getElem?_eq_getElem hkm
    obtain ⟨o, ho, hsl, hdst, hd, hg⟩ := G.get k head[k] hvo
    have hun := ready_un hk
    have hfr := fr_readyI (val := val) R G hx inv hkm hk ho
    obtain ⟨hlk1, hlk2⟩ := slot_looks hsl hg
    have hklt : k < listed.size := by rw [inv.size]; omega
    have hset : ∀ i, lis (listed.setIfInBounds k true) i = if i = k then true else lis listed i := fun i => lis_set hklt
    have hlen : ∀ b : Bool, (if b then H1 else H0).length = H0.length := fun b => by cases b <;> simp [R.len]
    -- the step, in this order
    have hstep : evVal call lim head[k] (stI head f val L0 H0 H1 e (lis listed)) = some (val k, L0, if lis (listed.setIfInBounds k true) e then H1 else H0) := by
      unfold stI
      by_cases hke : k = e
      · subst hke
        rw [hun, hset, if_pos rfl]
        obtain ⟨e1, _⟩ := evVal_congr (call := call) (lim := lim) (L := L0) (H := H0) (vo := head[k]) (fun t ht => hfr t (hlk1 t ht)) (fun s want hs => hfr s (hlk2 s want hs))
        exact e1.trans (R.ent _ hvo)
      · have hse : lis (listed.setIfInBounds k true) e = lis listed e := by rw [hset, if_neg (fun h => hke h.symm)]
        rw [hse]
        obtain ⟨e1, _⟩ := evVal_congr (call := call) (lim := lim) (L := L0) (H := if lis listed e then H1 else H0) (vo := head[k]) (fun t ht => hfr t (hlk1 t ht)) (fun s want hs => hfr s (hlk2 s want hs))
        refine e1.trans (R.quiet k _ hvo hke _ ?_)
        cases lis listed e
        · exact Or.inl rfl
        · exact Or.inr rfl
    have hfR : FreeR ρ (if lis listed e then H1 else H0).length (if lis (listed.setIfInBounds k true) e then H1 else H0).length := fun b h1 h2 => by rw [hlen] at h1 h2; omega
    have hfL : FreeL lam L0.length L0.length := fun b h1 h2 => by omega
    refine step_sim (A := fun _ => True) (nt := nt) (lim := lim) (glob := glob) hcall ho hsl hg hstep hst.fr hst.H hst.L (fun _ _ _ => trivial) hfR hfL (fun x ρ' lam' w' hv g r1 r2 => ?_)
    have r2' : RelL (fun _ => True) ρ' lam' L0 w' := ⟨r2.dom, r2.inj, r2.disj, fun id r cs _ hi hcs => r2.row id r cs (Or.inl trivial) hi hcs⟩
    have hst1 := hst.put (dst := o.dst) hv g hfR hfL r1 r2' (fun d e => Nat.lt_of_lt_of_le (hd d e) (by omega))
    have hst2 : Stands ρ' lam' (stI head f val L0 H0 H1 e (lis (listed.setIfInBounds k true))) (a.put o.dst x) w' := by
      have ef : lw (f 0) (dstAt head) val (lis (listed.setIfInBounds k true)) head.length = putD (lw (f 0) (dstAt head) val (lis listed) head.length) o.dst (val k) := by
        funext t
        rw [lw_put (S := lis listed) hkm (by rw [hset, if_pos rfl]) (fun i h => by rw [hset, if_neg h]) (fun i h1 h2 hs t hdk hdi => ?_), dstAt_of hvo, hdst]
        obtain ⟨oi, g1, _, g3, _⟩ := G.get i head[i] (List.getElem?_eq_getElem h2)
        rw [dstAt_of (List.getElem?_eq_getElem h2), g3] at hdi
        rw [dstAt_of hvo, hdst] at hdk
        rcases hx.pair k i o oi h1 ho g1 with h4 | h4
        · rw [late_un inv hun h4] at hs; cases hs
        · exact (Oper.apart_spec h4).2.1 t hdk hdi
      unfold stI
      rw [ef]; exact hst1
    refine inc_any hcall R G hx hmode hn0 hK c (listed.setIfInBounds k true) ρ' lam' (a.put o.dst x) w' ?_ (inv.set hk hkm) hst2 (Grow.trans hgr g.tgTrue hst.L.dom) (by rw [size_put]; exact hsz) (by rw [defers_put]; exact hdf)
    have := cnt_one (n := head.length) (k := k) (p := fun i => !lis listed i) (q := fun i => !lis (listed.setIfInBounds k true) i) hkm (by simp [hun]) (by simp [hset]) (fun i hi => by simp [hset, hi])
    omega

theorem entAt_spec : ∀ {l : List VOper} {e : Nat} {p : EntP}, entAt l = some (e, p) → ∃ o, l[e]? = some o ∧ isEnt o.op = some p
  | [], e, p, h => by simp [entAt] at h
  | o :: l, e, p, h => by
    simp only [entAt] at h
    split at h
    · rename_i q hq
      cases h; exact ⟨o, rfl, hq⟩
    · split at h
      · rename_i q hq
        cases h
        obtain ⟨o', h1, h2⟩ := entAt_spec (l := l) (e := q.1) (p := q.2) hq
        exact ⟨o', by simpa using h1, h2⟩
      · cases h
theorem isEnt_spec {op : VOp} {g : Bool} {ks : List CK} {k : IntKind} {z : Int} {m c : Nat} (h : isEnt op = some (g, ks, k, z, m, c)) : op = .x (.ment g ks (.int k z)) [.t m, .t c] := by
  unfold isEnt at h
  split at h
  · cases h; rfl
  · cases h
theorem load_same {b : Nat} {es es1 : List (V × V)} (hb : H0[b]? = some (.map es)) {agg : Option Nat} {v : V} : vload agg L0 (H0.set b (.map es1)) v = vload agg L0 H0 v := by
  have hlt : b < H0.length := (List.getElem?_eq_some_iff.1 hb).1
  cases v <;> simp only [vload]
  rename_i b' off
  by_cases e : b = b'
  · subst e; rw [List.getElem?_set_self hlt, hb]
  · rw [List.getElem?_set_ne e]
/-- an operation that does not mind: what it gives, with the entry or without it -/
theorem quiet_same {p : EntP} {op : VOp} (hq : quietOp p op = true) {fr : Fr} {x k v0 : V} (he : vment lim p.1 p.2.1 (.int p.2.2.1 p.2.2.2.1) H0 x k = some (v0, H1)) (hm : isMget op = true → fr p.2.2.2.2.1 = x ∧ fr p.2.2.2.2.2 = k) :
    ∃ r : Option V, evOp lim fr L0 H0 op = pureV L0 H0 r ∧ evOp lim fr L0 H1 op = pureV L0 H1 r := by
  obtain ⟨b, es, es1, hb, rfl, hg⟩ := vment_spec he
  cases op <;> simp only [quietOp] at hq <;> try (cases hq; done)
  · exact ⟨some (opd fr _), rfl, rfl⟩
  · rename_i agg a
    exact ⟨vload agg L0 H0 (opd fr a), rfl, by simp only [evOp, load_same hb]⟩
  · exact ⟨_, rfl, rfl⟩
  · exact ⟨_, rfl, rfl⟩
  · exact ⟨_, rfl, rfl⟩
  · split at hq
    · rename_i heq; cases heq
    · rename_i heq; cases heq
    · rename_i heq; cases heq
    · rename_i heq; cases heq
    · rename_i heq; cases heq
    · rename_i g ks kk z m c heq
      cases heq
      have hq := of_decide_eq_true hq
      subst hq
      obtain ⟨e1, e2⟩ := hm rfl
      simp only at hg e1 e2
      refine ⟨vmget g ks false (.int kk z) H0 x k, ?_, ?_⟩
      · simp only [evOp, opds, opd, evX, e1, e2]
        cases vmget g ks false (.int kk z) H0 x k <;> rfl
      · simp only [evOp, opds, opd, evX, e1, e2, hg]
        cases vmget g ks false (.int kk z) H0 x k <;> rfl
    · cases hq

/-- the states in the order of the text -/
theorem states_of : ∀ {l : List VOper} {s s' : St}, evOps call lim l s = some s' → ∃ (σ : Nat → St) (val : Nat → V), σ 0 = s ∧ σ l.length = s' ∧ ∀ (i : Nat) vo, l[i]? = some vo → evVal call lim vo (σ i) = some (val i, (σ (i + 1)).L, (σ (i + 1)).H) ∧ (σ (i + 1)).fr = putD (σ i).fr vo.dst (val i)
  | [], s, s', h => by
    simp [evOps] at h; subst h
    exact ⟨fun _ => s, fun _ => dv, rfl, rfl, fun i vo hi => by simp at hi⟩
  | o :: l, s, s', h => by
    simp only [evOps] at h
    split at h
    case h_2 => cases h
    rename_i s1 h1
    obtain ⟨v, hv, hfr⟩ := evStep_spec h1
    obtain ⟨σ, val, e0, em, hs⟩ := states_of h
    refine ⟨fun i => match i with | 0 => s | i + 1 => σ i, fun i => match i with | 0 => v | i + 1 => val i, rfl, by simpa using em, fun i vo hi => ?_⟩
    cases i with
    | zero =>
      simp at hi; subst hi
      simp only [e0]
      exact ⟨hv, hfr⟩
    | succ i => exact hs i vo (by simpa using hi)

/-- the run with an entry -/
theorem runI_of {p : EntP} {vops : List VOper} {n : Nat} {σ : Nat → St} (hn : n + 1 = vops.length) (hσ : ∀ (i : Nat) vo, vops[i]? = some vo → evVal call lim vo (σ i) = some (val i, (σ (i + 1)).L, (σ (i + 1)).H) ∧ (σ (i + 1)).fr = putD (σ i).fr vo.dst (val i))
    (he : entAt vops = some (e, p)) (hen : e < n) (hq : (List.range n).all (quietAt p e vops) = true) (hea : (List.range n).all (earlyAt p e vops n) = true) :
    ∃ H1, RunI call lim (vops.take n) (fun i => (σ i).fr) val (σ 0).L (σ 0).H H1 e ∧ (σ n).L = (σ 0).L ∧ (σ n).H = H1 := by
  obtain ⟨oe, hoe, hent⟩ := entAt_spec he
  obtain ⟨g, ks, kk, z, m, c⟩ := p
  have hop := isEnt_spec hent
  have tk : ∀ (i : Nat) vo, (vops.take n)[i]? = some vo → i < n ∧ vops[i]? = some vo := by
    intro i vo hi
    rw [List.getElem?_take] at hi
    split at hi
    · rename_i h; exact ⟨h, hi⟩
    · cases hi
  have qt : ∀ (i : Nat) vo, i < n → vops[i]? = some vo → vo.guard = none ∧ (i = e ∨ quietOp (g, ks, kk, z, m, c) vo.op = true) := by
    intro i vo hi hvo
    have := List.all_eq_true.1 hq i (List.mem_range.2 hi)
    unfold quietAt at this
    rw [hvo] at this
    simp only [Bool.and_eq_true, Bool.or_eq_true, beq_iff_eq] at this
    exact ⟨by simpa using this.1, this.2⟩
  have getv : ∀ (i : Nat), i < n → ∃ vo, vops[i]? = some vo := fun i hi => ⟨vops[i], List.getElem?_eq_getElem (by omega)⟩
  -- the frames of the map and of the key
  have frk : ∀ (i : Nat), i < n → (i = e ∨ ∃ vo, vops[i]? = some vo ∧ isMget vo.op = true) → ∀ t, t = m ∨ t = c → ∀ j, i ≤ j → j ≤ n → (σ j).fr t = (σ i).fr t := by
    intro i hi hie t ht j
    induction j with
    | zero => intro h1 _; have : i = 0 := by omega
              subst this; rfl
    | succ j ih =>
      intro h1 h2
      by_cases e1 : i = j + 1
      · subst e1; rfl
      · obtain ⟨vo, hvo⟩ := getv j (by omega)
        rw [(hσ j vo hvo).2, putD_ne, ih (by omega) (by omega)]
        intro hd
        have := List.all_eq_true.1 hea j (List.mem_range.2 (by omega))
        unfold earlyAt at this
        rw [hvo] at this
        simp only [Bool.or_eq_true, Bool.not_eq_true', Bool.or_eq_false_iff, beq_eq_false_iff_ne] at this
        rcases this with h | h
        · rcases ht with rfl | rfl
          · exact h.1 hd
          · exact h.2 hd
        · have := List.all_eq_true.1 h i (List.mem_range.2 hi)
          rcases hie with rfl | ⟨vo', hvo', hmg⟩
          · rw [hoe] at this; simp at this; omega
          · rw [hvo'] at this; simp [hmg] at this; omega
  -- before the entry, nothing of the heap changes; behind it, neither
  have hqv : ∀ (i : Nat) vo, i < n → vops[i]? = some vo → i ≠ e → ∃ r : Option V, (∃ op, vo.op = op ∧ quietOp (g, ks, kk, z, m, c) op = true) ∧ vo.guard = none := fun i vo hi hvo hne => by
    obtain ⟨h1, h2⟩ := qt i vo hi hvo
    exact ⟨none, ⟨vo.op, rfl, h2.resolve_left hne⟩, h1⟩
  have evq : ∀ (vo : VOper) (fr : Fr) (L : Lo) (H : Hp), vo.guard = none → evVal call lim vo ⟨fr, L, H⟩ = match evOp lim fr L H vo.op with
      | some (.val v L' H') => some (v, L', H')
      | some (.call f args) => match call lim f args H with
        | some (v, H') => some (v, L, H')
        | none => none
      | none => none := by
    intro vo fr L H hgd
    simp only [evVal, hgd, wanted, if_true]
    rfl
  have quietStep : ∀ (i : Nat) vo, i < n → vops[i]? = some vo → i ≠ e → (σ (i + 1)).L = (σ i).L ∧ (σ (i + 1)).H = (σ i).H := by
    intro i vo hi hvo hne
    obtain ⟨h1, h2⟩ := qt i vo hi hvo
    have h2 := h2.resolve_left hne
    have hv := (hσ i vo hvo).1
    have hv' := hv
    rw [show σ i = ⟨(σ i).fr, (σ i).L, (σ i).H⟩ from rfl, evq vo _ _ _ h1] at hv'
    have key : ∃ r, evOp lim (σ i).fr (σ i).L (σ i).H vo.op = pureV (σ i).L (σ i).H r := by
      generalize vo.op = op at h2
      cases op <;> simp only [quietOp] at h2 <;> try (cases h2; done)
      · exact ⟨some (opd _ _), rfl⟩
      · exact ⟨_, rfl⟩
      · exact ⟨_, rfl⟩
      · exact ⟨_, rfl⟩
      · exact ⟨_, rfl⟩
      · split at h2
        any_goals (rename_i heq; cases heq; done)
        · rename_i g' ks' kk' z' m' c' heq
          cases heq
          refine ⟨vmget g' ks' false (.int kk' z') (σ i).H ((σ i).fr m') ((σ i).fr c'), ?_⟩
          simp only [evOp, opds, opd, evX]
          cases vmget g' ks' false (.int kk' z') (σ i).H ((σ i).fr m') ((σ i).fr c') <;> rfl
        · cases h2
    obtain ⟨r, hr⟩ := key
    rw [hr] at hv'
    cases r with
    | none => simp [pureV] at hv'
    | some v => simp only [pureV, Option.some.injEq, Prod.mk.injEq] at hv'; exact ⟨hv'.2.1.symm, hv'.2.2.symm⟩
  have before : ∀ i, i ≤ e → (σ i).L = (σ 0).L ∧ (σ i).H = (σ 0).H := by
    intro i
    induction i with
    | zero => intro _; exact ⟨rfl, rfl⟩
    | succ i ih =>
      intro hi
      obtain ⟨vo, hvo⟩ := getv i (by omega)
      obtain ⟨a1, a2⟩ := quietStep i vo (by omega) hvo (by omega)
      obtain ⟨b1, b2⟩ := ih (by omega)
      exact ⟨a1.trans b1, a2.trans b2⟩
  obtain ⟨ge, _⟩ := qt e oe hen hoe
  have hev := (hσ e oe hoe).1
  have hev' := hev
  rw [show σ e = ⟨(σ e).fr, (σ e).L, (σ e).H⟩ from rfl, evq oe _ _ _ ge, hop] at hev'
  have hment : ∃ H1, vment lim g ks (.int kk z) (σ 0).H ((σ e).fr m) ((σ e).fr c) = some (val e, H1) ∧ (σ (e + 1)).L = (σ 0).L ∧ (σ (e + 1)).H = H1 := by
    simp only [evOp, opds, opd, evX] at hev'
    rw [(before e (Nat.le_refl _)).2] at hev'
    cases hq2 : vment lim g ks (.int kk z) (σ 0).H ((σ e).fr m) ((σ e).fr c) with
    | none => rw [hq2] at hev'; simp at hev'
    | some r =>
      obtain ⟨v1, H1⟩ := r
      rw [hq2] at hev'
      simp only [Option.some.injEq, Prod.mk.injEq] at hev'
      obtain ⟨h1, h2, h3⟩ := hev'
      exact ⟨H1, by rw [h1], by rw [← h2, (before e (Nat.le_refl _)).1], h3.symm⟩
  obtain ⟨H1, hm1, hL1, hH1⟩ := hment
  have behind : ∀ i, e < i → i ≤ n → (σ i).L = (σ 0).L ∧ (σ i).H = H1 := by
    intro i
    induction i with
    | zero => intro h; omega
    | succ i ih =>
      intro h1 h2
      by_cases e1 : i = e
      · subst e1; exact ⟨hL1, hH1⟩
      · obtain ⟨vo, hvo⟩ := getv i (by omega)
        obtain ⟨a1, a2⟩ := quietStep i vo (by omega) hvo e1
        obtain ⟨b1, b2⟩ := ih (by omega) (by omega)
        exact ⟨a1.trans b1, a2.trans b2⟩
  have hlen : H1.length = (σ 0).H.length := by
    obtain ⟨b, es, es1, _, rfl, _⟩ := vment_spec hm1
    simp
  refine ⟨H1, ⟨fun i vo hi => (hσ i vo (tk i vo hi).2).2, fun i vo hi hne H hH => ?_, fun vo hi => ?_, hlen, by rw [List.length_take]; omega⟩, behind n (by omega) (Nat.le_refl _)⟩
  · obtain ⟨hin, hvo⟩ := tk i vo hi
    obtain ⟨h1, h2⟩ := qt i vo hin hvo
    have h2 := h2.resolve_left hne
    have hmg : isMget vo.op = true → (σ i).fr m = (σ e).fr m ∧ (σ i).fr c = (σ e).fr c := by
      intro hmg
      rcases Nat.lt_or_ge i e with h | h
      · exact ⟨(frk i hin (Or.inr ⟨vo, hvo, hmg⟩) m (Or.inl rfl) e (by omega) (by omega)).symm, (frk i hin (Or.inr ⟨vo, hvo, hmg⟩) c (Or.inr rfl) e (by omega) (by omega)).symm⟩
      · exact ⟨frk e hen (Or.inl rfl) m (Or.inl rfl) i h (by omega), frk e hen (Or.inl rfl) c (Or.inr rfl) i h (by omega)⟩
    obtain ⟨r, r1, r2⟩ := quiet_same (L0 := (σ 0).L) h2 hm1 (fr := (σ i).fr) hmg
    have hv := (hσ i vo hvo).1
    rw [show σ i = ⟨(σ i).fr, (σ i).L, (σ i).H⟩ from rfl, evq vo _ _ _ h1] at hv
    have hri : r = some (val i) := by
      rcases Nat.lt_or_ge i e with h | h
      · rw [(before i (by omega)).1, (before i (by omega)).2, r1] at hv
        cases r with
        | none => simp [pureV] at hv
        | some v => simp only [pureV, Option.some.injEq, Prod.mk.injEq] at hv; rw [hv.1]
      · rw [(behind i (by omega) (by omega)).1, (behind i (by omega) (by omega)).2, r2] at hv
        cases r with
        | none => simp [pureV] at hv
        | some v => simp only [pureV, Option.some.injEq, Prod.mk.injEq] at hv; rw [hv.1]
    subst hri
    rw [evq vo _ _ _ h1]
    rcases hH with rfl | rfl
    · rw [r1]; rfl
    · rw [r2]; rfl
  · obtain ⟨hin, hvo⟩ := tk e vo hi
    rw [hoe] at hvo; cases hvo
    rw [evq oe _ _ _ ge, hop]
    simp only [evOp, opds, opd, evX, hm1]

theorem inc_sim {Q : Exit → Act → World → Prop} {vops : List VOper} {s s2 : St} {ρ : Loc} {lam : Lam} {a : Act} {w : World} {id : Nat} (hm : P.follows .mixedOrders = true) (hcall : CallOk P call) (hc : CallExt call)
    (hops : slimOpers P glob nt ops ops.toList = some vops) (hlex : Region.lexB .any ops = true) (hinc : incOk ops vops = true)
    (h1 : evOps call lim vops s = some s2) (hnt : nt ≤ a.tmps.size) (hst : Stands ρ lam s a w) (hfR : FreeR ρ s.H.length s2.H.length) (hfL : FreeL lam s.L.length s2.L.length)
    (hQ : ∀ a' ρ' lam' w', a'.defers = a.defers → a'.tmps.size = a.tmps.size → Stands ρ' lam' s2 a' w' → Grow lim (fun _ => True) ρ lam s.L s.H w ρ' lam' s2.L s2.H w' → Q .normal a' w') :
    (Code.region id ops true).wpIn (rF r) 0 P Q a w := by
  obtain ⟨hlen, hget⟩ := slimOpers_get hops
  have hlv : vops.length = ops.size := by simpa using hlen
  unfold incOk at hinc
  split at hinc
  · cases hinc
  rename_i e p he
  simp only [Bool.and_eq_true, decide_eq_true_eq] at hinc
  obtain ⟨hen, hsink, hchain, hqt, hea⟩ := hinc
  obtain ⟨n, hn⟩ : ∃ n, n + 1 = ops.size := ⟨ops.size - 1, by omega⟩
  have hn1 : ops.size - 1 = n := by omega
  rw [hn1] at hen hsink hchain hqt hea
  obtain ⟨σ, val, e0, em, hσ⟩ := states_of h1
  obtain ⟨H1, R, hLn, hHn⟩ := runI_of (by omega) hσ he hen hqt hea
  have hhl : (vops.take n).length = n := by rw [List.length_take]; omega
  have regs : ∀ (i : Nat) vo, vops[i]? = some vo → ∃ o, ops[i]? = some o ∧ slimOp P glob o = some vo.op ∧ vo.dst = o.dst ∧ (∀ d, o.dst = some d → d < nt) ∧
      (match o.guard with | none => vo.guard = none | some (j, want) => ∃ s, (ops[j]?).bind (·.dst) = some s ∧ vo.guard = some (s, want)) := by
    intro i vo hi
    have hlt := (List.getElem?_eq_some_iff.1 hi).1
    rw [hlv] at hlt
    obtain ⟨vo', q1, q2⟩ := hget i ops[i] (by simp [hlt])
    rw [hi] at q1; cases q1
    obtain ⟨a1, a2, a3, a4⟩ := slimOper_spec q2
    exact ⟨_, Array.getElem?_eq_getElem hlt, a1, a2, a3, a4⟩
  have G : RegI P glob nt ops (vops.take n) := by
    refine ⟨fun i vo hi => ?_, by omega⟩
    rw [List.getElem?_take] at hi
    split at hi
    · exact regs i vo hi
    · cases hi
  have hx := lex_of hlex
  subst e0
  refine wpIn_region_any hm ?_
  have hst' : Stands ρ lam (σ 0) a w.drew := ⟨hst.fr, hst.H.drew, hst.L.drew⟩
  have hrep : ∀ i, lis (Array.replicate ops.size false) i = false := fun i => getD_replicate_false _ _
  have hlw : ∀ k, lw (σ 0).fr (dstAt (vops.take n)) val (lis (Array.replicate ops.size false)) k = (σ 0).fr := by
    intro k
    induction k with
    | zero => rfl
    | succ k ih => simp only [lw, hrep, Bool.false_eq_true, if_false, ih]
  have hcnt : cnt (vops.take n).length (fun i => !lis (Array.replicate ops.size false) i) = n := by
    rw [hhl, cnt_congr (q := fun _ => true) fun i _ => by simp [hrep]]
    generalize n = n
    induction n with
    | zero => rfl
    | succ n ih => simp [cnt, ih]
  have hs0 : Stands ρ lam (stI (vops.take n) (fun i => (σ i).fr) val (σ 0).L (σ 0).H H1 e (lis (Array.replicate ops.size false))) a w.drew := by
    unfold stI
    rw [hlw, hrep]; exact hst'
  have := inc_any (r := r) (glob := glob) (nt := nt) (Q := Q) hcall R G hx (by rw [hhl]; exact ⟨by omega, hsink, hchain⟩) hnt (d0 := a.defers) (ρ0 := ρ) (lam0 := lam) (w0 := w.drew) (fun a' ρ' lam' w' e1 e2 hs' g => ?_) n (Array.replicate ops.size false) ρ lam a w.drew hcnt
    ⟨by simp, fun j oj _ hl => (by rw [getD_replicate_false] at hl; cases hl), fun t _ ht => by simp [ht]⟩ hs0 (by rw [hrep]; exact Grow.refl) rfl rfl
  · rw [hhl, show n + (ops.size - n) = ops.size by omega] at this
    exact this
  · rw [hhl] at hs' ⊢
    have hsn : (⟨(σ n).fr, (σ 0).L, H1⟩ : St) = σ n := by rw [← hLn, ← hHn]
    rw [hsn] at hs'
    obtain ⟨last, hlast⟩ : ∃ vo, vops[n]? = some vo := ⟨vops[n], List.getElem?_eq_getElem (by omega)⟩
    have htail : evOps call lim [last] (σ n) = some s2 := by
      obtain ⟨q1, q2⟩ := hσ n last hlast
      simp only [evOps, evStep, q1]
      rw [← em, show vops.length = n + 1 by omega, ← q2]
    rw [show ops.size - n = [last].length by simp; omega]
    have g' : Grow lim (fun _ => True) ρ lam (σ 0).L (σ 0).H w ρ' lam' (σ n).L (σ n).H w' := by rw [hLn, hHn]; exact g.ofDrew
    refine seq_sim (glob := glob) (nt := nt) (lim := lim) hcall hc [last] n (σ n) s2 ρ' lam' a' w' (fun i vo hi => ?_) htail (by omega) hs' (g'.freeR (Nat.le_refl _) fun b g1 g2 => hfR b (by have := g'.lenH; omega) g2)
      (g'.freeL (Nat.le_refl _) fun b g1 g2 => hfL b (by have := g'.lenL; omega) g2) (fun a'' ρ'' lam'' w'' f1 f2 hs'' g2 => hQ a'' ρ'' lam'' w'' (f1.trans e2) (f2.trans e1) hs'' ?_)
    · cases i with
      | zero => simp at hi; subst hi; exact regs n last hlast
      | succ i => simp at hi
    · exact Grow.trans g' g2 hs'.L.dom
end
end Go.Proofs.YtpdnbmnnkefedaaGreatDoor.Vm
