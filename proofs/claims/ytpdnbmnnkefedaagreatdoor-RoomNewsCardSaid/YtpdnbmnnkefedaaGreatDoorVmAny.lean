/- A drawn region: the machine's order of the text stands for whatever order is drawn. -/
import Derived.Test.YtpdnbmnnkefedaaGreatDoorVmHead
namespace Go.Proofs.YtpdnbmnnkefedaaGreatDoor.Vm
open Go
set_option linter.unusedVariables false
set_option linter.unusedSimpArgs false

section
variable {P : Program} {call : CallFn} {glob : List Nat} {nt : Nat} {ops : Array Oper} {head : List VOper} {σ : Nat → St} {acc : Nat → List (Nat × Nat)} {hp : Nat → HpAcc} {val : Nat → V} {lim : Nat}
variable {ρ0 : Loc} {lam0 : Lam} {w0 : World} {r : Option Nat}

theorem least {p : Nat → Bool} : ∀ {n : Nat}, (∃ i, i < n ∧ p i = false) → ∃ i, i < n ∧ p i = false ∧ ∀ j, j < i → p j = true
  | 0, ⟨i, h, _⟩ => absurd h (by omega)
  | n + 1, ⟨i, h, hp⟩ => by
    by_cases he : ∃ i, i < n ∧ p i = false
    · obtain ⟨j, h1, h2, h3⟩ := least he
      exact ⟨j, by omega, h2, h3⟩
    · have hall : ∀ j, j < n → p j = true := by
        intro j hj
        cases hq : p j with
        | true => rfl
        | false => exact absurd ⟨j, hj, hq⟩ he
      have : i = n := by
        by_cases e : i = n
        · exact e
        · rw [hall i (by omega)] at hp; cases hp
      subst this
      exact ⟨i, by omega, hp, hall⟩

theorem defers_put (a : Act) (dst : Option Nat) (x : Value) : (a.put dst x).defers = a.defers := by
  cases dst <;> rfl

theorem head_any {Q : Exit → Act → World → Prop} (hcall : CallOk P call) (hc : CallExt call) (R : Run call lim head σ acc hp val) (G : RegOk P glob nt ops head) (hx : Lex ops)
    (hmode : head.length = ops.size ∨ (head.length < ops.size ∧ Region.sinkB .any ops head.length = true ∧ Region.chainB .any ops head.length = true)) {n0 : Nat} (hn0 : nt ≤ n0) {d0 : List Deferred}
    (hK : ∀ a ρ lam w, a.tmps.size = n0 → a.defers = d0 → Stands ρ lam (σ head.length) a w → Grow lim (fun _ => True) ρ0 lam0 (σ 0).L (σ 0).H w0 ρ lam (σ head.length).L (σ head.length).H w →
      wpOpsIn (rF r) 0 P ops Q (List.range' head.length (ops.size - head.length)) a w) :
    ∀ (c : Nat) (listed : Array Bool) (ρ : Loc) (lam : Lam) (a : Act) (w : World), cnt head.length (fun i => !lis listed i) = c → HeadInv .any ops head.length listed → (∃ c', Inv lim head σ val ρ0 lam0 w0 (lis listed) c' ρ lam a w) → a.tmps.size = n0 → a.defers = d0 →
      wpAnyIn (rF r) 0 P .any ops Q (c + (ops.size - head.length)) listed a w
  | 0, listed, ρ, lam, a, w, hcnt, inv, ⟨c', I⟩, hsz, hdf => by
    have hall : ∀ i, i < head.length → lis listed i = true := by
      intro i hi
      have := cnt_zero hcnt i hi
      simpa using this
    obtain ⟨h1, h2⟩ := inv_end hc R I hall
    rw [Nat.zero_add]
    have hle := G.len
    refine wpAny_tail hx (m := head.length) (fun hlt => ?_) (ops.size - head.length) head.length listed a w (Nat.le_refl _) (by omega) inv.size (fun j hj => ?_) (hK a ρ lam w hsz hdf h1 h2)
    · rcases hmode with h | h
      · omega
      · exact h.2.2
    · by_cases hlt : j < head.length
      · have := hall j hlt
        have hjl : j < listed.size := by rw [inv.size]; exact hj
        unfold lis at this
        refine ⟨?_, by rw [this]; simp [hlt]⟩
        simp [hjl] at this ⊢
        rw [this]; simp [hlt]
      · have := inv.tail j (by omega) hj
        refine ⟨by rw [this]; simp [hlt], by rw [getD_both this]; simp [hlt]⟩
  | c + 1, listed, ρ, lam, a, w, hcnt, inv, ⟨c', I⟩, hsz, hdf => by
    have hle := G.len
    have hex : ∃ i, i < head.length ∧ lis listed i = false := by
      apply Classical.byContradiction
      intro hno
      have : cnt head.length (fun i => !lis listed i) = cnt head.length (fun _ => false) := cnt_congr fun i hi => by
        cases hq : lis listed i with
        | true => rfl
        | false => exact absurd ⟨i, hi, hq⟩ hno
      have hz : ∀ n, cnt n (fun _ => false) = 0 := by
        intro n
        induction n with
        | zero => rfl
        | succ n ih => simp [cnt, ih]
      rw [this, hz] at hcnt
      omega
    obtain ⟨i0, hi0, hun0, hbef⟩ := least hex
    have hun0' : listed.getD i0 true = false := getD_in (by rw [inv.size]; omega) hun0
    have hready : i0 ∈ Region.ready .any ops listed := by
      refine mem_ready.2 ⟨hun0', ops[i0], Array.getElem?_eq_getElem (by omega), fun e he hb => ?_⟩
      exact hbef e.on (hx.back i0 _ (Array.getElem?_eq_getElem (by omega)) e he hb)
    rw [show c + 1 + (ops.size - head.length) = (c + (ops.size - head.length)) + 1 by omega]
    refine ⟨fun h0 => absurd hready (by rw [h0]; simp), fun k hk => ?_⟩
    have hkm : k < head.length := by
      obtain ⟨_, ok, hok, _⟩ := mem_ready.1 hk
      have hks := (Array.getElem?_eq_some_iff.1 hok).1
      rcases hmode with h | ⟨h1, h2, h3⟩
      · omega
      · rcases Nat.lt_or_ge k head.length with h | h
        · exact h
        · exact absurd hk (tail_waits h2 h3 h1 inv _ i0 rfl hi0 hun0' k h)
    have hvo : head[k]? = some head[k] := List.getElem?_eq_getElem hkm
    obtain ⟨o, ho, hsl, hdst, hd, hg⟩ := G.get k head[k] hvo
    have hun := ready_un hk
    have hfr := fr_ready (val := val) R G hx inv hkm hk ho
    obtain ⟨hlk1, hlk2⟩ := slot_looks hsl hg
    obtain ⟨Hk1, Hk2, l, hcase, hrel, hfree, hev⟩ := hcase_of hc R G inv I hkm hk
    obtain ⟨e1, e2, e3, e4⟩ := evVal_congr (call := call) (lim := l) (L := (σ k).L) (H := Hk1) (vo := head[k]) (fun t ht => hfr t (hlk1 t ht)) (fun s want hs => hfr s (hlk2 s want hs))
    have hstep := hev head[k] hvo
    have htg : ∀ id, (wanted (lw (σ 0).fr (dstAt head) val (lis listed) head.length) head[k].guard = true ∧ memId (lw (σ 0).fr (dstAt head) val (lis listed) head.length) head[k].op = some id) → acts head σ k id := by
      rintro id ⟨h1, h2⟩
      rw [e2] at h1; rw [e3] at h2
      exact ⟨head[k], hvo, h1, h2⟩
    refine step_sim (A := acts head σ k) (nt := nt) (lim := l) (glob := glob) hcall ho hsl hg (e1.trans hstep) I.fr hrel
      ⟨I.dom, I.inj, I.disj, fun id r cs ha hr hcs => ?_⟩ (fun id h1 h2 => htg id ⟨h1, h2⟩) hfree (I.freeL k hkm hun) (fun x ρ' lam' w' hv g r1 r2 => ?_)
    · rw [← mw_ready hc R G inv I hkm hk ha hr] at hcs
      exact I.row id r cs hr hcs
    · have g' : Grow l (acts head σ k) ρ lam (σ k).L Hk1 w ρ' lam' (σ (k + 1)).L Hk2 w' := { g with keep := fun r hr hno ht => g.keep r hr hno fun i hi => ht i (htg i hi) }
      refine head_any hcall hc R G hx hmode hn0 hK c (listed.setIfInBounds k true) ρ' lam' (a.put o.dst x) w' ?_ (inv.set hk hkm) (inv_step hc R G hx inv I hkm hk ho hvo hsl hdst (fun d hd' => ?_) hg hv hcase g' r1 r2) (by rw [size_put]; exact hsz) (by rw [defers_put]; exact hdf)
      · have hklt : k < listed.size := by rw [inv.size]; exact (Array.getElem?_eq_some_iff.1 ho).1
        have := cnt_one (n := head.length) (k := k) (p := fun i => !lis listed i) (q := fun i => !lis (listed.setIfInBounds k true) i) hkm (by simp [hun]) (by simp [lis_set hklt]) (fun i hi => by simp [lis_set hklt, hi])
        omega
      · exact Nat.lt_of_lt_of_le (hd d hd') (by omega)

theorem Grow.ofDrew {lim : Nat} {tg : Nat → Prop} {ρ ρ' : Loc} {lam lam' : Lam} {L L' : Lo} {H H' : Hp} {w w' : World} (g : Grow lim tg ρ lam L H w.drew ρ' lam' L' H' w') : Grow lim tg ρ lam L H w ρ' lam' L' H' w' :=
  ⟨g.os, g.tape, g.output, g.size, g.lenH, g.lenL, g.extR, g.extL, g.newR, g.newL, g.keep, g.own⟩

theorem draw_sim {Q : Exit → Act → World → Prop} {vops : List VOper} {s s1 s2 : St} {ρ : Loc} {lam : Lam} {a : Act} {w : World} {id : Nat} (hm : P.follows .mixedOrders = true) (hcall : CallOk P call) (hc : CallExt call)
    (hops : slimOpers P glob nt ops ops.toList = some vops) (hlex : Region.lexB .any ops = true) (h1 : evHeadS call lim 0 (withLate ops vops 0 (vops.take (headLen ops vops))) s [] ([], false) = some s1)
    (h2 : evOps call lim (vops.drop (headLen ops vops)) s1 = some s2) (hnt : nt ≤ a.tmps.size) (hst : Stands ρ lam s a w) (hfR : FreeR ρ s.H.length s2.H.length) (hfL : FreeL lam s.L.length s2.L.length)
    (hQ : ∀ a' ρ' lam' w', a'.defers = a.defers → a'.tmps.size = a.tmps.size → Stands ρ' lam' s2 a' w' → Grow lim (fun _ => True) ρ lam s.L s.H w ρ' lam' s2.L s2.H w' → Q .normal a' w') :
    (Code.region id ops true).wpIn (rF r) 0 P Q a w := by
  obtain ⟨hlen, hget⟩ := slimOpers_get hops
  have hle := headLen_le (ops := ops) (vops := vops)
  have hlv : vops.length = ops.size := by simpa using hlen
  obtain ⟨σ, acc, hp, val, h0, hend, R⟩ := run_of_head h1
  have hhl : (withLate ops vops 0 (vops.take (headLen ops vops))).length = headLen ops vops := by
    rw [(withLate_get (ops := ops) (vops := vops)).1, List.length_take]; omega
  have G := regOk_of hops
  have hx := lex_of hlex
  obtain ⟨y1, y2⟩ := evOps_len hc h2
  refine wpIn_region_any hm ?_
  have hz1 := run_Hle hc R (i := 0) (j := (withLate ops vops 0 (vops.take (headLen ops vops))).length) (by omega) (Nat.le_refl _)
  have hz2 := run_L hc R (i := 0) (j := (withLate ops vops 0 (vops.take (headLen ops vops))).length) (by omega) (Nat.le_refl _)
  have hst' : Stands ρ lam s a w.drew := ⟨hst.fr, hst.H.drew, hst.L.drew⟩
  have hrep : ∀ i, lis (Array.replicate ops.size false) i = false := fun i => getD_replicate_false _ _
  have I := inv_start (hp := hp) (w := w.drew) hc R h0 hst' (fun b g1 g2 => hfR b g1 (by rw [hend] at g2; omega)) (fun b g1 g2 => hfL b g1 (by rw [hend] at g2; omega)) hrep
  have hcnt : cnt (withLate ops vops 0 (vops.take (headLen ops vops))).length (fun i => !lis (Array.replicate ops.size false) i) = headLen ops vops := by
    rw [hhl, cnt_congr (q := fun _ => true) fun i _ => by simp [hrep]]
    generalize headLen ops vops = n
    induction n with
    | zero => rfl
    | succ n ih => simp [cnt, ih]
  have := head_any (r := r) (lim := lim) (Q := Q) hcall hc R G hx (by rw [hhl]; exact headLen_spec) hnt (d0 := a.defers) (ρ0 := ρ) (lam0 := lam) (w0 := w.drew) (fun a' ρ' lam' w' e1 e2 hs' g => ?_) (headLen ops vops) (Array.replicate ops.size false) ρ lam a w.drew hcnt
    ⟨by simp, fun j oj _ hl => (by rw [getD_replicate_false] at hl; cases hl), fun t _ ht => by simp [ht]⟩ I rfl rfl
  · rw [hhl, show headLen ops vops + (ops.size - headLen ops vops) = ops.size by omega] at this
    exact this
  · rw [hend] at hs' g
    rw [h0] at g
    rw [hhl]
    have hdl : (vops.drop (headLen ops vops)).length = ops.size - headLen ops vops := by rw [List.length_drop, hlv]
    rw [← hdl]
    refine seq_sim (glob := glob) (nt := nt) (lim := lim) hcall hc (vops.drop (headLen ops vops)) (headLen ops vops) s1 s2 ρ' lam' a' w' (fun i vo hi => ?_) h2 (by omega) hs' (g.freeR (Nat.le_refl _) fun b g1 g2 => hfR b (by have := g.lenH; omega) g2)
      (g.freeL (Nat.le_refl _) fun b g1 g2 => hfL b (by have := g.lenL; omega) g2) (fun a'' ρ'' lam'' w'' f1 f2 hs'' g2 => hQ a'' ρ'' lam'' w'' (f1.trans e2) (f2.trans e1) hs'' ?_)
    · rw [List.getElem?_drop] at hi
      have hlt := (List.getElem?_eq_some_iff.1 hi).1
      rw [hlv] at hlt
      obtain ⟨vo', q1, q2⟩ := hget (headLen ops vops + i) ops[headLen ops vops + i] (by simp [hlt])
      rw [hi] at q1; cases q1
      obtain ⟨a1, a2, a3, a4⟩ := slimOper_spec q2
      exact ⟨_, Array.getElem?_eq_getElem hlt, a1, a2, a3, a4⟩
    · exact (Grow.trans g g2 hs'.L.dom).ofDrew

end
end Go.Proofs.YtpdnbmnnkefedaaGreatDoor.Vm
