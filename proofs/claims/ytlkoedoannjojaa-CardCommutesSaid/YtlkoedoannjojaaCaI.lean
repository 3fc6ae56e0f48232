/- Package card over the machine: what passes a test; CardKnown. -/
import Derived.Test.YtlkoedoannjojaaCaH
namespace Go.Proofs.Ytlkoedoannjojaa.Vm
open Go
set_option maxRecDepth 100000
set_option linter.unusedSimpArgs false
set_option linter.unusedVariables false
attribute [-simp] List.getD_eq_getElem?_getD
def enEq (e f : En) : Bool := decide (e.p = f.p) && (decide (e.s = f.s) && (decide (e.a = f.a) && (decide (e.b = f.b) && (decide (e.c = f.c) && (e.t == f.t)))))
theorem ba_refl : ∀ s : ByteArray, (s == s) = true
  | ⟨d⟩ => by show (d == d) = true; simp
theorem enEq_refl {e : En} : enEq e e = true := by simp [enEq, ba_refl]
theorem veqA_6 {a b c d e x y z u w : Int} {s t : ByteArray} {neg : Bool} : veqA neg [.int .i64, .int .i64, .int .i64, .int .i64, .int .i64, .str] (.agg [.int .i64 a, .int .i64 b, .int .i64 c, .int .i64 d, .int .i64 e, .str s]) (.agg [.int .i64 x, .int .i64 y, .int .i64 z, .int .i64 u, .int .i64 w, .str t]) =
    some (.bool (if neg then !enEq ⟨a, b, c, d, e, s⟩ ⟨x, y, z, u, w, t⟩ else enEq ⟨a, b, c, d, e, s⟩ ⟨x, y, z, u, w, t⟩)) := by
  cases neg <;> simp [veqA, eqCells, eqCell, enEq, BEq.beq]
theorem enEq_num {e f : En} (h : enEq e f = true) : e.p = f.p ∧ e.s = f.s := by
  simp only [enEq, Bool.and_eq_true, decide_eq_true_eq] at h; exact ⟨h.1, h.2.1⟩
/-- up to what an entry stands for: what it has seen, and itself -/
def kn (w : En) (q : Int) : Int := if q = w.p then w.s else w.at q.toNat
def knownL (c : List En) (x : Int) : List En := if valE c = 0 ∧ inR c x = true then filE (upto (kn (c.getD x.toNat default)) c) c c.length else []
def knownE (c : List En) (x : Int) : Int := if valE c ≠ 0 then valE c else if inR c x then 0 else 5
theorem kn_eq {c : List En} (h : valE c = 0) {i k : Nat} (hi : i < c.length) (hk : k < c.length) : upto (kn (c.getD k default)) c i = (decide (i = k) || seesB (c.getD k default) (c.getD i default)) := by
  have hs := (valE_ok h hk).2.2
  simp only [seenR, Bool.and_eq_true, selfB, decide_eq_true_eq] at hs
  have hs := hs.1.1
  by_cases e : i = k
  · subst e
    simp [upto, kn]
  · simp only [e, decide_false, Bool.false_or, upto, kn, seesB]
    split
    · rename_i hp
      rw [hp, hs]
      simp only [decide_eq_decide]
      constructor
      · intro h1
        by_cases h2 : (c.getD i default).s = (c.getD k default).s
        · exact absurd (val_uniq h hi hk hp h2) e
        · omega
      · omega
    · rfl
theorem known_val {c : List En} {x : Int} (h : valE c = 0) (hx : inR c x = true) : valE (knownL c x) = 0 := by
  have hx' := hx
  simp only [inR, decide_eq_true_eq] at hx'
  have e0 : knownL c x = filE (upto (kn (c.getD x.toNat default)) c) c c.length := if_pos ⟨h, hx⟩
  have hk : x.toNat < c.length := by omega
  generalize x.toNat = k at e0 hk
  rw [e0]
  have hpk := val_pl h hk
  have hs := (valE_ok h hk).2.2
  simp only [seenR, Bool.and_eq_true, selfB, rangB, decide_eq_true_eq] at hs
  obtain ⟨⟨hself, hrng⟩, htr⟩ := hs
  have hge : ∀ q : Int, 0 ≤ (c.getD k default).at q.toNat := fun q => by
    unfold En.at tri; split
    · omega
    · split <;> omega
  have hle : ∀ q : Int, 0 ≤ q ∧ q ≤ 2 → (c.getD k default).at q.toNat ≤ cntE c q c.length := fun q hq => by
    rcases (show q = 0 ∨ q = 1 ∨ q = 2 by omega) with rfl | rfl | rfl <;> simp [En.at, tri] <;> omega
  have hnm := val_num h hk
  have hkn : ∀ q : Int, (c.getD k default).at q.toNat ≤ kn (c.getD k default) q := fun q => by
    unfold kn; split
    · rename_i e; rw [e, hself]; omega
    · exact Int.le_refl _
  refine (cut_val h (k := kn (c.getD k default)) (fun q => Int.le_trans (hge q) (hkn q)) (fun q hq => ?_) fun i hi hu => ?_).1
  · unfold kn; split
    · rename_i e; rw [e]; exact val_top h hk
    · exact hle q hq
  · have k0 := hkn 0
    have k1 := hkn 1
    have k2 := hkn 2
    have a0 : (c.getD k default).at (0 : Int).toNat = (c.getD k default).a := rfl
    have a1 : (c.getD k default).at (1 : Int).toNat = (c.getD k default).b := rfl
    have a2 : (c.getD k default).at (2 : Int).toNat = (c.getD k default).c := rfl
    rw [a0] at k0
    rw [a1] at k1
    rw [a2] at k2
    rw [kn_eq h hi hk] at hu
    by_cases e : i = k
    · subst e; omega
    · simp only [e, decide_false, Bool.false_or] at hu
      have ht := allN_at htr hi
      simp only [trB, hu, Bool.true_and, Bool.not_eq_true', lessB, decide_eq_false_iff_not] at ht
      omega
section
variable {lim : Nat} {H : Hp} {K : V → Hp → Prop} {v w : V} {c l : List En} {e f : En} {s : ByteArray} {n x y : Int}
theorem ref_Same (hv : LstV enC H v l) (hw : LstV enC H w l) (hl : l.length ≤ 1000) (hK : K (.bool true) H) : VCall tbl lim 20 [v, w] H K := by
  refine VCall_fn tbl_at20 rfl ?_
  simp [vf20, hv.len, hw.len]
  refine wLoop_up l.length (fun i fr L H' => (fr 0 = v ∧ fr 1 = w ∧ fr 5 = .int .i64 i) ∧ H' = H) ⟨by simp, rfl⟩ ?_
  rintro i hi fr L H' ⟨⟨f0, f1, f5⟩, e0⟩
  have e0 := e0.symm
  subst e0
  simp [f0, f1, f5, hv.len]
  refine cond_dec (fun ht => ?_) fun hfl => ?_
  · have ht : i < l.length := by omega
    simp (disch := omega) [f0, f1, f5, hv.at ht, hw.at ht, en_load hv, en_load hw, veqA_6, enEq_refl, wrap_i64]
    omega
  simp
  exact hK
theorem vstoreH_last {cs ds : List V} (hl : lim ≤ H.length) (h : cs.length = ds.length) : vstoreH lim (H ++ [.row cs true]) H.length 0 ds = some (H ++ [.row ds true]) := by
  unfold vstoreH
  rw [if_pos hl, List.getElem?_concat_length]
  simp [h, splice]
theorem vstoreH_6 {a b c d e f x y z u w t : V} (hl : lim ≤ H.length) : vstoreH lim (H ++ [.row [a, b, c, d, e, f] true]) H.length 0 [x, y, z, u, w, t] = some (H ++ [.row [x, y, z, u, w, t] true]) := vstoreH_last hl rfl
theorem card_only (hc : LstV enC H v c) (hl : c.length ≤ 60) (hlim : lim ≤ H.length) {fn : FuncId} {p : V} (g : Nat → Bool)
    (hf : ∀ i, i < c.length → ∀ H1 K1, HX H H1 → K1 (.bool (g i)) H1 → VCall tbl lim fn [.agg (c.getD i default).cells, p] H1 K1)
    (hK : ∀ H' w, HX H H' → OwnT H.length enC H' w (filE g c c.length) → K w H') : VCall tbl lim 62 [v, .func (.func fn) [] [p]] H K := by
  refine VCall_fn tbl_at62 rfl ?_
  simp [vf62, hc.len]
  refine wLoop_up c.length (fun i fr L H' => (fr 1 = .func (.func fn) [] [p] ∧ fr 8 = v ∧ fr 9 = .int .i64 c.length ∧ fr 10 = .int .i64 i) ∧ (∃ u, fr 5 = u ∧ OwnT H.length enC H' u (filE g c i)) ∧ HX H H') ⟨by simp [hc.len], ⟨.snil, by simp, .nil⟩, HX.refl⟩ ?_
  rintro i hi fr L H' ⟨⟨f1, f8, f9, f10⟩, ⟨u, f5, hu⟩, hx⟩
  simp [f1, f8, f9, f10]
  refine cond_dec (fun ht => ?_) fun hfl => ?_
  · have ht : i < c.length := by omega
    have hc' := hc.mono hx
    have hxl := hx.len
    have hfl := @filE_len g c i
    simp (disch := omega) [f1, f8, f9, f10, hc'.at ht, en_load hc', lastO, lastS]
    refine hf i ht H' _ hx ?_
    cases hg : g i
    · simp (disch := omega) [f1, f8, f9, f10, f5, wrap_i64, filE, hg]
      exact ⟨by omega, hu, hx⟩
    · obtain ⟨v', H3, a1, a2, a3, a4, a5, a6⟩ := hu.append (lim := lim) (bytes := 56) (x := c.getD i default) (cs := [.int .i64 (c.getD i default).p, .int .i64 (c.getD i default).s, .int .i64 (c.getD i default).a, .int .i64 (c.getD i default).b, .int .i64 (c.getD i default).c, .str (c.getD i default).t]) rfl ⟨hlim, hxl⟩ (by omega) (by omega)
      simp (disch := omega) [f1, f8, f9, f10, f5, wrap_i64, filE, hg, vbslice_some, a1, lastO, lastS]
      exact ⟨by omega, a2, a3 _ hx (Nat.le_refl _)⟩
  have : i = c.length := by omega
  subst this
  simp [f5, hu.lst.stor]
  exact hK _ _ hx hu
theorem card_Known_1 (hf : 0 ≤ f.p ∧ f.p ≤ 2) {b : Nat} {own : Bool} (hb : H[b]? = some (.row e.cells own)) (hK : K (.bool (enEq f e || seesB e f)) H) : VCall tbl lim 65 [.agg f.cells, .ptr b 0] H K := by
  refine VCall_fn tbl_at65 rfl ?_
  simp [vf65, En.cells] at hb ⊢
  simp [hb, veqA_6]
  cases h : enEq f e
  · simp [hb]
    refine card_hasSeen (e := e) (f := f) hf ?_
    simp
    rw [h] at hK
    simpa using hK
  · simp
    rw [h] at hK
    simpa using hK
theorem card_Known (hc : LstV enC H v c) (hsh : shortC c) (hlim : lim ≤ H.length) (hK : ∀ H' w, HX H H' → LstV enC H' w (knownL c x) → K (.tup [w, .int .i64 (knownE c x)]) H') : VCall tbl lim 39 [v, .int .i64 x] H K := by
  refine VCall_fn tbl_at39 rfl ?_
  simp [vf39, hc.stor]
  refine card_Validate hc hsh fun H1 x1 => ?_
  have hc1 := hc.mono x1
  have l1 := x1.len
  simp
  by_cases h : valE c = 0
  · simp [h, hc.stor]
    refine card_isEntry hc1 ?_
    cases h1 : inR c x
    · have e1 : knownL c x = [] := by simp [knownL, h1]
      have e2 : knownE c x = 5 := by simp [knownE, h, h1]
      simp
      have := hK H1 .snil x1 (by rw [e1]; exact .nil)
      rw [e2] at this
      exact this
    have hin := h1
    simp only [inR, decide_eq_true_eq] at hin
    have e1 : knownL c x = filE (upto (kn (c.getD x.toNat default)) c) c c.length := if_pos ⟨h, h1⟩
    have e2 : knownE c x = 0 := by simp [knownE, h, h1]
    have hk : x.toNat < c.length := by omega
    have a1 := hc1.addr hin
    generalize hg : c.getD x.toNat default = g at e1
    simp (disch := omega) [a1, en_load hc1, lastO, lastS, hc.stor, hg, vstoreH_6 (show lim ≤ H1.length by omega)]
    have xb : HX H1 (H1 ++ [.row g.cells true]) := HX.push
    have hb : (H1 ++ [.row g.cells true])[H1.length]? = some (.row g.cells true) := List.getElem?_concat_length
    refine card_only (hc1.mono xb) (by have := valE_small h; omega) (by have := xb.len; omega) (fun i => enEq (c.getD i default) g || seesB g (c.getD i default)) (fun i hi H2 K2 x2 hK2 => ?_) fun H2 w x2 o2 => ?_
    · exact card_Known_1 (val_pl h hi) (x2.get hb) hK2
    · have e3 : filE (fun i => enEq (c.getD i default) g || seesB g (c.getD i default)) c c.length = filE (upto (kn g) c) c c.length := filE_congr fun i hi => by
        rw [← hg, kn_eq h hi hk]
        congr 1
        by_cases e : i = x.toNat
        · rw [e, enEq_refl]; simp
        · rw [decide_eq_false e]
          cases h2 : enEq (c.getD i default) (c.getD x.toNat default)
          · rfl
          · exact absurd (val_uniq h hi hk (enEq_num h2).1 (enEq_num h2).2) e
      rw [e3, ← e1] at o2
      simp [o2.lst.stor]
      rw [e2] at hK
      exact hK _ _ (x1.trans (xb.trans x2)) o2.lst
  · have e1 : knownL c x = [] := by simp [knownL, h]
    have e2 : knownE c x = valE c := by simp [knownE, h]
    simp [eq_false h]
    have := hK H1 .snil x1 (by rw [e1]; exact .nil)
    rw [e2] at this
    exact this
theorem ref_Known (hc : LstV enC H v c) (hsh : shortC c) (hlim : lim ≤ H.length) (hx : I64 x) (hK : ∀ H' w, HX H H' → LstV enC H' w (knownL c x) → K (.tup [w, .int .i64 (knownE c x)]) H') : VCall tbl lim 40 [v, .int .i64 x] H K := by
  refine VCall_fn tbl_at40 rfl ?_
  simp [vf40, hc.stor]
  refine ref_Validate hc hsh ?_
  simp
  by_cases h : valE c = 0
  · by_cases hin : 0 ≤ x ∧ x < c.length
    · have h1 : inR c x = true := decide_eq_true hin
      have e1 : knownL c x = filE (upto (kn (c.getD x.toNat default)) c) c c.length := if_pos ⟨h, h1⟩
      have e2 : knownE c x = 0 := by simp [knownE, h, h1]
      rw [e2] at hK
      have hk : x.toNat < c.length := by omega
      have hl := valE_small h
      have a1 := hc.addr hin
      simp [h, hc.len, show ¬ x < 0 by omega, show ¬ (c.length : Int) ≤ x by omega]
      refine wLoop_up c.length (fun i fr L H' => (fr 0 = v ∧ fr 1 = .int .i64 x ∧ fr 8 = .int .i64 i) ∧ (∃ u, fr 7 = u ∧ OwnT H.length enC H' u (filE (upto (kn (c.getD x.toNat default)) c) c i)) ∧ HX H H') ⟨by simp, ⟨.snil, by simp, .nil⟩, HX.refl⟩ ?_
      rintro i hi fr L H' ⟨⟨f0, f1, f8⟩, ⟨u, f7, hu⟩, hx'⟩
      simp [f0, f1, f8, hc.len]
      refine cond_dec (fun ht => ?_) fun hfl => ?_
      · have ht : i < c.length := by omega
        have hc' := hc.mono hx'
        have hxl := hx'.len
        have hfl := @filE_len (upto (kn (c.getD x.toNat default)) c) c i
        obtain ⟨v', H3, b1, b2, b3, b4, b5, b6⟩ := hu.append (lim := lim) (bytes := 56) (x := c.getD i default) (cs := [.int .i64 (c.getD i default).p, .int .i64 (c.getD i default).s, .int .i64 (c.getD i default).a, .int .i64 (c.getD i default).b, .int .i64 (c.getD i default).c, .str (c.getD i default).t]) rfl ⟨hlim, hxl⟩ (by omega) (by omega)
        have hg := kn_eq h ht hk
        by_cases e : i = x.toNat
        · have e' : (i : Int) = x := by omega
          rw [decide_eq_true e, Bool.true_or] at hg
          simp (disch := omega) [f0, f1, f8, f7, eq_true e', hc'.at ht, en_load hc', vbslice_some, b1, wrap_i64, filE, hg]
          exact ⟨by omega, b2, b3 _ hx' (Nat.le_refl _)⟩
        · have e' : ¬ (i : Int) = x := by omega
          rw [decide_eq_false e, Bool.false_or] at hg
          simp (disch := omega) [f0, f1, f8, f7, eq_false e', hc'.at ht, a1, en_load hc']
          refine ref_seen (e := c.getD x.toNat default) (f := c.getD i default) (val_pl h ht) ?_
          cases hs : seesB (c.getD x.toNat default) (c.getD i default)
          · rw [hs] at hg
            simp (disch := omega) [f0, f1, f8, f7, wrap_i64, filE, hg]
            exact ⟨by omega, hu, hx'⟩
          · rw [hs] at hg
            simp (disch := omega) [f0, f1, f8, f7, hc'.at ht, en_load hc', vbslice_some, b1, wrap_i64, filE, hg]
            exact ⟨by omega, b2, b3 _ hx' (Nat.le_refl _)⟩
      have : i = c.length := by omega
      subst this
      rw [← e1] at hu
      simp [f7, hu.lst.stor]
      exact hK _ _ hx' hu.lst
    · have h1 : inR c x = false := decide_eq_false hin
      have e1 : knownL c x = [] := by simp [knownL, h1]
      have e2 : knownE c x = 5 := by simp [knownE, h, h1]
      have := hK H .snil HX.refl (by rw [e1]; exact .nil)
      rw [e2] at this
      by_cases h0 : x < 0
      · simp [h, hc.len, h0]
        exact this
      · simp [h, hc.len, h0, show (c.length : Int) ≤ x by omega]
        exact this
  · have e1 : knownL c x = [] := by simp [knownL, h]
    have e2 : knownE c x = valE c := by simp [knownE, h]
    simp [eq_false h]
    have := hK H .snil HX.refl (by rw [e1]; exact .nil)
    rw [e2] at this
    exact this
theorem filE_short {g : Nat → Bool} (h : shortC c) : shortC (filE g c c.length) := by
  have hl := @filE_len g c c.length
  refine ⟨Nat.le_trans hl h.1, fun i hi => ?_⟩
  obtain ⟨j, j1, _, j3⟩ := filE_mem hi
  rw [j3]; exact h.2 j j1
theorem law_CardKnown (hv : EnsV H v c ∧ c.length ≤ maxLen) (hlim : lim ≤ H.length) (hx : I64 x) (hK : ∀ H', K (.bool true) H') : VCall tbl lim 10 [v, .int .i64 x] H K := by
  have hc := hv.1.1
  refine VCall_fn tbl_at10 rfl ?_
  simp [vf10, hc.stor]
  refine law_Long hc ?_
  cases hl : longC c
  · have hsh := long_short hl
    simp [hc.stor]
    refine card_Known hc hsh hlim fun H1 w1 x1 o1 => ?_
    have hc1 := hc.mono x1
    have l1 := x1.len
    simp [hc.stor, o1.stor, o1.one]
    refine ref_Known hc1 hsh (by omega) hx fun H2 w2 x2 o2 => ?_
    have l2 := x2.len
    have o1' := o1.mono x2
    have hkl : (knownL c x).length ≤ 100 := by
      unfold knownL; split
      · exact (filE_short hsh).1
      · simp
    simp [o1.stor, o2.stor, o2.one]
    refine ref_Same o1' o2 (by omega) ?_
    simp
    by_cases h : knownE c x = 0
    · simp [h, o1.stor]
      have h0 : valE c = 0 := by
        unfold knownE at h; split at h
        · exact absurd h (by assumption)
        · rename_i h'; simpa using h'
      have h1 : inR c x = true := by
        cases h' : inR c x
        · simp [knownE, h0, h'] at h
        · rfl
      have hvl := known_val h0 h1
      have hks : shortC (knownL c x) := by
        rw [show knownL c x = filE (upto (kn (c.getD x.toNat default)) c) c c.length from if_pos ⟨h0, h1⟩]
        exact filE_short hsh
      refine card_Validate o1' hks fun H3 x3 => ?_
      have l3 := x3.len
      simp [hvl]
      refine law_known (by omega) fun H4 _ => ?_
      simp
      exact hK _
    · simp [eq_false h]
      refine law_known (by omega) fun H4 _ => ?_
      simp
      exact hK _
  · simp
    refine law_known hlim fun H' _ => ?_
    simp
    exact hK _
end
end Go.Proofs.Ytlkoedoannjojaa.Vm
