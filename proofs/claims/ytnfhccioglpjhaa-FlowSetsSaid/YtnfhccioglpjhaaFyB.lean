/- An edge is sought, put in, taken out: slices.BinarySearchFunc, Insert, Delete. -/
import Derived.Test.YtnfhccioglpjhaaFyA
namespace Go.Proofs.Ytnfhccioglpjhaa.Vm
open Go
set_option maxRecDepth 100000
set_option maxHeartbeats 1000000
set_option linter.unusedSimpArgs false
set_option linter.unusedVariables false
attribute [-simp] List.getD_eq_getElem?_getD
section
variable {n lim : Nat} {H H' H1 : Hp} {K : V → Hp → Prop} {v u : V}
theorem OwnT.row_of {α : Type} {k m : Nat} {c : Cod α k} {l : List α} (h : OwnT m c H v l) (hne : 0 < l.length) : ∃ b, v = .sl b 0 l.length k ∧ m ≤ b ∧ H[b]? = some (.row (c.all l) true) := by
  cases h with
  | nil => simp at hne
  | row h1 h2 => exact ⟨_, rfl, h1, h2⟩
/-- an element is taken out of one's own list, in place, and the last place cleared -/
theorem del_t {α : Type} {k : Nat} {c : Cod α k} {l : List α} {i bytes : Nat} {zero : List V} (ho : OwnT n c H u l) (hi : i < l.length) (hl : l.length ≤ 1000) (hlim : lim ≤ n) (hz : zero.length = k) :
    ∃ q x y v' H' z H'', vslS3 k u (some (.int .i64 (i : Int))) (some (.int .i64 ((i : Int) + 1))) (.int .i64 (l.length : Int)) = some q ∧ vslC k u none (some (.int .i64 (i : Int))) = some x ∧ vslC k u (some (.int .i64 ((i : Int) + 1))) none = some y ∧ vappC false lim k bytes H x y = some (v', H') ∧ vlenS v' = some (.int .i64 ((l.length : Int) - 1)) ∧
      vslC k v' (some (.int .i64 ((l.length : Int) - 1))) (some (.int .i64 (l.length : Int))) = some z ∧ vclr lim k zero H' z = some H'' ∧ stor v' = true ∧ LstV c H'' (vweak v') (l.take i ++ l.drop (i + 1)) ∧ H''.length = H.length ∧ ∀ b, (∀ o z y, u ≠ .sl b o z y) → H''[b]? = H[b]? := by
  obtain ⟨b, rfl, hb1, h2⟩ := ho.row_of (by omega)
  have hb : b < H.length := (List.getElem?_eq_some_iff.1 h2).1
  have hne : ¬ i = l.length := by omega
  have hall : (c.all l).length = l.length * k := Cod.all_len
  have htk : (c.all l).take (i * k) = c.all (l.take i) := Cod.all_take
  have hdr : (c.all l).drop ((i + 1) * k) = c.all (l.drop (i + 1)) := Cod.all_drop
  have htl : (l.take i ++ l.drop (i + 1)).length = l.length - 1 := by simp; omega
  have hm1 : (l.length - 1) * k + k = l.length * k := by
    rw [← Nat.succ_mul]; congr 1; omega
  have b0 : vbounds l.length (some (.int .i64 (i : Int))) (some (.int .i64 ((i : Int) + 1))) = some (i, i + 1) := by
    simp [vbounds, vint]; omega
  have b1 : vbounds l.length none (some (.int .i64 (i : Int))) = some (0, i) := vbounds_hi (k := .i64) (by omega)
  have b2 : vbounds l.length (some (.int .i64 ((i : Int) + 1))) none = some (i + 1, l.length) := vbounds_lo (k := .i64) (n := i + 1) (by omega)
  have b3 : vbounds l.length (some (.int .i64 ((l.length : Int) - 1))) (some (.int .i64 (l.length : Int))) = some (l.length - 1, l.length) := by
    simp [vbounds, vint]; omega
  have q0 : ∃ q, vslS3 k (.sl b 0 l.length k) (some (.int .i64 (i : Int))) (some (.int .i64 ((i : Int) + 1))) (.int .i64 (l.length : Int)) = some q := by
    simp only [vslS3, vint, Int.toNat_natCast, b0]
    rw [if_pos ⟨trivial, by omega, by omega⟩]
    split
    · exact ⟨_, rfl⟩
    · split <;> exact ⟨_, rfl⟩
  obtain ⟨q, hq⟩ := q0
  have hx : vslC k (.sl b 0 l.length k) none (some (.int .i64 (i : Int))) = some (.slc b 0 i k l.length) := by simp [vslC, b1, mkslc, hne]
  have hlast : vslC k (.slc b 0 (l.length - 1) k l.length) (some (.int .i64 ((l.length : Int) - 1))) (some (.int .i64 (l.length : Int))) = some (.sl b ((l.length - 1) * k) 1 k) := by
    simp only [vslC, if_true, b3]
    by_cases h1 : l.length - 1 = 0
    · have h3 : l.length = 1 := by omega
      simp [h3, mkslc]
    · have h3 : ¬ l.length - 1 = l.length := by omega
      have h4 : l.length - (l.length - 1) = 1 := by omega
      simp only [h1, h3, h4, if_false, Nat.zero_add, mkslc, if_true]
  -- the rest
  have fin : ∀ (H' : Hp) (cs : List V), H'.length = H.length → (∀ b', b' ≠ b → H'[b']? = H[b']?) → H'[b]? = some (.row cs true) → cs.length = l.length * k → cs.take ((l.length - 1) * k) = c.all (l.take i ++ l.drop (i + 1)) →
      ∃ H'', vclr lim k zero H' (.sl b ((l.length - 1) * k) 1 k) = some H'' ∧ LstV c H'' (.sl b 0 (l.length - 1) k) (l.take i ++ l.drop (i + 1)) ∧ H''.length = H.length ∧ ∀ b', (∀ o z y, V.sl b 0 l.length k ≠ .sl b' o z y) → H''[b']? = H[b']? := by
    intro H' cs hl' ho' hr hcl hct
    have hrow : rowOf 1 zero = zero := by simp [rowOf]
    have hst : vstoreH lim H' b ((l.length - 1) * k) zero = some (H'.set b (.row (splice cs ((l.length - 1) * k) zero) true)) := by
      simp only [vstoreH, show lim ≤ b by omega, if_true, hr]
      rw [if_pos (by rw [hz]; omega)]
    refine ⟨H'.set b (.row (splice cs ((l.length - 1) * k) zero) true), ?_, ?_, by simpa using hl', fun b' hb' => ?_⟩
    · simp only [vclr, hz, and_self, if_true, hrow]
      rw [if_neg (by omega)]; exact hst
    · rw [← htl]
      refine .sl (own := true) (cs := splice cs ((l.length - 1) * k) zero) (by rw [List.getElem?_set_self (by omega), htl]) ?_ ?_
      · rw [htl]
        have : (splice cs ((l.length - 1) * k) zero).length = l.length * k := by
          simp only [splice, List.length_append, List.length_take, List.length_drop, hz, hcl]; omega
        omega
      · rw [htl, List.drop_zero, ← hct]
        simp only [splice, List.append_assoc]
        rw [List.take_append_of_le_length (by rw [List.length_take]; omega), List.take_take, Nat.min_self]
    · rw [List.getElem?_set_ne (fun e => hb' 0 l.length k (by rw [e]))]
      exact ho' b' fun e => hb' 0 l.length k (by rw [e])
  by_cases e : i + 1 = l.length
  · have hd : l.drop (i + 1) = [] := by rw [e]; exact List.drop_length
    have hi1 : i = l.length - 1 := by omega
    obtain ⟨H'', f1, f2, f3, f4⟩ := fin H (c.all l) rfl (fun _ _ => rfl) h2 hall (by rw [hd, List.append_nil, ← hi1, htk])
    refine ⟨q, _, .sempty, .slc b 0 (l.length - 1) k l.length, H, _, H'', hq, hx, ?_, ?_, ?_, hlast, f1, rfl, f2, f3, f4⟩
    · have hw0 : ¬ l = [] := fun h => by rw [h] at hi; simp at hi
      simp [vslC, b2, e, hw0]
    · have hk : vcells k H .sempty = some [] := Eq.trans rfl rfl
      have hle : i ≤ l.length := by omega
      have hmk : mkslc b 0 i k l.length = .slc b 0 (l.length - 1) k l.length := by rw [mkslc, if_neg hne, hi1]
      simp only [vappC, hk, vlenS]
      rw [if_pos ⟨trivial, by simp only [Int.toNat_zero]; omega⟩]
      simp [hmk]
    · simp only [vlenS]; rw [show ((l.length - 1 : Nat) : Int) = (l.length : Int) - 1 by omega]
  · have hdl : (l.drop (i + 1)).length = l.length - (i + 1) := List.length_drop
    have hsl : LstV c H (.sl b (0 + (i + 1) * k) (l.drop (i + 1)).length k) (l.drop (i + 1)) := by
      have hmm : (i + 1) * k + (l.length - (i + 1)) * k = l.length * k := by rw [← Nat.add_mul]; congr 1; omega
      refine .sl h2 (by rw [hall, hdl]; omega) ?_
      rw [Nat.zero_add, hdr, List.take_of_length_le (by rw [Cod.all_len]; omega)]
    have hmi : i * k + (l.length - (i + 1)) * k = (l.length - 1) * k := by rw [← Nat.add_mul]; congr 1; omega
    have hst : vstoreH lim H b (0 + i * k) (c.all (l.drop (i + 1))) = some (H.set b (.row (splice (c.all l) (0 + i * k) (c.all (l.drop (i + 1)))) true)) := by
      have : 0 + i * k + (c.all (l.drop (i + 1))).length ≤ (c.all l).length := by rw [Cod.all_len, hall, hdl]; omega
      simp only [vstoreH, show lim ≤ b by omega, if_true, h2, this]
    obtain ⟨H'', f1, f2, f3, f4⟩ := fin (H.set b (.row (splice (c.all l) (0 + i * k) (c.all (l.drop (i + 1)))) true)) (splice (c.all l) (0 + i * k) (c.all (l.drop (i + 1)))) (by simp) (fun b' hb' => List.getElem?_set_ne (fun e => hb' e.symm)) (by rw [List.getElem?_set_self hb]) (by
        simp only [splice, List.length_append, List.length_take, List.length_drop, Cod.all_len]; omega) (by
        have hal : (c.all (l.drop (i + 1))).length = (l.length - (i + 1)) * k := by rw [Cod.all_len, hdl]
        simp only [splice, Nat.zero_add, htk]
        rw [← Cod.all_append, List.take_append_of_le_length (by rw [Cod.all_len, htl]; exact Nat.le_refl _), List.take_of_length_le (by rw [Cod.all_len, htl]; exact Nat.le_refl _)])
    refine ⟨q, _, .sl b (0 + (i + 1) * k) (l.drop (i + 1)).length k, .slc b 0 (l.length - 1) k l.length, _, _, H'', hq, hx, ?_, ?_, ?_, hlast, f1, rfl, f2, f3, f4⟩
    · simp [vslC, b2, mkslc, e]
    · have hk := hsl.cells
      have hk0 : ¬ ((l.drop (i + 1)).length : Int) = 0 := by omega
      have hvl : vlenS (.sl b (0 + (i + 1) * k) (l.drop (i + 1)).length k) = some (.int .i64 (l.drop (i + 1)).length) := Eq.trans rfl rfl
      have hle2 : i + ((l.drop (i + 1)).length : Int).toNat ≤ l.length := by rw [hdl]; omega
      have hsum : i + ((l.drop (i + 1)).length : Int).toNat = l.length - 1 := by rw [hdl]; omega
      have hmk : mkslc b 0 (l.length - 1) k l.length = .slc b 0 (l.length - 1) k l.length := by rw [mkslc, if_neg (by omega)]
      simp only [vappC, hk, hvl, true_and, hle2, if_true, hk0, if_false, hst, hsum, hmk]
      simp
    · simp only [vlenS]; rw [show ((l.length - 1 : Nat) : Int) = (l.length : Int) - 1 by omega]
theorem zs3e : (ints (zs 3) : List V) = [.int .i64 0, .int .i64 0, .int .i64 0] := Eq.trans rfl rfl
theorem del_ed {l : List Ed} {i : Nat} (ho : OwnT n edC H u l) (hi : i < l.length) (hl : l.length ≤ 1000) (hlim : lim ≤ n) (hK : ∀ H' v', LstV edC H' v' (l.take i ++ l.drop (i + 1)) → H'.length = H.length → (∀ b, (∀ o z y, u ≠ .sl b o z y) → H'[b]? = H[b]?) → K v' H') :
    VCall tbl lim 26 [u, .int .i64 (i : Int), .int .i64 ((i : Int) + 1)] H K := by
  obtain ⟨q, x, y, v', H', z, H'', e0, e1, e2, e3, e4, e5, e6, e7, e8, e9, e10⟩ := del_t (bytes := 24) (zero := [.int .i64 0, .int .i64 0, .int .i64 0]) ho hi hl hlim rfl
  refine VCall_fn tbl_at26 rfl ?_
  have hne : decide ((i : Int) = (i : Int) + 1) = false := decide_eq_false (by omega)
  simp [vf26, ho.lst.len, e0, e1, e2, e3, e4, e5, e6, hne, zs3e, e7]
  exact hK _ _ e8 e9 e10
/-- where an edge stands, or would stand -/
structure AtE (P : List Ed) (e : Ed) (a : Nat) : Prop where
  le : a ≤ P.length
  lo : ∀ j, j < a → bef (P.getD j default) e
  hi : ∀ j, a ≤ j → j < P.length → ¬ bef (P.getD j default) e
def fndE (P : List Ed) (e : Ed) (a : Nat) : Bool := decide (a < P.length ∧ cmpE (P.getD a default) e = 0)
theorem bsearch {P : List Ed} {e : Ed} (hv : LstV edC H v P) (hP : ∀ i j, i < j → j < P.length → bef (P.getD i default) (P.getD j default)) (hl : P.length ≤ 1000) (hlim : lim ≤ H.length)
    (hK : ∀ H' (a : Nat), HX H H' → AtE P e a → K (.tup [.int .i64 (a : Int), .bool (fndE P e a)]) H') :
    VCall tbl lim 24 [v, .agg [.int .i64 e.x, .int .i64 e.y, .int .i64 e.u], .func (.func 25) [] []] H K := by
  refine VCall_fn tbl_at24 rfl ?_
  simp [vf24, hv.len, hv.stor]
  refine wLoop_m (n := P.length) (fun m fr L H' => ∃ i j : Nat, (fr 0 = v ∧ fr 2 = .func (.func 25) [] [] ∧ fr 4 = .lp 0 0 ∧ fr 8 = .int .i64 P.length ∧ fr 9 = .int .i64 i ∧ fr 10 = .int .i64 j) ∧ L = [[.int .i64 e.x, .int .i64 e.y, .int .i64 e.u]] ∧ HX H H' ∧ i ≤ j ∧ j ≤ P.length ∧ (∀ t, t < i → bef (P.getD t default) e) ∧ (∀ t, j ≤ t → t < P.length → ¬ bef (P.getD t default) e) ∧ m = j - i) ?_ ?_
  · exact ⟨0, P.length, by simp, rfl, .refl, by omega, by omega, fun t h => by omega, fun t h1 h2 => by omega, by omega⟩
  rintro m fr L H1 ⟨i, j, ⟨f0, f2, f4, f8, f9, f10⟩, rfl, x1, hij, hj, hlo, hhi, rfl⟩
  have l1 := x1.len
  have hv1 := hv.mono x1
  simp [f0, f2, f4, f8, f9, f10]
  refine cond_dec (fun ht => ?_) fun hf => ?_
  · have ht : i < j := by omega
    have hw : IntKind.wrap .i64 ((i : Int) + (j : Int)) = ((i + j : Nat) : Int) := by rw [wrap_i64 (by omega) (by omega)]; simp
    have hwu : IntKind.wrap .u64 ((i + j : Nat) : Int) = ((i + j : Nat) : Int) := by
      simp [IntKind.wrap, IntKind.bits, IntKind.signed]; omega
    have hsh : vbin .shr (.int .u64 ((i + j : Nat) : Int)) (.int .u64 1) = some (.int .u64 (((i + j) / 2 : Nat) : Int)) := by
      have e : vbin .shr (.int .u64 ((i + j : Nat) : Int)) (.int .u64 1) = some (.int .u64 (Int.fdiv ((i + j : Nat) : Int) (2 ^ 1))) := Eq.trans rfl rfl
      rw [e, Int.fdiv_eq_ediv_of_nonneg _ (by decide)]
      rfl
    have hwi : IntKind.wrap .i64 (((i + j) / 2 : Nat) : Int) = (((i + j) / 2 : Nat) : Int) := wrap_i64 (by omega) (by omega)
    have hh1 : (i + j) / 2 < P.length := by omega
    generalize hh : (i + j) / 2 = h at hsh hwi hh1
    simp [f0, f2, f4, f8, f9, f10, hw, hwu, hsh, hwi, hv1.addr, hv1.load, edC_def, hh1, -Int.natCast_add]
    refine flow_compareEdges (a := P.getD h default) (b := e) (Nat.le_refl _) fun H2 x2 => ?_
    simp
    refine cond_dec (fun hc => ?_) fun hc => ?_
    · have hb : bef (P.getD h default) e := by
        by_cases hb : bef (P.getD h default) e
        · exact hb
        · have := cmpE_lt.2 hb; omega
      simp (disch := omega) [f0, f2, f4, f8, f9, f10, wrap_i64]
      refine ⟨j - (h + 1), by omega, h + 1, j, ⟨rfl, by simp⟩, x1.trans x2, by omega, hj, fun t ht2 => ?_, hhi, rfl⟩
      by_cases e1 : t = h
      · rw [e1]; exact hb
      · exact bef_trans (hP t h (by omega) hh1) hb
    · have hb : ¬ bef (P.getD h default) e := fun hb => by
        have := cmpE_lt (a := P.getD h default) (b := e)
        exact absurd hb (this.1 (by omega))
      simp (disch := omega) [f0, f2, f4, f8, f9, f10]
      refine ⟨h - i, by omega, i, h, ⟨rfl, rfl⟩, x1.trans x2, by omega, by omega, hlo, fun t h1 h2 hb2 => ?_, rfl⟩
      by_cases e1 : t = h
      · rw [e1] at hb2; exact hb hb2
      · exact hb (bef_trans (hP h t (by omega) h2) hb2)
  · have e1 : i = j := by omega
    subst e1
    simp [f0, f2, f4, f8, f9, f10]
    have hat : AtE P e i := ⟨hj, hlo, hhi⟩
    by_cases hi : i < P.length
    · have hd : decide ((i : Int) < (P.length : Int)) = true := decide_eq_true (by omega)
      simp [hd, hi, f0, f2, f4, f8, f9, f10, hv1.addr, hv1.load, edC_def]
      refine flow_compareEdges (a := P.getD i default) (b := e) (Nat.le_refl _) fun H2 x2 => ?_
      simp
      have := hK H2 i (x1.trans x2) hat
      simpa [hi, fndE] using this
    · have hd : decide ((i : Int) < (P.length : Int)) = false := decide_eq_false (by omega)
      simp [hd, hi, f0, f2, f4, f8, f9, f10]
      have := hK H1 i x1 hat
      simpa [hi, fndE] using this
theorem OwnT.appendF {α : Type} {k : Nat} {c : Cod α k} {l : List α} (h : OwnT n c H v l) {lim bytes : Nat} {x : α} {cs : List V} (hcs : c.cells x = cs) (hn : lim ≤ n ∧ n ≤ H.length) (hb : bytes ≤ 1000) (hl : l.length < 1000000) :
    ∃ v' H', vappend lim k bytes (H ++ [.row cs true]) v (.sl H.length 0 1 k) = some (v', H') ∧ OwnT n c H' v' (l ++ [x]) ∧ (∀ H0, HX H0 H → H0.length ≤ n → HX H0 H') ∧ H'.length = H.length + 2 ∧ (∀ b', b' < H.length → (∀ o z y, v ≠ .sl b' o z y) → H'[b']? = H[b']?) ∧ ∀ b o z y, v' = .sl b o z y → H.length ≤ b := by
  have hh := h
  subst hcs
  obtain ⟨v', H', a1, a2, a3, a4, a5, a6⟩ := h.append (lim := lim) (bytes := bytes) (x := x) rfl hn hb hl
  refine ⟨v', H', a1, a2, a3, a5, a6, ?_⟩
  have hy : LstV c (H ++ [.row (c.cells x) true]) (.sl H.length 0 1 k) [x] := by
    have := LstV.sl (c := c) (l := [x]) (off := 0) (H := H ++ [.row (c.cells x) true]) (b := H.length) (own := true) (cs := c.cells x) List.getElem?_concat_length (by simp [c.len]) (by simp [Cod.all_one]; rw [List.take_of_length_le (by rw [c.len]; omega)])
    simpa using this
  have hb1 : (l.length + 1) * bytes ≤ 1000000 * 1000 := Nat.mul_le_mul (by omega) hb
  have hb2 : 1 * bytes ≤ 1000000 * 1000 := Nat.mul_le_mul (by omega) hb
  rintro b o z y rfl
  cases hh with
  | nil =>
    simp [vappend, hy.cells, hy.len, show bytes ≤ 140737488355328 by omega] at a1
    omega
  | row h1 h2 =>
    rename_i b'
    have hbl := (List.getElem?_eq_some_iff.1 h2).1
    have h2' : (H ++ [Blk.row (c.cells x) true])[b']? = some (.row (c.all l) true) := by rw [List.getElem?_append_left hbl]; exact h2
    simp [vappend, hy.cells, hy.len, h2', Cod.all_len, show lim ≤ b' by omega, show (l.length + 1) * bytes ≤ 140737488355328 by omega, show l.length + 1 < 4611686018427387904 by omega] at a1
    omega
theorem ins_ed {l : List Ed} {i : Nat} {e : Ed} (ho : OwnT n edC H u l) (hi : i ≤ l.length) (hl : l.length ≤ 1000) (hlim : lim ≤ n ∧ n ≤ H.length)
    (hK : ∀ H' v', LstV edC H' v' (l.take i ++ [e] ++ l.drop i) → H.length ≤ H'.length → (∀ b, b < H.length → (∀ o z y, u ≠ .sl b o z y) → H'[b]? = H[b]?) → K v' H') :
    VCall tbl lim 27 [u, .int .i64 (i : Int), .sl H.length 0 1 3] (H ++ [.row [.int .i64 e.x, .int .i64 e.y, .int .i64 e.u] true]) K := by
  refine VCall_fn tbl_at27 rfl ?_
  have hy : (H ++ [Blk.row [.int .i64 e.x, .int .i64 e.y, .int .i64 e.u] true])[H.length]? = some (.row [.int .i64 e.x, .int .i64 e.y, .int .i64 e.u] true) := List.getElem?_concat_length
  have hb0 : ∀ b o z y, u = .sl b o z y → b < H.length := fun b o z y h => by
    cases ho with
    | nil => cases h
    | row h1 h2 => cases h; exact (List.getElem?_eq_some_iff.1 h2).1
  have hask : askIns [u, .int .i64 (i : Int), .sl H.length 0 1 3] (H ++ [.row [.int .i64 e.x, .int .i64 e.y, .int .i64 e.u] true]) = true := by
    cases ho with
    | nil =>
      have : i = 0 := by simpa using hi
      subst this
      simp [askIns]
    | row h1 h2 =>
      have h3 := hb0 _ _ _ _ rfl
      simp [askIns]
      exact ⟨hi, by omega, by omega⟩
  have ea : evX lim (H ++ [.row [.int .i64 e.x, .int .i64 e.y, .int .i64 e.u] true]) (.ask askIns) [u, .int .i64 (i : Int), .sl H.length 0 1 3] = some (dv, H ++ [.row [.int .i64 e.x, .int .i64 e.y, .int .i64 e.u] true]) := by
    show (if askIns _ _ = true then _ else _) = _
    rw [if_pos hask]
  obtain ⟨v', H', a1, a2, a3, a4, a5, a6⟩ := ho.appendF (lim := lim) (bytes := 24) (x := e) (cs := [.int .i64 e.x, .int .i64 e.y, .int .i64 e.u]) (Eq.trans rfl rfl) hlim (by omega) (by omega)
  by_cases he : i = l.length
  · subst he
    have hd : decide ((l.length : Int) = (l.length : Int)) = true := decide_eq_true rfl
    simp [vf27, insV, ea, ho.lst.len, ho.lst.stor, a1, hd, a2.lst.stor]
    exact hK H' v' (by simpa using a2.lst) (by omega) a5
  · have hd : decide ((i : Int) = (l.length : Int)) = false := decide_eq_false (by omega)
    have hil : i < l.length := by omega
    obtain ⟨b, rfl, hb1, hb2⟩ := ho.row_of (by omega)
    have hbl := (List.getElem?_eq_some_iff.1 hb2).1
    obtain ⟨cs, new, q1, q2, q3, q4, q5, q6⟩ := vapp_sl rfl a1
    have hcs : cs = edC.all l := by
      rw [List.getElem?_append_left hbl, hb2] at q2
      cases q2; rfl
    have hnew : new = [.int .i64 e.x, .int .i64 e.y, .int .i64 e.u] := by
      simp [vcells] at q4
      exact q4.symm
    have hl3 : (edC.all l).length = l.length * 3 := Cod.all_len
    generalize hN : (H ++ [Blk.row [.int .i64 e.x, .int .i64 e.y, .int .i64 e.u] true]).length = N at q5
    have hN1 : N = H.length + 1 := by rw [← hN]; simp
    have hHN : H'[N]? = some (.row (cs ++ new) true) := by
      rw [q6, ← hN]; simp
    have hHy : H'[H.length]? = some (.row [.int .i64 e.x, .int .i64 e.y, .int .i64 e.u] true) := by
      rw [q6, List.getElem?_append_left (by simp), List.getElem?_set_ne (by omega)]; exact hy
    have hnl : new.length = 3 := by rw [hnew]; rfl
    have hdl : (cs.drop (i * 3)).length = (l.length - i) * 3 := by rw [List.length_drop, q3]; omega
    have hw : IntKind.wrap .i64 ((i : Int) + 1) = ((i + 1 : Nat) : Int) := by rw [wrap_i64 (by omega) (by omega)]; simp
    have b1 : vbounds (l.length + 1) (some (.int .i64 ((i + 1 : Nat) : Int))) none = some (i + 1, l.length + 1) := vbounds_lo (k := .i64) (n := i + 1) (by omega)
    have b2 : vbounds (l.length + 1) (some (.int .i64 (i : Int))) (some (.int .i64 (l.length : Int))) = some (i, l.length) := by
      simp [vbounds, vint]; omega
    have b3 : vbounds (l.length + 1) (some (.int .i64 (i : Int))) none = some (i, l.length + 1) := vbounds_lo (k := .i64) (n := i) (by omega)
    have e1 : vslS 3 (.sl N 0 (l.length + 1) 3) (some (.int .i64 ((i + 1 : Nat) : Int))) none = some (.sl N ((i + 1) * 3) (l.length - i) 3) := by
      simp only [vslS, if_true, b1]
      rw [if_neg (by omega), if_neg (by omega)]
      congr 2 <;> omega
    have e2 : vslS 3 (.sl N 0 (l.length + 1) 3) (some (.int .i64 (i : Int))) (some (.int .i64 (l.length : Int))) = some (.sl N (i * 3) (l.length - i) 3) := by
      simp only [vslS, if_true, b2]
      by_cases e0 : i = 0
      · subst e0; simp
      · rw [if_neg e0, if_neg (by omega)]; congr 2; omega
    have e4 : vslS 3 (.sl N 0 (l.length + 1) 3) (some (.int .i64 (i : Int))) none = some (.sl N (i * 3) (l.length + 1 - i) 3) := by
      simp only [vslS, if_true, b3]
      by_cases e0 : i = 0
      · subst e0; simp
      · rw [if_neg e0, if_neg (by omega)]; congr 2; omega
    have hlN : lim ≤ N := by omega
    have c1 : vcells 3 H' (.sl N (i * 3) (l.length - i) 3) = some (cs.drop (i * 3)) := by
      simp only [vcells, if_true, hHN]
      rw [if_pos (by rw [List.length_append]; omega), List.drop_append_of_le_length (by omega), List.take_append_of_le_length (by omega), List.take_of_length_le (by omega)]
    have e3 : vcopy lim 3 H' (.sl N ((i + 1) * 3) (l.length - i) 3) (.sl N (i * 3) (l.length - i) 3) = some (.int .i64 ((l.length - i : Nat) : Int), H'.set N (.row (splice (cs ++ new) ((i + 1) * 3) (cs.drop (i * 3))) true)) := by
      simp only [vcopy, vlenS, c1, Int.toNat_natCast, Nat.min_self]
      rw [if_neg (by omega)]
      simp only [if_true, vstoreH, hlN, hHN]
      rw [List.take_of_length_le (by omega), if_pos (by rw [List.length_append]; omega)]
    have hH2N : (H'.set N (.row (splice (cs ++ new) ((i + 1) * 3) (cs.drop (i * 3))) true))[N]? = some (.row (splice (cs ++ new) ((i + 1) * 3) (cs.drop (i * 3))) true) := List.getElem?_set_self (List.getElem?_eq_some_iff.1 hHN).1
    have c2 : vcells 3 (H'.set N (.row (splice (cs ++ new) ((i + 1) * 3) (cs.drop (i * 3))) true)) (.sl H.length 0 1 3) = some new := by
      simp only [vcells, if_true]
      rw [List.getElem?_set_ne (by omega), hHy, hnew]
      simp
    have hsl : (splice (cs ++ new) ((i + 1) * 3) (cs.drop (i * 3))).length = (l.length + 1) * 3 := by
      simp only [splice, List.length_append, List.length_take, List.length_drop, q3, hnl]; omega
    have e5 : vcopy lim 3 (H'.set N (.row (splice (cs ++ new) ((i + 1) * 3) (cs.drop (i * 3))) true)) (.sl N (i * 3) (l.length + 1 - i) 3) (.sl H.length 0 1 3) = some (.int .i64 ((1 : Nat) : Int), H'.set N (.row (cs.take (i * 3) ++ new ++ cs.drop (i * 3)) true)) := by
      simp only [vcopy, vlenS, c2, Int.toNat_natCast, Nat.min_eq_left (show 1 ≤ l.length + 1 - i by omega)]
      rw [if_neg (by omega)]
      simp only [if_true, vstoreH, hlN, hH2N]
      rw [List.take_of_length_le (by omega), if_pos (by rw [hsl]; omega), List.set_set, splice_two q3 hnl hil]
    simp [vf27, insV, ea, ho.lst.len, ho.lst.stor, a1, hd, q5, hw, e1, e2, e3, e4, e5, -Int.natCast_add]
    refine hK _ _ ?_ (by simp; omega) fun b' hb' hne => ?_
    · have hall : cs.take (i * 3) ++ new ++ cs.drop (i * 3) = edC.all (l.take i ++ [e] ++ l.drop i) := by
        rw [Cod.all_append, Cod.all_append, hcs, hnew, Cod.all_take, Cod.all_drop]
        congr 2
      have hlen : (l.take i ++ [e] ++ l.drop i).length = l.length + 1 := by simp; omega
      rw [← hlen]
      refine .sl (own := true) (cs := cs.take (i * 3) ++ (new ++ cs.drop (i * 3))) (List.getElem?_set_self (List.getElem?_eq_some_iff.1 hHN).1) ?_ ?_
      · rw [← List.append_assoc, hall, Cod.all_len]; omega
      · rw [← List.append_assoc, hall, List.drop_zero, List.take_of_length_le (by rw [Cod.all_len]; omega)]
    · rw [List.getElem?_set_ne (by omega)]
      exact a5 b' hb' hne
end
end Go.Proofs.Ytnfhccioglpjhaa.Vm
