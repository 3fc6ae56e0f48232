/- Texts of fields and caps (pure). -/
import Derived.Test.YtgjlhdggllakbaaDoorFtA
import Derived.Test.YtgjlhdggllakbaaDoorTxA
import Derived.Test.YtgjlhdggllakbaaDoorTxB
namespace Go.Proofs.YtgjlhdggllakbaaDoor.Vm
open Go
set_option linter.unusedSimpArgs false
set_option linter.unusedVariables false

theorem wds_lines {c : UInt8} : ∀ {L : List (List UInt8)}, (∀ l ∈ L, c ∉ l) → wds c (L.flatMap fun l => l ++ [c]) = L ++ [[]]
  | [], _ => rfl
  | l :: L, h => by
    have e : (l :: L).flatMap (fun l => l ++ [c]) = l ++ c :: L.flatMap (fun l => l ++ [c]) := by simp
    rw [e, wds_app (h l (by simp)), wds_lines fun m hm => h m (by simp [hm])]; rfl
def easeL : List UInt8 := [101, 97, 115, 101]
def pieceL : List UInt8 := [112, 105, 101, 99, 101]
def seamL : List UInt8 := [115, 101, 97, 109]
/-- a line of a word and numbers -/
def lnL (w : List UInt8) (l : List Nat) : List UInt8 := w ++ nums 32 l
theorem nums_no {c d : UInt8} (hd : ¬ isDg d) (hcd : d ≠ c) : ∀ {l : List Nat}, d ∉ nums c l
  | [] => by simp [nums]
  | n :: l => by
    rw [nums_cons]
    intro h
    rcases List.mem_cons.1 h with h | h
    · exact hcd h
    · rcases List.mem_append.1 h with h | h
      · exact dg_not hd h
      · exact nums_no hd hcd h
def flP (p : List (Nat × Nat)) : List Nat := p.flatMap fun x => [x.1, x.2]
/-- the text of a cap -/
def capLs (e : Nat) (ps : List (List (Nat × Nat))) (ss : List (List Nat)) : List (List UInt8) := lnL easeL [e] :: (ps.map (fun p => lnL pieceL (flP p)) ++ ss.map (lnL seamL))
def fmtC (e : Nat) (ps : List (List (Nat × Nat))) (ss : List (List Nat)) : List UInt8 := (capLs e ps ss).flatMap fun l => l ++ [10]
theorem h10 : ¬ isDg 10 := by unfold isDg; decide
theorem h32 : ¬ isDg 32 := by unfold isDg; decide
theorem ln_no {w : List UInt8} {l : List Nat} (h : (10 : UInt8) ∉ w) : (10 : UInt8) ∉ lnL w l := by
  intro hh
  rcases List.mem_append.1 hh with hh | hh
  · exact h hh
  · exact nums_no h10 (by decide) hh
theorem wds_fmtC {e : Nat} {ps : List (List (Nat × Nat))} {ss : List (List Nat)} : wds 10 (fmtC e ps ss) = capLs e ps ss ++ [[]] := by
  refine wds_lines fun l hl => ?_
  unfold capLs at hl
  rcases List.mem_cons.1 hl with rfl | hl
  · exact ln_no (by decide)
  · rcases List.mem_append.1 hl with hl | hl
    · obtain ⟨p, -, rfl⟩ := List.mem_map.1 hl
      exact ln_no (by decide)
    · obtain ⟨p, -, rfl⟩ := List.mem_map.1 hl
      exact ln_no (by decide)
/-! reading -/
structure CpX where
  P : List (List Int × List Int)
  S : List (List Int)
  e : Int
def prs : List Int → List Int × List Int
  | a :: b :: r => (a :: (prs r).1, b :: (prs r).2)
  | _ => ([], [])
def CpX.put (ev : Bool) (x : CpX) (w : List UInt8) (ns : List Int) : CpX :=
  if w = easeL ∧ ns.length = 1 then { x with e := ns.headD 0 }
  else if w = pieceL ∧ (ev = true → ns.length % 2 = 0) then { x with P := x.P ++ [prs ns] }
  else if w = seamL ∧ ns.length = 4 then { x with S := x.S ++ [ns] }
  else x
def CpX.take (num : List UInt8 → Int) (ev : Bool) (x : CpX) (line : List UInt8) : CpX := x.put ev ((wds 32 line).headD []) ((wds 32 line).tail.map num)
def rdC (num : List UInt8 → Int) (ev : Bool) (l : List (List UInt8)) : CpX := l.foldl (CpX.take num ev) ⟨[], [], 0⟩
def smallL (l : List Nat) : Prop := ∀ n ∈ l, n < 1000000000
def NumOk (num : List UInt8 → Int) : Prop := ∀ n : Nat, n < 1000000000 → num (Lib.decDigits n) = n
theorem map_num {num : List UInt8 → Int} (hn : NumOk num) : ∀ {l : List Nat}, smallL l → (l.map Lib.decDigits).map num = ints' l
  | [], _ => rfl
  | n :: l, h => by
    have := map_num hn (l := l) fun m hm => h m (by simp [hm])
    rw [List.map_cons, List.map_cons, hn n (h n (by simp)), this]; rfl
theorem ln_wds {w : List UInt8} (hw : (32 : UInt8) ∉ w) {l : List Nat} : wds 32 (lnL w l) = w :: l.map Lib.decDigits := wds_numsE h32 hw
theorem ints_len {l : List Nat} : (ints' l).length = l.length := by simp [ints']
theorem fl_len {p : List (Nat × Nat)} : (flP p).length = 2 * p.length := by
  induction p with
  | nil => rfl
  | cons x p ih => simp only [flP, List.flatMap_cons, List.length_append, List.length_cons, List.length_nil] at ih ⊢; omega
theorem prs_fl : ∀ {p : List (Nat × Nat)}, prs (ints' (flP p)) = (ints' (p.map Prod.fst), ints' (p.map Prod.snd))
  | [] => rfl
  | x :: p => by
    have := prs_fl (p := p)
    show prs ((x.1 : Int) :: (x.2 : Int) :: ints' (flP p)) = _
    simp only [prs, this]; rfl
theorem take_ln {num : List UInt8 → Int} (hn : NumOk num) {ev : Bool} {x : CpX} {w : List UInt8} (hw : (32 : UInt8) ∉ w) {l : List Nat} (hl : smallL l) : x.take num ev (lnL w l) = x.put ev w (ints' l) := by
  unfold CpX.take
  rw [ln_wds hw]
  simp only [List.headD_cons, List.tail_cons]
  rw [map_num hn hl]
theorem ne1 : ¬ pieceL = easeL := by decide
theorem ne2 : ¬ seamL = easeL := by decide
theorem ne3 : ¬ seamL = pieceL := by decide
theorem take_piece {num : List UInt8 → Int} (hn : NumOk num) {ev : Bool} {x : CpX} {p : List (Nat × Nat)} (hp : smallL (flP p)) : x.take num ev (lnL pieceL (flP p)) = { x with P := x.P ++ [(ints' (p.map Prod.fst), ints' (p.map Prod.snd))] } := by
  rw [take_ln hn (by decide) hp]
  unfold CpX.put
  rw [if_neg (fun h => ne1 h.1), if_pos ⟨rfl, fun _ => by rw [ints_len, fl_len]; omega⟩, prs_fl]
theorem take_seam {num : List UInt8 → Int} (hn : NumOk num) {ev : Bool} {x : CpX} {s : List Nat} (h4 : s.length = 4) (hs : smallL s) : x.take num ev (lnL seamL s) = { x with S := x.S ++ [ints' s] } := by
  rw [take_ln hn (by decide) hs]
  unfold CpX.put
  rw [if_neg (fun h => ne2 h.1), if_neg (fun h => ne3 h.1), if_pos ⟨rfl, by rw [ints_len, h4]⟩]
theorem take_ease {num : List UInt8 → Int} (hn : NumOk num) {ev : Bool} {x : CpX} {e : Nat} (he : e < 1000000000) : x.take num ev (lnL easeL [e]) = { x with e := (e : Int) } := by
  rw [take_ln hn (by decide) (fun n hn => by simp at hn; omega)]
  unfold CpX.put
  rw [if_pos ⟨rfl, rfl⟩]; rfl
theorem take_end {num : List UInt8 → Int} {ev : Bool} {x : CpX} : x.take num ev [] = x := by
  show x.put ev [] [] = x
  unfold CpX.put
  rw [if_neg (fun h => absurd h.1 (by decide)), if_neg (fun h => absurd h.1 (by decide)), if_neg (fun h => absurd h.1 (by decide))]
theorem takes_piece {num : List UInt8 → Int} (hn : NumOk num) {ev : Bool} : ∀ {ps : List (List (Nat × Nat))} {x : CpX}, (∀ p ∈ ps, smallL (flP p)) → (ps.map fun p => lnL pieceL (flP p)).foldl (CpX.take num ev) x = { x with P := x.P ++ ps.map fun p => (ints' (p.map Prod.fst), ints' (p.map Prod.snd)) }
  | [], x, _ => by simp
  | p :: ps, x, h => by
    rw [List.map_cons, List.foldl_cons, take_piece hn (h p (by simp)), takes_piece hn fun q hq => h q (by simp [hq])]
    simp
theorem takes_seam {num : List UInt8 → Int} (hn : NumOk num) {ev : Bool} : ∀ {ss : List (List Nat)} {x : CpX}, (∀ s ∈ ss, s.length = 4 ∧ smallL s) → (ss.map (lnL seamL)).foldl (CpX.take num ev) x = { x with S := x.S ++ ss.map ints' }
  | [], x, _ => by simp
  | s :: ss, x, h => by
    obtain ⟨h4, hs⟩ := h s (by simp)
    rw [List.map_cons, List.foldl_cons, take_seam hn h4 hs, takes_seam hn fun q hq => h q (by simp [hq])]
    simp
/-- what was written is read -/
theorem rd_fmtC {num : List UInt8 → Int} (hn : NumOk num) {ev : Bool} {e : Nat} {ps : List (List (Nat × Nat))} {ss : List (List Nat)} (he : e < 1000000000) (hp : ∀ p ∈ ps, smallL (flP p)) (hs : ∀ s ∈ ss, s.length = 4 ∧ smallL s) :
    rdC num ev (wds 10 (fmtC e ps ss)) = ⟨ps.map fun p => (ints' (p.map Prod.fst), ints' (p.map Prod.snd)), ss.map ints', e⟩ := by
  unfold rdC
  rw [wds_fmtC, List.foldl_append, List.foldl_cons, List.foldl_nil, take_end, capLs, List.foldl_cons, List.foldl_append, take_ease hn he, takes_piece hn hp, takes_seam hn hs]
  simp only [List.nil_append]
/-- the program's reader of a number, the error aside -/
def atV (w : List UInt8) : Int := match Lib.atoiAll w with
  | .ok n => n
  | .syntax => 0
  | .range => Lib.atoiSat w
theorem atV_ok : NumOk atV := fun n hn => by
  unfold atV; rw [atoi_dd (by omega)]
end Go.Proofs.YtgjlhdggllakbaaDoor.Vm
namespace Go.Proofs.YtgjlhdggllakbaaDoor.Vm
open Go
set_option linter.unusedSimpArgs false
set_option linter.unusedVariables false
attribute [-simp] List.getD_eq_getElem?_getD

theorem wds_cat {c : UInt8} : ∀ {L : List (List UInt8)} {p : List UInt8}, c ∉ p → (∀ q ∈ L, c ∉ q) → wds c (p ++ L.flatMap (fun q => c :: q)) = p :: L
  | [], p, hp, _ => by simp [wds_free hp]
  | q :: L, p, hp, h => by
    have e : p ++ (q :: L).flatMap (fun q => c :: q) = p ++ c :: (q ++ L.flatMap (fun q => c :: q)) := by simp
    rw [e, wds_app hp, wds_cat (h q (by simp)) fun m hm => h m (by simp [hm])]
def flowL : List UInt8 := [102, 108, 111, 119]
/-- the rows -/
def rwF (w : Nat) (D : List Int) : Nat → List UInt8
  | 0 => []
  | i + 1 => rwF w D i ++ ((if 0 < i ∧ i % w = 0 then [47] else []) ++ Lib.decDigits (D.getD i 0).toNat)
def edT (e : Ed) : List UInt8 := Lib.decDigits e.x.toNat ++ 44 :: (Lib.decDigits e.y.toNat ++ 44 :: Lib.decDigits e.u.toNat)
/-- the text of a field -/
def fmtF (w q : Nat) (D : List Int) (P : List Ed) : List UInt8 := flowL ++ (Lib.decDigits w :: Lib.decDigits q :: rwF w D D.length :: P.map edT).flatMap fun x => 32 :: x
def rdE (num : List UInt8 → Int) (w : List UInt8) : List Ed := match wds 44 w with
  | [a, b, c] => [⟨num a, num b, num c⟩]
  | _ => []
def rdD (l : List UInt8) : List Int := (l.filter fun b => b ≠ 47).map fun b => (b.toNat : Int) - 48
structure FlX where
  W : Int
  Q : Int
  D : List Int
  P : List Ed
  deriving DecidableEq
/-- what a reader makes of the words -/
def rdF (num : List UInt8 → Int) : List (List UInt8) → FlX
  | _ :: a :: b :: c :: r => ⟨num a, num b, rdD c, r.flatMap (rdE num)⟩
  | _ => ⟨0, 0, [], []⟩
theorem rw_mem {w : Nat} {D : List Int} : ∀ {i : Nat} {b : UInt8}, b ∈ rwF w D i → b = 47 ∨ isDg b
  | 0, b, h => by simp [rwF] at h
  | i + 1, b, h => by
    rw [rwF] at h
    rcases List.mem_append.1 h with h | h
    · exact rw_mem h
    · rcases List.mem_append.1 h with h | h
      · split at h
        · left; simpa using h
        · simp at h
      · exact .inr (dd_dg _ b h)
theorem ed_mem {e : Ed} {b : UInt8} (h : b ∈ edT e) : b = 44 ∨ isDg b := by
  unfold edT at h
  simp only [List.mem_append, List.mem_cons] at h
  rcases h with h | h | h | h | h
  · exact .inr (dd_dg _ b h)
  · exact .inl h
  · exact .inr (dd_dg _ b h)
  · exact .inl h
  · exact .inr (dd_dg _ b h)
theorem rdD_app {l m : List UInt8} : rdD (l ++ m) = rdD l ++ rdD m := by simp [rdD]
theorem rdD_dd {d : Int} (h : 0 ≤ d ∧ d ≤ 7) : rdD (Lib.decDigits d.toNat) = [d] := by
  have h1 : d.toNat < 10 := by omega
  obtain ⟨h2, h3⟩ := dg_of h1
  rw [Lib.decDigits_one h1]
  have hn : UInt8.ofNat (48 + d.toNat) ≠ 47 := fun e => by
    rw [e] at h3
    have : (47 : UInt8).toNat = 47 := rfl
    omega
  have hd : decide (UInt8.ofNat (48 + d.toNat) ≠ 47) = true := decide_eq_true hn
  unfold rdD
  rw [List.filter_cons, if_pos hd, List.filter_nil, List.map_cons, List.map_nil, h3]
  congr 1; omega
theorem rdD_rw {w : Nat} {D : List Int} (hd : ∀ i, 0 ≤ D.getD i 0 ∧ D.getD i 0 ≤ 7) : ∀ {i : Nat}, i ≤ D.length → rdD (rwF w D i) = D.take i
  | 0, _ => rfl
  | i + 1, h => by
    have e : D.take (i + 1) = D.take i ++ [D.getD i 0] := by
      rw [List.take_add_one, List.getElem?_eq_getElem (by omega)]
      simp [List.getD_eq_getElem?_getD, List.getElem?_eq_getElem (show i < D.length by omega)]
    rw [rwF, rdD_app, rdD_app, rdD_rw hd (by omega), rdD_dd (hd i), e]
    have : rdD (if 0 < i ∧ i % w = 0 then [47] else []) = [] := by split <;> rfl
    rw [this]; rfl
theorem h44 : ¬ isDg 44 := by unfold isDg; decide
theorem h47 : ¬ isDg 47 := by unfold isDg; decide
theorem wds_ed {e : Ed} : wds 44 (edT e) = [Lib.decDigits e.x.toNat, Lib.decDigits e.y.toNat, Lib.decDigits e.u.toNat] := by
  unfold edT
  rw [wds_app (dg_not h44), wds_app (dg_not h44), wds_free (dg_not h44)]
def edB (e : Ed) : Prop := (0 ≤ e.x ∧ e.x ≤ 1000) ∧ (0 ≤ e.y ∧ e.y ≤ 1000) ∧ (0 ≤ e.u ∧ e.u ≤ 1000)
theorem rdE_ed {num : List UInt8 → Int} (hn : NumOk num) {e : Ed} (h : edB e) : rdE num (edT e) = [e] := by
  unfold rdE
  rw [wds_ed]
  obtain ⟨h1, h2, h3⟩ := h
  show [(⟨num _, num _, num _⟩ : Ed)] = _
  rw [hn _ (by omega), hn _ (by omega), hn _ (by omega)]
  have a : ((e.x.toNat : Nat) : Int) = e.x := by omega
  have b : ((e.y.toNat : Nat) : Int) = e.y := by omega
  have c : ((e.u.toNat : Nat) : Int) = e.u := by omega
  rw [a, b, c]
theorem rdEs {num : List UInt8 → Int} (hn : NumOk num) : ∀ {P : List Ed}, (∀ e ∈ P, edB e) → (P.map edT).flatMap (rdE num) = P
  | [], _ => rfl
  | e :: P, h => by
    rw [List.map_cons, List.flatMap_cons, rdE_ed hn (h e (by simp)), rdEs hn fun x hx => h x (by simp [hx])]; rfl
theorem PreF.edB {w q : Nat} {D : List Int} {P : List Ed} (h : PreF w q D P) : ∀ e ∈ P, edB e := by
  intro e he
  obtain ⟨i, hi, rfl⟩ := List.mem_iff_getElem.1 he
  have h1 := h.po i hi
  simp only [pOk, Bool.and_eq_true] at h1
  have h2 := h1.1
  have e0 : P.getD i default = P[i] := by simp [List.getD_eq_getElem?_getD, hi]
  rw [e0] at h2
  have hw := h.w1
  have hq := h.q1
  simp only [isEB, decide_eq_true_eq] at h2
  unfold Vm.edB
  omega
theorem wds_fmtF {w q : Nat} {D : List Int} {P : List Ed} : wds 32 (fmtF w q D P) = flowL :: Lib.decDigits w :: Lib.decDigits q :: rwF w D D.length :: P.map edT := by
  unfold fmtF
  refine wds_cat (by decide) fun x hx => ?_
  rcases List.mem_cons.1 hx with rfl | hx
  · exact dg_not h32
  rcases List.mem_cons.1 hx with rfl | hx
  · exact dg_not h32
  rcases List.mem_cons.1 hx with rfl | hx
  · intro h
    rcases rw_mem h with h | h
    · revert h; decide
    · exact h32 h
  · obtain ⟨e, -, rfl⟩ := List.mem_map.1 hx
    intro h
    rcases ed_mem h with h | h
    · revert h; decide
    · exact h32 h
/-- what was written is read -/
theorem rd_fmtF {num : List UInt8 → Int} (hn : NumOk num) {w q : Nat} {D : List Int} {P : List Ed} (h : PreF w q D P) : rdF num (wds 32 (fmtF w q D P)) = ⟨w, q, D, P⟩ := by
  rw [wds_fmtF]
  show (⟨num _, num _, rdD _, (P.map edT).flatMap (rdE num)⟩ : FlX) = _
  have hw := h.w1
  have hq := h.q1
  rw [hn w (by omega), hn q (by omega), rdD_rw h.dd (Nat.le_refl _), List.take_length, rdEs hn h.edB]
def accF (x : FlX) (T : List UInt8) : Prop := validP x.W x.Q x.D x.P = 0 ∧ fmtF x.W.toNat x.Q.toNat x.D x.P = T
instance {x : FlX} {T : List UInt8} : Decidable (accF x T) := by unfold accF; infer_instance
def prsF (x : FlX) (T : List UInt8) : FlX × Int := if 4000 < T.length then (⟨0, 0, [], []⟩, 4) else if accF x T then (x, 0) else (⟨0, 0, [], []⟩, 3)
theorem valid_preX {W Q : Int} {D : List Int} {P : List Ed} (h : validP W Q D P = 0) : ∃ w q : Nat, W = w ∧ Q = q ∧ PreF w q D P := by
  by_cases h0 : W < 1 ∨ 12 < W ∨ Q < 1 ∨ 12 < Q ∨ (D.length : Int) ≠ W * Q
  · rw [validP_1 h0] at h; cases h
  rw [validP_2 h0] at h
  obtain ⟨w, rfl⟩ := Int.eq_ofNat_of_zero_le (show 0 ≤ W by omega)
  obtain ⟨q, rfl⟩ := Int.eq_ofNat_of_zero_le (show 0 ≤ Q by omega)
  split at h
  · cases h
  split at h
  · cases h
  split at h
  · cases h
  rename_i h1 h2 h3
  exact ⟨w, q, rfl, rfl, PreF.of h0 (by simpa using h1) h2 (by simpa using h3)⟩
theorem acc_rd {num : List UInt8 → Int} (hn : NumOk num) {x : FlX} {T : List UInt8} (h : accF x T) : rdF num (wds 32 T) = x := by
  obtain ⟨h1, rfl⟩ := h
  obtain ⟨w, q, e1, e2, hp⟩ := valid_preX h1
  obtain ⟨W, Q, D, P⟩ := x
  simp only at e1 e2 hp
  subst e1 e2
  exact rd_fmtF hn hp
theorem numR_ok : NumOk numR := fun n hn => numR_dd hn
/-- both readers accept the same texts, and read the same of them -/
theorem prsF_both {T : List UInt8} : prsF (rdF atV (wds 32 T)) T = prsF (rdF numR (wds 32 T)) T := by
  unfold prsF
  split
  · rfl
  · by_cases h : accF (rdF atV (wds 32 T)) T
    · have e := acc_rd numR_ok h
      rw [if_pos h, e, if_pos h]
    · by_cases h2 : accF (rdF numR (wds 32 T)) T
      · have e := acc_rd atV_ok h2
        rw [e] at h
        exact absurd h2 h
      · rw [if_neg h, if_neg h2]
theorem dd_small {u : Nat} (h : u < 1000000000) : (Lib.decDigits u).length ≤ 9 := dd_len 8 u (by simpa using h)
theorem rw_len {w : Nat} {D : List Int} (hd : ∀ i, 0 ≤ D.getD i 0 ∧ D.getD i 0 ≤ 7) : ∀ {i : Nat}, (rwF w D i).length ≤ 10 * i
  | 0 => by simp [rwF]
  | i + 1 => by
    have h1 := rw_len (w := w) hd (i := i)
    have h2 := dd_small (u := (D.getD i 0).toNat) (by have := hd i; omega)
    rw [rwF, List.length_append, List.length_append]
    split <;> simp <;> omega
theorem ed_len {e : Ed} (h : edB e) : (edT e).length ≤ 29 := by
  obtain ⟨h1, h2, h3⟩ := h
  have a := dd_small (u := e.x.toNat) (by omega)
  have b := dd_small (u := e.y.toNat) (by omega)
  have c := dd_small (u := e.u.toNat) (by omega)
  unfold edT
  simp only [List.length_append, List.length_cons]; omega
def edsF (P : List Ed) : List UInt8 := (P.map edT).flatMap fun x => 32 :: x
theorem eds_len : ∀ {P : List Ed}, (∀ e ∈ P, edB e) → (edsF P).length ≤ 30 * P.length
  | [], _ => by simp [edsF]
  | e :: P, h => by
    have h1 := ed_len (h e (by simp))
    have h2 := eds_len (P := P) fun x hx => h x (by simp [hx])
    simp only [edsF, List.map_cons, List.flatMap_cons, List.length_append, List.length_cons] at h2 ⊢
    omega
theorem eds_take {P : List Ed} {i : Nat} (h : i < P.length) : edsF (P.take (i + 1)) = edsF (P.take i) ++ 32 :: edT (P.getD i default) := by
  have e : P.take (i + 1) = P.take i ++ [P.getD i default] := by
    rw [List.take_add_one, List.getElem?_eq_getElem h]; simp [List.getD_eq_getElem?_getD, h]
  rw [e]; simp [edsF]
def headF (w q : Nat) : List UInt8 := flowL ++ (32 :: Lib.decDigits w) ++ (32 :: Lib.decDigits q) ++ [32]
theorem fmtF_eq {w q : Nat} {D : List Int} {P : List Ed} : fmtF w q D P = headF w q ++ rwF w D D.length ++ edsF P := by
  simp [fmtF, headF, edsF]
theorem fmtF_len {w q : Nat} {D : List Int} {P : List Ed} (h : PreF w q D P) : (fmtF w q D P).length ≤ 3400 := by
  have hw := h.w1
  have hq := h.q1
  have a := dd_small (u := w) (by omega)
  have b := dd_small (u := q) (by omega)
  have c := rw_len (w := w) h.dd (i := D.length)
  have d := eds_len h.edB
  have pl := h.pl
  have dl : D.length ≤ 144 := by
    have h1 := h.dl
    have h2 : (w : Int) * q ≤ 12 * 12 := Int.mul_le_mul (by omega) (by omega) (by omega) (by omega)
    omega
  rw [fmtF_eq]
  simp only [headF, flowL, List.length_append, List.length_cons, List.length_nil]
  omega
end Go.Proofs.YtgjlhdggllakbaaDoor.Vm
