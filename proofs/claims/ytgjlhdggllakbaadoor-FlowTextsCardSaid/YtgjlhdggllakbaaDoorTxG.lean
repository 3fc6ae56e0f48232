/- Texts of bundles over the machine: the program's side. -/
import Derived.Test.YtgjlhdggllakbaaDoorTmA
namespace Go.Proofs.YtgjlhdggllakbaaDoor.Vm
open Go
set_option maxRecDepth 100000
set_option linter.unusedSimpArgs false
set_option linter.unusedVariables false
attribute [-simp] List.getD_eq_getElem?_getD

theorem numbers_t {H : Hp} {lim : Nat} {v : V} {r w : List Int} {way : Nat} {K : V → Hp → Prop} (hg : HX glHp H) (hlim : lim ≤ H.length) (hv : SlV H v (sideF (op r w) way)) (hK : ∀ H', HX H H' → K (.str (bA (nums 32 (toN (sideF (op r w) way))))) H') : VCall tbl lim 24 [v] H K := by
  refine VCall_fn tbl_at24 rfl ?_
  obtain ⟨R, hR⟩ : ∃ R, R = sideF (op r w) way := ⟨_, rfl⟩
  have n1 : R.length ≤ 24 := by rw [hR]; exact side_len
  have m1 : ∀ i, (nums 32 (toN (R.take i))).length ≤ 240 := fun i => by
    have := nums_len (c := 32) (mid_take (r := r) (w := w) (way := way) (i := i))
    rw [← hR] at this
    simp only [toN, List.length_map, List.length_take] at this
    simp only [toN]; omega
  have sa : ∀ {i}, i < R.length → (R.getD i 0).toNat ≤ 1000000 ∧ (((R.getD i 0).toNat : Nat) : Int) = R.getD i 0 := fun {i} h => by
    have hm : R.getD i 0 ∈ sideF (op r w) way := by
      rw [← hR, List.getD_eq_getElem?_getD, List.getElem?_eq_getElem h]; exact List.getElem_mem h
    have := side_bd _ hm
    omega
  rw [← hR] at hv hK
  simp [vf24, hv.len]
  refine wLoop_up R.length (fun i fr L H' => (fr 6 = v ∧ fr 7 = .int .i64 R.length ∧ fr 8 = .int .i64 i ∧ fr 3 = .str (bA (nums 32 (toN (R.take i))))) ∧ L = [] ∧ HX H H' ∧ i ≤ R.length) ⟨⟨by simp, by simp, by simp, by simp [nums, toN]; rfl⟩, rfl, .refl, by omega⟩ ?_
  rintro i hi fr L H1 ⟨⟨f6, f7, f8, f3⟩, rfl, x1, hle⟩
  have l1 := x1.len
  by_cases hp : i < R.length
  · have hp' : ((i : Int) < (R.length : Int)) = True := eq_true (by omega)
    obtain ⟨b1, b2⟩ := sa hp
    obtain ⟨n, hn⟩ : ∃ n : Nat, n = (R.getD i 0).toNat := ⟨_, rfl⟩
    rw [← hn] at b1 b2
    have hv1 := hv.mono x1
    have hld := hv1.load (i := i) hp (L := [])
    rw [← b2] at hld
    have hdl := dd_len20 (n := n) (by omega)
    have hm := m1 i
    have ad1 := vadd_bA (l := [32]) (m := Lib.decDigits n) (by simp; omega)
    have ad2 := vadd_bA (l := nums 32 (toN (R.take i))) (m := 32 :: Lib.decDigits n) (by simp; omega)
    have hnx := nums_take (l := R) (i := i) hp
    rw [← hn] at hnx
    have had := hv1.addr (i := (i : Int)) ⟨by omega, by omega⟩
    simp only [List.cons_append, List.nil_append] at ad1
    simp (disch := omega) [f3, f6, f7, f8, hp', had, hld, wrap_i64]
    refine itoa_t (hg.trans x1) (by omega) b1 fun H2 x2 => ?_
    simp (disch := omega) [f3, f6, f7, f8, bA1, ad1, ad2, wrap_i64]
    refine ⟨hp, ?_, x1.trans x2, hp⟩
    rw [hnx]
  · have hp' : ((i : Int) < (R.length : Int)) = False := eq_false (by omega)
    have hi : i = R.length := by omega
    subst hi
    rw [List.take_of_length_le (Nat.le_refl _)] at f3
    simp [f3, f6, f7, f8, hp']
    exact hK H1 x1
theorem hair_Format {lim : Nat} {H : Hp} {bv : V} {r w : List Int} {K : V → Hp → Prop} (hg : HX glHp H) (hb : BunV H r w bv) (hlim : lim ≤ H.length) (hK : ∀ H', HX H H' → K (.tup [.str (txtP r w), .int .i64 (errOf r w)]) H') : VCall tbl lim 7 [bv] H K := by
  obtain ⟨hx, hy⟩ := hb
  rename_i rv wv
  have hb : BunV H r w (.agg [rv, wv]) := .mk hx hy
  refine VCall_fn tbl_at7 rfl ?_
  simp [vf7, hx.stor, hy.stor, hx.one, hy.one]
  refine hair_open2 hb hlim (fun he H1 x1 => ?_) fun he H1 x1 => ?_
  · have := hK H1 x1
    rw [txtP, if_neg he] at this
    simp [he]
    exact this
  · have l1 := x1.len
    simp
    refine hair_trimmed (by omega) fun H2 v x2 o2 => ?_
    have l2 := x2.len
    obtain ⟨o1, o2⟩ := o2
    rename_i v1 v2
    have e0 : sideF (op r w) 0 = rS r w := rfl
    have e1 : sideF (op r w) 1 = wS r w := rfl
    have n1 : (rS r w).length ≤ 24 := side_len
    have n2 : (wS r w).length ≤ 24 := side_len
    have k1 : (nums 32 (toN (rS r w))).length ≤ 240 := by
      have := nums_len (c := 32) (toN_mid (r := r) (w := w) (way := 0))
      simp only [toN, List.length_map] at this
      simp only [rS] at n1 ⊢
      simp only [toN]; omega
    have k2 : (nums 32 (toN (wS r w))).length ≤ 240 := by
      have := nums_len (c := 32) (toN_mid (r := r) (w := w) (way := 1))
      simp only [toN, List.length_map] at this
      simp only [wS] at n2 ⊢
      simp only [toN]; omega
    have eh : (⟨#[104, 97, 105, 114]⟩ : ByteArray) = bA hairL := rfl
    have ew : (⟨#[32, 119, 114, 111, 110, 103]⟩ : ByteArray) = bA (32 :: wrongL) := rfl
    have ad1 := vadd_bA (l := hairL) (m := nums 32 (toN (rS r w))) (by simp [hairL]; omega)
    have ad2 := vadd_bA (l := hairL ++ nums 32 (toN (rS r w))) (m := 32 :: wrongL) (by simp [hairL, wrongL]; omega)
    have ad3 := vadd_bA (l := hairL ++ nums 32 (toN (rS r w)) ++ 32 :: wrongL) (m := nums 32 (toN (wS r w))) (by simp [hairL, wrongL]; omega)
    have ef : hairL ++ nums 32 (toN (rS r w)) ++ 32 :: wrongL ++ nums 32 (toN (wS r w)) = fmtB r w := by simp [fmtB, fmtH]
    rw [ef] at ad3
    generalize hairL ++ nums 32 (toN (rS r w)) ++ 32 :: wrongL = P2 at ad2 ad3
    generalize hairL ++ nums 32 (toN (rS r w)) = P1 at ad1 ad2
    simp [o1.sl.stor, o2.sl.stor, o1.sl.one, o2.sl.one, splice, rd2a, rd2b]
    refine numbers_t (hg.trans (x1.trans x2)) (by first | exact Nat.le_refl _ | omega) o1.sl fun H3 x3 => ?_
    rw [e0]
    simp [eh, ew, ad1, ad2, rd2a, rd2b, o2.sl.stor]
    refine numbers_t (hg.trans ((x1.trans x2).trans x3)) (by first | exact Nat.le_refl _ | (have := x3.len; omega)) (o2.sl.mono x3) fun H4 x4 => ?_
    rw [e1]
    simp [ad3]
    have := hK H4 (((x1.trans x2).trans x3).trans x4)
    rw [txtP, if_pos he, he] at this
    exact this
theorem splitc_t {H : Hp} {lim : Nat} {c : UInt8} {s : ByteArray} {K : V → Hp → Prop} (hs : s.size < 4294967281) (hK : K (.sl H.length 0 (wds c s.data.toList).length 1) (H ++ [.row (strC.all ((wds c s.data.toList).map bA)) true])) : VCall tbl lim 46 [.str s, .str ⟨#[c]⟩] H K := by
  have hw : wordsB s c = (wds c s.data.toList).map bA := by
    have h1 := Lib.splitB_data ⟨#[c]⟩ 0 (Lib.countB s ⟨#[c]⟩) s
    have h2 : Lib.splitK [c] 0 (Lib.countB s ⟨#[c]⟩) s.data.toList = wds c s.data.toList := split_wds _ _ (countB_one s c).symm
    have h3 : (wordsB s c).map (fun a : ByteArray => a.data.toList) = wds c s.data.toList := h1.trans h2
    rw [← h3, List.map_map]
    have : (wordsB s c).map (bA ∘ fun a : ByteArray => a.data.toList) = (wordsB s c).map id := List.map_congr_left fun a _ => bA_list
    rw [this, List.map_id]
  refine VCall_prim (g := pSplit) (bs := [.row (strC.all ((wds c s.data.toList).map bA)) true]) tbl_at46 rfl rfl (v := .sl H.length 0 (wds c s.data.toList).length 1) ?_ hK
  have h5 : ∀ l : List ByteArray, strC.all l = l.map V.str := fun l => by
    induction l with
    | nil => rfl
    | cons a l ih => rw [Cod.all_cons, ih]; rfl
  have h6 : ((wds c s.data.toList).map bA |>.map V.str).all flatV = true := by
    rw [List.all_eq_true]
    intro x hx
    obtain ⟨a, -, rfl⟩ := List.mem_map.1 hx
    rfl
  have hg : gSplit [.str s, .str ⟨#[c]⟩] = some (((wds c s.data.toList).map bA).map V.str) := by
    show (if s.size < 4294967281 then some ((wordsB s c).map V.str) else none) = _
    rw [if_pos hs, hw]
  have hf : ([V.str s, V.str ⟨#[c]⟩] : List V).all flatV = true := rfl
  simp only [pSplit, rowP, hf, hg, h6, Bool.and_self, if_true, List.length_map, h5]

theorem split_t {H : Hp} {lim : Nat} {s : ByteArray} {K : V → Hp → Prop} (hs : s.size < 4294967281) (hK : K (.sl H.length 0 (wds 32 s.data.toList).length 1) (H ++ [.row (strC.all ((wds 32 s.data.toList).map bA)) true])) : VCall tbl lim 46 [.str s, .str ⟨#[32]⟩] H K := splitc_t hs hK
theorem chkE_of {H : Hp} (h : HX glHp H) : chkE H = true := by
  obtain ⟨X, rfl⟩ := h
  rfl
theorem end3 (l : List UInt8) : (∃ n, Lib.atoiAll l = .ok n) ∨ Lib.atoiAll l = .syntax ∨ Lib.atoiAll l = .range := by
  cases Lib.atoiAll l <;> simp
theorem atoi_t {H : Hp} {lim : Nat} {s : ByteArray} {K : V → Hp → Prop} (hg : HX glHp H) (hs : s.size ≤ 281474976710656)
    (hok : ∀ n, Lib.atoiAll s.data.toList = .ok n → K (.tup [.int .i64 n, .inil]) H)
    (hno : (∀ n, Lib.atoiAll s.data.toList ≠ .ok n) → ∀ x, K (.tup [.int .i64 x, .iface teN (.ptr H.length 0)]) (H ++ [.dead])) : VCall tbl lim 47 [.str s] H K := by
  have hc := chkE_of hg
  have hf : ([V.str s] : List V).all flatV = true := rfl
  rcases end3 s.data.toList with ⟨n, hq⟩ | hq | hq
  · refine VCall_prim (g := pAtoi) (bs := []) tbl_at47 rfl rfl (v := .tup [.int .i64 n, .inil]) ?_ (by simpa using hok n hq)
    have hgg : gAtoi [.str s] = some (.int .i64 n, true) := by simp only [gAtoi, hs, if_true, hq]
    simp only [pAtoi, numP, hc, hf, hgg, Bool.and_self, if_true, flatV]
  · refine VCall_prim (g := pAtoi) (bs := [.dead]) tbl_at47 rfl rfl (v := .tup [.int .i64 0, .iface teN (.ptr H.length 0)]) ?_ (hno (fun n h => by rw [hq] at h; cases h) 0)
    have hgg : gAtoi [.str s] = some (.int .i64 0, false) := by simp only [gAtoi, hs, if_true, hq]
    simp only [pAtoi, numP, hc, hf, hgg, Bool.and_self, if_true, flatV, Bool.false_eq_true, if_false]
  · refine VCall_prim (g := pAtoi) (bs := [.dead]) tbl_at47 rfl rfl (v := .tup [.int .i64 (Lib.atoiSat s.data.toList), .iface teN (.ptr H.length 0)]) ?_ (hno (fun n h => by rw [hq] at h; cases h) _)
    have hgg : gAtoi [.str s] = some (.int .i64 (Lib.atoiSat s.data.toList), false) := by simp only [gAtoi, hs, if_true, hq]
    simp only [pAtoi, numP, hc, hf, hgg, Bool.and_self, if_true, flatV, Bool.false_eq_true, if_false]

theorem atL {l : List UInt8} : (bA l).data.toList = l := list_bA
theorem TwoB.monoX {n : Nat} {H H' : Hp} {rv wv : V} {r w : List Int} (hx : HX H H') (h : TwoB n H rv wv r w) : TwoB n H' rv wv r w := ⟨h.a.mono hx, h.b.mono hx, h.ap⟩
theorem TwoB.keepK {n : Nat} {H H' : Hp} {rv wv : V} {r w : List Int} (h : TwoB n H rv wv r w) (hk : ∀ b, n ≤ b → H'[b]? = H[b]?) : TwoB n H' rv wv r w := ⟨h.a.keep hk, h.b.keep hk, h.ap⟩
theorem apH_old {H : Hp} {v : V} {new all : List V} {n b : Nat} {l : List Int} (h : OwnV n H v l) (hb : b < n) (hn : n ≤ H.length) : (apH H v new all)[b]? = H[b]? := by
  cases h with
  | nil =>
    show (H ++ [Blk.row new true] ++ [Blk.row all true])[b]? = _
    rw [List.append_assoc, List.getElem?_append_left (by omega)]
  | row h1 h3 =>
    rename_i b2
    show ((H ++ [Blk.row new true]).set b2 .dead ++ [Blk.row all true])[b]? = _
    rw [List.getElem?_append_left (by simp; omega), List.getElem?_set_ne (by omega), List.getElem?_append_left (by omega)]
theorem apH_len {H : Hp} {v : V} {new all : List V} : (apH H v new all).length = H.length + 2 := by
  unfold apH; split <;> simp
theorem storeH_at {H : Hp} {lim b off : Nat} {v c d : V} (hl : lim ≤ b) (hb : H[b]? = some (.row [c, d] true)) (ho : off < 2) : vstoreH lim H b off [v] = some (H.set b (.row (splice [c, d] off [v]) true)) := by
  have h2 : off + 1 ≤ 2 := by omega
  simp [vstoreH, hl, hb, h2]
theorem HX.setN {H H3 : Hp} {b : Nat} {x : Blk} (h : HX H H3) (hb : H.length ≤ b) : HX H (H3.set b x) := by
  refine HX.of (by rw [List.length_set]; exact h.len) fun i hi => ?_
  rw [List.getElem?_set_ne (by omega)]
  obtain ⟨X, rfl⟩ := h
  exact List.getElem?_append_left hi
theorem strC_all : ∀ {l : List ByteArray}, strC.all l = l.map V.str
  | [] => rfl
  | a :: l => by rw [Cod.all_cons, strC_all (l := l)]; rfl
theorem readLists_t {H : Hp} {lim : Nat} {s : ByteArray} {K : V → Hp → Prop} (hg : HX glHp H) (hs : s.size ≤ 4000) (hlim : lim ≤ H.length) (hK : ∀ H' v, HX H H' → OwnB H.length H' (rdH (wds 32 s.data.toList)).r (rdH (wds 32 s.data.toList)).w v → K v H') : VCall tbl lim 27 [.str s] H K := by
  have hsz : s.data.toList.length = s.size := by show s.data.toList.length = s.data.size; simp
  refine VCall_fn tbl_at27 rfl ?_
  simp [vf27]
  refine split_t (by omega) ?_
  have wl := wds_len (c := 32) s.data.toList
  have wm := wds_mem (c := 32) s.data.toList
  obtain ⟨Ws, hWs⟩ : ∃ Ws, Ws = wds 32 s.data.toList := ⟨_, rfl⟩
  rw [← hWs] at wl wm hK ⊢
  simp
  obtain ⟨b3, hb3⟩ : ∃ b3, b3 = H.length := ⟨_, rfl⟩
  obtain ⟨Hw, hHw⟩ : ∃ Hw, Hw = H ++ [Blk.row [V.snil, V.snil] true, Blk.row (strC.all (Ws.map bA)) true] := ⟨_, rfl⟩
  have w0 : Hw[b3]? = some (.row [.snil, .snil] true) := by rw [hHw, hb3, List.getElem?_append_right (by omega)]; simp
  have w1 : Hw[b3 + 1]? = some (.row (strC.all (Ws.map bA)) true) := by rw [hHw, hb3, List.getElem?_append_right (by omega)]; simp
  have wlen : Hw.length = b3 + 2 := by rw [hHw, hb3]; simp
  have wx : HX H Hw := ⟨_, hHw⟩
  rw [← hb3, ← hHw]
  have hmapl : (Ws.map bA).length = Ws.length := by simp
  refine wLoop_up Ws.length (fun i fr L H' => (fr 2 = .lp 0 0 ∧ fr 3 = .ptr b3 0 ∧ fr 11 = .sl (b3 + 1) 0 Ws.length 1 ∧ fr 12 = .int .i64 Ws.length ∧ fr 13 = .int .i64 i) ∧ (∃ x rv wv, x = (Ws.take i).foldl RdH.step ⟨false, [], []⟩ ∧ fr 4 = .ptr b3 (if x.k then 1 else 0) ∧ HX H H' ∧ H'[b3]? = some (.row [rv, wv] true) ∧ H'[b3 + 1]? = some (.row (strC.all (Ws.map bA)) true) ∧ TwoB (b3 + 2) H' rv wv x.r x.w ∧ x.r.length + x.w.length ≤ i ∧ b3 + 2 ≤ H'.length) ∧ L = [[.snil, .snil]] ∧ i ≤ Ws.length) ⟨⟨by simp, by simp, by simp, by simp, by simp⟩, ⟨_, .snil, .snil, rfl, by simp, wx, w0, w1, ⟨.nil, .nil, fun k o z y o' z' y' h => by cases h⟩, by simp, Nat.le_of_eq wlen.symm⟩, rfl, by omega⟩ ?_
  rintro i hi fr L H2 ⟨⟨f2, f3, f11, f12, f13⟩, ⟨x, rv, wv, hx, f4, x2, g0, g1, hT, hxl, hlen⟩, rfl, hle⟩
  by_cases hp : i < Ws.length
  · have hp' : ((i : Int) < (Ws.length : Int)) = True := eq_true (by omega)
    obtain ⟨W, hW⟩ : ∃ W, W = Ws.getD i [] := ⟨_, rfl⟩
    have hWat : Ws[i]? = some W := by rw [hW, List.getD_eq_getElem?_getD, List.getElem?_eq_getElem hp]; rfl
    have hWl := wm W (List.mem_of_getElem? hWat)
    have hnx : (Ws.take (i + 1)).foldl RdH.step ⟨false, [], []⟩ = x.step W := by
      rw [List.take_add_one, hWat, List.foldl_append, ← hx]; rfl
    have hll : LstV strC H2 (.sl (b3 + 1) 0 Ws.length 1) (Ws.map bA) := by
      have := LstV.sl (c := strC) (l := Ws.map bA) (off := 0) (H := H2) g1 (by rw [strC_all]; simp) (by rw [strC_all]; simp [List.take_of_length_le])
      simpa using this
    have had := hll.addr (i := (i : Int)) ⟨by omega, by rw [hmapl]; omega⟩
    have hld := hll.load1 (i := i) (by rw [hmapl]; exact hp) (L := [[.snil, .snil]])
    have e1 : rd none (strC.cells ((Ws.map bA).getD i default)) 0 = some (.str (bA W)) := by
      have : (Ws.map bA).getD i default = bA W := by rw [List.getD_eq_getElem?_getD, List.getElem?_map, hWat]; rfl
      rw [this]; rfl
    rw [e1] at hld
    simp only [Int.toNat_natCast] at had
    have hveq := veq_wrong (W := W)
    have hgl : HX glHp H2 := hg.trans x2
    have hws : (bA W).size ≤ 281474976710656 := by rw [bA_size]; omega
    simp (disch := omega) [f2, f3, f4, f11, f12, f13, hp', had, hld, hveq]
    refine cond_dec (fun hw => ?_) fun hw => ?_
    · have hst : x.step W = { x with k := true } := by
        have h : Lib.atoiAll wrongL = .syntax := by decide +kernel
        unfold RdH.step
        rw [if_pos hw, hw, h]; rfl
      rw [hnx, hst]
      simp (disch := omega) [f2, f3, f4, f11, f12, f13]
      refine atoi_t hgl hws (fun n hn => ?_) fun _ m => ?_
      · rw [list_bA, hw] at hn
        have h : Lib.atoiAll wrongL = .syntax := by decide +kernel
        rw [h] at hn; cases hn
      · simp (disch := omega) [f2, f3, f4, f11, f12, f13, wrap_i64]
        have hdx : HX H2 (H2 ++ [.dead]) := ⟨_, rfl⟩
        exact ⟨hp, ⟨x2.trans hdx, rv, wv, by rw [List.getElem?_append_left (by omega)]; exact g0, by rw [List.getElem?_append_left (by omega)]; exact g1, hT.monoX hdx, by omega, by omega⟩, hp⟩
    · have hst : x.step W = x.num (Lib.atoiAll W) := by
        unfold RdH.step
        rw [if_neg hw]
      rw [hnx, hst]
      simp (disch := omega) [f2, f3, f4, f11, f12, f13]
      refine atoi_t hgl hws (fun n hn => ?_) fun hno m => ?_
      · rw [list_bA] at hn
        rw [hn]
        cases hk : x.k with
        | true =>
          have hnum : x.num (.ok n) = ⟨true, x.r, x.w ++ [n]⟩ := by simp [RdH.num, hk]
          have hap := hT.b.append (lim := lim) (x := n) ⟨by omega, by omega⟩
          obtain ⟨c1, c2⟩ := apH_other (v := wv) (new := [V.int .i64 n]) (all := ints (x.w ++ [n])) (m := x.w.length + 1) hT.a hT.ap.symm
          have c3 := hT.b.ap hlen (x := n) (new := [V.int .i64 n])
          have o0 := apH_old (new := [V.int .i64 n]) (all := ints (x.w ++ [n])) hT.b (b := b3) (by omega) hlen
          have o1 := apH_old (new := [V.int .i64 n]) (all := ints (x.w ++ [n])) hT.b (b := b3 + 1) (by omega) hlen
          have ol := apH_len (H := H2) (v := wv) (new := [V.int .i64 n]) (all := ints (x.w ++ [n]))
          have oX : HX H (apH H2 wv [V.int .i64 n] (ints (x.w ++ [n]))) := (hT.b.le (n := H.length) (by omega)).apX x2 (Nat.le_refl _)
          generalize apH H2 wv [V.int .i64 n] (ints (x.w ++ [n])) = H3 at hap c1 c3 o0 o1 ol oX
          rw [g0] at o0
          rw [g1] at o1
          have hst3 := storeH_at (lim := lim) (v := V.sl (H2.length + 1) 0 (x.w.length + 1) 1) (by omega) o0 (off := 1) (by omega)
          obtain ⟨hb0, eb⟩ := List.getElem?_eq_some_iff.1 g0
          rw [hnum]
          simp (disch := omega) [f2, f3, f4, f11, f12, f13, hk, eb, hap, hst3, wrap_i64]
          obtain ⟨hb1, eb1⟩ := List.getElem?_eq_some_iff.1 o1
          exact ⟨hp, ⟨oX.setN (by omega), _, _, ⟨rfl, rfl⟩, eb1, TwoB.keepK ⟨c1, c3, c2.symm⟩ fun b hb => List.getElem?_set_ne (by omega), by omega, by omega⟩, hp⟩
        | false =>
          have hnum : x.num (.ok n) = ⟨false, x.r ++ [n], x.w⟩ := by simp [RdH.num, hk]
          have hap := hT.a.append (lim := lim) (x := n) ⟨by omega, by omega⟩
          obtain ⟨c1, c2⟩ := apH_other (v := rv) (new := [V.int .i64 n]) (all := ints (x.r ++ [n])) (m := x.r.length + 1) hT.b hT.ap
          have c3 := hT.a.ap hlen (x := n) (new := [V.int .i64 n])
          have o0 := apH_old (new := [V.int .i64 n]) (all := ints (x.r ++ [n])) hT.a (b := b3) (by omega) hlen
          have o1 := apH_old (new := [V.int .i64 n]) (all := ints (x.r ++ [n])) hT.a (b := b3 + 1) (by omega) hlen
          have ol := apH_len (H := H2) (v := rv) (new := [V.int .i64 n]) (all := ints (x.r ++ [n]))
          have oX : HX H (apH H2 rv [V.int .i64 n] (ints (x.r ++ [n]))) := (hT.a.le (n := H.length) (by omega)).apX x2 (Nat.le_refl _)
          generalize apH H2 rv [V.int .i64 n] (ints (x.r ++ [n])) = H3 at hap c1 c3 o0 o1 ol oX
          rw [g0] at o0
          rw [g1] at o1
          have hst3 := storeH_at (lim := lim) (v := V.sl (H2.length + 1) 0 (x.r.length + 1) 1) (by omega) o0 (off := 0) (by omega)
          obtain ⟨hb0, eb⟩ := List.getElem?_eq_some_iff.1 g0
          rw [hnum]
          simp (disch := omega) [f2, f3, f4, f11, f12, f13, hk, eb, hap, hst3, wrap_i64]
          obtain ⟨hb1, eb1⟩ := List.getElem?_eq_some_iff.1 o1
          exact ⟨hp, ⟨oX.setN (by omega), _, _, ⟨rfl, rfl⟩, eb1, TwoB.keepK ⟨c3, c1, c2⟩ fun b hb => List.getElem?_set_ne (by omega), by omega, by omega⟩, hp⟩
      · have hst2 : x.num (Lib.atoiAll W) = x := by
          rw [list_bA] at hno
          rcases end3 W with ⟨n, hq⟩ | hq | hq
          · exact absurd hq (hno n)
          · rw [hq]; rfl
          · rw [hq]; rfl
        rw [hst2]
        simp (disch := omega) [f2, f3, f4, f11, f12, f13, wrap_i64]
        have hdx : HX H2 (H2 ++ [.dead]) := ⟨_, rfl⟩
        exact ⟨hp, ⟨x2.trans hdx, rv, wv, by rw [List.getElem?_append_left (by omega)]; exact g0, by rw [List.getElem?_append_left (by omega)]; exact g1, hT.monoX hdx, by omega, by omega⟩, hp⟩
  · have hp' : ((i : Int) < (Ws.length : Int)) = False := eq_false (by omega)
    have hi : i = Ws.length := by omega
    subst hi
    rw [List.take_of_length_le (Nat.le_refl _)] at hx
    have hxr : x = rdH Ws := hx
    obtain ⟨hb0, eb⟩ := List.getElem?_eq_some_iff.1 g0
    simp (disch := omega) [f2, f3, f4, f11, f12, f13, hp', eb, hT.a.sl.stor, hT.b.sl.stor, splice]
    rw [← hxr] at hK
    exact hK H2 _ x2 (.mk (hT.a.le (by omega)) (hT.b.le (by omega)))
end Go.Proofs.YtgjlhdggllakbaaDoor.Vm
