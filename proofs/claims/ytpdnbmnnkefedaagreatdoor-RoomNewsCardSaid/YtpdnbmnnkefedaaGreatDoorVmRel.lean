/- How virtual values, rows and frames stand for the model's. -/
import Derived.Test.YtpdnbmnnkefedaaGreatDoorVmSlim
import Derived.Laws.Rows
import Derived.Laws.Entries
namespace Go.Proofs.YtpdnbmnnkefedaaGreatDoor.Vm
open Go
set_option linter.unusedVariables false
set_option linter.unusedSimpArgs false

/-- block of the virtual heap ↦ block, offset, room -/
abbrev Loc := Nat → Option (Nat × Nat × Nat)
abbrev Lam := Nat → Option Nat
abbrev ux : Value := Go.undef

inductive VR (ρ : Loc) : V → Value → Prop
  | bool (b) : VR ρ (.bool b) (.bool b)
  | int (k n) : VR ρ (.int k n) (.int k n)
  | str (s) : VR ρ (.str s) (.string s)
  | pnil : VR ρ .pnil (.pointer none)
  | ptr {b off r o c} : ρ b = some (r, o, c) → VR ρ (.ptr b off) (.pointer (some ⟨r, o + off, none⟩))
  | snil : VR ρ .snil (.slice none 0 0)
  | sl {b off len sz r o c cap} : ρ b = some (r, o, c) → len ≤ cap → off + cap * sz ≤ c → VR ρ (.sl b off len sz) (.slice (some ⟨r, o + off, none⟩) len cap)
  | sempty {a cap} : VR ρ .sempty (.slice (some a) 0 cap)
  | func {fn fs fs' cs cs'} : fs.length = fs'.size → (∀ i, i < fs.length → VR ρ (fs.getD i dv) (fs'.getD i ux)) → cs.length = cs'.size →
      (∀ i, i < cs.length → VR ρ (cs.getD i dv) (cs'.getD i ux)) → VR ρ (.func fn fs cs) (.func fn fs' cs')
  | fnil : VR ρ .fnil .nilFunc
  | iface {t v v'} : VR ρ v v' → VR ρ (.iface t v) (.iface t v')
  | inil : VR ρ .inil .nilIface
  | agg {cs cs'} : cs.length = cs'.size → (∀ i, i < cs.length → VR ρ (cs.getD i dv) (cs'.getD i ux)) → (∀ i, i < cs.length → scal (cs.getD i dv) = true) →
      VR ρ (.agg cs) (.agg cs')
  | tup {cs cs'} : cs.length = cs'.size → (∀ i, i < cs.length → VR ρ (cs.getD i dv) (cs'.getD i ux)) → VR ρ (.tup cs) (.tuple cs')
  | mp {b r o c} : ρ b = some (r, o, c) → VR ρ (.mp b) (.map (some r))
  | szero {a} : VR ρ .szero (.slice (some a) 0 0)
  | mnil : VR ρ .mnil (.map none)
  | opq {t v} : VR ρ (.opq (.iface t v)) (.iface t v)
  | yl {b r o c} : ρ b = some (r, o, c) → VR ρ (.yl b) (.func (.yield r) #[] #[])
  | it {b r o c} : ρ b = some (r, o, c) → VR ρ (.it b) (.pointer (some ⟨r, 0, none⟩))
  | slc {b off len sz cap r o c mcap} : ρ b = some (r, o, c) → len ≤ cap → cap ≤ mcap → off + mcap * sz ≤ c → VR ρ (.slc b off len sz cap) (.slice (some ⟨r, o + off, none⟩) len mcap)

/-- lists of values, one by one -/
def VRs (ρ : Loc) (vs : List V) (xs : List Value) : Prop := vs.length = xs.length ∧ ∀ i, i < vs.length → VR ρ (vs.getD i dv) (xs.getD i ux)

theorem VR.mono {ρ ρ' : Loc} (h : ∀ b x, ρ b = some x → ρ' b = some x) {v : V} {x : Value} (hv : VR ρ v x) : VR ρ' v x := by
  induction hv with
  | bool b => exact .bool b
  | int k n => exact .int k n
  | str s => exact .str s
  | pnil => exact .pnil
  | ptr hb => exact .ptr (h _ _ hb)
  | snil => exact .snil
  | sl hb h1 h2 => exact .sl (h _ _ hb) h1 h2
  | sempty => exact .sempty
  | func h1 _ h3 _ ih1 ih2 => exact .func h1 ih1 h3 ih2
  | fnil => exact .fnil
  | iface _ ih => exact .iface ih
  | inil => exact .inil
  | agg h1 _ h3 ih => exact .agg h1 ih h3
  | tup h1 _ ih => exact .tup h1 ih
  | mp hb => exact .mp (h _ _ hb)
  | szero => exact .szero
  | mnil => exact .mnil
  | opq => exact .opq
  | yl hb => exact .yl (h _ _ hb)
  | it hb => exact .it (h _ _ hb)
  | slc hb h1 h2 h3 => exact .slc (h _ _ hb) h1 h2 h3

theorem VRs.mono {ρ ρ' : Loc} (h : ∀ b x, ρ b = some x → ρ' b = some x) {vs : List V} {xs : List Value} (hv : VRs ρ vs xs) : VRs ρ' vs xs :=
  ⟨hv.1, fun i hi => (hv.2 i hi).mono h⟩

theorem VRs.nil {ρ : Loc} : VRs ρ [] [] := ⟨rfl, fun i hi => absurd hi (by simp)⟩
theorem VRs.cons {ρ : Loc} {v : V} {x : Value} {vs : List V} {xs : List Value} (h : VR ρ v x) (hs : VRs ρ vs xs) : VRs ρ (v :: vs) (x :: xs) := by
  refine ⟨by simp [hs.1], fun i hi => ?_⟩
  cases i with
  | zero => simpa using h
  | succ i => simpa using hs.2 i (by simpa using hi)
theorem VRs.append {ρ : Loc} {vs us : List V} {xs ys : List Value} (h : VRs ρ vs xs) (k : VRs ρ us ys) : VRs ρ (vs ++ us) (xs ++ ys) := by
  refine ⟨by simp [h.1, k.1], fun i hi => ?_⟩
  by_cases hlt : i < vs.length
  · have hlt' : i < xs.length := by rw [← h.1]; exact hlt
    have := h.2 i hlt
    simp only [List.getD_eq_getElem?_getD] at this ⊢
    rw [List.getElem?_append_left hlt, List.getElem?_append_left hlt']; exact this
  · have hge : vs.length ≤ i := by omega
    have hi' : i < vs.length + us.length := by simpa using hi
    have := k.2 (i - vs.length) (by omega)
    simp only [List.getD_eq_getElem?_getD] at this ⊢
    rw [List.getElem?_append_right hge, List.getElem?_append_right (by rw [← h.1]; exact hge), ← h.1]; exact this
theorem VRs.take {ρ : Loc} {vs : List V} {xs : List Value} (h : VRs ρ vs xs) (n : Nat) : VRs ρ (vs.take n) (xs.take n) := by
  refine ⟨by simp [h.1], fun i hi => ?_⟩
  have h1 : i < n ∧ i < vs.length := by simpa [Nat.lt_min] using hi
  have := h.2 i h1.2
  simp only [List.getD_eq_getElem?_getD] at this ⊢
  rw [List.getElem?_take_of_lt h1.1, List.getElem?_take_of_lt h1.1]; exact this
theorem VRs.drop {ρ : Loc} {vs : List V} {xs : List Value} (h : VRs ρ vs xs) (n : Nat) : VRs ρ (vs.drop n) (xs.drop n) := by
  refine ⟨by simp [h.1], fun i hi => ?_⟩
  have h1 : n + i < vs.length := by simp at hi; omega
  have := h.2 (n + i) h1
  simp only [List.getD_eq_getElem?_getD] at this ⊢
  rw [List.getElem?_drop, List.getElem?_drop]; exact this

def Scals (vs : List V) : Prop := ∀ i, i < vs.length → scal (vs.getD i dv) = true
theorem Scals.mem {vs : List V} : Scals vs ↔ ∀ v ∈ vs, scal v = true := by
  constructor
  · intro h v hv
    obtain ⟨i, hi, rfl⟩ := List.getElem_of_mem hv
    have := h i hi
    simpa [List.getD_eq_getElem?_getD, List.getElem?_eq_getElem hi] using this
  · intro h i hi
    simp only [List.getD_eq_getElem?_getD, List.getElem?_eq_getElem hi, Option.getD_some]
    exact h _ (List.getElem_mem hi)
theorem Scals.nil : Scals [] := fun i hi => by simp at hi
theorem Scals.append {vs us : List V} (h : Scals vs) (k : Scals us) : Scals (vs ++ us) := by
  rw [Scals.mem] at *
  intro v hv
  rcases List.mem_append.1 hv with h1 | h1
  · exact h v h1
  · exact k v h1
theorem Scals.take {vs : List V} (h : Scals vs) (n : Nat) : Scals (vs.take n) := by
  rw [Scals.mem] at *
  exact fun v hv => h v (List.mem_of_mem_take hv)
theorem Scals.drop {vs : List V} (h : Scals vs) (n : Nat) : Scals (vs.drop n) := by
  rw [Scals.mem] at *
  exact fun v hv => h v (List.mem_of_mem_drop hv)

/-- the cells of the array 'C' from 'o' on stand for 'cs' -/
def RowAt (ρ : Loc) (cs : List V) (C : Array Value) (o : Nat) : Prop :=
  ∀ i, i < cs.length → VR ρ (cs.getD i dv) (C.getD (o + i) ux) ∧ scal (cs.getD i dv) = true

theorem RowAt.mono {ρ ρ' : Loc} (h : ∀ b x, ρ b = some x → ρ' b = some x) {cs : List V} {C : Array Value} {o : Nat} (hr : RowAt ρ cs C o) : RowAt ρ' cs C o :=
  fun i hi => ⟨(hr i hi).1.mono h, (hr i hi).2⟩

/-- entries of a map, one by one -/
inductive EntR (ρ : Loc) : List (V × V) → List MapEntry → Prop
  | nil : EntR ρ [] []
  | cons {k v : V} {e : MapEntry} {es : List (V × V)} {es' : List MapEntry} : VR ρ k e.key → stor k = true → VR ρ v e.val → stor v = true → EntR ρ es es' → EntR ρ ((k, v) :: es) (e :: es')
theorem EntR.mono {ρ ρ' : Loc} (h : ∀ b x, ρ b = some x → ρ' b = some x) {es : List (V × V)} {es' : List MapEntry} (hv : EntR ρ es es') : EntR ρ' es es' := by
  induction hv with
  | nil => exact .nil
  | cons h1 h2 h3 h4 _ ih => exact .cons (h1.mono h) h2 (h3.mono h) h4 ih
/-- a map's entries: they bear the numbers of their places -/
structure MEnt (ρ : Loc) (es : List (V × V)) (ar : Array MapEntry) (clk : Nat) : Prop where
  ent : EntR ρ es ar.toList
  clk : clk = ar.size
  born : ∀ (i : Nat) (e : MapEntry), ar[i]? = some e → e.born = i
theorem MEnt.mono {ρ ρ' : Loc} (h : ∀ b x, ρ b = some x → ρ' b = some x) {es : List (V × V)} {ar : Array MapEntry} {clk : Nat} (hv : MEnt ρ es ar clk) : MEnt ρ' es ar clk := ⟨hv.ent.mono h, hv.clk, hv.born⟩
/-- a loop's record, ready for a round -/
structure LpR (ρ : Loc) (f : FuncId) (ps : List Nat) (fr : List V) (rc : Go.Loop) : Prop where
  st : rc.state = .ready
  pe : rc.pending = none
  rd : rdOf theP f = some (rc.params, rc.assign, rc.body)
  ps : ps = rc.params.toList
  len : fr.length = rc.tmps.size
  fr : ∀ t, t < fr.length → (fr.getD t dv = .hid ∧ ∀ b, rc.tmps.getD t ux ≠ .bool b) ∨ VR ρ (fr.getD t dv) (rc.tmps.getD t ux)
theorem LpR.mono {ρ ρ' : Loc} (h : ∀ b x, ρ b = some x → ρ' b = some x) {f : FuncId} {ps : List Nat} {fr : List V} {rc : Go.Loop} (hv : LpR ρ f ps fr rc) : LpR ρ' f ps fr rc :=
  ⟨hv.st, hv.pe, hv.rd, hv.ps, hv.len, fun t ht => (hv.fr t ht).imp id (VR.mono h)⟩
/-- blocks that are no rows -/
def spB : Blk → Bool
  | .map _ | .loop _ _ _ | .sit _ _ => true
  | _ => false
def SpR (ρ : Loc) : Blk → Obj → Prop
  | .map es, .map es' clk => MEnt ρ es es' clk
  | .loop f ps fr, .loop rc => LpR ρ f ps fr rc
  | .sit s p, .stringIter s' p' => s' = s ∧ p' = p
  | _, _ => False
theorem SpR.mono {ρ ρ' : Loc} (h : ∀ b x, ρ b = some x → ρ' b = some x) {x : Blk} {ob : Obj} (hv : SpR ρ x ob) : SpR ρ' x ob := by
  unfold SpR at hv ⊢
  split at hv
  · exact MEnt.mono h hv
  · exact LpR.mono h hv
  · exact hv
  · exact hv
theorem SpR.nc {ρ : Loc} {x : Blk} {C : Array Value} {el : TypeId} {fz : Nat × Nat} (h : SpR ρ x (.cells C el fz)) : False := by
  cases x <;> exact h
/-- maps, records of loops -/
structure MapH (ρ : Loc) (H : Hp) (w : World) : Prop where
  ent : ∀ b r o c x, spB x = true → ρ b = some (r, o, c) → H[b]? = some x → ∃ ob, w.heap[r]? = some ob ∧ SpR ρ x ob
  inj : ∀ b1 b2 r o1 c1 o2 c2 x1 x2, spB x1 = true → spB x2 = true → ρ b1 = some (r, o1, c1) → ρ b2 = some (r, o2, c2) → H[b1]? = some x1 → H[b2]? = some x2 → b1 = b2
theorem MapH.entM {ρ : Loc} {H : Hp} {w : World} (h : MapH ρ H w) (b r o c : Nat) (es : List (V × V)) (hb : ρ b = some (r, o, c)) (hr : H[b]? = some (.map es)) : ∃ es' clk, w.heap[r]? = some (.map es' clk) ∧ MEnt ρ es es' clk := by
  obtain ⟨ob, h1, h2⟩ := h.ent b r o c _ rfl hb hr
  cases ob <;> first | exact ⟨_, _, h1, h2⟩ | exact h2.elim
theorem MapH.entL {ρ : Loc} {H : Hp} {w : World} (h : MapH ρ H w) (b r o c : Nat) (f : FuncId) (ps : List Nat) (fr : List V) (hb : ρ b = some (r, o, c)) (hr : H[b]? = some (.loop f ps fr)) : ∃ rc, w.heap[r]? = some (.loop rc) ∧ LpR ρ f ps fr rc := by
  obtain ⟨ob, h1, h2⟩ := h.ent b r o c _ rfl hb hr
  cases ob <;> first | exact ⟨_, h1, h2⟩ | exact h2.elim
/-- the maps that were there, as they were -/
theorem MapH.of {ρ ρ' : Loc} {H H' : Hp} {w w' : World} (h : MapH ρ H w) (hb : ∀ (b : Nat) (x : Blk), spB x = true → H'[b]? = some x → H[b]? = some x) (hr : ∀ (b : Nat) (x : Blk), spB x = true → H'[b]? = some x → ρ' b = ρ b) (hm : ∀ b x, ρ b = some x → ρ' b = some x)
    (hw : ∀ (b r o c : Nat) (x : Blk), spB x = true → H[b]? = some x → ρ b = some (r, o, c) → (∃ ob, w.heap[r]? = some ob ∧ SpR ρ x ob) → w'.heap[r]? = w.heap[r]?) : MapH ρ' H' w' := by
  refine ⟨fun b r o c x hx h1 h2 => ?_, fun b1 b2 r o1 c1 o2 c2 x1 x2 hx1 hx2 h1 h2 h3 h4 => ?_⟩
  · rw [hr b x hx h2] at h1
    obtain ⟨ob, g1, g2⟩ := h.ent b r o c x hx h1 (hb b x hx h2)
    exact ⟨ob, by rw [hw b r o c x hx (hb b x hx h2) h1 ⟨ob, g1, g2⟩]; exact g1, g2.mono hm⟩
  · rw [hr b1 x1 hx1 h3] at h1
    rw [hr b2 x2 hx2 h4] at h2
    exact h.inj b1 b2 r o1 c1 o2 c2 x1 x2 hx1 hx2 h1 h2 (hb _ _ hx1 h3) (hb _ _ hx2 h4)

theorem MapH.entI {ρ : Loc} {H : Hp} {w : World} (h : MapH ρ H w) (b r o c : Nat) (s : ByteArray) (p : Nat) (hb : ρ b = some (r, o, c)) (hr : H[b]? = some (.sit s p)) : w.heap[r]? = some (.stringIter s p) := by
  obtain ⟨ob, h1, h2⟩ := h.ent b r o c _ rfl hb hr
  cases ob <;> first | (obtain ⟨e1, e2⟩ := h2; subst e1; subst e2; exact h1) | exact h2.elim
/-- nothing of the first n cells is frozen -/
def FzOk (fz : Nat × Nat) (n : Nat) : Prop := ∀ j, j < n → ¬ (fz.1 ≤ j ∧ j < fz.2)
theorem FzOk.zero {n : Nat} : FzOk (0, 0) n := fun j _ h => absurd h.2 (by simp)
structure RelH (ρ : Loc) (H : Hp) (w : World) : Prop where
  dom : ∀ b r o c, ρ b = some (r, o, c) → r < w.heap.size
  row : ∀ b r o c cs own, ρ b = some (r, o, c) → H[b]? = some (.row cs own) →
    ∃ C el fz, w.heap[r]? = some (.cells C el fz) ∧ o + c ≤ C.size ∧ cs.length ≤ c ∧ (own = true → FzOk fz C.size) ∧ RowAt ρ cs C o
  inj : ∀ b1 b2 r o1 c1 o2 c2 cs1 cs2 own2, ρ b1 = some (r, o1, c1) → ρ b2 = some (r, o2, c2) → H[b1]? = some (.row cs1 true) → H[b2]? = some (.row cs2 own2) → b1 = b2
  mp : MapH ρ H w

def RowL (ρ : Loc) (cs : List V) (r : Nat) (w : World) : Prop :=
  ∃ C el, w.heap[r]? = some (.cells C el (0, 0)) ∧ C.size = cs.length ∧ RowAt ρ cs C 0

structure RelL (A : Nat → Prop) (ρ : Loc) (lam : Lam) (L : Lo) (w : World) : Prop where
  dom : ∀ id r, lam id = some r → r < w.heap.size
  inj : ∀ i j r, lam i = some r → lam j = some r → i = j
  disj : ∀ id r b o c, lam id = some r → ρ b ≠ some (r, o, c)
  row : ∀ id r cs, A id → lam id = some r → L[id]? = some cs → RowL ρ cs r w

inductive FV (ρ : Loc) (lam : Lam) : V → Value → Prop
  | vr {v x} : VR ρ v x → FV ρ lam v x
  | lp {id off r} : lam id = some r → FV ρ lam (.lp id off) (.pointer (some ⟨r, off, none⟩))
  | hid {x} : (∀ b, x ≠ .bool b) → FV ρ lam .hid x

/-- the known package-level variables stand at their places -/
def GRel (ρ : Loc) : Prop := ∀ k g cs, glMap[k]? = some (some g, cs) → ρ k = some (g, 0, cs.length)
theorem GRel.none {ρ : Loc} (h : glMap = []) : GRel ρ := fun k g cs e => by rw [h] at e; cases e
theorem GRel.mono {ρ ρ' : Loc} (h : ∀ b x, ρ b = some x → ρ' b = some x) (hg : GRel ρ) : GRel ρ' := fun k g cs e => h _ _ (hg k g cs e)
structure FRel (ρ : Loc) (lam : Lam) (fr : Fr) (tmps : Array Value) : Prop where
  fv : ∀ t, FV ρ lam (fr t) (tmps.getD t ux)
  gl : GRel ρ

theorem FV.mono {ρ ρ' : Loc} {lam lam' : Lam} (h : ∀ b x, ρ b = some x → ρ' b = some x) (k : ∀ i r, lam i = some r → lam' i = some r) {v : V} {x : Value}
    (hv : FV ρ lam v x) : FV ρ' lam' v x := by
  cases hv with
  | vr h1 => exact .vr (h1.mono h)
  | lp h1 => exact .lp (k _ _ h1)
  | hid h1 => exact .hid h1

theorem FV.undef {ρ : Loc} {lam : Lam} : FV ρ lam dv ux := .vr (.tup rfl fun i hi => absurd hi (by simp))

theorem FV.stor {ρ : Loc} {lam : Lam} {v : V} {x : Value} (h : FV ρ lam v x) (hs : stor v = true) : VR ρ v x := by
  cases h with
  | vr h => exact h
  | lp _ => simp [Vm.stor] at hs
  | hid _ => simp [Vm.stor] at hs

theorem FV.vr_of {ρ : Loc} {lam : Lam} {v : V} {x : Value} (h : FV ρ lam v x) (hs : ∀ id off, v ≠ .lp id off) (hh : v ≠ .hid) : VR ρ v x := by
  cases h with
  | vr h => exact h
  | lp _ => exact absurd rfl (hs _ _)
  | hid _ => exact absurd rfl hh

theorem FRel.put {ρ : Loc} {lam : Lam} {fr : Fr} {a : Act} (h : FRel ρ lam fr a.tmps) {dst : Option Nat} {v : V} {x : Value} (hv : FV ρ lam v x)
    (hd : ∀ d, dst = some d → d < a.tmps.size) : FRel ρ lam (putD fr dst v) (a.put dst x).tmps := by
  cases dst with
  | none => exact h
  | some d =>
    refine ⟨fun t => ?_, h.gl⟩
    by_cases ht : t = d
    · subst ht
      have := hd t rfl
      simp [putD, upd, Act.put, this]
      exact hv
    · simp only [putD, upd, ht, if_false, Act.put, Array.getD_eq_getD_getElem?]
      rw [Array.getElem?_setIfInBounds_ne (fun e => ht e.symm)]
      simpa [Array.getD_eq_getD_getElem?] using h.fv t

theorem FRel.mono {ρ ρ' : Loc} {lam lam' : Lam} (h : ∀ b x, ρ b = some x → ρ' b = some x) (k : ∀ i r, lam i = some r → lam' i = some r) {fr : Fr} {tmps : Array Value}
    (hf : FRel ρ lam fr tmps) : FRel ρ' lam' fr tmps := ⟨fun t => (hf.fv t).mono h k, hf.gl.mono h⟩

theorem size_put (a : Act) (dst : Option Nat) (x : Value) : (a.put dst x).tmps.size = a.tmps.size := by
  cases dst <;> simp [Act.put]

/-- a value's cells -/
theorem VR.cells {ρ : Loc} {v : V} {x : Value} (h : VR ρ v x) (hs : Vm.stor v = true) : VRs ρ (cellsV v) x.cells.toList ∧ Scals (cellsV v) := by
  cases h with
  | agg h1 h2 h3 =>
    refine ⟨⟨by simpa [cellsV, Value.cells] using h1, fun i hi => ?_⟩, h3⟩
    have := h2 i hi
    simpa [cellsV, Value.cells, List.getD_eq_getElem?_getD, Array.getD_eq_getD_getElem?] using this
  | tup _ _ => simp [Vm.stor] at hs
  | _ =>
    refine ⟨⟨by simp [cellsV, Value.cells], fun i hi => ?_⟩, fun i hi => ?_⟩ <;>
    · have : i = 0 := by simp [cellsV] at hi; exact hi
      subst this
      first
        | rfl
        | (simp only [cellsV, Value.cells, List.getD_cons_zero, Array.toList]; constructor <;> assumption)
        | (simp only [cellsV, Value.cells, List.getD_cons_zero]; constructor)

theorem VR.one {ρ : Loc} {v : V} {x : Value} (h : VR ρ v x) (hs : scal v = true) : x.oneCell' = true := by
  cases h <;> first | rfl | (simp [scal] at hs)

theorem VRs.getD {ρ : Loc} {vs : List V} {xs : List Value} (h : VRs ρ vs xs) {i : Nat} (hi : i < vs.length) : VR ρ (vs.getD i dv) (xs.getD i ux) := h.2 i hi

theorem VRs.of_row {ρ : Loc} {cs : List V} {C : Array Value} {o : Nat} (h : RowAt ρ cs C o) (hs : o + cs.length ≤ C.size) : VRs ρ cs (C.extract o (o + cs.length)).toList := by
  refine ⟨by simp; omega, fun i hi => ?_⟩
  have := (h i hi).1
  simp only [List.getD_eq_getElem?_getD, Array.getD_eq_getD_getElem?] at this ⊢
  have e : (C.extract o (o + cs.length)).toList[i]? = C[o + i]? := by
    rw [Array.getElem?_toList, Array.getElem?_extract]
    simp; omega
  rw [e]; exact this

end Go.Proofs.YtpdnbmnnkefedaaGreatDoor.Vm
