/- strings.SplitN at one byte, as a given contract of the machine. -/
import Derived.Test.YtiilicnmcpjmkaaGreatDoorVmPrimH
namespace Go.Proofs.YtiilicnmcpjmkaaGreatDoor.Vm
open Go Go.Shelf Go.RowKit
set_option maxRecDepth 100000
set_option linter.unusedSimpArgs false
set_option linter.unusedVariables false
theorem renGen:Tryz.laysSplit_ren.f 221=66:=by kernel_rfl
theorem renSplitN:Tryz.laysSplit_ren.f 147=49:=by kernel_rfl
theorem ren9:Tryz.laysSplit_ren.t 9=9:=by kernel_rfl
theorem countB_one (s:ByteArray)(c:UInt8):Lib.countB s ⟨#[c]⟩=s.data.toList.count c:=by
  show Lib.count s.data.toList [c]=_
  rw [Lib.count_one]
def wordsN (s:ByteArray)(c:UInt8)(n:Nat):List ByteArray:=Lib.splitB ⟨#[c]⟩ 0 (min n (s.size+1)-1) s
theorem gen_oneN (s:ByteArray)(c:UInt8)(n:Nat)(w:World)(hs:s.size<4294967281)(hn:1≤n∧n≤1000) :
    Calls Tryz.prog 66 #[.string s,.string ⟨#[c]⟩,.int .i64 0,.int .i64 n] w fun e w' =>
      e=.returned (.slice (some ⟨w.heap.size,0,none⟩) (wordsN s c n).length (min n (s.size+1)))∧w'=w.alloc (.cells (Lib.cellsOf (wordsN s c n) (min n (s.size+1))) 9):=by
  have h1:1≤(⟨#[c]⟩:ByteArray).size:=Nat.le_refl _
  have q:=Any.strings_genSplit_core (ρ:=Tryz.laysSplit_ren) { Tryz.laysSplit with } (by kernel_rfl) s ⟨#[c]⟩ 0 (n:Int) (min n (s.size+1)) w hs h1 (Nat.zero_le _)
    (fun x C hx=>(Any.strings_Index_one { Tryz.laysSplit with } x c _).mono fun e w' ⟨he,hw⟩=>⟨by
      rw [he]
      show Ending.returned (Value.int .i64 (Lib.indexByte x.data.toList c))=Ending.returned (Value.int .i64 (Lib.index x.data.toList [c]))
      rw [Lib.index_one],hw⟩)
    ((Any.strings_Count_one { Tryz.laysSplit with } s c w).mono fun e w' ⟨he,hw⟩=>⟨by
      rw [he,countB_one];rfl,hw⟩)
    (by omega) (by omega) (by rw [if_neg (by omega)];omega)
  rw [renGen,ren9] at q
  exact q
theorem splitN_on {P:Program}{ρ:Ren}(L:Lays.n147 P ρ){s p:ByteArray}{n:Int}{w W:World}{V:Value}(q:Calls P (ρ.f 221) #[.string s,.string p,.int .i64 0,.int .i64 n] w fun e w'=>e=.returned V∧w'=W) :
    Calls P (ρ.f 147) #[.string s,.string p,.int .i64 n] w fun e w'=>e=.returned V∧w'=W:=by
  have t3:=L.t3;have t9:=L.t9;have t31:=L.t31
  have a3:=L.a3;have a9:=L.a9;have a31:=L.a31
  have z3:=L.z3;have v3:=L.v3;have z9:=L.z9;have v9:=L.v9;have z31:=L.z31;have v31:=L.v31
  have ent:∀args w,(callFunc (ρ.f 221) args).run P w=.ok (.enter (ρ.f 221) args) w:=enters_of L.f221 (by kernel_rfl) rfl
  go_enter L.f147,Body.n147_ntmps ρ
  go_wp2_with (go_at_fn (ρ.f 221);refine q.mono ?_;rintro e w' ⟨rfl,hw⟩;rw [hw])
  go_ret
  exact ⟨rfl,rfl⟩
theorem splitN_one (s:ByteArray)(c:UInt8)(n:Nat)(w:World)(hs:s.size<4294967281)(hn:1≤n∧n≤1000) :
    Calls Tryz.prog 49 #[.string s,.string ⟨#[c]⟩,.int .i64 n] w fun e w' =>
      e=.returned (.slice (some ⟨w.heap.size,0,none⟩) (wordsN s c n).length (min n (s.size+1)))∧w'=w.alloc (.cells (Lib.cellsOf (wordsN s c n) (min n (s.size+1))) 9):=by
  have q:=gen_oneN s c n w hs hn
  rw [←renGen] at q
  have:=splitN_on Tryz.laysSplit q
  rw [renSplitN] at this
  exact this
def rowPN (g:List V→Option (List V×Nat)):PrimF:=fun args H=>if args.all flatV then match g args with
  | some (cs,n)=>if cs.all flatV&&decide (n≤cs.length) then some (.sl H.length 0 n 1,[.row cs true]) else none
  | none=>none else none
theorem primOk_rowN {P:Program}{f:FuncId}{g:List V→Option (List V×Nat)}(hb:bodied P f=true)
    (h:∀(args:List V) (H:Hp) (cs:List V) (n:Nat) (ρ:Loc) (w:World) (xs:Array Value),args.all flatV=true→g args=some (cs,n)→RelH ρ H w→GRel ρ→VRs ρ args xs.toList→Calls P f xs w fun e w'=>e=.returned (.slice (some ⟨w.heap.size,0,none⟩) n cs.length)∧∃C el,w'=w.alloc (.cells C el)∧VRs ρ cs C.toList):PrimOk P f (rowPN g):=by
  refine ⟨hb,fun lim args H v bs ρ w xs hg hH hG hx hf => ?_⟩
  unfold rowPN at hg
  split at hg
  case isFalse=>cases hg
  rename_i hc
  split at hg
  case h_2=>cases hg
  rename_i cs n hv
  split at hg
  case isFalse=>cases hg
  rename_i hfl
  simp only [Bool.and_eq_true,decide_eq_true_eq] at hfl
  cases hg
  refine (h args H cs n ρ w xs hc hv hH hG hx).mono ?_
  rintro e w' ⟨he,C,el,rfl,hvr⟩
  have hz:C.size=cs.length:=by have:=hvr.1;simp at this;omega
  have hfree:ρ H.length=none:=hf _ (Nat.le_refl _) (by simp)
  obtain ⟨f1,f2,f3⟩:=alloc_facts3 w C el (0,0)
  refine ⟨_,ρ.add H.length (w.heap.size,0,cs.length),he,vr_newsl hfl.2 (by omega),⟨rfl,rfl,rfl,Nat.le_of_lt f1,by simp,Nat.le_refl _,fun b hb => ?_,fun _ _=>rfl,fun b r o c' h1 h2 hb => ?_,fun i r h1 h2=>absurd h2 (by omega),fun r hr _ _=>f2 r hr,?_⟩,hH.push hfree f1 f2 f3 (by omega) (Nat.le_refl _) (RowAt.of_VRs hvr (flats_scal hfl.1)) FzOk.zero⟩
  · unfold Loc.add
    rw [if_neg]
    simp at hb;omega
  · have:b=H.length:=by simp at h2;omega
    subst this
    unfold Loc.add at hb
    simp at hb
    left;omega
  · rintro b hb ⟨cs',hcs'⟩
    rw [List.getElem?_append_left hb] at hcs'
    exact ⟨cs',hcs'⟩
def gSplitN:List V→Option (List V×Nat)
  | [.str s,.str p,.int .i64 k]=>match p.data.toList with
    | [c]=>if s.size<4294967281∧1≤k∧k≤1000 then some ((wordsN s c k.toNat++List.replicate (min k.toNat (s.size+1)-(wordsN s c k.toNat).length) ByteArray.empty).map V.str,(wordsN s c k.toNat).length) else none
    | _=>none
  | _=>none
def pSplitN:PrimF:=rowPN gSplitN
theorem wordsN_le (s:ByteArray)(c:UInt8)(n:Nat)(hn:1≤n):(wordsN s c n).length≤min n (s.size+1):=by
  have:=Lib.splitB_length_le ⟨#[c]⟩ 0 (min n (s.size+1)-1) s
  unfold wordsN
  omega
theorem vrs_strN {ρ:Loc}{l:List ByteArray}:VRs ρ (l.map V.str) (l.map Value.string):=by
  induction l with
  | nil=>exact VRs.nil
  | cons a l ih=>exact VRs.cons (.str a) ih
theorem pok_SplitN:PrimOk Tryz.prog 49 pSplitN:=by
  refine primOk_rowN (by kernel_rfl) fun args H cs n ρ w xs hf hg hH hG hx => ?_
  unfold gSplitN at hg
  split at hg
  case h_2=>cases hg
  rename_i s p k
  split at hg
  case h_2=>cases hg
  rename_i c hp
  split at hg
  case isFalse=>cases hg
  rename_i hs
  obtain ⟨hs,h1,h2⟩:=hs
  obtain ⟨m,rfl⟩:∃m:Nat,k=m:=⟨k.toNat,by omega⟩
  simp only [Int.toNat_natCast,Option.some.injEq,Prod.mk.injEq] at hg
  obtain ⟨rfl,rfl⟩:=hg
  have hp:p=⟨#[c]⟩:=by
    obtain ⟨⟨l⟩⟩:=p
    simp at hp
    rw [hp]
  subst hp
  obtain ⟨xs⟩:=xs
  have hx:VRs ρ _ xs:=hx
  obtain ⟨x1,l1,rfl,k1,hx⟩:=vrs_cons hx
  obtain ⟨x2,l2,rfl,k2,hx⟩:=vrs_cons hx
  obtain ⟨x3,l3,rfl,k3,hx⟩:=vrs_cons hx
  cases vrs_nil hx;cases k1;cases k2;cases k3
  have hle:=wordsN_le s c m (by omega)
  refine (splitN_one s c m w hs (by omega)).mono fun e w' ⟨he,hw⟩=>⟨?_,_,_,hw,?_⟩
  · rw [he]
    congr 2
    rw [List.length_map,List.length_append,List.length_replicate];omega
  · unfold Lib.cellsOf
    have:(List.map Value.string (wordsN s c m)++List.replicate (min m (s.size+1)-(wordsN s c m).length) (Value.string ByteArray.empty))=(wordsN s c m++List.replicate (min m (s.size+1)-(wordsN s c m).length) ByteArray.empty).map Value.string:=by simp
    rw [this]
    exact vrs_strN
def vf49:VFn:=⟨3,[],.prim pSplitN⟩
theorem pok49:PrimOk Tryz.prog 49 pSplitN:=pok_SplitN
end Go.Proofs.YtiilicnmcpjmkaaGreatDoor.Vm
