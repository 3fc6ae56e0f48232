/- Library functions whose contracts the kit's shelf holds, as given contracts of the machine: strconv.Atoi; (card.History).after. -/
import Derived.Test.YtiilicnmcpjmkaaGreatDoorVmPrimHL
import Derived.Handy
namespace Go.Proofs.YtiilicnmcpjmkaaGreatDoor.Vm
open Go Go.Shelf Go.RowKit
set_option maxRecDepth 100000
set_option linter.unusedSimpArgs false
set_option linter.unusedVariables false
theorem renAtoi:Tryz.laysAtoi_ren.f 172=50:=by kernel_rfl
theorem renE1:Tryz.laysAtoi_ren.g 15=3:=by kernel_rfl
theorem renE2:Tryz.laysAtoi_ren.g 16=4:=by kernel_rfl
def gAtoi:List V→Option (V×Bool)
  | [.str s]=>if s.size≤281474976710656 then match Lib.atoiAll s.data.toList with
    | .ok v=>some (.int .i64 v,true)
    | .syntax=>some (.int .i64 0,false)
    | .range=>some (.int .i64 (Lib.atoiSat s.data.toList),false) else none
  | _=>none
def isErr (H:Hp)(b:Nat):Bool:=match H[b]? with
  | some (.row [.iface _ (.ptr _ _)] _)=>true
  | _=>false
def chkE (H:Hp):Bool:=isErr H 3&&isErr H 4
def teN:TypeId:=146
theorem renT:Tryz.laysAtoi_ren.t 168=teN:=by kernel_rfl
def pAtoi:PrimF:=numP chkE teN gAtoi
theorem err_cell {ρ:Loc}{H:Hp}{w:World}(hH:RelH ρ H w){b g c:Nat}(hr:isErr H b=true)(hρ:ρ b=some (g,0,c)):∃te pe,w.cell? ⟨g,0,none⟩=some (.iface te pe):=by
  unfold isErr at hr
  split at hr
  case h_2=>cases hr
  rename_i t b2 o own hb
  obtain ⟨C,el,fz,g1,g2,g3,g4,g5⟩:=hH.row b g 0 c _ own hρ hb
  have h3:=(g5 0 (by simp)).1
  simp only [List.getD_eq_getElem?_getD,List.getElem?_cons_zero,Option.getD_some,Nat.add_zero] at h3
  have hlt:0<C.size:=by simp at g3;omega
  have e:C[0]? = some (C.getD 0 ux):=by rw [Array.getD_eq_getD_getElem?,Array.getElem?_eq_getElem hlt];rfl
  generalize hy:C.getD 0 ux=y at h3 e
  cases h3
  rename_i y' hy'
  exact ⟨t,y',by simp [World.cell?,g1,e]⟩
theorem glE1:∃cs,glMap[3]? = some (some 3,cs):=⟨_,rfl⟩
theorem glE2:∃cs,glMap[4]? = some (some 4,cs):=⟨_,rfl⟩
theorem pok_Atoi:PrimOk Tryz.prog 50 pAtoi:=by
  refine primOk_num (by kernel_rfl) fun args H v ok ρ w xs hf hg hc hH hG hx => ?_
  unfold gAtoi at hg
  split at hg
  case h_2=>cases hg
  rename_i s
  split at hg
  case isFalse=>cases hg
  rename_i hs
  simp only [chkE,Bool.and_eq_true] at hc
  obtain ⟨cs1,l1⟩:=glE1
  obtain ⟨cs2,l2⟩:=glE2
  obtain ⟨t1,p1,c1⟩:=err_cell hH hc.1 (hG 3 3 cs1 l1)
  obtain ⟨t2,p2,c2⟩:=err_cell hH hc.2 (hG 4 4 cs2 l2)
  have e1:=hx.1
  have e2:=hx.2 0 (by simp)
  obtain ⟨xs⟩:=xs
  match xs,e1,e2 with
  | [a],_,e2 =>
    simp at e2
    cases e2
    split at hg
    · rename_i n hn
      cases hg
      have q:=Any.strconv_Atoi_ok Tryz.laysAtoi s (by omega) n hn w
      rw [renAtoi] at q
      refine q.mono fun e w' ⟨he,hw⟩=>⟨?_,_,.int _ _,by rw [if_pos rfl];exact he⟩
      rcases hw with rfl | ⟨t,rfl⟩
      · exact Below.refl _ _
      · exact Lib.bytesWorld_below _ _ _
    · rename_i hn
      cases hg
      have q:=Any.strconv_Atoi_syntax Tryz.laysAtoi s hs hn (.iface t1 p1) w (by rw [renE1];exact c1) (.inr ⟨_,_,rfl⟩)
      rw [renAtoi,renT] at q
      refine q.mono fun e w' ⟨N,he,h1,h2,h3⟩=>⟨h3,_,.int _ _,?_⟩
      rw [if_neg (by decide)]
      exact ⟨N,he,h1,(Array.getElem?_eq_some_iff.1 h2).1⟩
    · rename_i hn
      cases hg
      have q:=Any.strconv_Atoi_range Tryz.laysAtoi s hs hn (.iface t2 p2) w (by rw [renE2];exact c2) (.inr ⟨_,_,rfl⟩)
      rw [renAtoi,renT] at q
      refine q.mono fun e w' ⟨N,he,h1,h2,h3⟩=>⟨h3,_,.int _ _,?_⟩
      rw [if_neg (by decide)]
      exact ⟨N,he,h1,(Array.getElem?_eq_some_iff.1 h2).1⟩
theorem vr_aggL {ρ:Loc}{cs:List V}{x:Value}(h:VR ρ (.agg cs) x):∃l:List Value,x=.agg l.toArray∧VRs ρ cs l:=by
  cases h with
  | agg h1 h2 h3 =>
    rename_i cs'
    obtain ⟨l⟩:=cs'
    refine ⟨l,rfl,by simpa using h1,fun i hi => ?_⟩
    simpa using h2 i hi
theorem vr_iface {ρ:Loc}{t:TypeId}{v:V}{x:Value}(h:VR ρ (.iface t v) x):∃y,x=.iface t y∧VR ρ v y:=by
  cases h with
  | iface h=>exact ⟨_,rfl,h⟩
theorem vrs_nil {ρ:Loc}{l:List Value}(h:VRs ρ [] l):l=[]:=by
  have:=h.1
  cases l<;>simp_all
theorem vrs_cons {ρ:Loc}{v:V}{vs:List V}{l:List Value}(h:VRs ρ (v :: vs) l):∃x l',l=x :: l'∧VR ρ v x∧VRs ρ vs l':=by
  obtain ⟨h1,h2⟩:=h
  match l,h1 with
  | x :: l',h1 =>
    refine ⟨x,l',rfl,by simpa using h2 0 (by simp),by simpa using h1,fun i hi => ?_⟩
    simpa using h2 (i+1) (by simpa using hi)
theorem vr_agg4 {ρ:Loc}{a b c:Int}{s:ByteArray}{x:Value}(h:VR ρ (.agg [.int .i64 a,.int .i64 b,.int .i64 c,.str s]) x):x=.agg #[.int .i64 a,.int .i64 b,.int .i64 c,.string s]:=by
  obtain ⟨l,rfl,k0⟩:=vr_aggL h
  obtain ⟨x1,l1,rfl,h1,k1⟩:=vrs_cons k0
  obtain ⟨x2,l2,rfl,h2,k2⟩:=vrs_cons k1
  obtain ⟨x3,l3,rfl,h3,k3⟩:=vrs_cons k2
  obtain ⟨x4,l4,rfl,h4,k4⟩:=vrs_cons k3
  cases vrs_nil k4;cases h1;cases h2;cases h3;cases h4
  rfl
theorem agg4_vr {ρ:Loc}(a b c:Int)(s:ByteArray):VR ρ (.agg [.int .i64 a,.int .i64 b,.int .i64 c,.str s]) (.agg #[.int .i64 a,.int .i64 b,.int .i64 c,.string s]):=by
  refine .agg rfl ?_ ?_<;>intro i hi<;>match i,hi with
  | 0,_=>first | exact .int _ _ | rfl
  | 1,_=>first | exact .int _ _ | rfl
  | 2,_=>first | exact .int _ _ | rfl
  | 3,_=>first | exact .str _ | rfl
  | i+4,hi=>exact absurd hi (by simp)
theorem primOk_pure {P:Program}{f:FuncId}{g:List V→Option V}(hb:bodied P f=true)
    (h:∀(args:List V) (v:V) (ρ:Loc) (w:World) (xs:Array Value),g args=some v→VRs ρ args xs.toList→Calls P f xs w fun e w'=>∃x,e=.returned x∧VR ρ v x∧RowKit.Below w.heap.size w w') :
    PrimOk P f (fun args _=>match g args with | some v=>some (v,[]) | none=>none):=by
  refine ⟨hb,fun lim args H v bs ρ w xs hg hH hG hx hf => ?_⟩
  dsimp only at hg
  split at hg
  case h_2=>cases hg
  rename_i v' hv
  cases hg
  refine (h args v ρ w xs hv hx).mono ?_
  rintro e w' ⟨x,he,hvx,hbl⟩
  rw [List.append_nil]
  exact ⟨x,ρ,he,hvx,.of_below hbl,hH.keep hbl.size hbl.block⟩
theorem renIx:Tryz.laysIndex_ren.f 219=87:=by kernel_rfl
def gIndex:List V→Option V
  | [.str s,.str p]=>match p.data.toList with
    | [c]=>some (.int .i64 (Lib.indexByte s.data.toList c))
    | _=>none
  | _=>none
def pIndex:PrimF:=fun args _=>match gIndex args with
  | some v=>some (v,[])
  | none=>none
theorem pok_Index:PrimOk Tryz.prog 87 pIndex:=by
  refine primOk_pure (by kernel_rfl) fun args v ρ w xs hg hx => ?_
  obtain ⟨xs⟩:=xs
  have hz:VRs ρ args xs:=hx
  clear hx
  unfold gIndex at hg
  split at hg
  case h_2=>cases hg
  rename_i s p
  split at hg
  case h_2=>cases hg
  rename_i c hp
  cases hg
  have hp:p=⟨#[c]⟩:=by
    obtain ⟨⟨l⟩⟩:=p
    simp at hp
    rw [hp]
  subst hp
  obtain ⟨x1,l1,rfl,h1,k1⟩:=vrs_cons hz
  obtain ⟨x2,l2,rfl,h2,k2⟩:=vrs_cons k1
  cases vrs_nil k2;cases h1;cases h2
  have q:=Any.stringslite_Index_one Tryz.laysIndex s c w
  rw [renIx] at q
  exact q.mono fun e w' ⟨he,hw⟩=>⟨_,he,.int _ _,by rw [hw];exact Below.refl _ _⟩
def vf50:VFn:=⟨1,[],.prim pAtoi⟩
theorem pok50:PrimOk Tryz.prog 50 pAtoi:=pok_Atoi
def vf87:VFn:=⟨2,[],.prim pIndex⟩
theorem pok87:PrimOk Tryz.prog 87 pIndex:=pok_Index
end Go.Proofs.YtiilicnmcpjmkaaGreatDoor.Vm
