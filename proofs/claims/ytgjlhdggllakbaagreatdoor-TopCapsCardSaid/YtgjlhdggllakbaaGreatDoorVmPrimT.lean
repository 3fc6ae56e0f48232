/- Library functions whose contracts the kit's shelf holds, as given contracts of the machine: strings.Split at one byte, strconv.Atoi. -/
import Derived.Test.YtgjlhdggllakbaaGreatDoorVmPrimTL
set_option linter.unusedVariables false
set_option linter.unusedSimpArgs false
set_option linter.unusedSectionVars false
namespace Go.Proofs.YtgjlhdggllakbaaGreatDoor.Vm
open Go Go.Shelf Go.RowKit
set_option maxRecDepth 100000
theorem Mn:Tryz.laysSplit_ren.f 221=64:=by kernel_rfl
theorem Sl:Tryz.laysSplit_ren.t 9=9:=by kernel_rfl
theorem rk (s:ByteArray)(c:UInt8):Lib.countB s ⟨#[c]⟩=s.data.toList.count c:=by
 show Lib.count s.data.toList [c]=_
 rw [Lib.count_one]
theorem OX (s:ByteArray)(c:UInt8)(w:World)(hs:s.size<4294967281) :
 Calls Tryz.prog 64 #[.string s,.string ⟨#[c]⟩,.int .i64 0,.int .i64 (-1)] w fun e w' =>
  e=.returned (.slice (some ⟨w.heap.size,0,none⟩) (Lib.countB s ⟨#[c]⟩+1) (Lib.countB s ⟨#[c]⟩+1))/\w'=w.alloc (.cells ((Lib.splitB ⟨#[c]⟩ 0 (Lib.countB s ⟨#[c]⟩) s).map Value.string).toArray 9):=by
 have h1:1<=(⟨#[c]⟩:ByteArray).size:=Nat.le_refl _
 have hle:=Lib.countB_le ⟨#[c]⟩ h1 s.size s (Nat.le_refl _)
 have hlen:=Lib.splitB_all ⟨#[c]⟩ h1 0 _ s rfl
 have q:=Any.strings_genSplit_core (ρ:=Tryz.laysSplit_ren) { Tryz.laysSplit with } (by kernel_rfl) s ⟨#[c]⟩ 0 (-1) (Lib.countB s ⟨#[c]⟩+1) w hs h1 (Nat.zero_le _)
  (fun x C hx=>(Any.strings_Index_one { Tryz.laysSplit with } x c _).mono fun e w' ⟨he,hw⟩=>⟨by
   rw [he]
   show Ending.returned (Value.int .i64 (Lib.indexByte x.data.toList c))=Ending.returned (Value.int .i64 (Lib.index x.data.toList [c]))
   rw [Lib.index_one],hw⟩)
  ((Any.strings_Count_one { Tryz.laysSplit with } s c w).mono fun e w' ⟨he,hw⟩=>⟨by
    rw [he,rk];rfl,hw⟩)
  (by decide) (by decide) (by rw [if_pos (by decide)];omega)
 rw [Nat.add_sub_cancel,hlen,Mn,Sl] at q
 have e2:Lib.cellsOf (Lib.splitB ⟨#[c]⟩ 0 (Lib.countB s ⟨#[c]⟩) s) (Lib.countB s ⟨#[c]⟩+1)=((Lib.splitB ⟨#[c]⟩ 0 (Lib.countB s ⟨#[c]⟩) s).map Value.string).toArray:=by
  conv=>lhs;rw [←hlen]
  exact Lib.cellsOf_full _
 rw [e2] at q
 exact q
theorem Jo {P:Program}{ρ:Ren}(L:Lays.n146 P ρ){s p:ByteArray}{w W:World}{V:Value}(q:Calls P (ρ.f 221) #[.string s,.string p,.int .i64 0,.int .i64 (-1)] w fun e w'=>e=.returned V/\w'=W) :
 Calls P (ρ.f 146) #[.string s,.string p] w fun e w'=>e=.returned V/\w'=W:=by
 have t3:=L.t3;have t9:=L.t9;have t31:=L.t31
 have a3:=L.a3;have a9:=L.a9;have a31:=L.a31
 have z3:=L.z3;have v3:=L.v3;have z9:=L.z9;have v9:=L.v9;have z31:=L.z31;have v31:=L.v31
 have ent:∀args w,(callFunc (ρ.f 221) args).run P w=.ok (.enter (ρ.f 221) args) w:=enters_of L.f221 (by kernel_rfl) rfl
 go_enter L.f146,Body.n146_ntmps ρ
 go_wp2_with (go_at_fn (ρ.f 221);refine q.mono ?_;rintro e w' ⟨rfl,hw⟩;rw [hw])
 go_ret
 exact ⟨rfl,rfl⟩
theorem Ik:Tryz.laysSplit_ren.f 146=42:=by kernel_rfl
theorem GN (s:ByteArray)(c:UInt8)(w:World)(hs:s.size<4294967281) :
 Calls Tryz.prog 42 #[.string s,.string ⟨#[c]⟩] w fun e w' =>
  e=.returned (.slice (some ⟨w.heap.size,0,none⟩) (Lib.countB s ⟨#[c]⟩+1) (Lib.countB s ⟨#[c]⟩+1))/\w'=w.alloc (.cells ((Lib.splitB ⟨#[c]⟩ 0 (Lib.countB s ⟨#[c]⟩) s).map Value.string).toArray 9):=by
 have q:=OX s c w hs
 rw [←Mn] at q
 have:=Jo Tryz.laysSplit q
 rw [Ik] at this
 exact this
def lK (s:ByteArray)(c:UInt8):List ByteArray:=Lib.splitB ⟨#[c]⟩ 0 (Lib.countB s ⟨#[c]⟩) s
def BP:List V→Option (List V)
 | [.str s,.str p]=>match p.data.toList with
   | [c]=>if s.size<4294967281 then some ((lK s c).map V.str) else none
   | _=>none
 | _=>none
def qS:oA:=Pi (fun _=>true) BP
theorem ML {ρ:Loc}{l:List ByteArray}:VRs ρ (l.map V.str) (l.map Value.string):=by
 induction l with
 | nil=>exact VRs.nil
 | cons a l ih=>exact VRs.cons (.str a) ih
theorem FD:kj Tryz.prog 42 qS:=by
 refine Cf (by kernel_rfl) fun args H cs ρ w xs hf hg hc hH hG hx => ?_
 unfold BP at hg
 split at hg
 case h_2=>cases hg
 rename_i s p
 split at hg
 case h_2=>cases hg
 rename_i c hp
 split at hg
 case isFalse=>cases hg
 rename_i hs
 cases hg
 have hp:p=⟨#[c]⟩:=by
  obtain ⟨⟨l⟩⟩:=p
  simp at hp
  rw [hp]
 subst hp
 have e1:=hx.1
 have e2:=hx.2 0 (by simp)
 have e3:=hx.2 1 (by simp)
 obtain ⟨xs⟩:=xs
 match xs,e1,e2,e3 with
 | [a,b],_,e2,e3 =>
   simp at e2 e3
   cases e2;cases e3
   refine (GN s c w hs).mono fun e w' ⟨he,hw⟩=>⟨?_,_,_,hw,?_⟩
   ·have hlen:=Lib.splitB_all ⟨#[c]⟩ (Nat.le_refl 1) 0 _ s rfl
    rw [he]
    simp only [List.length_map,lK,hlen]
   ·exact ML
theorem uX:Tryz.laysAtoi_ren.f 172=43:=by kernel_rfl
theorem Sa:Tryz.laysAtoi_ren.g 15=0:=by kernel_rfl
theorem RJ:Tryz.laysAtoi_ren.g 16=1:=by kernel_rfl
def oh:List V→Option (V×Bool)
 | [.str s]=>if s.size≤281474976710656 then match Lib.atoiAll s.data.toList with
   | .ok v=>some (.int .i64 v,true)
   | .syntax=>some (.int .i64 0,false)
   | .range=>some (.int .i64 (Lib.atoiSat s.data.toList),false) else none
 | _=>none
def DF (H:Hp)(b:Nat):Bool:=match H[b]? with
 | some (.row [.iface _ (.ptr _ _)] _)=>true
 | _=>false
def QQ (H:Hp):Bool:=DF H 3&&DF H 4
def teN:TypeId:=123
theorem Sb:Tryz.laysAtoi_ren.t 168=teN:=by kernel_rfl
def mF:oA:=EZ QQ teN oh
theorem zk {ρ:Loc}{H:Hp}{w:World}(hH:RelH ρ H w){b g c:Nat}(hr:DF H b=true)(hρ:ρ b=some (g,0,c)):∃te pe,w.cell? ⟨g,0,none⟩=some (.iface te pe):=by
 unfold DF at hr
 split at hr
 case h_2=>cases hr
 rename_i t b2 o own hb
 obtain ⟨C,el,fz,g1,g2,g3,g4,g5⟩:=hH.row b g 0 c _ own hρ hb
 have h3:=(g5 0 (by simp)).1
 simp only [List.getD_eq_getElem?_getD,List.getElem?_cons_zero,Option.getD_some,Nat.add_zero] at h3
 have hlt:0<C.size:=by simp at g3;omega
 have e:C[0]? = some (C.getD 0 ux):=by rw [Array.getD_eq_getD_getElem?,Array.getElem?_eq_getElem hlt];rfl
 generalize hy:C.getD 0 ux=y at h3 e
 cases h3
 rename_i y' hy'
 exact ⟨t,y',by simp [World.cell?,g1,e]⟩
theorem Sg:∃cs,cG[3]? = some (some 0,cs):=⟨_,rfl⟩
theorem Sr:∃cs,cG[4]? = some (some 1,cs):=⟨_,rfl⟩
theorem Lp:kj Tryz.prog 43 mF:=by
 refine Ca (by kernel_rfl) fun args H v ok ρ w xs hf hg hc hH hG hx => ?_
 unfold oh at hg
 split at hg
 case h_2=>cases hg
 rename_i s
 split at hg
 case isFalse=>cases hg
 rename_i hs
 simp only [QQ,Bool.and_eq_true] at hc
 obtain ⟨cs1,l1⟩:=Sg
 obtain ⟨cs2,l2⟩:=Sr
 obtain ⟨t1,p1,c1⟩:=zk hH hc.1 (hG 3 0 cs1 l1)
 obtain ⟨t2,p2,c2⟩:=zk hH hc.2 (hG 4 1 cs2 l2)
 have e1:=hx.1
 have e2:=hx.2 0 (by simp)
 obtain ⟨xs⟩:=xs
 match xs,e1,e2 with
 | [a],_,e2 =>
   simp at e2
   cases e2
   split at hg
   ·rename_i n hn
    cases hg
    have q:=Any.strconv_Atoi_ok Tryz.laysAtoi s (by omega) n hn w
    rw [uX] at q
    refine q.mono fun e w' ⟨he,hw⟩=>⟨?_,_,.int _ _,by rw [if_pos rfl];exact he⟩
    rcases hw with rfl | ⟨t,rfl⟩
    ·exact Below.refl _ _
    ·exact Lib.bytesWorld_below _ _ _
   ·rename_i hn
    cases hg
    have q:=Any.strconv_Atoi_syntax Tryz.laysAtoi s hs hn (.iface t1 p1) w (by rw [Sa];exact c1) (.inr ⟨_,_,rfl⟩)
    rw [uX,Sb] at q
    refine q.mono fun e w' ⟨N,he,h1,h2,h3⟩=>⟨h3,_,.int _ _,?_⟩
    rw [if_neg (by decide)]
    exact ⟨N,he,h1,(Array.getElem?_eq_some_iff.1 h2).1⟩
   ·rename_i hn
    cases hg
    have q:=Any.strconv_Atoi_range Tryz.laysAtoi s hs hn (.iface t2 p2) w (by rw [RJ];exact c2) (.inr ⟨_,_,rfl⟩)
    rw [uX,Sb] at q
    refine q.mono fun e w' ⟨N,he,h1,h2,h3⟩=>⟨h3,_,.int _ _,?_⟩
    rw [if_neg (by decide)]
    exact ⟨N,he,h1,(Array.getElem?_eq_some_iff.1 h2).1⟩
def vf42:VFn:=⟨2,[],.prim qS⟩
theorem Rv:kj Tryz.prog 42 qS:=FD
def vf43:VFn:=⟨1,[],.prim mF⟩
theorem RK:kj Tryz.prog 43 mF:=Lp
end Go.Proofs.YtgjlhdggllakbaaGreatDoor.Vm
