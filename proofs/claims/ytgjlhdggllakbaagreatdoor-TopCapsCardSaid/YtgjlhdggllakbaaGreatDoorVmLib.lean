/- Lists in the machine's memory, loops, tests. -/
import Derived.Test.YtgjlhdggllakbaaGreatDoorVmRow
set_option linter.unusedVariables false
set_option linter.unusedSimpArgs false
set_option linter.unusedSectionVars false
namespace Go.Proofs.YtgjlhdggllakbaaGreatDoor.Vm
open Go
attribute [-simp] List.getD_eq_getElem?_getD
def I64 (n:Int):Prop := -9223372036854775808<=n/\n<=9223372036854775807
theorem aO {T:Tbl} {lim:Nat} {body:VCode} {Q:VExit→St→Prop} (N:Nat) (J:Nat→Fr→Lo→Hp→Prop) {s:St} (start:J 0 s.fr s.L s.H)
 (round:∀i,i<=N->∀fr L H,J i fr L H->bx T lim body (kV (fun s'=>i<N/\J (i+1) s'.fr s'.L s'.H) Q) ⟨fr,L,H⟩):bx T lim (.loop body) Q s:=by
 have key:∀k i s,k=N-i->i<=N->J i s.fr s.L s.H->bx T lim (.loop body) Q s:=by
  intro k
  induction k using Nat.strongRecOn with
  | _ k ih =>
    intro i s hk hi hI
    obtain ⟨k',e,s',h1,h2⟩:=cr (round i hi s.fr s.L s.H hI)
    show Ip T lim (.loop body) Q s
    cases e with
    | normal =>
      obtain ⟨hlt,hIm⟩:=h2
      obtain ⟨j,e',s'',h3,h4⟩:=ih (N-(i+1)) (by omega) (i+1) s' rfl (by omega) hIm
      refine ⟨max k' j+1,e',s'',?_,h4⟩
      simp only [aA,bt (bz T (show k'<=max k' j+1 by omega)) (show k'<=max k' j by omega) h1]
      exact bt (bz T (show j<=max k' j+1 by omega)) (show j<=max k' j by omega) h3
    | exit id=>exact ⟨k'+1,.exit id,s',by simp only [aA,bt (bz T (Nat.le_succ k')) (Nat.le_refl k') h1],h2⟩
    | ret=>exact ⟨k'+1,.ret,s',by simp only [aA,bt (bz T (Nat.le_succ k')) (Nat.le_refl k') h1],h2⟩
 exact key _ 0 s rfl (Nat.zero_le _) start
theorem aC {T:Tbl}{lim:Nat}{p:Prop}[Decidable p]{x y:VCode}{Q:VExit->St->Prop}{s:St}(ht:p->bx T lim x Q s)(hf:¬p->bx T lim y Q s):tT T lim (.bool (decide p)) x y Q s:=by
 by_cases h:p
 ·rw [decide_eq_true h];exact ht h
 ·rw [decide_eq_false h];exact hf h
theorem bM {T:Tbl}{lim:Nat}{p:Prop}[Decidable p]{x y:VCode}{Q:VExit->St->Prop}{s:St}(ht:¬p->bx T lim x Q s)(hf:p->bx T lim y Q s):tT T lim (.bool (!decide p)) x y Q s:=by
 by_cases h:p
 ·rw [decide_eq_true h];exact hf h
 ·rw [decide_eq_false h];exact ht h
inductive SlV (H:Hp):V->List Int->Prop
 | nil:SlV H .snil []
 | empty:SlV H .sempty []
 | sl {b off:Nat} {cs:List V} {own:Bool} {l:List Int}:H[b]? = some (.row cs own)->off+l.length<=cs.length->(cs.drop off).take l.length=bH l->SlV H (.sl b off l.length 1) l
section
variable {H:Hp}{v:V}{l:List Int}
theorem SlV.len (h:SlV H v l):bD v=some (.int .i64 l.length):=by
 cases h<;>rfl
theorem SlV.stor (h:SlV H v l):stor v=true:=by
 cases h<;>rfl
theorem SlV.one (h:SlV H v l):aJ v=[v]:=by
 cases h<;>rfl
theorem SlV.mono {H':Hp}(hx:HX H H')(h:SlV H v l):SlV H' v l:=by
 cases h with
 | nil=>exact .nil
 | empty=>exact .empty
 | sl h1 h2 h3=>exact .sl (hx.get h1) h2 h3
theorem SlV.cells (h:SlV H v l):dD 1 H v=some (bH l):=by
 cases h with
 | nil=>rfl
 | empty=>rfl
 | sl h1 h2 h3=>simp [dD,h1,h2,h3]
def ept (sz:Nat)(v:V)(i:Nat):V:=match v with
 | .sl b off _ _=>.ptr b (off+i*sz)
 | _=>dv
theorem SlV.addr (h:SlV H v l){i:Int}(hi:0<=i/\i<l.length):aQ 1 v (.int .i64 i)=some (ept 1 v i.toNat):=by
 cases h with
 | nil=>simp at hi;omega
 | empty=>simp at hi;omega
 | sl h1 h2 h3=>rw [ah hi];rfl
theorem SlV.load (h:SlV H v l){i:Nat}(hi:i<l.length){L:Lo}:aW none L H (ept 1 v i)=some (.int .i64 (l.getD i 0)):=by
 cases h with
 | nil=>simp at hi
 | empty=>simp at hi
 | sl h1 h2 h3 =>
   rename_i b off cs own
   show aW none L H (.ptr b (off+i*1))=_
   rw [Nat.mul_one,bX h1]
   have hlt:off+i<cs.length:=by omega
   simp only [rd,hlt,if_true]
   have e:(cs.drop off)[i]? = (bH l)[i]? := by
    rw [←h3,List.getElem?_take_of_lt hi]
   rw [List.getElem?_drop,tL,List.getElem?_eq_getElem hi] at e
   simp [List.getD_eq_getElem?_getD,e,hi]
theorem gC {sz i:Nat}{v:V}:EG (ept sz v i)=none:=by cases v<;>rfl
attribute [simp] gC
def pj (v:V)(a b:Nat):V:=match v with
 | .sl q off _ sz=>if a=0 then .sl q off b sz else if a=b then .sempty else .sl q (off+a*sz) (b-a) sz
 | v=>v
theorem SlV.subW (h:SlV H v l){a b:Nat}(hab:a<=b/\b<=l.length)(hpos:0<l.length){lo hi:Option V}(hb:bT l.length lo hi=some (a,b)):zV 1 v lo hi=some (pj v a b):=by
 cases h with
 | nil=>simp at hpos
 | empty=>simp at hpos
 | sl h1 h2 h3 =>
   simp only [zV,if_true,hb,pj]
   split
   ·rfl
   ·split<;>simp
theorem SlV.sub (h:SlV H v l) {a b:Nat} (hab:a≤b∧b≤l.length):SlV H (pj v a b) ((l.drop a).take (b-a)):=by
 cases h with
 | nil =>
   have:b=0:=by simp at hab;omega
   subst this
   simpa [pj] using SlV.nil
 | empty =>
   have:b=0:=by simp at hab;omega
   subst this
   simpa [pj] using SlV.empty
 | sl h1 h2 h3 =>
   rename_i q off cs own
   have hl:((l.drop a).take (b-a)).length=b-a:=by simp;omega
   simp only [pj]
   split
   ·rename_i h0;subst h0
    rw [List.drop_zero,Nat.sub_zero]
    have hl':(l.take b).length=b:=by simp;omega
    have:=SlV.sl (H:=H) (l:=l.take b) (off:=off) h1 (by omega) (by
     rw [hl']
     have e:(cs.drop off).take b=((cs.drop off).take l.length).take b:=by rw [List.take_take];congr 1;omega
     rw [e,h3];simp [bH,List.map_take])
    rw [hl'] at this
    exact this
   ·split
    ·rename_i e;subst e
     simpa using SlV.empty
    ·have:=SlV.sl (H:=H) (l:=(l.drop a).take (b-a)) (off:=off+a) h1 (by omega) (by
      rw [hl]
      have e:(cs.drop (off+a)).take (b-a)=(((cs.drop off).take l.length).drop a).take (b-a):=by
       rw [List.drop_take,List.take_take,List.drop_drop];congr 1;omega
      rw [e,h3];simp [bH,List.map_take,List.map_drop])
     rw [hl] at this
     rw [Nat.mul_one]
     exact this
end
theorem nH {l:List Int}{i:Nat}(h:i<l.length):l.take (i+1)=l.take i++[l.getD i 0]:=by
 rw [List.take_add_one,List.getElem?_eq_getElem h,List.getD_eq_getElem?_getD,List.getElem?_eq_getElem h]
 rfl
inductive OwnV (n:Nat)(H:Hp):V->List Int->Prop
 | nil:OwnV n H .snil []
 | row {b:Nat} {l:List Int}:n<=b->H[b]? = some (.row (bH l) true)->OwnV n H (.sl b 0 l.length 1) l
def apH (H:Hp)(v:V)(new:List V)(all:List V):Hp:=match v with
 | .sl b _ _ _=>(H++[Blk.row new true]).set b .dead++[Blk.row all true]
 | _=>H++[Blk.row new true]++[Blk.row all true]
section
variable {n:Nat}{H:Hp}{v:V}{l:List Int}
theorem OwnV.sl (h:OwnV n H v l):SlV H v l:=by
 cases h with
 | nil=>exact .nil
 | row _ h3=>exact .sl h3 (by simp) (by rw [List.drop_zero,List.take_of_length_le (by simp)])
theorem OwnV.mono {H':Hp}(hx:HX H H')(h:OwnV n H v l):OwnV n H' v l:=by
 cases h with
 | nil=>exact .nil
 | row h1 h3=>exact .row h1 (hx.get h3)
theorem OwnV.le {n m:Nat}(hnm:n<=m)(h:OwnV m H v l):OwnV n H v l:=by
 cases h with
 | nil=>exact .nil
 | row h1 h3=>exact .row (by omega) h3
theorem OwnV.append (h:OwnV n H v l){lim:Nat}{x:Int}(hn:lim<=n/\l.length<1000000) :
 aP lim 1 8 (H++[.row [.int .i64 x] true]) v (.sl H.length 0 1 1)=some (.sl (H.length+1) 0 (l.length+1) 1,apH H v [.int .i64 x] (bH (l++[x]))):=by
 have hc:(H++[Blk.row [V.int .i64 x] true])[H.length]? = some (.row [.int .i64 x] true):=List.getElem?_concat_length
 cases h with
 | nil=>simp [aP,dD,bD,apH,bH]
 | row h1 h3 =>
   rename_i b
   have hb:=(List.getElem?_eq_some_iff.1 h3).1
   have h3':(H++[Blk.row [V.int .i64 x] true])[b]? = some (.row (bH l) true):=by rw [List.getElem?_append_left hb];exact h3
   simp only [aP,dD,hc,bD]
   simp [h3',show lim<=b by omega,show (l.length+1)*8<=140737488355328 by omega,show l.length+1<4611686018427387904 by omega,apH]
   simp [bH]
theorem OwnV.ap (h:OwnV n H v l)(hnH:n<=H.length){x:Int}{new:List V}:OwnV n (apH H v new (bH (l++[x]))) (.sl (H.length+1) 0 (l.length+1) 1) (l++[x]):=by
 have e:l.length+1=(l++[x]).length:=by simp
 rw [e]
 cases h with
 | nil =>
   refine .row (by omega) ?_
   have:H.length+1=(H++[Blk.row new true]).length:=by simp
   rw [this];show (H++[Blk.row new true]++[Blk.row _ true])[_]? = _
   exact List.getElem?_concat_length
 | row h1 h3 =>
   rename_i b
   refine .row (by omega) ?_
   have:H.length+1=((H++[Blk.row new true]).set b .dead).length:=by simp
   rw [this];show ((H++[Blk.row new true]).set b .dead++[Blk.row _ true])[_]? = _
   exact List.getElem?_concat_length
theorem OwnV.apX {H0:Hp}(hx:HX H0 H)(h:OwnV n H v l)(hn:H0.length<=n){new all:List V}:HX H0 (apH H v new all):=by
 obtain ⟨X,rfl⟩:=hx
 cases h with
 | nil=>exact ⟨X++[.row new true]++[.row all true],by simp [apH]⟩
 | row h1 h3 =>
   rename_i b
   refine HX.of (by simp [apH];omega) fun i hi => ?_
   simp only [apH]
   rw [List.getElem?_append_left (by simp;omega),List.getElem?_set_ne (by omega),List.getElem?_append_left (by simp;omega),List.getElem?_append_left hi]
theorem OwnV.apLen (h:OwnV n H v l){new all:List V}:H.length<=(apH H v new all).length:=by
 cases h<;>simp [apH]<;>omega
end
end Go.Proofs.YtgjlhdggllakbaaGreatDoor.Vm
