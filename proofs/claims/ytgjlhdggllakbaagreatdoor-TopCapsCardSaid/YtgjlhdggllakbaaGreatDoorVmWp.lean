/- The machine's rules of proof: what code and calls come to, whatever the fuel. -/
import Derived.Test.YtgjlhdggllakbaaGreatDoorVmFn
set_option linter.unusedVariables false
set_option linter.unusedSimpArgs false
set_option linter.unusedSectionVars false
namespace Go.Proofs.YtgjlhdggllakbaaGreatDoor.Vm
open Go
def CLe (c c':b8):Prop:=∀lim f args H r,c lim f args H=some r->c' lim f args H=some r
section
variable {c c':b8}{lim:Nat}
theorem CLe.refl:CLe c c:=fun _ _ _ _ _ h=>h
theorem mG (h:CLe c c') {o:VOper} {s:St} {r:V×Lo×Hp} (he:cA c lim o s=some r):cA c' lim o s=some r:=by
 unfold cA at he ⊢
 split at he
 ·rename_i hw
  rw [if_pos hw]
  split at he
  ·exact he
  ·rename_i f args h1
   split at he
   ·rename_i v H h2
    simp only [h _ _ _ _ _ h2];exact he
   ·cases he
  ·cases he
 ·rename_i hw
  rw [if_neg hw];exact he
theorem nw (h:CLe c c'){o:VOper}{s s':St}(he:fF c lim o s=some s'):fF c' lim o s=some s':=by
 unfold fF at he ⊢
 split at he
 ·rename_i h1;rw [mG h h1];exact he
 ·cases he
theorem gB (h:CLe c c'):∀{l:List VOper} {s s':St},dG c lim l s=some s'->dG c' lim l s=some s'
 | [],s,s',he=>he
 | o :: l,s,s',he=>by
   simp only [dG] at he ⊢
   split at he
   ·rename_i s1 h1
    rw [nw h h1];exact gB h he
   ·cases he
theorem kN (h:CLe c c'):∀{l:List VOper} {k:Nat} {s s':St} {acc:List (Nat×Nat)},iG c k l s acc=some s'→iG c' k l s acc=some s'
 | [],k,s,s',acc,he=>he
 | o :: l,k,s,s',acc,he=>by
   simp only [iG] at he ⊢
   split at he
   ·cases he
   ·rename_i acc' h0
    split at he
    ·rename_i s1 h1
     rw [nw h h1];exact kN h he
    ·cases he
theorem jk (h:CLe c c'):∀{l:List VOper} {k:Nat} {s s':St} {acc:List (Nat×Nat)} {hp:eB},dA c lim k l s acc hp=some s'→dA c' lim k l s acc hp=some s'
 | [],k,s,s',acc,hp,he=>he
 | o :: l,k,s,s',acc,hp,he=>by
   simp only [dA] at he ⊢
   split at he
   ·cases he
   ·rename_i acc' hp' h0
    split at he
    ·rename_i s1 h1
     rw [nw h h1];exact jk h he
    ·cases he
theorem bt (h:CLe c c'):∀{n m:Nat} {x:VCode} {s:St} {r:VExit×St},n≤m→aA c lim n x s=some r→aA c' lim m x s=some r
 | 0,m,x,s,r,hnm,he=>by simp [aA] at he
 | n+1,0,x,s,r,hnm,he=>absurd hnm (by omega)
 | n + 1,m+1,x,s,r,hnm,he=>by
   have ih:=fun {x:VCode} {s:St} {r:VExit×St}=>bt h (n:=n) (m:=m) (x:=x) (s:=s) (r:=r) (by omega)
   cases x with
   | skip=>simp only [aA] at he ⊢;exact he
   | exit id=>simp only [aA] at he ⊢;exact he
   | ret=>simp only [aA] at he ⊢;exact he
   | reg ops =>
     simp only [aA] at he ⊢
     split at he
     ·rename_i s1 h1;rw [gB h h1];exact he
     ·cases he
   | draw hd tl =>
     simp only [aA] at he ⊢
     split at he
     case h_2=>cases he
     rename_i s1 h1
     split at he
     case h_2=>cases he
     rename_i s2 h2
     simp only [kN h h1,gB h h2];exact he
   | drawS hd tl =>
     simp only [aA] at he ⊢
     split at he
     case h_2=>cases he
     rename_i s1 h1
     split at he
     case h_2=>cases he
     rename_i s2 h2
     simp only [jk h h1,gB h h2];exact he
   | seq a b =>
     simp only [aA] at he ⊢
     split at he
     ·rename_i s1 h1
      simp only [ih h1];exact ih he
     ·rename_i hne
      rw [ih he]
      split
      ·rename_i s1 h1;cases h1;exact absurd he (hne s1)
      ·rfl
   | cond cc a b =>
     simp only [aA] at he ⊢
     split at he
     ·exact ih he
     ·exact ih he
     ·cases he
   | block id body =>
     simp only [aA] at he ⊢
     split at he
     ·rename_i id' s1 h1
      simp only [ih h1];exact he
     ·rename_i hne
      rw [ih he]
      split
      ·rename_i id' s1 h1;cases h1;exact absurd he (hne id' s1)
      ·rfl
   | loop body =>
     simp only [aA] at he ⊢
     split at he
     ·rename_i s1 h1
      simp only [ih h1];exact ih he
     ·rename_i hne
      rw [ih he]
      split
      ·rename_i s1 h1;cases h1;exact absurd he (hne s1)
      ·rfl
   | scope body =>
     simp only [aA] at he ⊢
     exact ih he
   | stuck=>simp [aA] at he
   | prim _=>simp [aA] at he
   | rangeF g f ps nt =>
     simp only [aA] at he ⊢
     split at he
     case h_2=>cases he
     rename_i hh fs cs hq
     split at he
     ·cases he
     rename_i hny
     split at he
     case h_2=>cases he
     rename_i v H2 h1
     simp only [if_neg hny,h _ _ _ _ _ h1]
     exact he
theorem BJ {T:Tbl}(h:CLe c c'){n m:Nat}(hnm:n<=m){H:Hp}{args:List V}{r:V×Hp}(he:gG T c n lim H args=some r):gG T c' m lim H args=some r:=by
 obtain ⟨v,H'⟩:=r
 obtain ⟨b,xs,f,ps,fr,vf,x,y,s1,f1,ps1,fr1,s,rfl,hb,hl,hlen,hvf,hnp,hbody,h1,hb1,h2,hd,rfl,rfl,hge⟩:=jw he
 unfold gG
 simp only [hb,hl,hlen,hge,and_self,if_true,hvf,hnp,hbody,bt h hnm h1,hb1,bt h hnm h2,hd]
end
theorem bz (T:Tbl):∀{n m:Nat},n≤m→CLe (fU T n) (fU T m)
 | 0,m,_=>fun lim f args H r h=>by simp [fU] at h
 | n+1,0,h=>absurd h (by omega)
 | n + 1,m+1,h=>fun lim f args H r he=>by
   have ih:=bz T (n:=n) (m:=m) (by omega)
   simp only [fU] at he ⊢
   by_cases hy:f=yB
   ·rw [if_pos hy] at he ⊢
    exact BJ ih (by omega) he
   rw [if_neg hy] at he ⊢
   split at he
   ·cases he
   rename_i hrb
   rw [if_neg hrb]
   split at he
   ·cases he
   ·rename_i vf hvf
    split at he
    ·rename_i hl
     rw [if_pos hl]
     split at he
     ·exact he
     split at he
     ·cases he
     ·rename_i e s hne h1
      rw [bt ih (show n<=m by omega) h1]
      split at he
      ·rename_i v hv
       cases e with
       | normal=>simp only [hv];exact he
       | ret=>simp only [hv];exact he
       | exit id=>exact (hne id rfl).elim
      ·cases he
     ·cases he
    ·cases he
def aF (T:Tbl)(lim:Nat)(f:FuncId)(args:List V)(H:Hp)(K:V->Hp->Prop):Prop:=∃n v H',fU T n lim f args H=some (v,H')/\K v H'
theorem aF.mono {T:Tbl}{lim:Nat}{f:FuncId}{args:List V}{H:Hp}{K K':V->Hp->Prop}(h:aF T lim f args H K)(hk:∀v H',K v H'->K' v H'):aF T lim f args H K':=by
 obtain ⟨n,v,H',h1,h2⟩:=h
 exact ⟨n,v,H',h1,hk _ _ h2⟩
def si (T:Tbl) (lim:Nat) (o:VOper) (s:St) (K:V→Lo→Hp→Prop):Prop :=
 if wanted s.fr o.guard then
  match ax lim s.fr s.L s.H o.op with
  | some (.val v L H)=>K v L H
  | some (.call f args)=>aF T lim f args s.H fun v H=>K v s.L H
  | none=>False
 else K dv s.L s.H
def jp (T:Tbl)(lim:Nat):List VOper->(St->Prop)->St->Prop
 | [],K,s=>K s
 | o :: rest,K,s=>si T lim o s fun v L H=>jp T lim rest K ⟨dm s.fr o.dst v,L,H⟩
def fO (T:Tbl):Nat→List VOper→List (Nat×Nat)→(St→Prop)→St→Prop
 | _,[],_,K,s=>K s
 | k,o :: rest,acc,K,s=>match mY o k s acc with
   | none=>False
   | some acc'=>si T s.H.length o s fun v L H=>fO T (k+1) rest acc' K ⟨dm s.fr o.dst v,L,H⟩
def fg (T:Tbl) (lim:Nat):Nat→List VOper→List (Nat×Nat)→eB→(St→Prop)→St→Prop
 | _,[],_,_,K,s=>K s
 | k,o :: rest,acc,hp,K,s=>match du o k s acc hp with
   | none=>False
   | some (acc',hp')=>si T (dP lim o.op s) o s fun v L H=>fg T lim (k+1) rest acc' hp' K ⟨dm s.fr o.dst v,L,H⟩
def kV (K:St->Prop)(Q:VExit->St->Prop):VExit->St->Prop
 | .normal,s=>K s
 | .exit id,s=>Q (.exit id) s
 | .ret,s=>Q .ret s
def iC (id:Nat)(Q:VExit->St->Prop):VExit->St->Prop
 | .normal,s=>Q .normal s
 | .exit id',s=>if id'=id then Q .normal s else Q (.exit id') s
 | .ret,s=>Q .ret s
def Ip (T:Tbl)(lim:Nat)(c:VCode)(Q:VExit->St->Prop)(s:St):Prop:=∃n e s',aA (fU T n) lim n c s=some (e,s')/\Q e s'
def bx (T:Tbl) (lim:Nat):VCode→(VExit→St→Prop)→St→Prop
 | .skip,Q,s=>Q .normal s
 | .reg ops,Q,s=>jp T lim ops (Q .normal) s
 | .draw h t,Q,s=>fO T 0 h [] (jp T lim t (Q .normal)) s
 | .drawS h t,Q,s=>fg T lim 0 h [] ([],false) (jp T lim t (Q .normal)) s
 | .seq a b,Q,s=>bx T lim a (kV (bx T lim b Q) Q) s
 | .cond c a b,Q,s=>match opd s.fr c with
   | .bool true=>bx T lim a Q s
   | .bool false=>bx T lim b Q s
   | _=>False
 | .block id body,Q,s=>bx T lim body (iC id Q) s
 | .loop body,Q,s=>Ip T lim (.loop body) Q s
 | .scope body,Q,s=>bx T lim body Q s
 | .exit id,Q,s=>Q (.exit id) s
 | .ret,Q,s=>Q .ret s
 | .stuck,_,_=>False
 | .prim _,_,_=>False
 | .rangeF g f ps nt,Q,s=>match opd s.fr g with
   | .func (.func h) fs cs=>h≠yB/\aF T lim h (fs++[.yl s.H.length]++cs) (s.H++[.loop f ps (eD s.fr nt)]) fun _ H2=>∃f2 ps2 fr2,H2[s.H.length]? = some (.loop f2 ps2 fr2)/\Q .normal ⟨s.fr,s.L,H2.set s.H.length .dead⟩
   | _=>False
section
variable {T:Tbl}{lim:Nat}
theorem lz {o:VOper}{s:St}{K:V->Lo->Hp->Prop}(h:si T lim o s K):∃n v L H,cA (fU T n) lim o s=some (v,L,H)/\K v L H:=by
 unfold si at h
 split at h
 ·rename_i hw
  split at h
  ·rename_i v L H h1
   exact ⟨0,v,L,H,by simp [cA,hw,h1],h⟩
  ·rename_i f args h1
   obtain ⟨n,v,H,h2,h3⟩:=h
   exact ⟨n,v,s.L,H,by simp [cA,hw,h1,h2],h3⟩
  ·cases h
 ·rename_i hw
  exact ⟨0,dv,s.L,s.H,by simp [cA,hw],h⟩
theorem jx:∀{l:List VOper} {s:St} {K:St->Prop},jp T lim l K s->∃n s',dG (fU T n) lim l s=some s'/\K s'
 | [],s,K,h=>⟨0,s,rfl,h⟩
 | o :: l,s,K,h=>by
   obtain ⟨n,v,L,H,h1,h2⟩:=lz h
   obtain ⟨m,s',h3,h4⟩:=jx h2
   refine ⟨max n m,s',?_,h4⟩
   have e1:=mG (bz T (Nat.le_max_left n m)) h1
   simp only [dG,fF,e1]
   exact gB (bz T (Nat.le_max_right n m)) h3
theorem oN:∀{l:List VOper} {k:Nat} {acc:List (Nat×Nat)} {s:St} {K:St->Prop},fO T k l acc K s->∃n s',iG (fU T n) k l s acc=some s'/\K s'
 | [],k,acc,s,K,h=>⟨0,s,rfl,h⟩
 | o :: l,k,acc,s,K,h=>by
   simp only [fO] at h
   split at h
   ·cases h
   rename_i acc' h0
   obtain ⟨n,v,L,H,h1,h2⟩:=lz h
   obtain ⟨m,s',h3,h4⟩:=oN h2
   refine ⟨max n m,s',?_,h4⟩
   have e1:=mG (bz T (Nat.le_max_left n m)) h1
   simp only [iG,h0,fF,e1]
   exact kN (bz T (Nat.le_max_right n m)) h3
theorem mS:∀{l:List VOper} {k:Nat} {acc:List (Nat×Nat)} {hp:eB} {s:St} {K:St->Prop},fg T lim k l acc hp K s->∃n s',dA (fU T n) lim k l s acc hp=some s'/\K s'
 | [],k,acc,hp,s,K,h=>⟨0,s,rfl,h⟩
 | o :: l,k,acc,hp,s,K,h=>by
   simp only [fg] at h
   split at h
   ·cases h
   rename_i acc' hp' h0
   obtain ⟨n,v,L,H,h1,h2⟩:=lz h
   obtain ⟨m,s',h3,h4⟩:=mS h2
   refine ⟨max n m,s',?_,h4⟩
   have e1:=mG (bz T (Nat.le_max_left n m)) h1
   simp only [dA,h0,fF,e1]
   exact jk (bz T (Nat.le_max_right n m)) h3
theorem qy {n m:Nat}(h:n<=m){c:VCode}{s:St}{r:VExit×St}(he:aA (fU T n) lim n c s=some r):aA (fU T m) lim m c s=some r:=bt (bz T h) h he
theorem cr:∀{c:VCode} {Q:VExit→St→Prop} {s:St},bx T lim c Q s→Ip T lim c Q s
 | .skip,Q,s,h=>⟨1,.normal,s,rfl,h⟩
 | .prim _,Q,s,h=>h.elim
 | .exit id,Q,s,h=>⟨1,.exit id,s,rfl,h⟩
 | .ret,Q,s,h=>⟨1,.ret,s,rfl,h⟩
 | .reg ops,Q,s,h=>by
   obtain ⟨n,s',h1,h2⟩:=jx h
   refine ⟨n+1,.normal,s',?_,h2⟩
   simp only [aA,gB (bz T (Nat.le_succ n)) h1]
 | .draw hd tl,Q,s,h=>by
   obtain ⟨n,s',h1,h2⟩:=oN h
   obtain ⟨m,s'',h3,h4⟩:=jx h2
   refine ⟨max n m+1,.normal,s'',?_,h4⟩
   simp only [aA,kN (bz T (show n<=max n m+1 by omega)) h1,gB (bz T (show m<=max n m+1 by omega)) h3]
 | .drawS hd tl,Q,s,h=>by
   obtain ⟨n,s',h1,h2⟩:=mS h
   obtain ⟨m,s'',h3,h4⟩:=jx h2
   refine ⟨max n m+1,.normal,s'',?_,h4⟩
   simp only [aA,jk (bz T (show n<=max n m+1 by omega)) h1,gB (bz T (show m<=max n m+1 by omega)) h3]
 | .seq a b,Q,s,h=>by
   obtain ⟨n,e,s',h1,h2⟩:=cr (c:=a) h
   cases e with
   | normal =>
     obtain ⟨m,e',s'',h3,h4⟩:=cr (c:=b) h2
     refine ⟨max n m+1,e',s'',?_,h4⟩
     simp only [aA,bt (bz T (show n<=max n m+1 by omega)) (show n<=max n m by omega) h1]
     exact bt (bz T (show m<=max n m+1 by omega)) (show m<=max n m by omega) h3
   | exit id=>exact ⟨n+1,.exit id,s',by simp only [aA,bt (bz T (Nat.le_succ n)) (Nat.le_refl n) h1],h2⟩
   | ret=>exact ⟨n+1,.ret,s',by simp only [aA,bt (bz T (Nat.le_succ n)) (Nat.le_refl n) h1],h2⟩
 | .cond c a b,Q,s,h=>by
   simp only [bx] at h
   split at h
   ·rename_i hc
    obtain ⟨n,e,s',h1,h2⟩:=cr (c:=a) h
    exact ⟨n+1,e,s',by simp only [aA,hc];exact bt (bz T (Nat.le_succ n)) (Nat.le_refl n) h1,h2⟩
   ·rename_i hc
    obtain ⟨n,e,s',h1,h2⟩:=cr (c:=b) h
    exact ⟨n+1,e,s',by simp only [aA,hc];exact bt (bz T (Nat.le_succ n)) (Nat.le_refl n) h1,h2⟩
   ·cases h
 | .block id body,Q,s,h=>by
   obtain ⟨n,e,s',h1,h2⟩:=cr (c:=body) h
   have h1':=bt (bz T (Nat.le_succ n)) (Nat.le_refl n) h1
   cases e with
   | normal=>exact ⟨n+1,.normal,s',by simp only [aA,h1'],h2⟩
   | ret=>exact ⟨n+1,.ret,s',by simp only [aA,h1'],h2⟩
   | exit id' =>
     simp only [iC] at h2
     by_cases e:id'=id
     ·rw [if_pos e] at h2
      exact ⟨n+1,.normal,s',by simp only [aA,h1',e,if_true],h2⟩
     ·rw [if_neg e] at h2
      exact ⟨n+1,.exit id',s',by simp only [aA,h1',e,if_false],h2⟩
 | .loop body,Q,s,h=>h
 | .stuck,Q,s,h=>h.elim
 | .rangeF g f ps nt,Q,s,h=>by
   simp only [bx] at h
   split at h
   case h_2=>cases h
   rename_i hh fs cs hq
   obtain ⟨hny,n,v,H2,h1,f2,ps2,fr2,h2,h3⟩:=h
   refine ⟨n+1,.normal,_,?_,h3⟩
   simp only [aA,hq,if_neg hny,bz T (Nat.le_succ n) _ _ _ _ _ h1,h2]
 | .scope body,Q,s,h=>by
   obtain ⟨n,e,s',h1,h2⟩:=cr (c:=body) h
   exact ⟨n+1,e,s',by simp only [aA];exact bt (bz T (Nat.le_succ n)) (Nat.le_refl n) h1,h2⟩
theorem oE {body:VCode}{Q:VExit->St->Prop}{s:St}(h:bx T lim body (kV (bx T lim (.loop body) Q) Q) s):bx T lim (.loop body) Q s:=by
 obtain ⟨n,e,s',h1,h2⟩:=cr h
 show Ip T lim (.loop body) Q s
 cases e with
 | normal =>
   obtain ⟨m,e',s'',h3,h4⟩:=h2
   refine ⟨max n m+1,e',s'',?_,h4⟩
   simp only [aA,bt (bz T (show n<=max n m+1 by omega)) (show n<=max n m by omega) h1]
   exact bt (bz T (show m<=max n m+1 by omega)) (show m<=max n m by omega) h3
 | exit id=>exact ⟨n+1,.exit id,s',by simp only [aA,bt (bz T (Nat.le_succ n)) (Nat.le_refl n) h1],h2⟩
 | ret=>exact ⟨n+1,.ret,s',by simp only [aA,bt (bz T (Nat.le_succ n)) (Nat.le_refl n) h1],h2⟩
theorem Fk {body:VCode}{Q:VExit->St->Prop}(I:Nat->St->Prop)(round:∀n s,I n s->bx T lim body (kV (fun s'=>∃m,m<n/\I m s') Q) s):∀{n:Nat} {s:St},I n s->bx T lim (.loop body) Q s:=by
 intro n
 induction n using Nat.strongRecOn with
 | _ n ih =>
   intro s hI
   obtain ⟨k,e,s',h1,h2⟩:=cr (round n s hI)
   show Ip T lim (.loop body) Q s
   cases e with
   | normal =>
     obtain ⟨m,hm,hIm⟩:=h2
     obtain ⟨j,e',s'',h3,h4⟩:=ih m hm hIm
     refine ⟨max k j+1,e',s'',?_,h4⟩
     simp only [aA,bt (bz T (show k<=max k j+1 by omega)) (show k<=max k j by omega) h1]
     exact bt (bz T (show j<=max k j+1 by omega)) (show j<=max k j by omega) h3
   | exit id=>exact ⟨k+1,.exit id,s',by simp only [aA,bt (bz T (Nat.le_succ k)) (Nat.le_refl k) h1],h2⟩
   | ret=>exact ⟨k+1,.ret,s',by simp only [aA,bt (bz T (Nat.le_succ k)) (Nat.le_refl k) h1],h2⟩
def fnQ (rs:List VRes) (K:V→Hp→Prop):VExit→St→Prop
 | .exit _,_=>False
 | .normal,s=>match wd rs s.fr s.L s.H with
   | some v=>K v s.H
   | none=>False
 | .ret,s=>match wd rs s.fr s.L s.H with
   | some v=>K v s.H
   | none=>False
theorem ao {f:FuncId}{vf:VFn}{args:List V}{H:Hp}{K:V->Hp->Prop}(hf:T f=some vf)(hl:args.length=vf.nparams)(h:bx T lim vf.body (fnQ vf.results K) ⟨fr0 args,[],H⟩)(hfB:f≠yB/\¬rB<=f:=by decide)(hpr:nQ vf.body=none:=by rfl):aF T lim f args H K:=by
 obtain ⟨n,e,s,h1,h2⟩:=cr h
 cases e with
 | exit id=>exact h2.elim
 | normal =>
   simp only [fnQ] at h2
   split at h2
   ·rename_i v hv
    exact ⟨n+1,v,s.H,by simp only [fU,if_neg hfB.1,if_neg hfB.2,hf,hl,if_true,hpr,h1,hv],h2⟩
   ·cases h2
 | ret =>
   simp only [fnQ] at h2
   split at h2
   ·rename_i v hv
    exact ⟨n+1,v,s.H,by simp only [fU,if_neg hfB.1,if_neg hfB.2,hf,hl,if_true,hpr,h1,hv],h2⟩
   ·cases h2
theorem jF {f:FuncId}{vf:VFn}{g:oA}{args:List V}{H:Hp}{K:V->Hp->Prop}{v:V}{bs:List Blk}(hf:T f=some vf)(hp:nQ vf.body=some g)(hl:args.length=vf.nparams)(hg:g args H=some (v,bs))(h:K v (H++bs))(hfB:f≠yB/\¬rB<=f:=by decide):aF T lim f args H K :=
 ⟨1,v,H++bs,by simp only [fU,if_neg hfB.1,if_neg hfB.2,hf,hl,if_true,hp,hg],h⟩
theorem nZ {b:Nat}{xs:List V}{f:FuncId}{ps:List Nat}{fr:List V}{vf:VFn}{x y:VCode}{H:Hp}{K:V->Hp->Prop}(hb:H[b]? = some (.loop f ps fr))(hl:lim<=b)(hlen:xs.length=ps.length)(hf:T f=some vf)(hn:vf.nparams=fr.length)(hbody:vf.body=.seq x y)
 (h:bx T lim x (kV (fun s1=>(∃f1 ps1 fr1,s1.H[b]? = some (.loop f1 ps1 fr1))/\bx T lim y (kV (fun s=>s.H[b]? = some .dead/\K (.bool true) (s.H.set b (.loop f ps fr))) (fun _ _=>False)) ⟨s1.fr,s1.L,s1.H.set b .dead⟩) (fun _ _=>False)) ⟨frR (setPs fr ps xs),[],H⟩)
 (hge:rB<=f:=by decide):aF T lim yB (.yl b :: xs) H K:=by
 obtain ⟨n,e,s1,h1,h2⟩:=cr h
 cases e with
 | exit id=>exact h2.elim
 | ret=>exact h2.elim
 | normal =>
   obtain ⟨⟨f1,ps1,fr1,hb1⟩,h2⟩:=h2
   obtain ⟨m,e,s,h3,h4⟩:=cr h2
   cases e with
   | exit id=>exact h4.elim
   | ret=>exact h4.elim
   | normal =>
     obtain ⟨hd,hK⟩:=h4
     refine ⟨max n m+1,.bool true,_,?_,hK⟩
     simp only [fU,if_true]
     unfold gG
     simp only [hb,hl,hlen,hge,and_self,if_true,hf,hn,hbody,qy (Nat.le_max_left n m) h1,hb1,qy (Nat.le_max_right n m) h3,hd]
theorem qZ {P:Program}(hm:P.follows .mixedOrders=true)(hT:aI P T){f:FuncId}{args:List V}{H:Hp}{K:V->Hp->Prop}(h:aF T lim f args H K){ρ:Loc}{w:World}{xs:Array Value}
 (hH:RelH ρ H w) (hG:jn ρ) (hx:VRs ρ args xs.toList) (aH:∀b,H.length<=b->ρ b=none) (hy:f≠yB) :
 Calls P f xs w fun e w'=>∃v H' x ρ',K v H'/\e=.returned x/\VR ρ' v x/\Grow lim (fun _=>True) ρ (fun _=>none) [] H w ρ' (fun _=>none) [] H' w'/\RelH ρ' H' w':=by
 obtain ⟨n,v,H',h1,h2⟩:=h
 refine (((vz hm hT n lim f args H v H' h1).1 hy).2 ρ w xs hH hG hx fun b h3 _=>aH b h3).mono ?_
 rintro e w' ⟨x,ρ',h3,h4,h5,h6⟩
 exact ⟨v,H',x,ρ',h2,h3,h4,h5,h6⟩
end
end Go.Proofs.YtgjlhdggllakbaaGreatDoor.Vm
