import PyProof.Rows.All
import Wide.All
import OpenK.AllK
import Wide.FinOn
import Lean
import PyProof.EqAt
import PyProof.EqKinds
import PyProof.TupleCall
import PySem.Challenge.RW_latefare_k40_refused_in_order
set_option Elab.async false
set_option linter.all false
set_option maxRecDepth 100000
set_option maxHeartbeats 8000000
namespace L2
open PySem PySem.Spec PyProof.Rows
abbrev Key:=Sum Int Str
def iD:Key->Value->Bool
 | .inl k,v=>Value.isInt k v
 | .inr x,v=>Value.isStrOf x v
def xi(w:World):Key->Int
 | .inl k=>hashInt k
 | .inr x=>hashStr w x
theorem eY:∀ {k:Key} {v:Value},iD k v=true->(∃ i t,k=Sum.inl i/\v=Value.int i t)\/(∃ x t,k=Sum.inr x/\v=Value.str x t)
 | .inl i,v,h=>by
   obtain⟨t,e⟩:=Value.isInt_shape (k:=i) (v:=v) h
   exact .inl ⟨i,t,rfl,e⟩
 | .inr x,v,h=>by
   obtain⟨t,e⟩:=Value.isStrOf_shape (x:=x) (v:=v) h
   exact .inr ⟨x,t,rfl,e⟩
theorem xj(i:Int)(t:Tok):iD (.inl i) (.int i t)=true:=by simp[iD,Value.isInt]
theorem xk(x:Str)(t:Tok):iD (.inr x) (.str x t)=true:=by simp[iD,Value.isStrOf]
theorem xl(a b:Int):decide ((Sum.inl a:Key)=Sum.inl b)=(a == b):=by
 by_cases e:a=b
 ·subst e;simp
 ·have h:¬ (Sum.inl a:Key)=Sum.inl b:=fun q=>e (Sum.inl.inj q)
  rw[decide_eq_false h]
  exact (beq_eq_false_iff_ne.mpr e).symm
theorem xm(a b:Str):decide ((Sum.inr a:Key)=Sum.inr b)=decide (a=b):=by
 by_cases e:a=b
 ·subst e;simp
 ·have h:¬ (Sum.inr a:Key)=Sum.inr b:=fun q=>e (Sum.inr.inj q)
  rw[decide_eq_false h,decide_eq_false e]
theorem xn(a:Int)(b:Str):decide ((Sum.inl a:Key)=Sum.inr b)=false:=decide_eq_false (fun q=>nomatch q)
theorem xo(a:Str)(b:Int):decide ((Sum.inr a:Key)=Sum.inl b)=false:=decide_eq_false (fun q=>nomatch q)
def cW(prog:Program)(w:World):PySem.KeyKind prog w Key where
 is:=iD
 hash:=xi w
 inj := fun v a b ha hb=>by
  rcases eY ha with⟨i,t,rfl,rfl⟩ | ⟨x,t,rfl,rfl⟩
  ·rcases eY hb with⟨j,u,rfl,e⟩ | ⟨y,u,rfl,e⟩
   ·injection e with e1 _;rw[e1]
   ·exact nomatch e
  ·rcases eY hb with⟨j,u,rfl,e⟩ | ⟨y,u,rfl,e⟩
   ·exact nomatch e
   ·injection e with e1 _;rw[e1]
 byValue:=fun k v h=>by
  rcases eY h with⟨i,t,rfl,rfl⟩ | ⟨x,t,rfl,rfl⟩ <;> rfl
 pyHash:=fun hv h=>by
  rcases eY hv with⟨i,t,rfl,rfl⟩ | ⟨x,t,rfl,rfl⟩
  ·exact wpAny_pyHash_int h
  ·exact wpAny_pyHash_str h
 eqBool:=fun hu hv h=>by
  rcases eY hu with⟨i,t,rfl,rfl⟩ | ⟨x,t,rfl,rfl⟩
  ·rcases eY hv with⟨j,u,rfl,rfl⟩ | ⟨y,u,rfl,rfl⟩
   ·rw[xl] at h;exact wpAny_eqBool_int h
   ·rw[xn] at h;exact SeqAt.EqAt.int_str i t y u _ _ _ _ h
  ·rcases eY hv with⟨j,u,rfl,rfl⟩ | ⟨y,u,rfl,rfl⟩
   ·rw[xo] at h;exact SeqAt.EqAt.str_int x t j u _ _ _ _ h
   ·rw[xm] at h;exact wpAny_eqBool_str h
 «strs» := fun k x t v h=>by
  rcases eY h with⟨i,u,rfl,e⟩ | ⟨y,u,rfl,e⟩
  ·exact nomatch e
  ·injection e with e1 _
   subst e1
   cases v <;> rfl
theorem xp(prog:Program)(w:World)(i:Int)(t:Tok):(cW prog w).is (.inl i) (.int i t)=true:=xj i t
theorem xq(prog:Program)(w:World)(x:Str)(t:Tok):(cW prog w).is (.inr x) (.str x t)=true:=xk x t
end L2
namespace L2
open PySem PySem.Spec PyProof.Rows
inductive V where
 | non | bl (b:Bool) | int (i:Int) | str (x:Str) | byt (b:Array UInt8) | flt (b:UInt64) | ref (a:Addr) | ty (n:String)
 deriving DecidableEq
def RelV:V->Value->Prop
 | .non,u=>u=Value.none
 | .bl b,u=>u=Value.bool b
 | .int i,u=>∃ t,u=Value.int i t
 | .str x,u=>∃ t,u=Value.str x t
 | .byt b,u=>∃ t,u=Value.bytes b t
 | .flt b,u=>∃ t,u=Value.float b t
 | .ref a,u=>u=Value.ref a
 | .ty n,u=>u=Value.type n
abbrev Vals:List V->List Value->Prop:=Paired RelV
theorem Vals.length{xs:List V}{us:List Value}(r:Vals xs us):xs.length=us.length:=Paired.length r
theorem Vals.get:∀ {xs:List V} {us:List Value} {i:Nat} {x:V},Vals xs us->xs[i]?=some x->∃ u,us[i]?=some u/\RelV x u
 | _,_,_,_,.nil,e=>by simp at e
 | _,_,0,_,.cons r _,e=>by simp at e;subst e;exact⟨_,rfl,r⟩
 | _,_,i+1,x,.cons _ t,e=>by
   obtain⟨u,h1,h2⟩:=Vals.get (i:=i) (x:=x) t (by simpa using e)
   exact⟨u,by simpa using h1,h2⟩
theorem Vals.set{x:V}{u:Value}(r:RelV x u):∀ {xs:List V} {us:List Value} (i:Nat),Vals xs us->Vals (xs.set i x) (us.set i u)
 | _,_,_,.nil=>.nil
 | _,_,0,.cons _ t=>.cons r t
 | _,_,i+1,.cons q t=>.cons q (Vals.set r i t)
theorem Vals.append:∀ {xs ys:List V} {us ws:List Value},Vals xs us->Vals ys ws->Vals (xs++ys) (us++ws)
 | _,_,_,_,.nil,s=>s
 | _,_,_,_,.cons r t,s=>.cons r (Vals.append t s)
theorem Vals.take:∀ {xs:List V} {us:List Value} (n:Nat),Vals xs us->Vals (xs.take n) (us.take n)
 | _,_,0,_=>.nil
 | _,_,_+1,.nil=>.nil
 | _,_,n+1,.cons r t=>.cons r (Vals.take n t)
theorem Vals.drop:∀ {xs:List V} {us:List Value} (n:Nat),Vals xs us->Vals (xs.drop n) (us.drop n)
 | _,_,0,r=>r
 | _,_,_+1,.nil=>.nil
 | _,_,n+1,.cons _ t=>Vals.drop n t
theorem Vals.none_of:∀ {xs:List V} {us:List Value} {i:Nat},Vals xs us->xs[i]?=none->us[i]?=none:=fun {xs us i} r e=>by
 have h1:=r.length
 have h2:xs.length<=i:=List.getElem?_eq_none_iff.mp e
 exact List.getElem?_eq_none_iff.mpr (by omega)
def RelO:Option V->Option Value->Prop
 | some v,some u=>RelV v u
 | none,none=>True
 | _,_=>False
def KV{κ:Type}:List (κ × V)->List (κ × Value)->Prop:=Paired fun (p:κ × V) (q:κ × Value)=>p.1=q.1/\RelV p.2 q.2
def kV:Key->V
 | .inl i=>.int i
 | .inr x=>.str x
inductive HO where
 | lst (xs:List V)
 | tup (xs:List V)
 | dK (kvs:List (Key × V)) | dT (kvs:List (List Key × V))
 | set (S:Int->Bool) (n:Nat)
 | ins (C dx:Addr) (fs:List (Str × V))
 | own (x:Addr)
 | xd (fs:List (Str × V))
 | met (f x:Addr)
 | rng (lo hi:Int)
 | frz (o:Obj) (u:HO)
 | tbl (ps:Array Value)
 | ext (φ:Heap->Prop)
abbrev Hp:=Addr->Option HO
def upd(H:Hp)(a:Addr)(o:HO):Hp:=fun b=>if b=a then some o else H b
theorem br{H:Hp}{a:Addr}{o:HO}:upd H a o a=some o:=by unfold upd;rw[if_pos rfl]
theorem aF{H:Hp}{a b:Addr}{o:HO}(h:b ≠ a):upd H a o b=H b:=by unfold upd;rw[if_neg h]
theorem xr{H:Hp}{a b:Addr}{o u:HO}(h:H a=some o)(h':H b=some u)(d:o ≠ u):a ≠ b:=by
 intro e;subst e;rw[h] at h';exact d (Option.some.inj h')
theorem bM{H:Hp}{a b:Addr}{o:HO}(h:H a=some o)(h':H b=none):a ≠ b:=by
 intro e;subst e;rw[h] at h';cases h'
section
variable (P:Program)(w:World)
def ObjOk(H:Hp)(h:Heap)(a:Addr):HO->Prop
 | .lst xs=>xs.length<=sizeLine/\∃ (its:List Value) (n:Nat),Vals xs its/\h.get? a=some { cls:=.type "list",data:=.seq its.toArray n }
 | .tup xs=>xs.length<=sizeLine/\∃ its:List Value,Vals xs its/\IsTup h a its.toArray
 | .dK kvs=>kvs.length<=sizeLine/\(a == sysModules)=false/\∃ vs,KV kvs vs/\h.DictOf (cW P w) a vs
 | .dT kvs=>kvs.length<=sizeLine/\(a == sysModules)=false/\∃ xs:List (List Key × Addr × Value),
   Paired (fun (p:List Key × V) (q:List Key × Addr × Value)=>p.1=q.1/\H q.2.1=some (.tup (p.1.map kV))/\RelV p.2 q.2.2) kvs xs /\
   ∃ o es ep,h.get? a=some o/\o.ExactDict/\o.data=.dict es ep/\es.toList=xs.map (entryOfKey (tupleKind (cW P w)))/\(xs.map (·.1)).Nodup
 | .set S n=>h.SetOf (intKind P w) a S n
 | .ins C dx fs=>H dx=some (.own a)/\fs.length<=1000/\dx ≠ a/\h.get? a=some (W.instObj C dx) /\
   ∃ mA,h.Ns1 dx mA/\(∀ f,RelO (fs.lookup f) (mA f))/\PySem.Within mA (fs.map (·.1))
 | .own _=>∃ o,h.get? a=some o
 | .xd fs=>∃ mA,h.Ns1 a mA/\∀ f,RelO (fs.lookup f) (mA f)
 | .rng lo hi=>∃ t u v,h.get? a=some { cls:=.type "range",data:=.fields #[.int lo t,.int hi u,.int 1 v] }
 | .frz o u=>h.get? a=some o/\ObjOk H h a u
 | .tbl ps=>h.get? a=some { cls:=.none,data:=.fields ps }
 | .met f x=>h.get? a=some (W.methodObj (.ref f) (.ref x))
 | .ext φ=>φ h/\(∃ o,h.get? a=some o)/\∀ h1 h2:Heap,φ h1->(∀ o,h1.get? a=some o->h2.get? a=some o)->φ h2
def HOk(H:Hp)(h:Heap):Prop:=∀ a o,H a=some o->ObjOk P w H h a o
end
section
variable {P:Program}{w:World}{H H':Hp}{h h':Heap}{a:Addr}{o:HO}
theorem ObjOk.lt(x:ObjOk P w H h a o):a < h.objs.size:=by
 cases o with
 | lst xs=>obtain⟨_,_,_,_,e⟩:=x;exact Heap.lt_size e
 | tup xs=>obtain⟨_,_,_,p⟩:=x;exact p.lt
 | dK kvs=>obtain⟨_,_,_,_,o,_,_,e,_⟩:=x;exact Heap.lt_size e
 | dT kvs=>obtain⟨_,_,_,_,o,_,_,e,_⟩:=x;exact Heap.lt_size e
 | set S n=>obtain⟨o,_,_,_,e,_⟩:=x;exact Heap.lt_size e
 | ins C dx fs=>obtain⟨_,_,_,e,_⟩:=x;exact Heap.lt_size e
 | own y=>obtain⟨_,e⟩:=x;exact Heap.lt_size e
 | xd fs=>obtain⟨_,⟨_,_,_,e,_⟩,_⟩:=x;exact Heap.lt_size e
 | rng lo hi=>obtain⟨_,_,_,e⟩:=x;exact Heap.lt_size e
 | frz ob u=>obtain⟨e,_⟩:=x;exact Heap.lt_size e
 | tbl ps=>exact Heap.lt_size (show h.get? a=some _ from x)
 | met f y=>exact Heap.lt_size (show h.get? a=some _ from x)
 | ext φ=>obtain⟨_,⟨_,e⟩,_⟩:=x;exact Heap.lt_size e
theorem Paired.mapP{α β:Type}{F G:α->β->Prop}:∀ {l₁:List α} {l₂:List β},Paired F l₁ l₂->(∀ a b,F a b->G a b)->Paired G l₁ l₂
 | _,_,.nil,_=>.nil
 | _,_,.cons r t,f=>.cons (f _ _ r) (Paired.mapP t f)
theorem ObjOk.stay(x:ObjOk P w H h a o)(k:∀ b u,(b=a\/H b=some (.own a))->h.get? b=some u->h'.get? b=some u)(ho:∀ b,H b=some (.own a)->H' b=some (.own a))(ht:∀ b xs,H b=some (.tup xs)->H' b=some (.tup xs)):ObjOk P w H' h' a o:=by
 induction o with
 | lst xs=>obtain⟨z,its,n,r,e⟩:=x;exact⟨z,its,n,r,k _ _ (.inl rfl) e⟩
 | tup xs=>obtain⟨z,its,r,ob,e,c⟩:=x;exact⟨z,its,r,ob,k _ _ (.inl rfl) e,c⟩
 | dK kvs=>obtain⟨z,y,vs,r,ob,es,ep,e,c⟩:=x;exact⟨z,y,vs,r,ob,es,ep,k _ _ (.inl rfl) e,c⟩
 | dT kvs =>
   obtain⟨z,y,xs,r,ob,es,ep,e,c⟩:=x
   exact⟨z,y,xs,Paired.mapP r fun p q z=>⟨z.1,ht _ _ z.2.1,z.2.2⟩,ob,es,ep,k _ _ (.inl rfl) e,c⟩
 | set S n=>obtain⟨ob,es,ep,t,e,c⟩:=x;exact⟨ob,es,ep,t,k _ _ (.inl rfl) e,c⟩
 | ins C dx fs =>
   obtain⟨d,z,ne,e,mA,⟨od,es,ep,e2,c⟩,r⟩:=x
   exact⟨ho _ d,z,ne,k _ _ (.inl rfl) e,mA,⟨od,es,ep,k _ _ (.inr d) e2,c⟩,r⟩
 | own y=>obtain⟨ob,e⟩:=x;exact⟨ob,k _ _ (.inl rfl) e⟩
 | xd fs=>obtain⟨mA,⟨od,es,ep,e,c⟩,r⟩:=x;exact⟨mA,⟨od,es,ep,k _ _ (.inl rfl) e,c⟩,r⟩
 | rng lo hi=>obtain⟨t,u,v,e⟩:=x;exact⟨t,u,v,k _ _ (.inl rfl) e⟩
 | frz ob u ih=>obtain⟨e,q⟩:=x;exact⟨k _ _ (.inl rfl) e,ih q⟩
 | tbl ps =>
   have e:h.get? a=some { cls:=.none,data:=.fields ps }:=x
   show h'.get? a=some { cls:=.none,data:=.fields ps }
   exact k a _ (.inl rfl) e
 | met f y =>
   have e:h.get? a=some (W.methodObj (.ref f) (.ref y)):=x
   show h'.get? a=some (W.methodObj (.ref f) (.ref y))
   exact k a _ (.inl rfl) e
 | ext φ=>obtain⟨p,⟨o,e⟩,st⟩:=x;exact⟨st _ _ p fun o q=>k _ _ (.inl rfl) q,⟨o,k _ _ (.inl rfl) e⟩,st⟩
theorem HOk.lt(x:HOk P w H h)(e:H a=some o):a < h.objs.size:=(x a o e).lt
theorem HOk.fresh(x:HOk P w H h)(e:h.objs.size<=a):H a=none:=by
 cases q:H a with
 | none=>rfl
 | some u=>exact absurd (Nat.lt_of_lt_of_le (x.lt q) e) (Nat.lt_irrefl _)
theorem HOk.kept(x:HOk P w H h)(k:∀ b u,h.get? b=some u->h'.get? b=some u):HOk P w H h':=fun a o e =>
 (x a o e).stay (fun b u _ q=>k b u q) (fun _ q=>q) fun _ _ q=>q
theorem HOk.laid(x:HOk P w H h)(k:∀ b u,h.get? b=some u->h'.get? b=some u)(hp:h.objs.size<=a)(new:ObjOk P w (upd H a o) h' a o):HOk P w (upd H a o) h':=fun b u e=>by
 have hn:=x.fresh hp
 by_cases hb:b=a
 ·subst hb;rw[br] at e;cases e;exact new
 ·rw[aF hb] at e
  exact (x b u e).stay (fun c v _ q=>k c v q) (fun c q=>by rw[aF (bM q hn)];exact q) fun c xs q=>by rw[aF (bM q hn)];exact q
end
def Rd(H:Hp)(a:Addr)(u:HO):Prop:=H a=some u\/∃ o,H a=some (.frz o u)
theorem Rd.of{H:Hp}{a:Addr}{u:HO}(h:H a=some u):Rd H a u:=.inl h
theorem Rd.ok{P:Program}{w:World}{H:Hp}{h:Heap}{a:Addr}{u:HO}(r:Rd H a u)(x:HOk P w H h):ObjOk P w H h a u:=by
 rcases r with r | ⟨o,r⟩
 ·exact x a u r
 ·obtain⟨_,q⟩:=x a _ r
  exact q
def Mut:Option HO->Prop
 | some (.lst _)=>True
 | some (.dK _)=>True
 | some (.dT _)=>True
 | some (.set _ _)=>True
 | some (.ins _ _ _)=>True
 | some (.ext _)=>True
 | _=>False
section
variable {P:Program}{w:World}{H:Hp}{h h':Heap}{x e:Addr}{o':HO}
theorem HOk.write(ok:HOk P w H h)(mu:Mut (H x))(he:e=x\/H e=some (.own x))(k:∀ b u,b ≠ e->h.get? b=some u->h'.get? b=some u)(heo:∃ u,h'.get? e=some u)(new:ObjOk P w (upd H x o') h' x o'):HOk P w (upd H x o') h':=fun b u q=>by
 have nown:∀ c y,H c=some (.own y)->c ≠ x:=fun c y r z=>by subst z;rw[r] at mu;exact mu
 have ntup:∀ c xs,H c=some (.tup xs)->c ≠ x:=fun c xs r z=>by subst z;rw[r] at mu;exact mu
 by_cases hb:b=x
 ·subst hb;rw[br] at q;cases q;exact new
 ·rw[aF hb] at q
  by_cases hbe:b=e
  ·have q':H b=some (.own x):=by
    rcases he with z | z
    ·exact absurd (hbe.trans z) hb
    ·rw[hbe];exact z
   rw[q] at q';cases q'
   obtain⟨v,hv⟩:=heo
   exact⟨v,by rw[hbe];exact hv⟩
  ·refine (ok b u q).stay (fun c v hc r=>k c v ?_ r) (fun c r=>by rw[aF (nown c b r)];exact r) fun c xs r=>by rw[aF (ntup c xs r)];exact r
   rcases hc with rfl | hc
   ·exact hbe
   ·rintro rfl
    rcases he with z | z
    ·exact nown c b hc z
    ·rw[hc] at z;cases z;exact hb rfl
end
structure Un (fs ex:List Addr) (H H':Hp) (h h':Heap):Prop where
 keep:∀ b o,h.get? b=some o->H b=none->b ∉ fs->b ∉ ex->h'.get? b=some o
 slot:∀ b o,h.get? b=some o->H b=none->b ∈ fs->b ∉ ex->∃ sl,h'.get? b=some { o with slots:=sl }
 free:∀ b o,h.get? b=some o->H b=none->b ∉ ex->H' b=none
 there:∀ b o,h.get? b=some o->b ∉ ex->∃ o',h'.get? b=some o'
 tups:∀ b xs,H b=some (.tup xs)->H' b=some (.tup xs)
 frzs:∀ b o u,H b=some (.frz o u)->H' b=some (.frz o u)
 tbls:∀ b ps,H b=some (.tbl ps)->∃ more,H' b=some (.tbl (ps++more))
section
variable {fs fs' ex ex':List Addr}{H H1 H2:Hp}{h h1 h2 h':Heap}{a x e:Addr}{o:HO}
theorem Un.any(u:Un fs ex H H1 h h1){b:Addr}{ob:Obj}(q:h.get? b=some ob)(n:H b=none)(hx:b ∉ ex):∃ sl,h1.get? b=some { ob with slots:=sl }:=by
 by_cases hb:b ∈ fs
 ·exact u.slot b ob q n hb hx
 ·exact⟨ob.slots,u.keep b ob q n hb hx⟩
theorem Un.trans(a:Un fs ex H H1 h h1)(b:Un fs ex H1 H2 h1 h2):Un fs ex H H2 h h2 where
 keep:=fun c ob q n hc hx=>b.keep c ob (a.keep c ob q n hc hx) (a.free c ob q n hx) hc hx
 slot:=fun c ob q n hc hx=>by
  obtain⟨sl,e1⟩:=a.slot c ob q n hc hx
  obtain⟨sl',e2⟩:=b.slot c _ e1 (a.free c ob q n hx) hc hx
  exact⟨sl',e2⟩
 free:=fun c ob q n hx=>by
  obtain⟨o',e1⟩:=a.there c ob q hx
  exact b.free c o' e1 (a.free c ob q n hx) hx
 there:=fun c ob q hx=>by
  obtain⟨o',e1⟩:=a.there c ob q hx
  exact b.there c o' e1 hx
 tups:=fun c xs q=>b.tups c xs (a.tups c xs q)
 frzs:=fun c ob xs q=>b.frzs c ob xs (a.frzs c ob xs q)
 tbls:=fun c ps q=>by
  obtain⟨m1,e1⟩:=a.tbls c ps q
  obtain⟨m2,e2⟩:=b.tbls c _ e1
  exact⟨m1++m2,by rw[e2,Array.append_assoc]⟩
theorem Un.kept(k:∀ b u,h.get? b=some u->h'.get? b=some u):Un fs ex H H h h' :=
 ⟨fun b ob q _ _ _=>k b ob q,fun b ob q _ _ _=>⟨ob.slots,k b ob q⟩,fun _ _ _ n _=>n,fun b ob q _=>⟨ob,k b ob q⟩,fun _ _ q=>q,fun _ _ _ q=>q,fun _ ps q=>⟨#[],by rw[q];simp⟩⟩
theorem Un.refl:Un fs ex H H h h:=Un.kept fun _ _ q=>q
theorem Un.laid(k:∀ b u,h.get? b=some u->h'.get? b=some u)(hp:h.objs.size<=a)(hn:H a=none):Un fs ex H (upd H a o) h h' where
 keep:=fun b u q _ _ _=>k b u q
 slot:=fun b u q _ _ _=>⟨u.slots,k b u q⟩
 free:=fun b u q n _=>by rw[aF (Nat.ne_of_lt (Nat.lt_of_lt_of_le (Heap.lt_size q) hp))];exact n
 there:=fun b u q _=>⟨u,k b u q⟩
 tups:=fun b xs q=>by rw[aF (bM q hn)];exact q
 frzs:=fun b u xs q=>by rw[aF (bM q hn)];exact q
 tbls:=fun b ps q=>⟨#[],by rw[aF (bM q hn),q];simp⟩
theorem Un.write(mu:Mut (H x))(he:e=x\/H e=some (.own x))(k:∀ b u,b ≠ e->h.get? b=some u->h'.get? b=some u)(heo:∃ u,h'.get? e=some u):Un fs ex H (upd H x o) h h':=by
 have hx:∀ b,H b=none->b ≠ x:=fun b n z=>by subst z;rw[n] at mu;exact mu
 have hb:∀ b,H b=none->b ≠ e:=fun b n z=>by
  subst z
  rcases he with r | r
  ·exact hx b n r
  ·rw[n] at r;cases r
 have hm:∀ b u,H b=some u->¬ Mut (some u)->b ≠ x:=fun b u q nm z=>by subst z;rw[q] at mu;exact nm mu
 refine⟨fun b u q n _ _=>k b u (hb b n) q,fun b u q n _ _=>⟨u.slots,k b u (hb b n) q⟩,fun b u q n _=>by rw[aF (hx b n)];exact n,fun b u q _=>?_,
  fun b xs q=>by rw[aF (hm b _ q fun z=>z)];exact q,fun b u xs q=>by rw[aF (hm b _ q fun z=>z)];exact q,fun b ps q=>⟨#[],by rw[aF (hm b _ q fun z=>z),q];simp⟩⟩
 by_cases hbe:b=e
 ·subst hbe;exact heo
 ·exact⟨u,k b u hbe q⟩
theorem Un.mono(u:Un fs ex H H1 h h1)(hs:∀ b ∈ fs,b ∈ fs')(hx:∀ b ∈ ex,b ∈ ex'):Un fs' ex' H H1 h h1 :=
 ⟨fun b ob q n hb he=>u.keep b ob q n (fun z=>hb (hs b z)) fun z=>he (hx b z),fun _ _ q n _ he=>u.any q n fun z=>he (hx _ z),fun b ob q n he=>u.free b ob q n fun z=>he (hx b z),fun b ob q he=>u.there b ob q fun z=>he (hx b z),u.tups,u.frzs,u.tbls⟩
end
def trk(h:Heap)(H:Hp):List Addr:=(List.range h.objs.size).filter fun a=>(H a).isSome
def eZ(h:Heap)(H:Hp):Heap:=W.hideAll h (trk h H)
theorem xu(h:Heap)(H:Hp):(eZ h H).objs.size=h.objs.size:=W.hideAll_size _ _
theorem xv{h:Heap}{H:Hp}{b:Addr}{o:Obj}(e:h.get? b=some o)(n:H b=none):(eZ h H).get? b=some o :=
 W.hideAll_get _ e fun hm=>by
  have q:(H b).isSome=true:=(List.mem_filter.mp hm).2
  rw[n] at q;simp at q
theorem xw{h:Heap}{H:Hp}{b:Addr}{o:Obj}(e:(eZ h H).get? b=some o):h.get? b=some o/\H b=none:=by
 have e':h.get? b=some o:=W.of_hideAll (trk h H) e
 refine⟨e',?_⟩
 cases q:H b with
 | none=>rfl
 | some x =>
   have hm:b ∈ trk h H:=List.mem_filter.mpr ⟨List.mem_range.mpr (Heap.lt_size e'),by simp[q]⟩
   have z:(eZ h H).get? b=none:=W.hideAll_none (trk h H) hm
   rw[z] at e;cases e
def xx(g h:Heap)(L:Addr):List (Addr × Obj):=(List.range h.objs.size).filterMap fun a=>if a=L\/(g.get? a).isSome=true then none else (h.get? a).map fun o=>(a,o)
def az(g h:Heap)(L d:Addr):List (Addr × Obj):=(xx g h L).filter fun p=>decide (p.1 ≠ d)
end L2
namespace L2
open PySem PySem.Spec PyProof.Rows
structure Mod (K:W.Frag) (mg:Str->Option Value) (base:Heap):Prop where
 kin:K.In base
 glob:base.Ns mainGlobals mg
 blt:∃ mb,base.Ns builtinsNs mb/\∀ x:Str,x ≠ "__name__"->mb x=bootBuiltins x
 nolimit:base.NoLimit
structure Cx where
 prog:Program
 w:World
 K:W.Frag
 mg:Str->Option Value
 base:Heap
 A:Around
 N:List Str
 s₀:Shared
 H₀:Hp
 env:Env
 outer:List Env
 stack:List Env
 ex:List Addr
 fn:Str->Bool
 calm:Bool
 pn:List (Addr × Obj)
 xe:Value->Shared->Prop
def frs(l:List Env):List Addr:=l.filterMap (·.frame)
abbrev Cx.fs(X:Cx):List Addr:=frs X.outer
def Vis(sc:Scope)(x:Str):Prop:=sc.names.lookup x=some .local\/sc.names.lookup x=some .cell\/sc.names.lookup x=some .free
def Loc(sc:Scope)(x:Str):Prop:=sc.names.lookup x=some .local\/sc.names.lookup x=some .cell
def xy(env:Env)(h:Heap)(m:Str->Option Value)(x:Str)(u:Value):Prop :=
 (env.kindOf x=some .local/\m x=some u)\/((env.kindOf x=some .cell\/env.kindOf x=some .free)/\∃ c,env.cells.lookup x=some c/\h.IsCell c (some u))
structure Cx.Ok (X:Cx):Prop where
 mod:Mod X.K X.mg X.base
 kind:X.env.scope.kind=.function
 glob:X.env.globals=mainGlobals
 blt:X.env.builtins=builtinsNs
 above:X.s₀.heap.objs.size<=X.env.locals
 inj:∀ x y c,X.env.cells.lookup x=some c->X.env.cells.lookup y=some c->x=y
 has:∀ x,(X.env.kindOf x=some .cell\/X.env.kindOf x=some .free)->∃ c,X.env.cells.lookup x=some c
 cab:∀ x c,X.fn x=true->X.env.cells.lookup x=some c->X.s₀.heap.objs.size<=c
 hd:X.calm=true->X.A.handled=none
 frames:X.A.frames=some X.stack
 stk:X.stack=X.outer\/(X.stack=X.env::X.outer/\X.env.frame=some X.env.locals)
 exf:∀ b ∈ X.ex,b ≠ X.env.locals/\∀ x c,X.env.cells.lookup x=some c->c ≠ b
 bs:∀ b o,X.base.get? b=some o->X.s₀.heap.get? b=some o/\X.H₀ b=none
 bsz:X.base.objs.size<=X.s₀.heap.objs.size
 noex:∀ b o,X.base.get? b=some o->b ∉ X.ex
 exfs:∀ b ∈ X.ex,b ∉ X.fs
 funs:X.s₀.heap.FunFrames X.base X.outer
 frf:∀ b ∈ X.fs,X.H₀ b=none
structure Inv (X:Cx) (J0:List (Addr × Obj)) (σ:List (Option V)) (H:Hp) (s:Shared):Prop where
 ok:X.Ok
 os:s.os=X.s₀.os
 bare:AllBare s.gens
 base:Un X.fs X.ex X.H₀ H X.s₀.heap s.heap
 loc:∃ m,s.heap.Ns X.env.locals m/\∀ (i:Nat) (x:Str) (v:V),X.N[i]?=some x->σ[i]?=some (some v)->Vis X.env.scope x->∃ u,RelV v u/\xy X.env s.heap m x u
 cell:∀ x c,X.env.cells.lookup x=some c->∃ v,s.heap.IsCell c v
 free:H X.env.locals=none
 freeC:∀ x c,X.env.cells.lookup x=some c->H c=none
 pin:∀ p ∈ X.pn++J0,s.heap.get? p.1=some p.2/\H p.1=none/\p.1 ≠ X.env.locals/\p.1 ∉ X.fs/\∀ v,p.2.data ≠ .cell v
 hok:HOk X.prog X.w H s.heap
 len:σ.length=X.N.length
section
variable {X:Cx}{J0:List (Addr × Obj)}{σ:List (Option V)}{H H':Hp}{s:Shared}{h':Heap}
theorem Cx.Ok.nofr(ok:X.Ok){b:Addr}{o:Obj}(e:X.base.get? b=some o):b ∉ X.fs:=fun hb=>by
 have:=(ok.funs.mem hb).1
 rw[e] at this;cases this
theorem Inv.bs(I:Inv X J0 σ H s):∀ b o,X.base.get? b=some o->s.heap.get? b=some o/\H b=none:=fun b o e =>
 ⟨I.base.keep b o (I.ok.bs b o e).1 (I.ok.bs b o e).2 (I.ok.nofr e) (I.ok.noex b o e),I.base.free b o (I.ok.bs b o e).1 (I.ok.bs b o e).2 (I.ok.noex b o e)⟩
theorem Inv.bk(I:Inv X J0 σ H s):∀ b o,X.base.get? b=some o->s.heap.get? b=some o:=fun b o e=>(I.bs b o e).1
theorem Inv.mod(I:Inv X J0 σ H s):Mod X.K X.mg X.base:=I.ok.mod
theorem Inv.kIn(I:Inv X J0 σ H s):X.K.In s.heap:=I.ok.mod.kin.keeps I.bk
theorem Inv.nolimit(I:Inv X J0 σ H s):s.heap.NoLimit:=I.ok.mod.nolimit.keeps I.bk
theorem Inv.fr(I:Inv X J0 σ H s):∃ m,Fr X.base X.env.locals s.heap m :=
 let ⟨m,hn,_⟩:=I.loc
 ⟨m,hn,I.bk,Nat.le_trans I.ok.bsz I.ok.above⟩
theorem Inv.lt(I:Inv X J0 σ H s):X.env.locals < s.heap.objs.size:=let ⟨_,hn,_⟩:=I.loc;hn.lt
theorem Inv.sz(I:Inv X J0 σ H s):X.s₀.heap.objs.size<=s.heap.objs.size:=Nat.le_trans I.ok.above (Nat.le_of_lt I.lt)
theorem Inv.nofs(I:Inv X J0 σ H s){a:Addr}(h:s.heap.objs.size<=a):a ∉ X.fs:=fun hb=>by
 obtain⟨_,o,ho,_⟩:=I.ok.funs.mem hb
 exact absurd (Nat.lt_of_lt_of_le (Heap.lt_size ho) (Nat.le_trans I.sz h)) (Nat.lt_irrefl _)
theorem Inv.cne(I:Inv X J0 σ H s):∀ x c,X.env.cells.lookup x=some c->c ≠ X.env.locals:=fun x c e z=>by
 obtain⟨v,o,ho,hd⟩:=I.cell x c e
 obtain⟨m,⟨o',es,ep,ho',hd',_⟩,_⟩:=I.loc
 rw[z,ho'] at ho;cases ho;rw[hd'] at hd;cases hd
theorem Inv.funs(I:Inv X J0 σ H s):s.heap.FunFrames X.base X.outer:=by
 have all:∀ (l:List Env),(∀ b ∈ frs l,b ∈ X.fs)->X.s₀.heap.FunFrames X.base l->s.heap.FunFrames X.base l:=by
  intro l
  induction l with
  | nil=>intro _ _;trivial
  | cons env r ih =>
    intro hs hl
    obtain⟨hk,⟨L,o,hf,hn,ho,hd⟩,hr⟩:=hl
    have hL:L ∈ X.fs:=hs L (by unfold frs;rw[List.filterMap_cons,hf];exact List.mem_cons_self)
    obtain⟨sl,e⟩:=I.base.slot L o ho (I.ok.frf L hL) hL fun z=>I.ok.exfs L z hL
    exact⟨hk,⟨L,_,hf,hn,e,hd⟩,ih (fun b hb=>hs b (by unfold frs;rw[List.filterMap_cons,hf];exact List.mem_cons_of_mem _ hb)) hr⟩
 exact all X.outer (fun _ hb=>hb) I.ok.funs
theorem Inv.stack(I:Inv X J0 σ H s):s.heap.FunFrames X.base X.stack:=by
 rcases I.ok.stk with e | ⟨e,hf⟩
 ·rw[e];exact I.funs
 ·rw[e]
  obtain⟨m,hn,_⟩:=I.loc
  refine .cons (by rw[I.ok.kind];decide) hf hn ?_ I.funs
  exact Heap.get?_none_of_le (Nat.le_trans I.ok.bsz I.ok.above)
theorem Inv.stkSub(I:Inv X J0 σ H s):∀ b ∈ frs X.stack,b ∈ X.env.locals::X.fs:=fun b hb=>by
 rcases I.ok.stk with e | ⟨e,hf⟩
 ·rw[e] at hb;exact List.mem_cons_of_mem _ hb
 ·rw[e] at hb
  unfold frs at hb
  rw[List.filterMap_cons,hf] at hb
  exact hb
theorem Inv.stkFree(I:Inv X J0 σ H s):∀ b ∈ frs X.stack,H b=none:=fun b hb=>by
 rcases List.mem_cons.mp (I.stkSub b hb) with e | hb
 ·rw[e];exact I.free
 ·obtain⟨_,o,ho,_⟩:=I.ok.funs.mem hb
  exact I.base.free b o ho (I.ok.frf b hb) fun z=>I.ok.exfs b z hb
theorem Inv.step{g':Array GenState}{t':Nat}{d':Drawn}{ch:List Addr}(I:Inv X J0 σ H s)(hch:∀ b ∈ ch,(b ∈ X.ex\/X.s₀.heap.objs.size<=b)/\b ≠ X.env.locals/\(∀ x c,X.env.cells.lookup x=some c->c ≠ b)/\∀ p ∈ X.pn++J0,p.1 ≠ b)(keep:∀ b o,b ≠ X.env.locals->b ∉ X.fs->b ∉ ch->s.heap.get? b=some o->H b=none->h'.get? b=some o)(slot:∀ b o,b ≠ X.env.locals->b ∈ X.fs->b ∉ ch->s.heap.get? b=some o->H b=none->∃ sl,h'.get? b=some { o with slots:=sl })(free:∀ b o,b ∉ ch->s.heap.get? b=some o->H b=none->H' b=none)(there:∀ b o,b ∉ ch->s.heap.get? b=some o->∃ o',h'.get? b=some o')(tups:∀ b xs,H b=some (.tup xs)->H' b=some (.tup xs))(frzs:∀ b o u,H b=some (.frz o u)->H' b=some (.frz o u))(tbls:∀ b ps,H b=some (.tbl ps)->∃ more,H' b=some (.tbl (ps++more)))(ns:∀ m,s.heap.Ns X.env.locals m->h'.Ns X.env.locals m)(hok:HOk X.prog X.w H' h')(hg:AllBare g'):
  Inv X J0 σ H' { s with heap:=h',gens:=g',drawn:=d',toks:=t' }:=by
 have neL:∀ b o,X.s₀.heap.get? b=some o->b ≠ X.env.locals:=fun b o e=>Nat.ne_of_lt (Nat.lt_of_lt_of_le (Heap.lt_size e) I.ok.above)
 have neC:∀ b o,X.s₀.heap.get? b=some o->b ∉ X.ex->b ∉ ch:=fun b o e hx hb=>by
  rcases (hch b hb).1 with z | z
  ·exact hx z
  ·exact absurd (Nat.lt_of_lt_of_le (Heap.lt_size e) z) (Nat.lt_irrefl _)
 have cellK:∀ x c,X.env.cells.lookup x=some c->∀ v,s.heap.IsCell c v->h'.IsCell c v:=fun x c e v ⟨o,ho,hd⟩=>by
  have nch:c ∉ ch:=fun z=>(hch c z).2.2.1 x c e rfl
  by_cases hc:c ∈ X.fs
  ·obtain⟨sl,q⟩:=slot c o (I.cne x c e) hc nch ho (I.freeC x c e)
   exact⟨_,q,hd⟩
  ·exact⟨o,keep c o (I.cne x c e) hc nch ho (I.freeC x c e),hd⟩
 refine⟨I.ok,I.os,hg,⟨fun b o e n hb hx=>?_,fun b o e n hb hx=>?_,fun b o e n hx=>?_,fun b o e hx=>?_,fun b xs e=>tups b xs (I.base.tups b xs e),fun b o xs e=>frzs b o xs (I.base.frzs b o xs e),fun b ps e=>?_⟩,?_,fun x c e=>?_,?_,fun x c e=>?_,fun p hp=>?_,hok,I.len⟩
 ·exact keep b o (neL b o e) hb (neC b o e hx) (I.base.keep b o e n hb hx) (I.base.free b o e n hx)
 ·obtain⟨sl,e1⟩:=I.base.slot b o e n hb hx
  obtain⟨sl',e2⟩:=slot b _ (neL b o e) hb (neC b o e hx) e1 (I.base.free b o e n hx)
  exact⟨sl',e2⟩
 ·obtain⟨o',e1⟩:=I.base.there b o e hx
  exact free b o' (neC b o e hx) e1 (I.base.free b o e n hx)
 ·obtain⟨o',e1⟩:=I.base.there b o e hx
  exact there b o' (neC b o e hx) e1
 ·obtain⟨m1,e1⟩:=I.base.tbls b ps e
  obtain⟨m2,e2⟩:=tbls b _ e1
  exact⟨m1++m2,by rw[e2,Array.append_assoc]⟩
 ·obtain⟨m,hn,hl⟩:=I.loc
  refine⟨m,ns m hn,fun i x v e1 e2 e3=>?_⟩
  obtain⟨u,r,l⟩:=hl i x v e1 e2 e3
  refine⟨u,r,?_⟩
  rcases l with l | ⟨k,c,e,z⟩
  ·exact .inl l
  ·exact .inr ⟨k,c,e,cellK x c e _ z⟩
 ·obtain⟨v,z⟩:=I.cell x c e
  exact⟨v,cellK x c e v z⟩
 ·obtain⟨m,⟨o,_,_,ho,_⟩,_⟩:=I.loc
  exact free _ o (fun z=>(hch _ z).2.1 rfl) ho I.free
 ·obtain⟨v,o,ho,hd⟩:=I.cell x c e
  exact free c o (fun z=>(hch c z).2.2.1 x c e rfl) ho (I.freeC x c e)
 ·obtain⟨e,n,ne,nf,d⟩:=I.pin p hp
  have nch:p.1 ∉ ch:=fun z=>(hch p.1 z).2.2.2 p hp rfl
  exact⟨keep p.1 p.2 ne nf nch e n,free p.1 p.2 nch e n,ne,nf,d⟩
theorem Inv.un{t':Nat}(I:Inv X J0 σ H s)(u:Un X.fs [] H H' s.heap h')(hok:HOk X.prog X.w H' h'):Inv X J0 σ H' { s with heap:=h',toks:=t' }:=by
 obtain⟨m,⟨o,es,ep,ho,r⟩,_⟩:=id I.loc
 obtain⟨sl,hL⟩:=u.any ho I.free (by simp)
 exact I.step (g':=s.gens) (d':=s.drawn) (ch:=[]) (fun _ z=>nomatch z) (fun b o _ hb _ e n=>u.keep b o e n hb (by simp)) (fun b o _ hb _ e n=>u.slot b o e n hb (by simp)) (fun b o _ e n=>u.free b o e n (by simp)) (fun b o _ e=>u.there b o e (by simp)) u.tups u.frzs u.tbls (fun m' hm=>by
  obtain⟨o',es',ep',ho',r'⟩:=hm
  rw[ho] at ho';cases ho'
  exact⟨_,es',ep',hL,r'⟩) hok I.bare
theorem Inv.call{g':Array GenState}{t':Nat}{d':Drawn}{ch:List Addr}(I:Inv X J0 σ H s)(u:Un (frs X.stack) ch H H' s.heap h')(hok:HOk X.prog X.w H' h')(hg:AllBare g')(hch:∀ b ∈ ch,(b ∈ X.ex\/X.s₀.heap.objs.size<=b)/\b ≠ X.env.locals/\(∀ x c,X.env.cells.lookup x=some c->c ≠ b)/\∀ p ∈ X.pn++J0,p.1 ≠ b):
  Inv X J0 σ H' { s with heap:=h',gens:=g',drawn:=d',toks:=t' }:=by
 obtain⟨m,⟨o,es,ep,ho,r⟩,_⟩:=id I.loc
 obtain⟨sl,hL⟩:=u.any ho I.free fun z=>(hch _ z).2.1 rfl
 exact I.step (ch:=ch) hch (fun b o hL hb hc e n=>u.keep b o e n (fun z=>(List.mem_cons.mp (I.stkSub b z)).elim hL hb) hc) (fun b o _ _ hc e n=>u.any e n hc) (fun b o hc e n=>u.free b o e n hc) (fun b o hc e=>u.there b o e hc) u.tups u.frzs u.tbls (fun m' hm=>by
  obtain⟨o',es',ep',ho',r'⟩:=hm
  rw[ho] at ho';cases ho'
  exact⟨_,es',ep',hL,r'⟩) hok hg
theorem Inv.turned{t':Nat}{it:Addr}(I:Inv X J0 σ H s)(k:∀ b o,b ≠ it->s.heap.get? b=some o->h'.get? b=some o)(hn:H it=none)(hL:it ≠ X.env.locals)(h1:it ∈ X.ex\/X.s₀.heap.objs.size<=it)(h2:∀ x c,X.env.cells.lookup x=some c->c ≠ it)(h3:∀ p ∈ X.pn++J0,p.1 ≠ it):Inv X J0 σ H { s with heap:=h',toks:=t' }:=by
 have nit:∀ b u,H b=some u->b ≠ it:=fun b u e z=>by rw[z,hn] at e;cases e
 refine I.step (g':=s.gens) (d':=s.drawn) (ch:=[it]) (fun b hb=>?_) (fun b o _ _ hc e _=>k b o (fun z=>hc (by simp[z])) e) (fun b o _ _ hc e _=>⟨o.slots,k b o (fun z=>hc (by simp[z])) e⟩) (fun _ _ _ _ n=>n)
  (fun b o hc e=>⟨o,k b o (fun z=>hc (by simp[z])) e⟩) (fun _ _ e=>e) (fun _ _ _ e=>e) (fun b ps e=>⟨#[],by rw[e];simp⟩) (fun m hm=>?_) (fun b u e=>?_) I.bare
 ·have e:b=it:=by simpa using hb
  subst e
  exact⟨h1,hL,h2,h3⟩
 ·obtain⟨o,es,ep,ho,r⟩:=hm
  exact⟨o,es,ep,k _ o (Ne.symm hL) ho,r⟩
 ·refine (I.hok b u e).stay (fun c v hc q=>k c v ?_ q) (fun _ q=>q) fun _ _ q=>q
  rcases hc with z | z
  ·rw[z];exact nit b u e
  ·exact nit c _ z
theorem Inv.tok(I:Inv X J0 σ H s)(t:Nat):Inv X J0 σ H { s with toks:=t }:=I.un (h':=s.heap) (t':=t) Un.refl I.hok
theorem Inv.kept{t':Nat}(I:Inv X J0 σ H s)(k:∀ b u,s.heap.get? b=some u->h'.get? b=some u):Inv X J0 σ H { s with heap:=h',toks:=t' }:=I.un (Un.kept k) (I.hok.kept k)
theorem Inv.laid{a:Addr}{o:HO}{t':Nat}(I:Inv X J0 σ H s)(k:∀ b u,s.heap.get? b=some u->h'.get? b=some u)(hp:s.heap.objs.size<=a)(new:ObjOk X.prog X.w (upd H a o) h' a o):
  Inv X J0 σ (upd H a o) { s with heap:=h',toks:=t' }:=I.un (Un.laid k hp (I.hok.fresh hp)) (I.hok.laid k hp new)
theorem Inv.write{x e:Addr}{o:HO}{t':Nat}(I:Inv X J0 σ H s)(mu:Mut (H x))(he:e=x\/H e=some (.own x))(k:∀ b u,b ≠ e->s.heap.get? b=some u->h'.get? b=some u)(heo:∃ u,h'.get? e=some u)(new:ObjOk X.prog X.w (upd H x o) h' x o):Inv X J0 σ (upd H x o) { s with heap:=h',toks:=t' }:=I.un (Un.write mu he k heo) (I.hok.write mu he k heo new)
theorem Inv.pins_of{pins':List (Addr × Obj)}(I:Inv X J0 σ H s)(h:∀ p ∈ pins',s.heap.get? p.1=some p.2/\H p.1=none/\p.1 ≠ X.env.locals/\p.1 ∉ X.fs/\∀ v,p.2.data ≠ .cell v):Inv X pins' σ H s :=
 ⟨I.ok,I.os,I.bare,I.base,I.loc,I.cell,I.free,I.freeC,fun p hp=>(List.mem_append.mp hp).elim (fun z=>I.pin p (List.mem_append_left _ z)) (h p),I.hok,I.len⟩
theorem n4{N:List Str}(hN:N.Nodup){i j:Nat}{x:Str}(a:N[i]?=some x)(b:N[j]?=some x):i=j:=by
 obtain⟨h1,e1⟩:=List.getElem?_eq_some_iff.mp a
 obtain⟨h2,e2⟩:=List.getElem?_eq_some_iff.mp b
 exact (List.getElem_inj hN).mp (e1.trans e2.symm)
theorem qm{M:Model}{A:Around}{E:Value->Shared->Prop}{i:Nat}{x:Str}{v:V}{u:Value}{Q:Unit->Shared->Prop}(I:Inv X J0 σ H s)(hN:X.N.Nodup)(hi:X.N[i]?=some x)(hx:Loc X.env.scope x)(r:RelV v u)(h:∀ s',Inv X J0 (σ.set i (some v)) H s'->(∃ a,Heap.SameBut a s.heap s'.heap/\(a=X.env.locals\/X.env.cells.lookup x=some a))->Q () s')(hf:X.fn x=true\/X.env.scope.names.lookup x=some .local:=by first | exact .inl rfl | exact .inr rfl | assumption):wpAny M A (storeName X.env x u) Q E s:=by
 obtain⟨m,hn,hl⟩:=id I.loc
 have hcls:(X.env.scope.kind == .class || (X.env.scope.kind == .module && X.env.locals != X.env.globals))=false:=by rw[I.ok.kind];rfl
 have hiσ:i < σ.length:=by rw[I.len];exact (List.getElem?_eq_some_iff.mp hi).1
 have cne:=I.cne
 have tracked:∀ {a:Addr} {h':Heap},(∃ o,s.heap.get? a=some o/\H a=none)->Heap.SameBut a s.heap h'->HOk X.prog X.w H h':=fun {a h'} ha hs b ob e=>by
  obtain⟨_,_,hfree⟩:=ha
  refine (I.hok b ob e).stay (fun c w' hc q=>(hs.2 c ?_).trans q) (fun _ q=>q) fun _ _ q=>q
  rintro rfl
  rcases hc with rfl | hc
  ·rw[hfree] at e;cases e
  ·rw[hfree] at hc;cases hc
 rcases hx with hk | hk
 ·refine wpAny_storeName_local hk hn (fun h' hn' hs=>?_) hcls
  obtain⟨oL,_,_,hoL,_⟩:=id hn
  refine h _ ⟨I.ok,I.os,I.bare,⟨fun b o e n hb hx=>?_,fun b o e n hb hx=>?_,I.base.free,fun b o e hx=>?_,I.base.tups,I.base.frzs,I.base.tbls⟩,⟨_,hn',fun j y v' e1 e2 e3=>?_⟩,fun y c e=>?_,I.free,I.freeC,fun p hp=>?_,tracked ⟨oL,hoL,I.free⟩ hs,by simpa using I.len⟩ ⟨_,hs,.inl rfl⟩
  ·exact (hs.2 b (Nat.ne_of_lt (Nat.lt_of_lt_of_le (Heap.lt_size e) I.ok.above))).trans (I.base.keep b o e n hb hx)
  ·obtain⟨sl,e1⟩:=I.base.slot b o e n hb hx
   exact⟨sl,(hs.2 b (Nat.ne_of_lt (Nat.lt_of_lt_of_le (Heap.lt_size e) I.ok.above))).trans e1⟩
  ·obtain⟨o',e1⟩:=I.base.there b o e hx
   exact⟨o',(hs.2 b (Nat.ne_of_lt (Nat.lt_of_lt_of_le (Heap.lt_size e) I.ok.above))).trans e1⟩
  ·by_cases hj:j=i
   ·subst hj
    rw[hi] at e1;cases e1
    rw[List.getElem?_set_self hiσ] at e2
    cases e2
    exact⟨u,r,.inl ⟨hk,by simp⟩⟩
   ·rw[List.getElem?_set_ne (Ne.symm hj)] at e2
    obtain⟨u',r',q⟩:=hl j y v' e1 e2 e3
    refine⟨u',r',?_⟩
    rcases q with⟨k,e⟩ | ⟨k,c,e,z⟩
    ·refine .inl ⟨k,?_⟩
     have:y ≠ x:=fun e=>hj (n4 hN e1 (e ▸ hi))
     simp[this,e]
    ·exact .inr ⟨k,c,e,z.sameBut hs (cne y c e)⟩
  ·obtain⟨w',z⟩:=I.cell y c e
   exact⟨w',z.sameBut hs (cne y c e)⟩
  ·obtain⟨e,n,ne,nf,d⟩:=I.pin p hp
   exact⟨(hs.2 p.1 ne).trans e,n,ne,nf,d⟩
 ·have hfn:X.fn x=true:=by
   rcases hf with z | z
   ·exact z
   ·rw[z] at hk;cases hk
  obtain⟨c,hc⟩:=I.ok.has x (.inl hk)
  obtain⟨w',z⟩:=I.cell x c hc
  refine wpAny_storeName_cell I.ok.kind hk hc z (fun h' hc' hs=>?_)
  obtain⟨oc,hoc,hocd⟩:=id z
  refine h { s with heap:=h' } ⟨I.ok,I.os,I.bare,⟨fun b o e n hb hx=>?_,fun b o e n hb hx=>?_,I.base.free,fun b o e hx=>?_,I.base.tups,I.base.frzs,I.base.tbls⟩,⟨m,hn.sameBut hs (Ne.symm (cne x c hc)),fun j y v' e1 e2 e3=>?_⟩,fun y c' e=>?_,I.free,I.freeC,fun p hp=>?_,tracked ⟨oc,hoc,I.freeC x c hc⟩ hs,by simpa using I.len⟩ ⟨c,hs,.inr hc⟩
  ·exact (hs.2 b (Nat.ne_of_lt (Nat.lt_of_lt_of_le (Heap.lt_size e) (I.ok.cab x c hfn hc)))).trans (I.base.keep b o e n hb hx)
  ·obtain⟨sl,e1⟩:=I.base.slot b o e n hb hx
   exact⟨sl,(hs.2 b (Nat.ne_of_lt (Nat.lt_of_lt_of_le (Heap.lt_size e) (I.ok.cab x c hfn hc)))).trans e1⟩
  ·obtain⟨o',e1⟩:=I.base.there b o e hx
   exact⟨o',(hs.2 b (Nat.ne_of_lt (Nat.lt_of_lt_of_le (Heap.lt_size e) (I.ok.cab x c hfn hc)))).trans e1⟩
  ·by_cases hj:j=i
   ·subst hj
    rw[hi] at e1;cases e1
    rw[List.getElem?_set_self hiσ] at e2
    cases e2
    exact⟨u,r,.inr ⟨.inl hk,c,hc,hc'⟩⟩
   ·rw[List.getElem?_set_ne (Ne.symm hj)] at e2
    obtain⟨u',r',q⟩:=hl j y v' e1 e2 e3
    refine⟨u',r',?_⟩
    rcases q with q | ⟨k,c',e,z'⟩
    ·exact .inl q
    ·refine .inr ⟨k,c',e,z'.sameBut hs ?_⟩
     rintro rfl
     exact hj (n4 hN e1 (I.ok.inj _ _ _ e hc ▸ hi))
  ·by_cases hcc:c'=c
   ·subst hcc;exact⟨_,hc'⟩
   ·obtain⟨w2,z2⟩:=I.cell y c' e
    exact⟨w2,z2.sameBut hs hcc⟩
  ·obtain⟨e,n,ne,nf,d⟩:=I.pin p hp
   refine⟨(hs.2 p.1 ?_).trans e,n,ne,nf,d⟩
   intro q
   rw[q,hoc] at e
   have q':oc=p.2:=Option.some.inj e
   exact d w' (by rw[<- q'];exact hocd)
theorem kW{M:Model}{A:Around}{E:Value->Shared->Prop}{i:Nat}{x:Str}{v:V}{u:Value}{Q:Unit->Shared->Prop}(I:Inv X J0 σ H s)(hN:X.N.Nodup)(hi:X.N[i]?=some x)(hx:Loc X.env.scope x)(r:RelV v u)(h:∀ s',Inv X J0 (σ.set i (some v)) H s'->Q () s')(hf:X.fn x=true\/X.env.scope.names.lookup x=some .local:=by first | exact .inl rfl | exact .inr rfl | assumption):wpAny M A (storeName X.env x u) Q E s :=
 qm I hN hi hx r (fun s' I' _=>h s' I') hf
theorem Inv.call'{s':Shared}{ch:List Addr}(I:Inv X J0 σ H s)(ho:s'.os=s.os)(u:Un (frs X.stack) ch H H' s.heap s'.heap)(hok:HOk X.prog X.w H' s'.heap)(hg:AllBare s'.gens)(hch:∀ b ∈ ch,(b ∈ X.ex\/X.s₀.heap.objs.size<=b)/\b ≠ X.env.locals/\(∀ x c,X.env.cells.lookup x=some c->c ≠ b)/\∀ p ∈ X.pn++J0,p.1 ≠ b):Inv X J0 σ H' s':=by
 obtain⟨h',g',d',t',o'⟩:=s'
 have e:o'=s.os:=ho
 subst e
 exact I.call (g':=g') (t':=t') (d':=d') u hok hg hch
end
abbrev XK:=Value->Option Addr->Hp->Prop
abbrev St:=List (Option V)
abbrev VK:=V->Hp->Prop
abbrev TE:=St->Hp->VK->Prop
abbrev TT:=St->Hp->(Bool->Hp->Prop)->Prop
abbrev TA:=St->Hp->(List V->Hp->Prop)->Prop
structure Ends where
 nx:St->Hp->Prop
 rt:VK
 bk:St->Hp->Prop:=fun _ _=>False
 ct:St->Hp->Prop:=fun _ _=>False
abbrev TS:=Ends->St->Hp->Prop
def EP(X:Cx)(J0:List (Addr × Obj))(σ:St)(Q:VK)(u:Value)(s':Shared):Prop:=∃ v H',Inv X J0 σ H' s'/\RelV v u/\Q v H'
def TP(X:Cx)(J0:List (Addr × Obj))(σ:St)(Q:Bool->Hp->Prop)(b:Bool)(s':Shared):Prop:=∃ H',Inv X J0 σ H' s'/\Q b H'
def AP(X:Cx)(J0:List (Addr × Obj))(σ:St)(Q:List V->Hp->Prop)(us:List Value)(s':Shared):Prop:=∃ vs H',Inv X J0 σ H' s'/\Vals vs us/\Q vs H'
def SP(X:Cx)(J0:List (Addr × Obj))(D:Ends)(f:Flow)(s':Shared):Prop :=
 match f with
 | .next=>∃ σ' H',Inv X J0 σ' H' s'/\D.nx σ' H'
 | .brk=>∃ σ' H',Inv X J0 σ' H' s'/\D.bk σ' H'
 | .cont=>∃ σ' H',Inv X J0 σ' H' s'/\D.ct σ' H'
 | .ret u=>∃ v σ' H',Inv X J0 σ' H' s'/\RelV v u/\D.rt v H'
def PE(X:Cx)(e:Expr)(t:TE):Prop :=
 ∀ (J0:List (Addr × Obj)) (s:Shared) (σ:St) (H:Hp) (Q:VK),Inv X J0 σ H s->t σ H Q->wpAny (model X.prog X.w) X.A (eval e X.env) (EP X J0 σ Q) X.xe s
def PT(X:Cx)(e:Expr)(t:TT):Prop :=
 ∀ (J0:List (Addr × Obj)) (s:Shared) (σ:St) (H:Hp) (Q:Bool->Hp->Prop),Inv X J0 σ H s->t σ H Q->wpAny (model X.prog X.w) X.A (isTrue e X.env (eval e X.env)) (TP X J0 σ Q) X.xe s
def PW(X:Cx)(e:Expr)(t:TT):Prop :=
 ∀ (whole:Sem Value) (J0:List (Addr × Obj)) (s:Shared) (σ:St) (H:Hp) (Q:Bool->Hp->Prop),Inv X J0 σ H s->t σ H Q->wpAny (model X.prog X.w) X.A (isTrue e X.env whole) (TP X J0 σ Q) X.xe s
theorem PW.pt{X:Cx}{e:Expr}{t:TT}(h:PW X e t):PT X e t:=h _
def PA(X:Cx)(es:List Expr)(t:TA):Prop :=
 ∀ (pos:Pos) (J0:List (Addr × Obj)) (s:Shared) (σ:St) (H:Hp) (Q:List V->Hp->Prop),Inv X J0 σ H s->t σ H Q->wpAny (model X.prog X.w) X.A (spliced (backTo pos (starEach es X.env))) (AP X J0 σ Q) X.xe s
def PS(X:Cx)(st:Stmt)(t:TS):Prop :=
 ∀ (J0:List (Addr × Obj)) (s:Shared) (σ:St) (H:Hp) (D:Ends),Inv X J0 σ H s->t D σ H->wpAny (model X.prog X.w) X.A (exec st X.env) (SP X J0 D) X.xe s
def PSs(X:Cx)(st:List Stmt)(t:TS):Prop :=
 ∀ (J0:List (Addr × Obj)) (s:Shared) (σ:St) (H:Hp) (D:Ends),Inv X J0 σ H s->t D σ H->wpAny (model X.prog X.w) X.A (execs st X.env) (SP X J0 D) X.xe s
theorem thn{α:Type}{t:Sem α}{Q Q':α->Shared->Prop}{M:Model}{A:Around}{E:Value->Shared->Prop}{s:Shared}(h:wpAny M A t Q E s)(hQ:∀ a s,Q a s->Q' a s):wpAny M A t Q' E s:=wpAny_mono h hQ fun _ _ x=>x
end L2
namespace L2
open PySem PySem.Spec PyProof.Rows
section
variable {X:Cx}
def xz(i:Nat):TE:=fun σ H Q=>∃ v,σ[i]?=some (some v)/\Q v H
def tC(v:V):TE:=fun _ H Q=>Q v H
theorem iE{i:Nat}{x:Str}{pos:Pos}(hN:X.N[i]?=some x)(hv:Vis X.env.scope x)(hd:(x == ("__debug__" : Str))=false:=by decide)(hcd:(x == ("__classdict__" : Str))=false:=by decide):PE X (.Name x pos) (xz i):=by
 intro J0 s σ H Q I h
 obtain⟨v,e,h⟩:=h
 obtain⟨m,hn,hl⟩:=I.loc
 obtain⟨u,r,l⟩:=hl i x v hN e hv
 have fin:EP X J0 σ Q u s:=⟨v,H,I,r,h⟩
 rcases l with⟨hk,hm⟩ | ⟨hk,c,hc,hcell⟩
 ·exact wpAny_Name (wpAny_loadName_local I.ok.kind hk hn hm fin) hd
 ·rcases hk with hk | hk
  ·exact wpAny_Name (wpAny_loadName_cell I.ok.kind hk hc hcell fin) hd
  ·exact wpAny_Name (wpAny_loadName_free I.ok.kind hk hc hcell fin hcd) hd
theorem xA{i j pos}:PE X (.Constant (.int i) j pos) (tC (.int i)):=fun _ _ _ H _ I h=>wpAny_Constant_int ⟨.int i,H,I.tok _,⟨_,rfl⟩,h⟩
theorem xB{b j pos}:PE X (.Constant (.bool b) j pos) (tC (.bl b)):=fun _ _ _ H _ I h=>Constant_bool ⟨.bl b,H,I,rfl,h⟩
theorem xC{j pos}:PE X (.Constant .none j pos) (tC .non):=fun _ _ _ H _ I h=>Constant_none ⟨.non,H,I,rfl,h⟩
theorem iF{x j pos}:PE X (.Constant (.str x) j pos) (tC (.str x)):=fun _ _ _ H _ I h=>Calls.Constant_str ⟨.str x,H,I.tok _,⟨_,rfl⟩,h⟩
def Gl(X:Cx)(x:Str):Prop:=X.env.kindOf x=some .globalImplicit
theorem gt{E:Value->Shared->Prop}{J0:List (Addr × Obj)}{s:Shared}{σ:St}{H:Hp}{x:Str}{u:Value}{pos:Pos}{Q:Value->Shared->Prop}(I:Inv X J0 σ H s)(hg:Gl X x)(hm:X.mg x=some u)(h:Q u s)(hd:(x == ("__debug__" : Str))=false:=by decide):wpAny (model X.prog X.w) X.A (eval (.Name x pos) X.env) Q E s :=
 Calls.Name_function_global I.ok.kind hg (Calls.loadGlobal_global (by rw[I.ok.glob];exact I.mod.glob.keeps I.bk) hm h) hd
theorem dF{E:Value->Shared->Prop}{J0:List (Addr × Obj)}{s:Shared}{σ:St}{H:Hp}{x:Str}{u:Value}{pos:Pos}{Q:Value->Shared->Prop}(I:Inv X J0 σ H s)(hg:Gl X x)(hm:X.mg x=none)(hv:bootBuiltins x=some u)(h:Q u s)(hn:x ≠ "__name__":=by decide)(hd:(x == ("__debug__" : Str))=false:=by decide):wpAny (model X.prog X.w) X.A (eval (.Name x pos) X.env) Q E s:=by
 obtain⟨mb,h1,h2⟩:=I.mod.blt
 exact Calls.Name_function_global I.ok.kind hg (Calls.loadGlobal_builtin (by rw[I.ok.glob];exact I.mod.glob.keeps I.bk) hm (by rw[I.ok.blt];exact h1.keeps I.bk) ((h2 x hn).trans hv) h) hd
theorem qo{x:Str}{v:V}{u:Value}{pos:Pos}(hg:Gl X x)(hm:X.mg x=some u)(r:RelV v u)(hd:(x == ("__debug__" : Str))=false:=by decide):PE X (.Name x pos) (tC v) :=
 fun _ _ _ H _ I h=>gt I hg hm ⟨v,H,I,r,h⟩ hd
theorem qp{x:Str}{v:V}{u:Value}{pos:Pos}(hg:Gl X x)(hm:X.mg x=none)(hv:bootBuiltins x=some u)(r:RelV v u)(hn:x ≠ "__name__":=by decide)(hd:(x == ("__debug__" : Str))=false:=by decide):PE X (.Name x pos) (tC v) :=
 fun _ _ _ H _ I h=>dF I hg hm hv ⟨v,H,I,r,h⟩ hn hd
variable {a b:Expr}{ta tb:TE}{pos:Pos}
variable {tA tB':TT}{az:List Expr}
def xD(t u:TT):TT:=fun σ H Q=>t σ H fun c H1=>if c=true then u σ H1 Q else Q false H1
def tOr(t u:TT):TT:=fun σ H Q=>t σ H fun c H1=>if c=true then Q true H1 else u σ H1 Q
def xE(t:TT):TT:=fun σ H Q=>t σ H fun c H1=>Q (!c) H1
theorem xF(ha:PT X a tA):PW X (.BoolOp .And [a] pos) tA:=by
 intro wh J0 s σ H Q I h
 refine isTrue_and (thn (ha J0 s σ H Q I h) fun c s1 e=>?_)
 cases c with
 | true=>exact isTrue_and_nil e
 | false=>exact e
theorem qq(ha:PT X a tA):PW X (.BoolOp .Or [a] pos) tA:=by
 intro wh J0 s σ H Q I h
 refine isTrue_or (thn (ha J0 s σ H Q I h) fun c s1 e=>?_)
 cases c with
 | false=>exact isTrue_or_nil e
 | true=>exact e
theorem xG(ha:PT X a tA)(hb:PW X (.BoolOp .And (b::az) pos) tB'):PW X (.BoolOp .And (a::b::az) pos) (xD tA tB'):=by
 intro wh J0 s σ H Q I h
 refine isTrue_and (thn (ha J0 s σ H _ I h) fun c s1 ⟨H1,I1,q1⟩=>?_)
 cases c with
 | true=>exact hb wh J0 s1 σ H1 Q I1 q1
 | false=>exact⟨H1,I1,q1⟩
theorem qr(ha:PT X a tA)(hb:PW X (.BoolOp .Or (b::az) pos) tB'):PW X (.BoolOp .Or (a::b::az) pos) (tOr tA tB'):=by
 intro wh J0 s σ H Q I h
 refine isTrue_or (thn (ha J0 s σ H _ I h) fun c s1 ⟨H1,I1,q1⟩=>?_)
 cases c with
 | true=>exact⟨H1,I1,q1⟩
 | false=>exact hb wh J0 s1 σ H1 Q I1 q1
theorem qt(ha:PT X a tA):PT X (.UnaryOp .Not a pos) (xE tA):=by
 intro J0 s σ H Q I h
 exact isTrue_not (ha J0 s σ H (fun c H1=>Q (!c) H1) I h)
def xH(ta tb:TE):TE:=fun σ H Q=>ta σ H fun x H1=>∃ c,x=.bl c/\if c=true then tb σ H1 Q else Q (.bl false) H1
def xI(ta tb:TE):TE:=fun σ H Q=>ta σ H fun x H1=>∃ c,x=.bl c/\if c=true then Q (.bl true) H1 else tb σ H1 Q
def xJ(ta:TE):TE:=fun σ H Q=>ta σ H fun x H1=>∃ c,x=.bl c/\Q (.bl (!c)) H1
theorem qu{op}{t:TE}(h:PE X a t):PE X (.BoolOp op [a] pos) t:=fun J0 s σ H Q I hw=>BoolOp_one (h J0 s σ H Q I hw)
theorem qv(ha:PE X a ta)(hb:PE X (.BoolOp .And (b::az) pos) tb):PE X (.BoolOp .And (a::b::az) pos) (xH ta tb):=by
 intro J0 s σ H Q I h
 refine BoolOp_and (thn (ha J0 s σ H _ I h) fun v s1 ⟨x,H1,I1,r1,q1⟩=>?_)
 obtain⟨c,rfl,q1⟩:=q1
 cases r1
 refine wpAny_truthy_bool ?_
 cases c with
 | true=>exact hb J0 s1 σ H1 Q I1 q1
 | false=>exact⟨.bl false,H1,I1,rfl,q1⟩
theorem qw(ha:PE X a ta)(hb:PE X (.BoolOp .Or (b::az) pos) tb):PE X (.BoolOp .Or (a::b::az) pos) (xI ta tb):=by
 intro J0 s σ H Q I h
 refine BoolOp_or (thn (ha J0 s σ H _ I h) fun v s1 ⟨x,H1,I1,r1,q1⟩=>?_)
 obtain⟨c,rfl,q1⟩:=q1
 cases r1
 refine wpAny_truthy_bool ?_
 cases c with
 | false=>exact hb J0 s1 σ H1 Q I1 q1
 | true=>exact⟨.bl true,H1,I1,rfl,q1⟩
theorem xK(ha:PE X a ta):PE X (.UnaryOp .Not a pos) (xJ ta):=by
 intro J0 s σ H Q I h
 refine UnaryOp_ (thn (ha J0 s σ H _ I h) fun v s1 ⟨x,H1,I1,r1,q1⟩=>?_)
 obtain⟨c,rfl,q1⟩:=q1
 cases r1
 exact not_of (wpAny_truthy_bool ⟨.bl (!c),H1,I1,rfl,q1⟩)
def tIf(t:TT)(ta tb:TE):TE:=fun σ H Q=>t σ H fun c H1=>if c=true then ta σ H1 Q else tb σ H1 Q
theorem xL{c:Expr}(hc:PT X c tA)(ha:PE X a ta)(hb:PE X b tb):PE X (.IfExp c a b pos) (tIf tA ta tb):=by
 intro J0 s σ H Q I h
 refine wpAny_IfExp (thn (hc J0 s σ H _ I h) fun d s1 ⟨H1,I1,q1⟩=>?_)
 cases d with
 | true=>exact ha J0 s1 σ H1 Q I1 q1
 | false=>exact hb J0 s1 σ H1 Q I1 q1
end
end L2
namespace L2
open PySem PySem.Spec PyProof.Rows
def SqL(K:W.Frag)(H:Hp)(a:Addr)(xs:List V):Prop :=
 Rd H a (.lst xs) \/
  ∃ (o:Obj) (its:Array Value) (n:Nat),K.lookup a=some o/\o.cls=.type "list"/\o.dict=none/\o.data=.seq its n/\its.size<=sizeLine/\Vals xs its.toList
def SqT(K:W.Frag)(H:Hp)(a:Addr)(xs:List V):Prop :=
 Rd H a (.tup xs) \/
  ∃ (o:Obj) (its:Array Value) (n:Nat),K.lookup a=some o/\o.cls=.type "tuple"/\o.data=.seq its n/\its.size<=sizeLine/\Vals xs its.toList
def xM:Value->Option V
 | .none=>some .non
 | .bool b=>some (.bl b)
 | .int i _=>some (.int i)
 | .str x _=>some (.str x)
 | .bytes b _=>some (.byt b)
 | .float b _=>some (.flt b)
 | .ref a=>some (.ref a)
 | .type n=>some (.ty n)
 | _=>none
theorem RelV.abs{x:V}{u:Value}(r:RelV x u):xM u=some x:=by
 cases x with
 | non=>cases r;rfl
 | bl _=>cases r;rfl
 | int _=>obtain⟨t,rfl⟩:=r;rfl
 | str _=>obtain⟨t,rfl⟩:=r;rfl
 | byt _=>obtain⟨t,rfl⟩:=r;rfl
 | flt _=>obtain⟨t,rfl⟩:=r;rfl
 | ref _=>cases r;rfl
 | ty _=>cases r;rfl
theorem RelV.inj{x y:V}{u:Value}(r:RelV x u)(q:RelV y u):x=y:=Option.some.inj (r.abs.symm.trans q.abs)
theorem Vals.inj:∀ {xs ys:List V} {us:List Value},Vals xs us->Vals ys us->xs=ys
 | _,_,_,.nil,.nil=>rfl
 | _,_,_,.cons r t,.cons r' t'=>by rw[r.inj r',Vals.inj t t']
section
variable {X:Cx}{J0:List (Addr × Obj)}{σ:St}{H:Hp}{s:Shared}{a:Addr}{xs ys:List V}
theorem SqL.of{K:W.Frag}(h:H a=some (.lst xs)):SqL K H a xs:=.inl (.inl h)
theorem SqT.of{K:W.Frag}(h:H a=some (.tup xs)):SqT K H a xs:=.inl (.inl h)
theorem Inv.list(I:Inv X J0 σ H s)(h:SqL X.K H a xs):∃ its:List Value,Vals xs its/\PlainL s.heap a its.toArray/\xs.length<=sizeLine:=by
 rcases h with h | ⟨o,its,n,hk,hc,hd,hs,hz,r⟩
 ·obtain⟨z,its,n,r,e⟩:=h.ok I.hok
  exact⟨its,r,⟨_,n,e,rfl,rfl,rfl⟩,z⟩
 ·refine⟨its.toList,r,⟨o,n,I.kIn a o hk,hc,hd,by simpa using hs⟩,?_⟩
  have e:=r.length
  simp only[Array.length_toList] at e
  omega
theorem Inv.tuple(I:Inv X J0 σ H s)(h:SqT X.K H a xs):∃ its:List Value,Vals xs its/\IsTup s.heap a its.toArray/\xs.length<=sizeLine:=by
 rcases h with h | ⟨o,its,n,hk,hc,hs,hz,r⟩
 ·obtain⟨z,its,r,p⟩:=h.ok I.hok
  exact⟨its,r,p,z⟩
 ·refine⟨its.toList,r,⟨o,I.kIn a o hk,hc,n,by simpa using hs⟩,?_⟩
  have e:=r.length
  simp only[Array.length_toList] at e
  omega
theorem Inv.list_inj(I:Inv X J0 σ H s)(h:SqL X.K H a xs)(h':SqL X.K H a ys):xs=ys:=by
 obtain⟨its,r,⟨o,n,e,_,_,d⟩,_⟩:=I.list h
 obtain⟨its',r',⟨o',n',e',_,_,d'⟩,_⟩:=I.list h'
 rw[e] at e';cases e'
 rw[d] at d'
 injection d' with d1 _
 have:its=its':=by simpa using congrArg Array.toList d1
 subst this
 exact r.inj r'
end
abbrev Cx.wish(X:Cx)(E:Value->Shared->Prop):Cx:={ X with xe:=E }
abbrev Cx.nox(X:Cx):Cx:=X.wish fun _ _=>False
theorem Cx.Ok.wish{X:Cx}(ok:X.Ok)(E:Value->Shared->Prop):(X.wish E).Ok :=
 ⟨ok.mod,ok.kind,ok.glob,ok.blt,ok.above,ok.inj,ok.has,ok.cab,ok.hd,ok.frames,ok.stk,ok.exf,ok.bs,ok.bsz,ok.noex,ok.exfs,ok.funs,ok.frf⟩
theorem Cx.Ok.unwish{X:Cx}{E:Value->Shared->Prop}(ok:(X.wish E).Ok):X.Ok :=
 ⟨ok.mod,ok.kind,ok.glob,ok.blt,ok.above,ok.inj,ok.has,ok.cab,ok.hd,ok.frames,ok.stk,ok.exf,ok.bs,ok.bsz,ok.noex,ok.exfs,ok.funs,ok.frf⟩
section
variable {X:Cx}{J0:List (Addr × Obj)}{σ:St}{H:Hp}{s:Shared}{E:Value->Shared->Prop}
theorem Inv.wish(I:Inv X J0 σ H s)(E:Value->Shared->Prop):Inv (X.wish E) J0 σ H s:=⟨I.ok.wish E,I.os,I.bare,I.base,I.loc,I.cell,I.free,I.freeC,I.pin,I.hok,I.len⟩
theorem Inv.unwish(I:Inv (X.wish E) J0 σ H s):Inv X J0 σ H s:=⟨I.ok.unwish,I.os,I.bare,I.base,I.loc,I.cell,I.free,I.freeC,I.pin,I.hok,I.len⟩
theorem SP.unwish{D:Ends}{f:Flow}{s':Shared}(h:SP (X.wish E) J0 D f s'):SP X J0 D f s':=by
 cases f with
 | next=>obtain⟨σ',H',I,q⟩:=h;exact⟨σ',H',I.unwish,q⟩
 | brk=>obtain⟨σ',H',I,q⟩:=h;exact⟨σ',H',I.unwish,q⟩
 | cont=>obtain⟨σ',H',I,q⟩:=h;exact⟨σ',H',I.unwish,q⟩
 | ret u=>obtain⟨v,σ',H',I,r,q⟩:=h;exact⟨v,σ',H',I.unwish,r,q⟩
theorem PE.nox{e:Expr}{t:TE}(h:PE X.nox e t):PE X e t:=fun J0 s σ H Q I hw =>
 wpAny_mono (h J0 s σ H Q (I.wish _) hw) (fun _ _ ⟨v,H',I',r,q⟩=>⟨v,H',I'.unwish,r,q⟩) fun _ _ z=>False.elim z
theorem PT.nox{e:Expr}{t:TT}(h:PT X.nox e t):PT X e t:=fun J0 s σ H Q I hw =>
 wpAny_mono (h J0 s σ H Q (I.wish _) hw) (fun _ _ ⟨H',I',q⟩=>⟨H',I'.unwish,q⟩) fun _ _ z=>False.elim z
theorem PSs.nox{st:List Stmt}{t:TS}(h:PSs X.nox st t):PSs X st t:=fun J0 s σ H D I hw =>
 wpAny_mono (h J0 s σ H D (I.wish _) hw) (fun _ _ q=>q.unwish) fun _ _ z=>False.elim z
end
section
variable {X:Cx}{st:Stmt}{az:List Stmt}{t u:TS}{e:Expr}{te:TE}{pos:Pos}
def xN:TS:=fun D σ H=>D.nx σ H
def xO(t u:TS):TS:=fun D σ H=>t { D with nx:=u D } σ H
theorem n5:PSs X [] xN:=fun _ _ σ H _ I h=>wpAny_execs_nil ⟨σ,H,I,h⟩
theorem n6(h1:PS X st t)(h2:PSs X az u):PSs X (st::az) (xO t u):=by
 intro J0 s σ H D I h
 refine wpAny_execs_cons (thn (h1 J0 s σ H { D with nx:=u D } I h) fun f s1 q=>?_)
 cases f with
 | next =>
   obtain⟨σ',H',I',q⟩:=q
   exact h2 J0 s1 σ' H' D I' q
 | ret v=>exact q
 | brk=>exact q
 | cont=>exact q
theorem kX(h1:PS X st t):PSs X [st] t:=by
 intro J0 s σ H D I h
 refine wpAny_execs_cons (thn (h1 J0 s σ H D I h) fun f s1 q=>?_)
 cases f with
 | next=>exact wpAny_execs_nil q
 | ret v=>exact q
 | brk=>exact q
 | cont=>exact q
theorem Inv.quiet{J0:List (Addr × Obj)}{σ:St}{H:Hp}{s:Shared}(I:Inv X J0 σ H s):interactive X.env=false:=by simp[interactive,I.ok.kind]
def xP(te:TE):TS:=fun D σ H=>te σ H fun _ H1=>D.nx σ H1
theorem qz(he:PE X e te)(hs:swapsWith e none pos.line X.env=pure false:=by rfl):PS X (.Expr e pos) (xP te):=by
 intro J0 s σ H D I h
 exact wpAny_Expr_any (thn (he J0 s σ H _ I h) fun v s1 ⟨x,H1,I1,r1,q1⟩=>⟨σ,H1,I1,q1⟩) I.quiet hs
def xQ(te:TE):TS:=fun D σ H=>te σ H D.rt
theorem iG(he:PE X e te):PS X (.Return (some e) pos) (xQ te):=by
 intro J0 s σ H D I h
 exact wpAny_Return_some (thn (he J0 s σ H _ I h) fun v s1 ⟨x,H1,I1,r1,q1⟩=>⟨x,σ,H1,I1,r1,q1⟩)
def xR(c:TT)(t u:TS):TS:=fun D σ H=>c σ H fun b H1=>if b=true then t D σ H1 else u D σ H1
theorem n8{c:Expr}{a b:List Stmt}{tc:TT}(hc:PT X c tc)(ha:PSs X a t)(hb:PSs X b u):PS X (.If c a b pos) (xR tc t u):=by
 intro J0 s σ H D I h
 refine wpAny_If (thn (hc J0 s σ H _ I h) fun d s1 ⟨H1,I1,q1⟩=>?_)
 cases d with
 | true=>exact ha J0 s1 σ H1 D I1 q1
 | false=>exact hb J0 s1 σ H1 D I1 q1
end
abbrev TG:=V->St->Hp->(St->Hp->Prop)->Prop
abbrev TGs:=List V->St->Hp->(St->Hp->Prop)->Prop
def PG(X:Cx)(target:Expr)(t:TG):Prop :=
 ∀ (J0:List (Addr × Obj)) (s:Shared) (σ:St) (H:Hp) (v:V) (u:Value) (Q:St->Hp->Prop),Inv X J0 σ H s->RelV v u->t v σ H Q ->
   wpAny (model X.prog X.w) X.A (assign target X.env u) (fun _ s'=>∃ σ' H',Inv X J0 σ' H' s'/\Q σ' H') X.xe s
def PGs(X:Cx)(ts:List Expr)(t:TGs):Prop :=
 ∀ (J0:List (Addr × Obj)) (s:Shared) (σ:St) (H:Hp) (vs:List V) (us:List Value) (Q:St->Hp->Prop),Inv X J0 σ H s->Vals vs us->t vs σ H Q ->
   wpAny (model X.prog X.w) X.A (assignInOrder ((assignEach ts X.env).map (·.2)) us) (fun _ s'=>∃ σ' H',Inv X J0 σ' H' s'/\Q σ' H') X.xe s
abbrev n9:=V->V->V->Hp->(Hp->Prop)->Prop
def qA(X:Cx)(t:n9):Prop :=
 ∀ (J0:List (Addr × Obj)) (s:Shared) (σ:St) (H:Hp) (o i v:V) (ov iv u:Value) (Q:Hp->Prop),Inv X J0 σ H s->RelV o ov->RelV i iv->RelV v u->t o i v H Q ->
   wpAny (model X.prog X.w) X.A (setItem ov iv u) (fun _ s'=>∃ H',Inv X J0 σ H' s'/\Q H') X.xe s
section
variable {X:Cx}{pos:Pos}
def cc(i:Nat):TG:=fun v σ H Q=>Q (σ.set i (some v)) H
theorem bN{i:Nat}{x:Str}(hN:X.N.Nodup)(hi:X.N[i]?=some x)(hx:Loc X.env.scope x)(hf:X.fn x=true\/X.env.scope.names.lookup x=some .local:=by first | exact .inl rfl | exact .inr rfl | assumption):PG X (.Name x pos) (cc i):=by
 intro J0 s σ H v u Q I r h
 exact wpAny_assign_Name (kW I hN hi hx r (fun s' I'=>⟨_,H,I',h⟩) hf)
def qB:TGs:=fun vs σ H Q=>vs=[]/\Q σ H
def qC(t:TG)(u:TGs):TGs:=fun vs σ H Q=>∃ v r,vs=v::r/\t v σ H fun σ' H'=>u r σ' H' Q
theorem xS:PGs X [] qB:=by
 intro J0 s σ H vs us Q I r h
 obtain⟨e,h⟩:=h
 subst e
 cases r
 exact assignInOrder_nil ⟨σ,H,I,h⟩
theorem xT{e:Expr}{es:List Expr}{t:TG}{u:TGs}(h1:PG X e t)(h2:PGs X es u)(hs:(assignEach (e::es) X.env).map (·.2)=assign e X.env::(assignEach es X.env).map (·.2):=by rfl):PGs X (e::es) (qC t u):=by
 intro J0 s σ H vs us Q I r h
 obtain⟨v,vr,e1,h⟩:=h
 subst e1
 cases r with
 | cons r rr =>
   rw[hs]
   refine assignInOrder_cons (thn (h1 J0 s σ H _ _ _ I r h) fun _ s1 ⟨σ1,H1,I1,q1⟩=>?_)
   exact h2 J0 s1 σ1 H1 _ _ Q I1 rr q1
def qD(K:W.Frag)(n:Nat)(t:TGs):TG:=fun v σ H Q=>∃ a xs,v=.ref a/\SqT K H a xs/\xs.length=n/\t xs σ H Q
theorem kY{es:List Expr}{k:Nat}{t:TGs}{n:Nat}(hc:X.calm=true)(h:PGs X es t)(hn:(assignEach es X.env).length=n:=by rfl)(hst:(assignEach es X.env).findIdx? (·.1)=none:=by rfl):PG X (.Tuple es k pos) (qD X.K n t):=by
 intro J0 s σ H v u Q I r hw
 obtain⟨a,xs,e1,hq,hl,hw⟩:=hw
 subst e1
 cases r
 obtain⟨its,rv,ht,hz⟩:=I.tuple hq
 refine assign_Tuple_tuple (I.ok.hd hc) ht (by simp[hn,<- hl,rv.length]) hst fun h' hx=>?_
 have I1:Inv X J0 σ H { s with heap:=h' }:=I.kept (t':=s.toks) fun b o e=>hx b o (Nat.ne_of_lt (Heap.lt_size e)) e
 exact h J0 _ σ H xs _ Q I1 (by simpa using rv) hw
def xU(to ti:TE)(t:n9):TG:=fun v σ H Q=>to σ H fun o H1=>ti σ H1 fun i H2=>t o i v H2 fun H3=>Q σ H3
theorem xV{o i:Expr}{to ti:TE}{t:n9}(ho:PE X o to)(hi:PE X i ti)(hs:qA X t)(ha:∀ v,assign (.Subscript o i pos) X.env v=(do
   let ov <- holding [v] (eval o X.env)
   let iv <- holding [v,ov] (eval i X.env)
   standAt pos
   holding [v,ov,iv] (setItem ov iv v)
   release [v,ov,iv] []):=by intro _;rfl):PG X (.Subscript o i pos) (xU to ti t):=by
 intro J0 s σ H v u Q I r h
 rw[ha]
 refine wpAny_bind (wpAny_holding (thn (ho J0 s σ H _ I h) fun ov s1 ⟨x,H1,I1,r1,q1⟩=>?_))
 refine wpAny_bind (wpAny_holding (thn (hi J0 s1 σ H1 _ I1 q1) fun iv s2 ⟨y,H2,I2,r2,q2⟩=>?_))
 refine wpAny_bind (wpAny_standAt (wpAny_bind (wpAny_holding (thn (hs J0 s2 σ H2 x y v ov iv u _ I2 r1 r2 r q2) fun _ s3 ⟨H3,I3,q3⟩=>?_))))
 exact wpAny_release ⟨σ,H3,I3,q3⟩
def nc(te:TE)(g:TG):TS:=fun D σ H=>te σ H fun x H1=>g x σ H1 D.nx
theorem qE{tg e:Expr}{te:TE}{g:TG}(he:PE X e te)(hg:PG X tg g)(hs:swapsWithSole [tg] e pos.line X.env=pure false:=by rfl)(hw:swappedStores [tg] e X.env=pure none:=by rfl)(h1:(assignEach [tg] X.env).map (·.2)=[assign tg X.env]:=by rfl):PS X (.Assign [tg] e pos) (nc te g):=by
 intro J0 s σ H D I h
 refine wpAny_Assign_stores (thn (he J0 s σ H _ I h) fun v s1 ⟨x,H1,I1,r1,q1⟩=>?_) hs hw
 rw[h1]
 exact thn (hg J0 s1 σ H1 x v _ I1 r1 q1) fun _ s2 q=>q
theorem jr{i:Nat}{x:Str}{e:Expr}{te:TE}{pos':Pos}(hN:X.N.Nodup)(hi:X.N[i]?=some x)(hx:Loc X.env.scope x)(he:PE X e te)(hs:swapsWith e (some (.Name x pos')) pos.line X.env=pure false:=by rfl)(hf:X.fn x=true\/X.env.scope.names.lookup x=some .local:=by first | exact .inl rfl | exact .inr rfl | assumption):
  PS X (.Assign [.Name x pos'] e pos) (nc te (cc i)):=by
 intro J0 s σ H D I h
 refine wpAny_Assign_Name (thn (he J0 s σ H _ I h) fun v s1 ⟨y,H1,I1,r1,q1⟩=>?_) hs
 exact kW I1 hN hi hx r1 (fun s2 I2=>⟨_,H1,I2,q1⟩) hf
end
structure It where
 go:Nat->Hp->Prop
 yld:Nat->Hp->V->Hp->Prop
 stop:Nat->Hp->Prop
def ce(X:Cx)(J0:List (Addr × Obj))(H:Hp)(b:Addr):Prop :=
 H b=none/\b ≠ X.env.locals/\b ∉ X.fs/\(b ∈ X.ex\/X.s₀.heap.objs.size<=b)/\(∀ x c,X.env.cells.lookup x=some c->c ≠ b)/\∀ p ∈ X.pn++J0,p.1 ≠ b
theorem Inv.fpOk{X:Cx}{J0:List (Addr × Obj)}{σ:St}{H H':Hp}{s:Shared}{b:Addr}(I:Inv X J0 σ H s)(hb:s.heap.objs.size<=b)(hn:H' b=none):ce X J0 H' b:=by
 refine⟨hn,Nat.ne_of_gt (Nat.lt_of_lt_of_le I.lt hb),I.nofs hb,.inr (Nat.le_trans I.sz hb),fun x c e z=>?_,fun p hp z=>?_⟩
 ·obtain⟨v,q⟩:=I.cell x c e
  exact absurd (Nat.lt_of_lt_of_le q.lt (by rw[z];exact hb)) (Nat.lt_irrefl _)
 ·exact absurd (Nat.lt_of_lt_of_le (Heap.lt_size (I.pin p hp).1) (by rw[z];exact hb)) (Nat.lt_irrefl _)
structure Turn (P:Program) (w:World) (K:W.Frag) (tg:Expr) (J:It) (fp:List Addr) (it:Addr) (tn:Nat->Heap->Prop):Prop where
 mem:it ∈ fp
 obj:∀ i h,tn i h->∀ b ∈ fp,∃ o,h.get? b=some o/\∀ v,o.data ≠ .cell v
 keep:∀ i h h',tn i h->(∀ b ∈ fp,∀ o,h.get? b=some o->h'.get? b=some o)->tn i h'
 item:∀ (X:Cx),X.prog=P->X.w=w->X.K=K->X.calm=true->∀ (i:Nat) (J0:List (Addr × Obj)) (s:Shared) (σ:St) (H:Hp) (E:Value->Shared->Prop),Inv X J0 σ H s->(∀ b ∈ fp,ce X J0 H b)->tn i s.heap->J.go i H ->
  wpAny (model P w) X.A (pyNext (.ref it)) (fun r s1=>∃ u,r=some u /\
   wpAny (model P w) X.A (letOwnedTupleGo tg (.ref it) u) (fun _ s2=>∃ x H',Inv X J0 σ H' s2/\RelV x u/\J.yld i H x H'/\tn (i+1) s2.heap/\∀ b ∈ fp,H' b=none) E s1) E s
 done:∀ (X:Cx),X.prog=P->X.w=w->X.K=K->X.calm=true->∀ (i:Nat) (J0:List (Addr × Obj)) (s:Shared) (σ:St) (H:Hp) (E:Value->Shared->Prop),Inv X J0 σ H s->(∀ b ∈ fp,ce X J0 H b)->tn i s.heap->J.stop i H ->
  wpAny (model P w) X.A (pyNext (.ref it)) (fun r s1=>r=none/\Inv X J0 σ H s1) E s
 self:∀ (A:Around) (i:Nat) (s:Shared) (Q:Value->Shared->Prop) (E:Value->Shared->Prop),tn i s.heap->Q (.ref it) s->wpAny (model P w) A (pyIter (.ref it)) Q E s
abbrev TI:=St->Hp->(It->Hp->Prop)->Prop
def PIE(X:Cx)(J0:List (Addr × Obj))(σ:St)(tg:Expr)(R:It->Hp->Prop)(itv:Value)(s2:Shared):Prop :=
 ∃ (it:Addr) (fp:List Addr) (tn:Nat->Heap->Prop) (J:It) (H':Hp),itv=.ref it/\Inv X J0 σ H' s2/\Turn X.prog X.w X.K tg J fp it tn/\tn 0 s2.heap/\(∀ b ∈ fp,ce X J0 H' b)/\R J H'
def PI(X:Cx)(tg iter:Expr)(wi:TI):Prop :=
 ∀ (J0:List (Addr × Obj)) (s:Shared) (σ:St) (H:Hp) (R:It->Hp->Prop),Inv X J0 σ H s->wi σ H R ->
   wpAny (model X.prog X.w) X.A (eval iter X.env) (fun v s1=>wpAny (model X.prog X.w) X.A (pyIter v) (PIE X J0 σ tg R) X.xe s1) X.xe s
theorem kZ{M:Model}{A:Around}{E:Value->Shared->Prop}{s:Shared}{tg:Expr}{it:Addr}{u:Value}{o:Obj}{n:String}{vs:Array Value}{Q:Unit->Shared->Prop}(ho:s.heap.get? it=some o)(hc:o.cls=.type n)(hd:o.data=.fields vs)(hn:["enumerate","zip","dict_itemiterator","dict_reverseitemiterator","odict_iterator","itertools.zip_longest","itertools.pairwise"].contains n=false)(hQ:Q () s):wpAny M A (letOwnedTupleGo tg (.ref it) u) Q E s:=by
 unfold letOwnedTupleGo
 cases tg <;> first
  | exact wpAny_pure hQ
  | (cases u <;> first
    | exact wpAny_pure hQ
    | (refine wpAny_bind (wpAny_load ho ?_)
       rw[hc,hd]
       show wpAny M A (if (["enumerate","zip","dict_itemiterator","dict_reverseitemiterator","odict_iterator","itertools.zip_longest","itertools.pairwise"].contains n && vs[0]? == some (rawInt _))=true then _ else _) Q E s
       rw[if_neg (by intro h;rw[hn,Bool.false_and] at h;cases h)]
       exact wpAny_pure hQ))
def Itl(K:W.Frag)(a:Addr):It :=
 ⟨fun i H=>∃ xs x,SqL K H a xs/\xs[i]?=some x,fun i H x H'=>H'=H/\∀ xs,SqL K H a xs->xs[i]?=some x,fun i H=>∃ xs,SqL K H a xs/\xs.length<=i⟩
def Itr(lo:Int)(n:Nat):It:=⟨fun i _=>i < n,fun i H x H'=>H'=H/\x=.int (lo+i),fun i _=>n<=i⟩
theorem xW{P:Program}{w:World}{K:W.Frag}{tg:Expr}(a it:Addr):Turn P w K tg (Itl K a) [it] it (fun i h=>h.IsListIter it a i) where
 mem:=by simp
 obj:=fun i h st b hb=>by
  have e:b=it:=by simpa using hb
  subst e
  obtain⟨o,e,c,d⟩:=st
  exact⟨o,e,fun v z=>by rw[d] at z;cases z⟩
 keep:=fun i h h' st k=>st.at fun o e=>k it (by simp) o e
 item:=by
  intro X hP hw hK hc i J0 s σ H E I hf st hg
  subst hP hw hK
  obtain⟨xs,x,hq,hx⟩:=hg
  obtain⟨its,rv,p,hz⟩:=I.list hq
  obtain⟨u,hu,ru⟩:=rv.get hx
  obtain⟨f0,f1,f2,f3,f4,f5⟩:=hf it (by simp)
  refine wpAny_pyNext_list_item st p.isList (x:=u) (by simpa using hu) fun h' st' sb=>?_
  have I1:Inv X J0 σ H { s with heap:=h' }:=I.turned (t':=s.toks) (fun b o hb e=>(sb.2 b hb).trans e) f0 f1 f3 f4 f5
  obtain⟨o,e,c,d⟩:=id st'
  exact⟨u,rfl,kZ (s:={ s with heap:=h' }) e c d (by decide) ⟨x,H,I1,ru,⟨rfl,fun ys hy=>by rw[I.list_inj hy hq];exact hx⟩,st',fun b hb=>(hf b hb).1⟩⟩
 done:=by
  intro X hP hw hK hc i J0 s σ H E I hf st hg
  subst hP hw hK
  obtain⟨xs,hq,hx⟩:=hg
  obtain⟨its,rv,p,hz⟩:=I.list hq
  obtain⟨f0,f1,f2,f3,f4,f5⟩:=hf it (by simp)
  have hl:=rv.length
  exact wpAny_pyNext_list_end (I.ok.hd hc) st p.isList (by simp;omega) fun h' eb=>⟨rfl,I.turned (t':=s.toks) (fun b o hb e=>eb b o hb e) f0 f1 f3 f4 f5⟩
 self:=fun _ _ _ _ _ st h=>wpAny_pyIter_listiter st h
theorem xX{P:Program}{w:World}{K:W.Frag}{tg:Expr}(it:Addr)(lo:Int)(n:Nat):Turn P w K tg (Itr lo n) [it] it (fun i h=>IsRangeIter h it (lo+(i:Nat) * 1) ((n:Int) - (i:Nat)) 1) where
 mem:=by simp
 obj := fun i h st b hb=>by
  have e:b=it:=by simpa using hb
  subst e
  exact⟨_,st,fun v z=>by
   have z':Data.fields _=Data.cell v:=z
   cases z'⟩
 keep:=fun i h h' st k=>k it (by simp) _ st
 item:=by
  intro X hP hw hK hc i J0 s σ H E I hf st hg
  subst hP hw hK
  obtain⟨f0,f1,f2,f3,f4,f5⟩:=hf it (by simp)
  have W:=Walks.range (prog:=X.prog) (w:=X.w) (I.ok.hd hc) it lo 1 n
  refine W.item i s _ _ hg st fun v h' tk hv st' kk=>?_
  obtain⟨t,rfl⟩:=hv
  have I1:Inv X J0 σ H { s with heap:=h',toks:=tk }:=I.turned (fun b o hb e=>kk b o (by simpa using hb) e) f0 f1 f3 f4 f5
  refine⟨_,rfl,kZ (s:={ s with heap:=h',toks:=tk }) (n:="range_iterator") st' rfl rfl (by decide) ⟨.int (lo+i),H,I1,⟨t,?_⟩,⟨rfl,rfl⟩,st',fun b hb=>(hf b hb).1⟩⟩
  rw[Int.mul_one]
 done:=by
  intro X hP hw hK hc i J0 s σ H E I hf st hg
  subst hP hw hK
  obtain⟨f0,f1,f2,f3,f4,f5⟩:=hf it (by simp)
  exact wpAny_pyNext_range_end (I.ok.hd hc) st (by have:n<=i:=hg;omega) fun h' eb=>⟨rfl,I.turned (t':=s.toks) (fun b o hb e=>eb b o hb e) f0 f1 f3 f4 f5⟩
 self:=fun _ _ _ _ _ st h=>wpAny_pyIter_rangeiter st h
end L2
namespace L2
open PySem PySem.Spec PyProof.Rows
section
variable {X:Cx}{tg:Expr}
def qF(K:W.Frag)(tl:TE):TI:=fun σ H R=>tl σ H fun x H1=>∃ a,x=.ref a/\(∃ xs,SqL K H1 a xs)/\R (Itl K a) H1
theorem l0{l:Expr}{tl:TE}(hl:PE X l tl):PI X tg l (qF X.K tl):=by
 intro J0 s σ H R I h
 refine thn (hl J0 s σ H _ I h) fun v s1 ⟨x,H1,I1,r1,q1⟩=>?_
 obtain⟨a,e,⟨xs,hq⟩,q⟩:=q1
 subst e
 cases r1
 obtain⟨its,rv,p,hz⟩:=I1.list hq
 refine wpAny_pyIter_list p.isList ?_
 refine⟨s1.heap.objs.size,[s1.heap.objs.size],_,_,H1,rfl,I1.kept (t':=s1.toks) fun b o e=>Heap.get?_push_of_some _ e,xW a _,⟨_,Heap.get?_push_size _ rfl,rfl,rfl⟩,fun b hb=>?_,q⟩
 have e:b=s1.heap.objs.size:=by simpa using hb
 subst e
 exact I1.fpOk (Nat.le_refl _) (I1.hok.fresh (Nat.le_refl _))
theorem qG{J0:List (Addr × Obj)}{σ:St}{H:Hp}{s:Shared}{R:It->Hp->Prop}{E:Value->Shared->Prop}{lo hi:Int}{t u v:Tok}{tk:Nat}(I:Inv X J0 σ H s)(h1:-(2 ^ 62)<=lo)(h2:lo < 2 ^ 62)(h3:-(2 ^ 62)<=hi)(h4:hi < 2 ^ 62)(q:R (Itr lo (hi - lo).toNat) H):wpAny (model X.prog X.w) X.A (pyIter (.ref s.heap.objs.size)) (PIE X J0 σ tg R) E { s with heap:=s.heap.push { cls:=.type "range",data:=.fields #[.int lo t,.int hi u,.int 1 v] },toks:=tk }:=by
 refine wpAny_pyIter_range (IsRange.new ..) (small_one h1 h2 h3 h4) ?_
 have I1:Inv X J0 σ H { s with heap:=s.heap.push { cls:=.type "range",data:=.fields #[.int lo t,.int hi u,.int 1 v] },toks:=tk }:=I.kept fun b o e=>Heap.get?_push_of_some _ e
 refine⟨(s.heap.push { cls:=.type "range",data:=.fields #[.int lo t,.int hi u,.int 1 v] }).objs.size,[(s.heap.push { cls:=.type "range",data:=.fields #[.int lo t,.int hi u,.int 1 v] }).objs.size],_,_,H,rfl,
  I1.kept (t':=tk) fun b o e=>Heap.get?_push_of_some _ e,xX _ lo (hi - lo).toNat,?_,fun b hb=>?_,q⟩
 ·have e1:lo+((0:Nat):Int) * 1=lo:=by simp
  have e2:(((hi - lo).toNat:Nat):Int) - ((0:Nat):Int)=Builtin.Range.rangeSize lo hi 1:=by rw[rangeSize_one];split <;> omega
  show IsRangeIter _ _ (lo+((0:Nat):Int) * 1) ((((hi - lo).toNat:Nat):Int) - ((0:Nat):Int)) 1
  rw[e1,e2]
  exact Heap.get?_push_size _ rfl
 ·have e:b=(s.heap.push { cls:=.type "range",data:=.fields #[.int lo t,.int hi u,.int 1 v] }).objs.size:=by simpa using hb
  subst e
  exact I1.fpOk (Nat.le_refl _) (I1.hok.fresh (Nat.le_refl _))
def qH(ta:TA):TI:=fun σ H R=>ta σ H fun vs H1=>∃ j:Int,vs=[.int j]/\-(2 ^ 62)<=j/\j < 2 ^ 62/\R (Itr 0 j.toNat) H1
def xY(ta:TA):TI:=fun σ H R=>ta σ H fun vs H1=>∃ i j:Int,vs=[.int i,.int j]/\(-(2 ^ 62)<=i/\i < 2 ^ 62/\-(2 ^ 62)<=j/\j < 2 ^ 62)/\R (Itr i (j - i).toNat) H1
theorem la{a:Expr}{ta:TA}{p pos:Pos}(hg:Gl X "range")(hm:X.mg "range" = none)(ha:PA X [a] ta)(hs:starEach [a] X.env=[(false,eval a X.env)]:=by rfl):PI X tg (.Call (.Name "range" p) [a] [] pos) (qH ta):=by
 intro J0 s σ H R I h
 refine Call_ (dF I hg hm boot_range (PyProof.Rows.callWith_type1 (thn (ha pos J0 s σ H _ I h) fun us s1 ⟨vs,H1,I1,r1,q1⟩=>?_) hs rfl))
 obtain⟨j,e,q1,q2,q⟩:=q1
 subst e
 cases r1 with
 | cons r rr =>
   cases rr
   obtain⟨t,rfl⟩:=r
   exact call_range_1 (qG I1 (by omega) (by omega) q1 q2 (by simpa using q))
theorem xZ{a b:Expr}{ta:TA}{p pos:Pos}(hg:Gl X "range")(hm:X.mg "range" = none)(ha:PA X [a,b] ta)(hs:starEach [a,b] X.env=[(false,eval a X.env),(false,eval b X.env)]:=by rfl)(hs2:starEach [b] X.env=[(false,eval b X.env)]:=by rfl):
  PI X tg (.Call (.Name "range" p) [a,b] [] pos) (xY ta):=by
 intro J0 s σ H R I h
 refine Call_ (dF I hg hm boot_range (PyProof.Rows.callWith_type1 (thn (ha pos J0 s σ H _ I h) fun us s1 ⟨vs,H1,I1,r1,q1⟩=>?_) (by rw[hs,hs2]) (by rw[hs2];rfl)))
 obtain⟨i,j,e,⟨q1,q2,q3,q4⟩,q⟩:=q1
 subst e
 cases r1 with
 | cons r rr =>
   cases rr with
   | cons r' rr =>
     cases rr
     obtain⟨t,rfl⟩:=r
     obtain⟨t',rfl⟩:=r'
     exact call_range_2 (qG I1 q1 q2 q3 q4 q)
def ya(wi:TI)(g:TG)(tb:TS):TS:=fun D σ H=>wi σ H fun J H1=>∃ W:Nat->Nat->St->Hp->Prop,(∃ m,W 0 m σ H1)/\∀ i m σ H,W i m σ H ->
 (J.stop i H/\D.nx σ H)\/(J.go i H/\∃ N:St->Hp->Prop,(∀ σ' H',N σ' H'->∃ m',m' < m/\W (i+1) m' σ' H')/\∀ x H',J.yld i H x H'->g x σ H' fun σ2 H2=>tb { D with nx:=N,ct:=N,bk:=D.nx } σ2 H2)
def js(fp:List Addr)(h:Heap):List (Addr × Obj):=fp.filterMap fun b=>(h.get? b).map fun o=>(b,o)
theorem ld{fp:List Addr}{h:Heap}{b:Addr}{o:Obj}(hb:b ∈ fp)(e:h.get? b=some o):(b,o) ∈ js fp h:=List.mem_filterMap.mpr ⟨b,hb,by rw[e];rfl⟩
theorem yb{fp:List Addr}{h:Heap}{p:Addr × Obj}(hp:p ∈ js fp h):p.1 ∈ fp/\h.get? p.1=some p.2:=by
 obtain⟨b,hb,e⟩:=List.mem_filterMap.mp hp
 cases q:h.get? b with
 | none=>rw[q] at e;cases e
 | some o =>
   rw[q] at e
   have e':(b,o)=p:=Option.some.inj e
   subst e'
   exact⟨hb,q⟩
theorem Inv.pinned{J0:List (Addr × Obj)}{σ:St}{H:Hp}{s:Shared}{fp:List Addr}(I:Inv X J0 σ H s)(hf:∀ b ∈ fp,ce X J0 H b)(ho:∀ b ∈ fp,∃ o,s.heap.get? b=some o/\∀ v,o.data ≠ .cell v):Inv X (J0++js fp s.heap) σ H s :=
 I.pins_of fun p hp=>(List.mem_append.mp hp).elim (fun z=>I.pin p (List.mem_append_right _ z)) fun z=>by
  obtain⟨hb,e⟩:=yb z
  obtain⟨f0,f1,f2,_⟩:=hf p.1 hb
  obtain⟨o,e',d⟩:=ho p.1 hb
  rw[e] at e';cases e'
  exact⟨e,f0,f1,f2,d⟩
theorem Inv.unpinned{J0 pl:List (Addr × Obj)}{σ:St}{H:Hp}{s:Shared}(I:Inv X (J0++pl) σ H s):Inv X J0 σ H s:=I.pins_of fun p hp=>I.pin p (List.mem_append_right _ (List.mem_append_left _ hp))
theorem gu{iter:Expr}{body:List Stmt}{wi:TI}{g:TG}{tb:TS}{pos:Pos}(hp:PassesOwn (model X.prog X.w) X.A X.env X.xe)(hc:X.calm=true)(hi:PI X tg iter wi)(hg:PG X tg g)(hb:PSs X body tb)(hs:∀ x,foldedSetIterable iter X.env x=pure x:=by intro _;rfl):PS X (.For tg iter body [] pos) (ya wi g tb):=by
 intro J0 s σ H D I h
 refine wpAny_For (thn (hi J0 s σ H _ I h) fun v s1 h1=>thn h1 fun itv s2 h2=>?_) hs
 obtain⟨it,fp,tn,J,H2,e,I2,T,st2,f2,W,⟨m0,w0⟩,turn⟩:=h2
 subst e
 have stat:∀ {H':Hp},(∀ b ∈ fp,H' b=none)->∀ b ∈ fp,ce X J0 H' b:=fun hn b hb=>⟨hn b hb,(f2 b hb).2⟩
 refine codeAny_forLoop_any (fun n s'=>∃ i σ' H',Inv X J0 σ' H' s'/\tn i s'.heap/\(∀ b ∈ fp,H' b=none)/\W i n σ' H') ?_ m0 ⟨0,σ,H2,I2,st2,fun b hb=>(f2 b hb).1,w0⟩
 rintro n s3 ⟨i,σ3,H3,I3,st3,fr3,w3⟩
 rcases turn i n σ3 H3 w3 with⟨stop,qn⟩ | ⟨go,N,hN,step⟩
 ·refine wpAny_passesOwn hp (thn (T.done X rfl rfl rfl hc i J0 s3 σ3 H3 X.xe I3 (stat fr3) st3 stop) fun r s4 ⟨hr,I4⟩=>?_)
  subst hr
  exact wpAny_execs_nil ⟨σ3,H3,I4,qn⟩
 ·refine wpAny_passesOwn hp (thn (T.item X rfl rfl rfl hc i J0 s3 σ3 H3 X.xe I3 (stat fr3) st3 go) fun r s4 ⟨u,hr,h4⟩=>?_)
  subst hr
  refine wpAny_passesOwn hp (thn h4 fun _ s5 ⟨x,H5,I5,r5,y5,st5,fr5⟩=>?_)
  have I5':=I5.pinned (stat fr5) (T.obj _ _ st5)
  refine wpAny_passesOwn hp (thn (hg _ s5 σ3 H5 x u _ I5' r5 (step x H5 y5)) fun _ s6 ⟨σ6,H6,I6,q6⟩=>?_)
  refine wpAny_passesOwn hp (thn (hb _ s6 σ6 H6 _ I6 q6) fun f s7 q7=>?_)
  have again:∀ {σ7:St} {H7:Hp},Inv X (J0++js fp s5.heap) σ7 H7 s7->N σ7 H7->∃ m,m < n/\∃ i σ' H',Inv X J0 σ' H' s7/\tn i s7.heap/\(∀ b ∈ fp,H' b=none)/\W i m σ' H':=fun {σ7 H7} I7 n7=>by
   obtain⟨m',hm,w7⟩:=hN σ7 H7 n7
   refine⟨m',hm,i+1,σ7,H7,I7.unpinned,T.keep _ _ _ st5 fun b hb o e=>(I7.pin (b,o) (List.mem_append_right _ (List.mem_append_right _ (ld hb e)))).1,fun b hb=>?_,w7⟩
   obtain⟨o,e,d⟩:=T.obj _ _ st5 b hb
   exact (I7.pin (b,o) (List.mem_append_right _ (List.mem_append_right _ (ld hb e)))).2.1
  cases f with
  | next=>obtain⟨σ7,H7,I7,n7⟩:=q7;exact again I7 n7
  | cont=>obtain⟨σ7,H7,I7,n7⟩:=q7;exact again I7 n7
  | brk=>obtain⟨σ7,H7,I7,q7⟩:=q7;exact⟨σ7,H7,I7.unpinned,q7⟩
  | ret v=>obtain⟨x7,σ7,H7,I7,r7,q7⟩:=q7;exact⟨x7,σ7,H7,I7.unpinned,r7,q7⟩
end
theorem qI{K:W.Frag}{a:Addr}{xs:List V}{g:TG}{tb:TS}{D:Ends}{σ:St}{H:Hp}(Pv:Nat->St->Hp->Prop)(h0:Pv 0 σ H)(hl:∀ i σ H,i<=xs.length->Pv i σ H->SqL K H a xs)(hs:∀ i x σ H,xs[i]?=some x->Pv i σ H->g x σ H fun σ2 H2=>tb { D with nx:=Pv (i+1),ct:=Pv (i+1),bk:=D.nx } σ2 H2)(hd:∀ σ H,Pv xs.length σ H->D.nx σ H):
  ∃ W:Nat->Nat->St->Hp->Prop,(∃ m,W 0 m σ H)/\∀ i m σ H,W i m σ H ->
    ((Itl K a).stop i H/\D.nx σ H)\/((Itl K a).go i H/\∃ N:St->Hp->Prop,(∀ σ' H',N σ' H'->∃ m',m' < m/\W (i+1) m' σ' H')/\∀ x H',(Itl K a).yld i H x H'->g x σ H' fun σ2 H2=>tb { D with nx:=N,ct:=N,bk:=D.nx } σ2 H2):=by
 refine⟨fun i m σ H=>m=xs.length - i/\i<=xs.length/\Pv i σ H,⟨xs.length,by simp,Nat.zero_le _,h0⟩,?_⟩
 rintro i m σ H ⟨rfl,hi,p⟩
 have q:=hl i σ H hi p
 by_cases hlt:i < xs.length
 ·refine .inr ⟨⟨xs,xs[i],q,by simp[hlt]⟩,Pv (i+1),fun σ' H' p'=>⟨xs.length - (i+1),by omega,rfl,hlt,p'⟩,fun x H' y=>?_⟩
  obtain⟨e,y⟩:=y
  subst e
  exact hs i x σ _ (y xs q) p
 ·have e:i=xs.length:=by omega
  subst e
  exact .inl ⟨⟨xs,q,Nat.le_refl _⟩,hd σ H p⟩
theorem qJ{lo:Int}{n:Nat}{g:TG}{tb:TS}{D:Ends}{σ:St}{H:Hp}(Pv:Nat->St->Hp->Prop)(h0:Pv 0 σ H)(hs:∀ i σ H,i < n->Pv i σ H->g (.int (lo+i)) σ H fun σ2 H2=>tb { D with nx:=Pv (i+1),ct:=Pv (i+1),bk:=D.nx } σ2 H2)(hd:∀ σ H,Pv n σ H->D.nx σ H):
  ∃ W:Nat->Nat->St->Hp->Prop,(∃ m,W 0 m σ H)/\∀ i m σ H,W i m σ H ->
    ((Itr lo n).stop i H/\D.nx σ H)\/((Itr lo n).go i H/\∃ N:St->Hp->Prop,(∀ σ' H',N σ' H'->∃ m',m' < m/\W (i+1) m' σ' H')/\∀ x H',(Itr lo n).yld i H x H'->g x σ H' fun σ2 H2=>tb { D with nx:=N,ct:=N,bk:=D.nx } σ2 H2):=by
 refine⟨fun i m σ H=>m=n - i/\i<=n/\Pv i σ H,⟨n,by simp,Nat.zero_le _,h0⟩,?_⟩
 rintro i m σ H ⟨rfl,hi,p⟩
 by_cases hlt:i < n
 ·refine .inr ⟨hlt,Pv (i+1),fun σ' H' p'=>⟨n - (i+1),by omega,rfl,hlt,p'⟩,fun x H' y=>?_⟩
  obtain⟨e,y⟩:=y
  subst e y
  exact hs i σ _ hlt p
 ·have e:i=n:=by omega
  subst e
  exact .inl ⟨Nat.le_refl _,hd σ H p⟩
end L2
namespace L2
open PySem PySem.Spec PyProof.Rows
abbrev R2:=V->V->Hp->VK->Prop
def OpR(X:Cx)(f:Value->Value->Sem Value)(r:R2):Prop :=
 ∀ (J0:List (Addr × Obj)) (s:Shared) (σ:St) (H:Hp) (x y:V) (v u:Value) (Q:VK),Inv X J0 σ H s->RelV x v->RelV y u->r x y H Q ->
   wpAny (model X.prog X.w) X.A (f v u) (EP X J0 σ Q) X.xe s
def UnR(X:Cx)(f:Value->Sem Value)(r:V->Hp->VK->Prop):Prop :=
 ∀ (J0:List (Addr × Obj)) (s:Shared) (σ:St) (H:Hp) (x:V) (v:Value) (Q:VK),Inv X J0 σ H s->RelV x v->r x H Q ->
   wpAny (model X.prog X.w) X.A (f v) (EP X J0 σ Q) X.xe s
def CallR(X:Cx)(f:Value)(r:List V->Hp->VK->Prop):Prop :=
 ∀ (J0:List (Addr × Obj)) (s:Shared) (σ:St) (H:Hp) (xs:List V) (us:List Value) (Q:VK),Inv X J0 σ H s->Vals xs us->r xs H Q ->
   wpAny (model X.prog X.w) X.A (call f us) (EP X J0 σ Q) X.xe s
def yc(X:Cx)(r:V->Hp->(Bool->Hp->Prop)->Prop):Prop :=
 ∀ (J0:List (Addr × Obj)) (s:Shared) (σ:St) (H:Hp) (x:V) (v:Value) (Q:Bool->Hp->Prop),Inv X J0 σ H s->RelV x v->r x H Q ->
   wpAny (model X.prog X.w) X.A (truthy v) (TP X J0 σ Q) X.xe s
def tOp(r:R2)(ta tb:TE):TE:=fun σ H Q=>ta σ H fun x H1=>tb σ H1 fun y H2=>r x y H2 Q
def tUn(r:V->Hp->VK->Prop)(ta:TE):TE:=fun σ H Q=>ta σ H fun x H1=>r x H1 Q
def rI(C:Int->Int->Prop)(g:Int->Int->V):R2:=fun x y H Q=>∃ i j,x=.int i/\y=.int j/\C i j/\Q (g i j) H
def rI0(g:Int->Int->V):R2:=fun x y H Q=>∃ i j,x=.int i/\y=.int j/\Q (g i j) H
def rU(g:Int->V):V->Hp->VK->Prop:=fun x H Q=>∃ i,x=.int i/\Q (g i) H
section
variable {X:Cx}{a b:Expr}{ta tb:TE}{pos:Pos}
theorem ng(ha:PE X a ta)(hb:PE X b tb){J0:List (Addr × Obj)}{s:Shared}{σ:St}{H:Hp}{R:V->V->Hp->Prop}(I:Inv X J0 σ H s)(h:ta σ H fun x H1=>tb σ H1 fun y H2=>R x y H2){Q:Value->Shared->Prop}{f:Value->Value->Sem Value}(hf:∀ v u s2 x y H2,Inv X J0 σ H2 s2->RelV x v->RelV y u->R x y H2->wpAny (model X.prog X.w) X.A (f v u) Q X.xe s2):
  wpAny (model X.prog X.w) X.A (eval a X.env) (fun v s₁=>wpAny (model X.prog X.w) X.A (eval b X.env) (fun u s₂=>wpAny (model X.prog X.w) X.A (f v u) Q X.xe s₂) X.xe s₁) X.xe s:=by
 refine thn (ha J0 s σ H _ I h) fun v s1 ⟨x,H1,I1,r1,q1⟩=>?_
 refine thn (hb J0 s1 σ H1 _ I1 q1) fun u s2 ⟨y,H2,I2,r2,q2⟩=>?_
 exact hf v u s2 x y H2 I2 r1 r2 q2
theorem lf{op:Operator}{r:R2}(ho:OpR X (binaryOp op) r)(ha:PE X a ta)(hb:PE X b tb):PE X (.BinOp a op b pos) (tOp r ta tb):=by
 intro J0 s σ H Q I h
 exact wpAny_BinOp (ng ha hb I h fun v u s2 x y H2 I2 rx ry q=>ho J0 s2 σ H2 x y v u Q I2 rx ry q)
theorem yd{op:UnaryOp}{r:V->Hp->VK->Prop}(ho:UnR X (unaryOp op) r)(ha:PE X a ta):PE X (.UnaryOp op a pos) (tUn r ta):=by
 intro J0 s σ H Q I h
 exact UnaryOp_ (thn (ha J0 s σ H _ I h) fun v s1 ⟨x,H1,I1,r1,q1⟩=>ho J0 s1 σ H1 x v Q I1 r1 q1)
theorem opI{f:Value->Value->Sem Value}{C:Int->Int->Prop}{g:Int->Int->Int}(rule:∀ (i j:Int) (t u:Tok) (s:Shared) (Q:Value->Shared->Prop) (E:Value->Shared->Prop),C i j->Q (.int (g i j) s.toks) { s with toks:=s.toks+1 }->wpAny (model X.prog X.w) X.A (f (.int i t) (.int j u)) Q E s):
  OpR X f (rI C fun i j=>.int (g i j)):=by
 intro J0 s σ H x y v u Q I rx ry h
 obtain⟨i,j,rfl,rfl,hc,q⟩:=h
 obtain⟨t,rfl⟩:=rx
 obtain⟨t',rfl⟩:=ry
 exact rule i j t t' s _ _ hc ⟨.int (g i j),H,I.tok _,⟨_,rfl⟩,q⟩
theorem qK{f:Value->Value->Sem Value}{g:Int->Int->Int}(rule:∀ (i j:Int) (t u:Tok) (s:Shared) (Q:Value->Shared->Prop) (E:Value->Shared->Prop),Q (.int (g i j) s.toks) { s with toks:=s.toks+1 }->wpAny (model X.prog X.w) X.A (f (.int i t) (.int j u)) Q E s):
  OpR X f (rI0 fun i j=>.int (g i j)):=by
 intro J0 s σ H x y v u Q I rx ry h
 obtain⟨i,j,rfl,rfl,q⟩:=h
 obtain⟨t,rfl⟩:=rx
 obtain⟨t',rfl⟩:=ry
 exact rule i j t t' s _ _ ⟨.int (g i j),H,I.tok _,⟨_,rfl⟩,q⟩
theorem lg{f:Value->Value->Sem Value}{g:Int->Int->Bool}(rule:∀ (i j:Int) (t u:Tok) (s:Shared) (Q:Value->Shared->Prop) (E:Value->Shared->Prop),Q (.bool (g i j)) s->wpAny (model X.prog X.w) X.A (f (.int i t) (.int j u)) Q E s):
  OpR X f (rI0 fun i j=>.bl (g i j)):=by
 intro J0 s σ H x y v u Q I rx ry h
 obtain⟨i,j,rfl,rfl,q⟩:=h
 obtain⟨t,rfl⟩:=rx
 obtain⟨t',rfl⟩:=ry
 exact rule i j t t' s _ _ ⟨.bl (g i j),H,I,rfl,q⟩
def CMul(i j:Int):Prop:=(-(2 ^ 64) < i/\i < 2 ^ 64)\/(-(2 ^ 64) < j/\j < 2 ^ 64)
theorem CMul.ok{i j:Int}(h:CMul i j):IntMulOk i j:=by
 rcases h with⟨h1,h2⟩ | ⟨h1,h2⟩
 ·exact .of_left (intBits_le_64 h1 h2)
 ·exact .of_right (intBits_le_64 h1 h2)
theorem qL:OpR X (binaryOp .Add) (rI0 fun i j=>.int (i+j)):=qK fun _ _ _ _ _ _ _ q=>add_int q
theorem qM:OpR X (binaryOp .Sub) (rI0 fun i j=>.int (i - j)):=qK fun _ _ _ _ _ _ _ q=>sub_int q
theorem ye:OpR X (binaryOp .Mod) (rI (fun _ j=>0 < j) fun i j=>.int (i % j)):=opI fun i j _ _ _ _ _ hc q=>by
 have h1:(0:Int) < j:=hc
 exact mod_int' (by omega) (by rw[Int.fmod_eq_emod_of_nonneg i (by omega)];exact q)
theorem unI{f:Value->Sem Value}{g:Int->Int}(rule:∀ (i:Int) (t:Tok) (s:Shared) (Q:Value->Shared->Prop) (E:Value->Shared->Prop),Q (.int (g i) s.toks) { s with toks:=s.toks+1 }->wpAny (model X.prog X.w) X.A (f (.int i t)) Q E s):
  UnR X f (rU fun i=>.int (g i)):=by
 intro J0 s σ H x v Q I rx h
 obtain⟨i,rfl,q⟩:=h
 obtain⟨t,rfl⟩:=rx
 exact rule i t s _ _ ⟨.int (g i),H,I.tok _,⟨_,rfl⟩,q⟩
theorem yf:UnR X (unaryOp .USub) (rU fun i=>.int (-i)):=unI fun _ _ _ _ _ q=>neg_int q
end
section
variable {X:Cx}{a b c:Expr}{ta tb tc:TE}{pos:Pos}
theorem qN{J0:List (Addr × Obj)}{σ:St}{H:Hp}{s:Shared}{Q:VK}{k k':Bool}(I:Inv X J0 σ H s)(q:Q (.bl k) H)(e:k=k'):EP X J0 σ Q (.bool k') s:=by
 subst e
 exact⟨.bl k,H,I,rfl,q⟩
theorem qO:OpR X (compareOp .Lt) (rI0 fun i j=>.bl (decide (i < j))):=lg fun _ _ _ _ _ _ _ q=>lt_int q
theorem nh:OpR X (compareOp .LtE) (rI0 fun i j=>.bl (decide (i<=j))):=lg fun _ _ _ _ _ _ _ q=>le_int q
theorem qP:OpR X (compareOp .Gt) (rI0 fun i j=>.bl (decide (j < i))):=lg fun _ _ _ _ _ _ _ q=>gt_int q
theorem yg:OpR X (compareOp .GtE) (rI0 fun i j=>.bl (decide (j<=i))):=lg fun _ _ _ _ _ _ _ q=>ge_int q
theorem qQ:OpR X (compareOp .Is) (fun x y H Q=>y=.non/\Q (.bl (decide (x=.non))) H):=by
 intro J0 s σ H x y v u Q I rx ry h
 obtain⟨rfl,q⟩:=h
 cases ry
 refine is_none_gen (qN I q ?_)
 cases x <;> first
  | (cases rx;rfl)
  | (obtain⟨t,rfl⟩:=rx;rfl)
theorem ni:OpR X (compareOp .IsNot) (fun x y H Q=>y=.non/\Q (.bl (!decide (x=.non))) H):=by
 intro J0 s σ H x y v u Q I rx ry h
 obtain⟨rfl,q⟩:=h
 cases ry
 refine isnot_none_gen (qN I q ?_)
 cases x <;> first
  | (cases rx;rfl)
  | (obtain⟨t,rfl⟩:=rx;rfl)
def yh:HO->Bool
 | .lst _=>true
 | .ins _ _ _=>true
 | _=>false
theorem jt{J0:List (Addr × Obj)}{s:Shared}{σ:St}{H:Hp}{a:Addr}{o:HO}(I:Inv X J0 σ H s)(h:H a=some o)(p:yh o=true):∃ ob,s.heap.get? a=some ob/\ob.cls ≠ .type "tuple":=by
 cases o with
 | lst xs =>
   obtain⟨_,its,n,_,e⟩:xs.length<=sizeLine/\∃ (its:List Value) (n:Nat),Vals xs its/\s.heap.get? a=some { cls:=.type "list",data:=.seq its.toArray n }:=I.hok a _ h
   exact⟨_,e,(by show Value.type "list" ≠ .type "tuple";decide +kernel)⟩
 | ins C dx fs =>
   have x:=I.hok a _ h
   obtain⟨_,_,_,e,_⟩:=x
   exact⟨_,e,(by show Value.ref C ≠ .type "tuple";exact fun z=>by cases z)⟩
 | _=>exact absurd (show false=true from p) Bool.false_ne_true
theorem OpR.or{f:Value->Value->Sem Value}{r r':R2}(h:OpR X f r)(h':OpR X f r'):OpR X f (fun x y H Q=>r x y H Q\/r' x y H Q):=by
 intro J0 s σ H x y v u Q I rx ry q
 rcases q with q | q
 ·exact h J0 s σ H x y v u Q I rx ry q
 ·exact h' J0 s σ H x y v u Q I rx ry q
theorem cM(b:Expr){op:CmpOp}(h:op ≠ .In:=by decide)(h2:op ≠ .NotIn:=by decide):behindInMarks op b=false:=by
 have e1:(op == CmpOp.In)=false:=by cases op <;> first | rfl | exact absurd rfl h
 have e2:(op == CmpOp.NotIn)=false:=by cases op <;> first | rfl | exact absurd rfl h2
 cases b <;> simp[behindInMarks,e1,e2]
theorem qR{op:CmpOp}{r:R2}(ho:OpR X (compareOp op) r)(ha:PE X a ta)(hb:PE X b tb)(hm:behindInMarks op b=false):PE X (.Compare a [op] [b] pos) (tOp r ta tb):=by
 intro J0 s σ H Q I h
 exact wpAny_Compare1 (ng ha hb I h fun v u s2 x y H2 I2 rx ry q=>ho J0 s2 σ H2 x y v u Q I2 rx ry q) hm
def yi(t:TE):TT:=fun σ H Q=>t σ H fun x H'=>∃ k,x=.bl k/\Q k H'
theorem qS{op:CmpOp}{r:R2}(ho:OpR X (compareOp op) r)(ha:PE X a ta)(hb:PE X b tb)(hm:behindInMarks op b=false):PT X (.Compare a [op] [b] pos) (yi (tOp r ta tb)):=by
 intro J0 s σ H Q I h
 refine wpAny_isTrue_Compare1 (thn (ha J0 s σ H _ I h) fun v s1 ⟨x,H1,I1,r1,q1⟩=>thn (hb J0 s1 σ H1 _ I1 q1) fun u s2 ⟨y,H2,I2,r2,q2⟩ =>
  thn (ho J0 s2 σ H2 x y v u _ I2 r1 r2 q2) fun c s3 ⟨z,H3,I3,r3,k,e,q3⟩=>?_) hm
 subst e
 cases r3
 exact wpAny_truthy_bool ⟨H3,I3,q3⟩
def qT(r r':R2)(ta tb tc:TE):TE:=fun σ H Q=>ta σ H fun x H1=>tb σ H1 fun y H2=>r x y H2 fun z H3=>∃ k,z=.bl k /\
 (if k=true then tc σ H3 fun w' H4=>r' y w' H4 Q else Q (.bl false) H3)
theorem yj{op op':CmpOp}{r r':R2}(ho:OpR X (compareOp op) r)(ho':OpR X (compareOp op') r')(ha:PE X a ta)(hb:PE X b tb)(hc:PE X c tc)(hm:lastMarks [op,op'] [b,c]=false:=by with_unfolding_all rfl):PE X (.Compare a [op,op'] [b,c] pos) (qT r r' ta tb tc):=by
 intro J0 s σ H Q I h
 refine Compare_chain (thn (ha J0 s σ H _ I h) fun v s1 ⟨x,H1,I1,r1,q1⟩=>chain_link (thn (hb J0 s1 σ H1 _ I1 q1) fun u s2 ⟨y,H2,I2,r2,q2⟩ =>
  thn (ho J0 s2 σ H2 x y v u _ I2 r1 r2 q2) fun d s3 ⟨z,H3,I3,r3,k,e,q3⟩=>?_)) hm
 subst e
 cases r3
 refine wpAny_truthy_bool ?_
 cases k with
 | false=>exact ite_ff ⟨.bl false,H3,I3,rfl,q3⟩
 | true=>exact ite_tt (chain_last (thn (hc J0 s3 σ H3 _ I3 q3) fun w' s4 ⟨z',H4,I4,r4,q4⟩=>ho' J0 s4 σ H4 y z' u w' Q I4 r2 r4 q4))
def nj(K:W.Frag)(x:V)(H:Hp)(k:Bool):Prop :=
 match x with
 | .non=>k=false
 | .bl b=>k=b
 | .int i=>k=(i != 0)
 | .str y=>y.length<=sizeLine/\k=((y.length:Int) != 0)
 | .byt y=>y.size<=sizeLine/\k=((y.size:Int) != 0)
 | .ref p=>(∃ xs,SqL K H p xs/\k = !xs.isEmpty)\/(∃ xs,SqT K H p xs/\k = !xs.isEmpty)\/∃ kvs,H p=some (.dK kvs)/\k = !kvs.isEmpty
 | _=>False
theorem yk{κ:Type}{kvs:List (κ × V)}{vs:List (κ × Value)}(r:KV kvs vs):(!vs.isEmpty) = !kvs.isEmpty:=by
 cases r <;> rfl
theorem qU{xs:List V}{its:List Value}(r:Vals xs its):(!its.toArray.isEmpty) = !xs.isEmpty:=by
 cases r <;> simp
theorem ju:(sizeLine:Nat) < 2 ^ 63:=by rw[sizeLine_eq];decide
theorem yl:yc X (fun x H Q=>∃ k,nj X.K x H k/\Q k H):=by
 intro J0 s σ H x v Q I rx h
 obtain⟨k,e,q⟩:=h
 have hl:=ju
 have hs:sizeLine=16777216:=sizeLine_eq
 cases x with
 | non =>
   cases rx
   have e':k=false:=e
   subst e'
   exact truthy_none ⟨H,I,q⟩
 | bl b =>
   cases rx
   have e':k=b:=e
   subst e'
   exact wpAny_truthy_bool ⟨H,I,q⟩
 | int i =>
   obtain⟨t,rfl⟩:=rx
   have e':k=(i != 0):=e
   subst e'
   exact PySem.P.truthy_int ⟨H,I,q⟩
 | str y =>
   obtain⟨t,rfl⟩:=rx
   obtain⟨hy,e'⟩:y.length<=sizeLine/\k=((y.length:Int) != 0):=e
   subst e'
   exact PySem.P.truthy_str (by omega) ⟨H,I.tok _,q⟩
 | byt y =>
   obtain⟨t,rfl⟩:=rx
   obtain⟨hy,e'⟩:y.size<=sizeLine/\k=((y.size:Int) != 0):=e
   subst e'
   exact W.truthy_bytes (by omega) ⟨H,I.tok _,q⟩
 | ref p =>
   cases rx
   have e':(∃ xs,SqL X.K H p xs/\k = !xs.isEmpty)\/(∃ xs,SqT X.K H p xs/\k = !xs.isEmpty)\/∃ kvs,H p=some (.dK kvs)/\k = !kvs.isEmpty:=e
   rcases e' with⟨xs,hx,e'⟩ | ⟨xs,hx,e'⟩ | ⟨kvs,hx,e'⟩
   ·subst e'
    obtain⟨its,r,pl,hz⟩:=I.list hx
    have hlen:=r.length
    exact wpAny_truthy_list pl.isList (by simp only[List.size_toArray];omega) ⟨H,I.tok _,by rw[qU r];exact q⟩
   ·subst e'
    obtain⟨its,r,pl,hz⟩:=I.tuple hx
    have hlen:=r.length
    exact truthy_tuple pl (by simp only[List.size_toArray];omega) ⟨H,I.tok _,by rw[qU r];exact q⟩
   ·subst e'
    obtain⟨hz,hS,vs,r,m⟩:kvs.length<=sizeLine/\(p == sysModules)=false/\∃ vs,KV kvs vs/\s.heap.DictOf (cW X.prog X.w) p vs:=I.hok p _ hx
    have hlen:kvs.length=vs.length:=Paired.length r
    exact wpAny_truthy_dict hS m (by omega) ⟨H,I.tok _,by rw[yk r];exact q⟩
 | _=>exact (show False from e).elim
theorem qV(ha:PE X a ta)(he:∀ whole,isTrue a X.env whole=(do let v <- whole;standAt a.pos;holding [v] (truthy v))):
  PT X a (fun σ H Q=>ta σ H fun x H'=>∃ k,nj X.K x H' k/\Q k H'):=by
 intro J0 s σ H Q I h
 exact isTrue_plain (thn (ha J0 s σ H _ I h) fun v s1 ⟨x,H1,I1,r1,q1⟩=>yl J0 s1 σ H1 x v Q I1 r1 q1) (he _)
theorem eF{x:V}{us:List Value}(r:Vals [x] us):∃ u,us=[u]/\RelV x u:=by
 cases r with
 | cons r1 r2=>cases r2;exact⟨_,rfl,r1⟩
theorem jv{x y:V}{us:List Value}(r:Vals [x,y] us):∃ u w',us=[u,w']/\RelV x u/\RelV y w':=by
 cases r with
 | cons r1 r2 =>
   cases r2 with
   | cons r3 r4=>cases r4;exact⟨_,_,rfl,r1,r3⟩
theorem qW(hc:X.calm=true):CallR X (.builtin "max") (fun xs H Q=>∃ i j,xs=[.int i,.int j]/\Q (.int (if j > i then j else i)) H):=by
 intro J0 s σ H xs us Q I r h
 obtain⟨i,j,rfl,q⟩:=h
 obtain⟨u,w',rfl,⟨t,rfl⟩,⟨t',rfl⟩⟩:=jv r
 refine max_two_ints (I.ok.hd hc) fun h' tk k=>⟨_,H,I.kept k,?_,q⟩
 by_cases hj:j > i
 ·rw[if_pos hj,if_pos hj];exact⟨_,rfl⟩
 ·rw[if_neg hj,if_neg hj];exact⟨_,rfl⟩
theorem ym(hc:X.calm=true):CallR X (.builtin "min") (fun xs H Q=>∃ i j,xs=[.int i,.int j]/\Q (.int (if j < i then j else i)) H):=by
 intro J0 s σ H xs us Q I r h
 obtain⟨i,j,rfl,q⟩:=h
 obtain⟨u,w',rfl,⟨t,rfl⟩,⟨t',rfl⟩⟩:=jv r
 refine min_two_ints (I.ok.hd hc) fun h' tk k=>⟨_,H,I.kept k,?_,q⟩
 by_cases hj:j < i
 ·rw[if_pos hj,if_pos hj];exact⟨_,rfl⟩
 ·rw[if_neg hj,if_neg hj];exact⟨_,rfl⟩
theorem qX:CallR X (.type "int") (fun xs H Q=>(∃ i,xs=[.int i]/\Q (.int i) H)\/∃ k,xs=[.bl k]/\Q (.int (if k then 1 else 0)) H):=by
 intro J0 s σ H xs us Q I r h
 rcases h with⟨i,rfl,q⟩ | ⟨k,rfl,q⟩
 ·obtain⟨u,rfl,t,rfl⟩:=eF r
  exact call_int_int ⟨.int i,H,I,⟨_,rfl⟩,q⟩
 ·obtain⟨u,rfl,r1⟩:=eF r
  cases r1
  exact call_int_bool ⟨.int (if k then 1 else 0),H,I.tok _,⟨_,rfl⟩,q⟩
end
end L2
namespace L2
open PySem PySem.Spec PyProof.Rows
structure ObjM (h:Heap) (x dx C:Addr) (mA:Str->Option Value):Prop where
 obj:h.get? x=some (W.instObj C dx)
 ns:h.Ns1 dx mA
 ne:dx ≠ x
theorem yn{h:Heap}{dx:Addr}{mA:Str->Option Value}(n:h.Ns1 dx mA):∃ od,h.get? dx=some od/\∀ name,W.lookIn name od=some (mA name):=by
 obtain⟨o,es,ep,ho,hd,hk,_,hm⟩:=n
 refine⟨o,ho,fun name=>?_⟩
 have e:=hm name
 unfold nsFind findBy at e
 rw[<- Array.find?_toList] at e
 unfold W.lookIn
 rw[hd]
 dsimp only
 split
 ·rename_i y q
  rw[q] at e
  exact congrArg some e
 ·rename_i q
  rw[q] at e
  have a:es.toList.any (·.refKey)=false:=by
   rw[List.any_eq_false]
   intro y hy
   obtain⟨z,t,hkey⟩:=hk y (Array.mem_toList_iff.mp hy)
   simp[DictEntry.refKey,hkey]
  have a':¬ es.toList.any (·.refKey)=true:=by rw[a];exact Bool.false_ne_true
  rw[if_neg a']
  exact congrArg some e
theorem ObjM.look{h:Heap}{x dx C:Addr}{mA:Str->Option Value}(I:ObjM h x dx C mA):∃ od,W.InstAt h x (W.instObj C dx) C (some od)/\∀ name,W.lookIn name od=some (mA name) :=
 let ⟨od,ho,hl⟩:=yn I.ns
 ⟨od,⟨I.obj,rfl,rfl,ho⟩,hl⟩
section
variable {prog:Program}{w:World}{A:Around}{E:Value->Shared->Prop}{s:Shared}{K:W.Frag}{x dx C f:Addr}{mA:Str->Option Value}{name:Str}{v:Value}
theorem yo{expr:Bool}{Q:Value->Shared->Prop}(X:K.In s.heap)(I:ObjM s.heap x dx C mA)(hg:W.plainGet K C name=true)(hh:W.hasDictIn K C=true)(ha:W.findIn K (.ref C) name=some none)(hv:mA name=some v)(hv':W.handedIn v=true)(h:Q v { s with toks:=s.toks+1 }):
  wpAny (model prog w) A (getAttr (.ref x) name expr) Q E s:=by
 obtain⟨od,J,hl⟩:=I.look
 exact W.get_value X J (W.plainGet_of hg).1 (W.findObj_own hh ha rfl (by rw[hl,hv])) hv' h
theorem yp{pl:Sem Bool}{Q:Value × List Value->Shared->Prop}(X:K.In s.heap)(I:ObjM s.heap x dx C mA)(hg:W.plainGet K C name=true)(hf:W.findIn K (.ref C) name=some (some (.ref f)))(ht:W.isFn K (.ref f)=true)(hv:mA name=none)(h:Q (.ref f,[.ref x]) s):
  wpAny (model prog w) A (getMethod (.ref x) name pl) Q E s:=by
 obtain⟨od,J,hl⟩:=I.look
 exact W.method_fn X J (W.plainGet_of hg).1 (W.plainGet_of hg).2 hf (beq_iff_eq.mp ht) (by show (W.lookIn name od).map (·.isSome)=some false;rw[hl,hv];rfl) h
theorem qY{ns:List Str}{Q:Unit->Shared->Prop}(X:K.In s.heap)(I:ObjM s.heap x dx C mA)(hs:W.findIn K (.ref C) "__setattr__" = some (some (.builtin "object.__setattr__")))(hp:W.plainOver K C=true)(ht:W.takerIn K C name=some none)(hh:W.hasDictIn K C=true)(hw:PySem.Within mA ns)(hsz:ns.length<=sizeLine)(h:∀ h',ObjM h' x dx C (fun y=>if y=name then some v else mA y)->Heap.SameBut dx s.heap h'->Q () { s with heap:=h',toks:=s.toks+2 }):
  wpAny (model prog w) A (setAttr (.ref x) name v) Q E s:=by
 obtain⟨od,J,hl⟩:=I.look
 refine W.set_plain X J hs (W.osa_open (s:={ s with toks:=s.toks+1 }) (r:=none) X J hp ht fun b=>?_)
 obtain⟨cd,hc,hd'⟩:=W.any_some hh
 have hx:s.heap.get? x=some ⟨.ref C,some dx,.plain,#[]⟩:=I.obj
 refine wpAny_bind (wpAny_pure (wpAny_bind (wpAny_bind (wpAny_loadPart hx (wpAny_bind (W.Looks.here (s:={ s with toks:=s.toks+1 }) (W.looks_clsIn X hc) ?_))))))
 rw[hd']
 refine wpAny_pure (a:=some dx) (wpAny_bind (wpAny_pure (wpAny_bind ?_)))
 refine wpAny_nsSet1 (s:={ s with toks:=s.toks+1 }) I.ns fun h' hn2 hs2=>?_
 obtain⟨oD,esD,epD,hoD,hdD,hcD⟩:=hn2.count (PySem.Within.cons name v hw)
 refine wpAny_bind (wpAny_lookBehind hoD (by rw[hdD];exact pastItsLine_dict (Nat.le_trans hcD (by rw[List.length_cons];omega))) ?_)
 exact wpAny_pure (h _ ⟨(hs2.2 _ (Ne.symm I.ne)).trans I.obj,hn2,I.ne⟩ hs2)
theorem qZ{R:Result->Shared->Prop}{vs:List Value}{kw:List (Str × Value)}(X:K.In s.heap)(hm:W.makesIn K C=true)(hi:W.findIn K (.ref C) "__init__" = some (some (.ref f)))(hf:W.typeIn K (.ref f)=some (.type "function"))(h:codeAny (model prog w) (A.under (.builtin "type.__call__" ⟨.ref C::vs,kw⟩)) (.call (.ref f) ⟨.ref (s.heap.objs.size+1)::vs,kw⟩) (W.InitBack (s.heap.objs.size+1) R)
   { s with heap:=(s.heap.push W.emptyDict).push (W.instObj C s.heap.objs.size) }):
  codeAny (model prog w) A (.call (.ref C) ⟨vs,kw⟩) R s:=by
 obtain⟨hh,g,d,t,os⟩:=s
 exact W.make_core (W.makes_of X hm) (W.looks_findIn X hi) (fun self=>W.bind_fn X self hf) (.inl rfl) h
end
def cg(f:Str)(v:V):List (Str × V)->List (Str × V)
 | []=>[(f,v)]
 | (g,x)::r=>if g=f then (g,v)::r else (g,x)::cg f v r
theorem r8(f g:Str)(v:V):∀ fs:List (Str × V),(cg f v fs).lookup g=if g=f then some v else fs.lookup g
 | []=>by
   show List.lookup g [(f,v)]=_
   by_cases h:g=f
   ·have hb:(g == f)=true:=beq_iff_eq.mpr h
    simp only[List.lookup,hb,if_pos h]
   ·have hb:(g == f)=false:=beq_eq_false_iff_ne.mpr h
    simp only[List.lookup,hb,if_neg h]
 | (k, x)::r=>by
   have ih:=r8 f g v r
   rw[show cg f v ((k,x)::r)=(if k=f then (k,v)::r else (k,x)::cg f v r) from rfl]
   by_cases hk:k=f
   ·rw[if_pos hk]
    by_cases h:g=k
    ·have hb:(g == k)=true:=beq_iff_eq.mpr h
     simp only[List.lookup,hb,if_pos (h.trans hk)]
    ·have hb:(g == k)=false:=beq_eq_false_iff_ne.mpr h
     simp only[List.lookup,hb,if_neg (fun e:g=f=>h (e.trans hk.symm))]
   ·rw[if_neg hk]
    by_cases h:g=k
    ·have hb:(g == k)=true:=beq_iff_eq.mpr h
     simp only[List.lookup,hb,if_neg (fun e:g=f=>hk (h.symm.trans e))]
    ·have hb:(g == k)=false:=beq_eq_false_iff_ne.mpr h
     simp only[List.lookup,hb]
     exact ih
theorem nk(f:Str)(v:V):∀ fs:List (Str × V),f ∈ (cg f v fs).map (·.1)/\∀ g,g ∈ fs.map (·.1)->g ∈ (cg f v fs).map (·.1)
 | []=>⟨by simp[cg],fun g h=>by simp at h⟩
 | (k, x)::r=>by
   obtain⟨i1,i2⟩:=nk f v r
   rw[show cg f v ((k,x)::r)=(if k=f then (k,v)::r else (k,x)::cg f v r) from rfl]
   by_cases hk:k=f
   ·rw[if_pos hk]
    subst hk
    exact⟨by simp,fun g h=>by simpa using h⟩
   ·rw[if_neg hk]
    refine⟨?_,fun g h=>?_⟩
    ·rw[List.map_cons]
     exact List.mem_cons_of_mem _ i1
    ·rw[List.map_cons] at h ⊢
     rcases List.mem_cons.mp h with e | e
     ·exact List.mem_cons.mpr (.inl e)
     ·exact List.mem_cons_of_mem _ (i2 g e)
theorem ra(f:Str)(v:V):∀ fs:List (Str × V),(cg f v fs).length<=fs.length+1
 | []=>by simp[cg]
 | (k,x)::r=>by
   have ih:=ra f v r
   rw[show cg f v ((k,x)::r)=(if k=f then (k,v)::r else (k,x)::cg f v r) from rfl]
   by_cases hk:k=f
   ·rw[if_pos hk,List.length_cons,List.length_cons];omega
   ·rw[if_neg hk,List.length_cons,List.length_cons];omega
theorem RelO.some_of{v:V}{o:Option Value}(r:RelO (some v) o):∃ u,o=some u/\RelV v u:=by
 cases o with
 | none=>exact (show False from r).elim
 | some u=>exact⟨u,rfl,r⟩
theorem RelO.none_of{o:Option Value}(r:RelO none o):o=none:=by
 cases o with
 | none=>rfl
 | some u=>exact (show False from r).elim
theorem yq{v:V}{u:Value}(r:RelV v u):W.handedIn u=true:=by
 cases v with
 | non=>cases (show u=Value.none from r);rfl
 | bl b=>cases (show u=Value.bool b from r);rfl
 | int i=>obtain⟨t,e⟩:=(show ∃ t,u=Value.int i t from r);cases e;rfl
 | str x=>obtain⟨t,e⟩:=(show ∃ t,u=Value.str x t from r);cases e;rfl
 | byt b=>obtain⟨t,e⟩:=(show ∃ t,u=Value.bytes b t from r);cases e;rfl
 | flt b=>obtain⟨t,e⟩:=(show ∃ t,u=Value.float b t from r);cases e;rfl
 | ref a=>cases (show u=Value.ref a from r);rfl
 | ty n=>cases (show u=Value.type n from r);rfl
section
variable {P:Program}{w:World}{H:Hp}{h:Heap}{a C dx:Addr}{fs:List (Str × V)}
theorem nq(hok:HOk P w H h)(e:H a=some (.ins C dx fs)):∃ mA,ObjM h a dx C mA/\(∀ f,RelO (fs.lookup f) (mA f))/\PySem.Within mA (fs.map (·.1))/\fs.length<=1000/\H dx=some (.own a):=by
 obtain⟨d,z,ne,ob,mA,n,r,q⟩:=(show ObjOk P w H h a (.ins C dx fs) from hok a _ e)
 exact⟨mA,⟨ob,n,ne⟩,r,q,z,d⟩
end
structure Cls (K:W.Frag) (C:Addr):Prop where
 pg:W.plainGet K C Str.empty=true
 hd:W.hasDictIn K C=true
 po:W.plainOver K C=true
 sa:W.findIn K (.ref C) "__setattr__" = some (some (.builtin "object.__setattr__"))
theorem Cls.get{K:W.Frag}{C:Addr}(c:Cls K C)(f:Str):W.plainGet K C f=true:=c.pg
def NoAttr(K:W.Frag)(C:Addr)(f:Str):Prop:=W.findIn K (.ref C) f=some none
theorem NoAttr.taker{K:W.Frag}{C:Addr}{f:Str}(n:NoAttr K C f):W.takerIn K C f=some none:=by
 unfold W.takerIn
 rw[show W.findIn K (.ref C) f=some none from n]
 rfl
structure Con (K:W.Frag) (C:Addr) (f:Str) (v:V) (u:Value):Prop where
 at_:W.findIn K (.ref C) f=some (some u)
 rel:RelV v u
 get:W.specialIn K u "__get__" = some none
 cp:W.copiedNames.contains f=false
structure Meth (K:W.Frag) (C:Addr) (m:Str) (f:Addr):Prop where
 at_:W.findIn K (.ref C) m=some (some (.ref f))
 fn:W.isFn K (.ref f)=true
 kp:W.keepIn K (.ref f)=true
section
variable {X:Cx}{J0:List (Addr × Obj)}{σ:St}{H:Hp}{s:Shared}{a C dx:Addr}{fs:List (Str × V)}{f:Str}{v:V}{A:Around}{E:Value->Shared->Prop}
theorem yr{b:Bool}{Q:Value->Shared->Prop}(I:Inv X J0 σ H s)(e:H a=some (.ins C dx fs))(c:Cls X.K C)(n:NoAttr X.K C f)(l:fs.lookup f=some v)(h:∀ u s',Inv X J0 σ H s'->RelV v u->Q u s'):wpAny (model X.prog X.w) A (getAttr (.ref a) f b) Q E s:=by
 obtain⟨mA,O,r,_,_,_⟩:=nq I.hok e
 obtain⟨u,hu,ru⟩:=RelO.some_of (v:=v) (o:=mA f) (by rw[<- l];exact r f)
 exact yo I.kIn O (c.get f) c.hd n hu (yq ru) (h u _ (I.tok _) ru)
theorem lh{m:Str}{g:Addr}{pl:Sem Bool}{Q:Value × List Value->Shared->Prop}(I:Inv X J0 σ H s)(e:H a=some (.ins C dx fs))(c:Cls X.K C)(k:Meth X.K C m g)(l:fs.lookup m=none)(h:Q (.ref g,[.ref a]) s):wpAny (model X.prog X.w) A (getMethod (.ref a) m pl) Q E s:=by
 obtain⟨mA,O,r,_,_,_⟩:=nq I.hok e
 have hn:mA m=none:=RelO.none_of (by rw[<- l];exact r m)
 exact yp I.kIn O (c.get m) k.at_ k.fn hn h
theorem yt{y:V}{u:Value}{Q:Unit->Shared->Prop}(I:Inv X J0 σ H s)(e:H a=some (.ins C dx fs))(c:Cls X.K C)(n:NoAttr X.K C f)(hl:fs.length < 1000)(ry:RelV y u)(h:∀ s',Inv X J0 σ (upd H a (.ins C dx (cg f y fs))) s'->Q () s'):wpAny (model X.prog X.w) A (setAttr (.ref a) f u) Q E s:=by
 obtain⟨mA,O,r,wi,_,ho⟩:=nq I.hok e
 have hz:(fs.map (·.1)).length<=sizeLine:=by rw[List.length_map,sizeLine_eq];omega
 refine qY I.kIn O c.sa c.po n.taker c.hd wi hz fun h' O' sb=>h _ ?_
 have hd:∃ o,h'.get? dx=some o:=let ⟨o,_,_,e',_⟩:=O'.ns;⟨o,e'⟩
 refine I.write (x:=a) (e:=dx) (by rw[e];exact True.intro) (.inr ho) (fun b q hb z=>(sb.2 b hb).trans z) hd ?_
 refine⟨by rw[aF O.ne];exact ho,?_,O.ne,O'.obj,_,O'.ns,fun g=>?_,fun g hg=>?_⟩
 ·have:=ra f y fs;omega
 ·show RelO ((cg f y fs).lookup g) (if g=f then some u else mA g)
  rw[r8]
  by_cases q:g=f
  ·rw[if_pos q,if_pos q];exact ry
  ·rw[if_neg q,if_neg q];exact r g
 ·by_cases q:g=f
  ·rw[q];exact (nk f y fs).1
  ·refine (nk f y fs).2 g (wi g fun z=>hg ?_)
   show (if g=f then some u else mA g)=none
   rw[if_neg q];exact z
theorem Inv.made(I:Inv X J0 σ H s):Inv X J0 σ (upd (upd H s.heap.objs.size (.own (s.heap.objs.size+1))) (s.heap.objs.size+1) (.ins C s.heap.objs.size []))
  { s with heap:=(s.heap.push W.emptyDict).push (W.instObj C s.heap.objs.size) }:=by
 have e1:(s.heap.push W.emptyDict).get? s.heap.objs.size=some W.emptyDict:=Heap.get?_push_size s.heap rfl
 have e2:((s.heap.push W.emptyDict).push (W.instObj C s.heap.objs.size)).get? (s.heap.objs.size+1)=some (W.instObj C s.heap.objs.size):=by
  have:=Heap.get?_push_size (s.heap.push W.emptyDict) (o:=W.instObj C s.heap.objs.size) rfl
  rwa [Heap.size_push] at this
 have e3:(s.heap.push W.emptyDict).Ns s.heap.objs.size (fun _=>none):=⟨W.emptyDict,#[],_,e1,rfl,(fun e he=>absurd he (by simp)),fun _=>rfl⟩
 have I1:=I.laid (a:=s.heap.objs.size) (o:=.own (s.heap.objs.size+1)) (h':=s.heap.push W.emptyDict) (t':=s.toks) (fun b u q=>Heap.get?_push_of_some _ q) (Nat.le_refl _) ⟨_,e1⟩
 refine I1.laid (a:=s.heap.objs.size+1) (o:=.ins C s.heap.objs.size []) (t':=s.toks) (fun b u q=>Heap.get?_push_of_some _ q) (Nat.le_of_eq (Heap.size_push _ _)) ?_
 have ne:s.heap.objs.size ≠ s.heap.objs.size+1:=Nat.ne_of_lt (Nat.lt_succ_self _)
 refine⟨by rw[aF ne,br],Nat.zero_le _,ne,e2,fun _=>none,(Heap.Ns1.of_empty e3).at fun o q=>Heap.get?_push_of_some _ q,fun _=>True.intro,fun y hy=>absurd rfl hy⟩
theorem yu{prog:Program}{w:World}{env:Env}{e:Expr}{f:Str}{pos:Pos}{s:Shared}{Q:Value->Shared->Prop}(hb:attributeBase e f env (eval e env)=eval e env)(h:wpAny (model prog w) A (eval e env) (fun o s₁=>wpAny (model prog w) A (getAttr o f true) Q E s₁) E s):wpAny (model prog w) A (eval (.Attribute e f pos) env) Q E s :=
 Attribute_any_ h (by rw[arm_eval_Attribute,hb])
end
def yv(K:W.Frag)(ta:TE)(f:Str):TE:=fun σ H Q=>ta σ H fun x H1=>∃ a C dx fs v,x=.ref a/\H1 a=some (.ins C dx fs)/\Cls K C/\NoAttr K C f/\fs.lookup f=some v/\Q v H1
def yw(K:W.Frag)(ta tv:TE)(f:Str):TS:=fun D σ H=>tv σ H fun y H1=>ta σ H1 fun x H2=>∃ a C dx fs,x=.ref a/\H2 a=some (.ins C dx fs)/\Cls K C/\NoAttr K C f/\fs.length < 1000 /\
 D.nx σ (upd H2 a (.ins C dx (cg f y fs)))
section
variable {X:Cx}{o e value:Expr}{f:Str}{pos pos':Pos}{ta tv:TE}
theorem yx(he:PE X e ta)(hb:attributeBase e f X.env (eval e X.env)=eval e X.env):PE X (.Attribute e f pos) (yv X.K ta f):=by
 intro J0 s σ H Q I h
 refine yu hb (thn (he J0 s σ H _ I h) fun u s1 ⟨x,H1,I1,rx,a,C,dx,fs,v,ex,ea,c,n,l,q⟩=>?_)
 subst ex
 obtain rfl:u=Value.ref a:=rx
 exact yr I1 ea c n l fun u' s2 I2 ru=>⟨v,H1,I2,ru,q⟩
theorem rb(ha:PE X o ta)(hv:PE X value tv)(hs:swapsWith value (some (.Attribute o f pos')) pos.line X.env=pure false):PS X (.Assign [.Attribute o f pos'] value pos) (yw X.K ta tv f):=by
 intro J0 s σ H D I h
 refine plainObj_wpAny_Assign_Attribute (thn (hv J0 s σ H _ I h) fun u s1 ⟨y,H1,I1,ry,q⟩=>thn (ha J0 s1 σ H1 _ I1 q) fun ov s2 ⟨x,H2,I2,rx,a,C,dx,fs,ex,ea,c,n,l,q2⟩=>?_) hs
 subst ex
 obtain rfl:ov=Value.ref a:=rx
 exact yt I2 ea c n l ry fun s3 I3=>⟨σ,_,I3,q2⟩
end
section
variable {H:Hp}
inductive TyOf (K:W.Frag) (H:Hp):V->Value->Prop where
 | non:TyOf K H .non (.type "NoneType")
 | bl (x:Bool):TyOf K H (.bl x) (.type "bool")
 | int (i:Int):TyOf K H (.int i) (.type "int")
 | str (x:Str):TyOf K H (.str x) (.type "str")
 | flt (x:UInt64):TyOf K H (.flt x) (.type "float")
 | lst {a:Addr} {xs:List V} (e:H a=some (.lst xs)):TyOf K H (.ref a) (.type "list")
 | frz {a:Addr} {o:Obj} {xs:List V} (e:H a=some (.frz o (.lst xs))):TyOf K H (.ref a) (.type "list")
 | tup {a:Addr} {xs:List V} (e:H a=some (.tup xs)):TyOf K H (.ref a) (.type "tuple")
 | dK {a:Addr} {kvs:List (Key × V)} (e:H a=some (.dK kvs)):TyOf K H (.ref a) (.type "dict")
 | dT {a:Addr} {kvs:List (List Key × V)} (e:H a=some (.dT kvs)):TyOf K H (.ref a) (.type "dict")
 | ins {a C dx:Addr} {fs:List (Str × V)} (e:H a=some (.ins C dx fs)) (cl:Cls K C) (ha:W.findIn K (.ref C) "__class__" = some (some (.builtin "object.__class__")))
   (hn:W.specialIn K (.builtin "object.__class__") "__get__" = some (some (.builtin "getset_descriptor.__get__"))) (htk:W.takesIn K (.builtin "object.__class__")=some true)
   (hm:W.mroIn K C (.type "object")=some true):TyOf K H (.ref a) (.ref C)
end
end L2
namespace L2
open PySem PySem.Spec PyProof.Rows
structure Room (k:Nat) (A:Around):Prop where
 hd:A.handled=none
 dp:A.depth+3 * k+5 < recursionLimit
 un:A.units+16 * k+200 < cLine
theorem Room.mono{j k:Nat}{A:Around}(r:Room k A)(h:j<=k):Room j A:=⟨r.hd,by have:=r.dp;omega,by have:=r.un;omega⟩
theorem Room.deeper{k:Nat}{A:Around}(r:Room (k+1) A)(env:Env):Room k (A.deeper env) :=
 ⟨r.hd,by have:=r.dp;show A.depth+1+3 * k+5 < _;omega,by have:=r.un;show A.units+3+16 * k+200 < _;omega⟩
theorem Room.in1{k:Nat}{A:Around}(r:Room (k+1) A):Room k A.in1 :=
 ⟨r.hd,by have:=r.dp;show A.depth+3 * k+5 < _;omega,by have:=r.un;show A.units+1+16 * k+200 < _;omega⟩
theorem yy{A:Around}{C:Addr}{us:List Value}{kw:List (Str × Value)}:(A.under (.builtin "type.__call__" ⟨.ref C::us,kw⟩)).depth=A.depth+1:=by
 first | rfl | simp[Around.under,Code.weight,Code.isCreation,Code.isGuard,Code.isCaller,Code.frames,Code.isFrame,guardIds]
theorem yz{A:Around}{C:Addr}{us:List Value}{kw:List (Str × Value)}:(A.under (.builtin "type.__call__" ⟨.ref C::us,kw⟩)).units=A.units+1:=by
 first | rfl | simp[Around.under,Code.cUnits,Code.frames,Code.isFrame]
theorem Room.make{k:Nat}{A:Around}(r:Room (k+1) A)(C:Addr)(us:List Value)(kw:List (Str × Value)):Room k (A.under (.builtin "type.__call__" ⟨.ref C::us,kw⟩)) :=
 ⟨r.hd,by have:=r.dp;rw[yy];omega,by have:=r.un;rw[yz];omega⟩
theorem Room.depth{k:Nat}{A:Around}(r:Room k A):A.depth < recursionLimit:=by have:=r.dp;omega
theorem Room.units{k:Nat}{A:Around}(r:Room k A):A.units+64 < cLine:=by have:=r.un;omega
def nr:TA:=fun _ H Q=>Q [] H
def rf(ta:TE)(tr:TA):TA:=fun σ H Q=>ta σ H fun x H1=>tr σ H1 fun xs H2=>Q (x::xs) H2
section
variable {X:Cx}{e:Expr}{es:List Expr}{te:TE}{t:TA}{pos:Pos}
theorem dG:PA X [] nr:=fun _ _ _ _ H Q I h=>Calls.spliced_nil ⟨[],H,I,.nil,h⟩
theorem cN(ha:PE X e te)(hr:PA X es t)(hs:starEach (e::es) X.env=(false,eval e X.env)::starEach es X.env:=by rfl):PA X (e::es) (rf te t):=by
 intro pos J0 s σ H Q I h
 rw[hs]
 show wpAny _ _ (spliced ((false,eval e X.env)::backTo pos (starEach es X.env))) _ _ s
 refine Calls.spliced_cons (thn (ha J0 s σ H _ I h) fun u s1 ⟨x,H1,I1,r1,q1⟩=>?_)
 exact thn (hr pos J0 s1 σ H1 _ I1 q1) fun us s2 ⟨xs,H2,I2,r2,q2⟩=>⟨x::xs,H2,I2,.cons r1 r2,q2⟩
def yA(t:TA):TE:=fun σ H Q=>t σ H fun xs H1=>xs.length<=sizeLine/\∀ p,H1 p=none->Q (.ref p) (upd H1 p (.tup xs))
def yB(t:TA):TE:=fun σ H Q=>t σ H fun xs H1=>xs.length<=sizeLine/\∀ p,H1 p=none->Q (.ref p) (upd H1 p (.lst xs))
theorem rg{x1}(h:PA X es t):PE X (.Tuple es x1 pos) (yA t):=by
 intro J0 s σ H Q I hq
 refine wpAny_Tuple_spliced (thn (h pos J0 s σ H _ I hq) fun us s1 ⟨xs,H1,I1,r,z,q⟩=>⟨by rw[<- r.length];exact z,?_⟩)
 have hf:H1 s1.heap.objs.size=none:=I1.hok.fresh (Nat.le_refl _)
 refine⟨.ref s1.heap.objs.size,upd H1 s1.heap.objs.size (.tup xs),I1.laid (t':=s1.toks) (fun b u e=>Heap.get?_push_of_some _ e) (Nat.le_refl _) ?_,rfl,q _ hf⟩
 exact⟨z,us,r,⟨_,Heap.get?_push_size _ rfl,rfl,_,rfl⟩⟩
theorem rh(h:PA X es t):PE X (.List es pos) (yB t):=by
 intro J0 s σ H Q I hq
 refine wpAny_List_spliced (thn (h pos J0 s σ H _ I hq) fun us s1 ⟨xs,H1,I1,r,z,q⟩=>⟨by rw[<- r.length];exact z,?_⟩)
 have hf:H1 s1.heap.objs.size=none:=I1.hok.fresh (Nat.le_refl _)
 refine⟨.ref s1.heap.objs.size,upd H1 s1.heap.objs.size (.lst xs),I1.laid (t':=s1.toks) (fun b u e=>Heap.get?_push_of_some _ e) (Nat.le_refl _) ?_,rfl,q _ hf⟩
 exact⟨z,us,0,r,Heap.get?_push_size _ rfl⟩
end
abbrev Sp:=List V->Hp->VK->XK->Prop
abbrev CXT:=List Env->Hp->Shared->XK->Value->Shared->Prop
structure Env0 (P:Program) (w:World) (K:W.Frag) (mg:Str->Option Value) (base:Heap) (A:Around) (outer:List Env) (s:Shared) (H:Hp):Prop where
 frames:A.frames=some outer
 mod:Mod K mg base
 bs:∀ b o,base.get? b=some o->s.heap.get? b=some o/\H b=none
 bsz:base.objs.size<=s.heap.objs.size
 funs:s.heap.FunFrames base outer
 frf:∀ b ∈ frs outer,H b=none
 hok:HOk P w H s.heap
 bare:AllBare s.gens
def CE(outer:List Env)(P:Program)(w:World)(H:Hp)(s:Shared)(Q:VK)(u:Value)(s':Shared):Prop :=
 ∃ v H',s'.os=s.os/\AllBare s'.gens/\Un (frs outer) [] H H' s.heap s'.heap/\HOk P w H' s'.heap/\RelV v u/\Q v H'
def CR(CX:CXT)(outer:List Env)(P:Program)(w:World)(H:Hp)(s:Shared)(Q:VK)(E:XK)(r:Result)(s':Shared):Prop :=
 match r with
 | .ok (.ret u)=>CE outer P w H s Q u s'
 | .ok _=>False
 | .error e=>CX outer H s E e s'
structure FnOk (P:Program) (w:World) (K:W.Frag) (mg:Str->Option Value) (base:Heap) (CX:CXT) (k:Nat) (f:Addr) (fd:FuncData) (ps:List Str) (sp:Sp):Prop where
 len:∀ vs H Q E,sp vs H Q E->vs.length=ps.length
 run:∀ (A:Around) (outer:List Env) (s:Shared) (H:Hp) (args:Args) (us:List Value) (vs:List V) (Q:VK) (E:XK),Room k A->Env0 P w K mg base A outer s H->BindsTo s fd args (ps.zip us)->Vals vs us->sp vs H Q E ->
  codeAny (model P w) A (.call (.ref f) args) (CR CX outer P w H s Q E) s
theorem FnOk.mono{P:Program}{w:World}{K:W.Frag}{mg:Str->Option Value}{base:Heap}{CX:CXT}{j k:Nat}{f:Addr}{fd:FuncData}{ps:List Str}{sp:Sp}(F:FnOk P w K mg base CX j f fd ps sp)(h:j<=k):
  FnOk P w K mg base CX k f fd ps sp:=⟨F.len,fun A outer s H args us vs Q E hr=>F.run A outer s H args us vs Q E (hr.mono h)⟩
theorem FnOk.imp{P:Program}{w:World}{K:W.Frag}{mg:Str->Option Value}{base:Heap}{CX:CXT}{k:Nat}{f:Addr}{fd:FuncData}{ps:List Str}{sp sp':Sp}(F:FnOk P w K mg base CX k f fd ps sp)(h:∀ vs H Q E,sp' vs H Q E->sp vs H Q E):FnOk P w K mg base CX k f fd ps sp' :=
 ⟨fun vs H Q E q=>F.len vs H Q E (h _ _ _ _ q),fun A outer s H args us vs Q E hr he hb hv hs=>F.run A outer s H args us vs Q E hr he hb hv (h _ _ _ _ hs)⟩
theorem Env0.make{P:Program}{w:World}{K:W.Frag}{mg:Str->Option Value}{base:Heap}{A:Around}{outer:List Env}{s:Shared}{H:Hp}(e:Env0 P w K mg base A outer s H)(C:Addr)(us:List Value)(kw:List (Str × Value)):
  Env0 P w K mg base (A.under (.builtin "type.__call__" ⟨.ref C::us,kw⟩)) outer s H:=⟨by first | exact e.frames | (simpa [Around.under,Code.envs,Code.isFrame,pushEnvs] using e.frames),e.mod,e.bs,e.bsz,e.funs,e.frf,e.hok,e.bare⟩
theorem Env0.in1{P:Program}{w:World}{K:W.Frag}{mg:Str->Option Value}{base:Heap}{A:Around}{outer:List Env}{s:Shared}{H:Hp}(e:Env0 P w K mg base A outer s H):
  Env0 P w K mg base A.in1 outer s H:=⟨e.frames,e.mod,e.bs,e.bsz,e.funs,e.frf,e.hok,e.bare⟩
section
variable {X:Cx}{J0:List (Addr × Obj)}{σ:St}{H:Hp}{s s':Shared}
theorem Inv.env0(I:Inv X J0 σ H s):Env0 X.prog X.w X.K X.mg X.base X.A X.stack s H :=
 ⟨I.ok.frames,I.ok.mod,I.bs,Nat.le_trans I.ok.bsz I.sz,I.stack,I.stkFree,I.hok,I.bare⟩
theorem Inv.after{Q:VK}{u:Value}(I:Inv X J0 σ H s)(h:CE X.stack X.prog X.w H s Q u s'):EP X J0 σ Q u s':=by
 obtain⟨v,H',os,bare,un,hok,r,q⟩:=h
 obtain⟨hh,g,d,t,os'⟩:=s'
 obtain rfl:os'=s.os:=os
 exact⟨v,H',I.call (h':=hh) (g':=g) (d':=d) (t':=t) (ch:=[]) un hok bare (fun b z=>absurd z (by simp)),r,q⟩
end
def yC(sp:Sp)(dvs:List V)(E:XK)(t:TA):TE:=fun σ H Q=>t σ H fun vs H1=>sp (vs++dvs) H1 Q E
def rj(C:Addr)(m:Str)(sp:Sp)(dvs:List V)(E:XK)(ta:TE)(t:TA):TE:=fun σ H Q=>ta σ H fun x H1=>∃ a dx fs,x=.ref a/\H1 a=some (.ins C dx fs)/\fs.lookup m=none /\
 t σ H1 fun vs H2=>sp (x::(vs++dvs)) H2 Q E
def yD(C:Addr)(sp:Sp)(dvs:List V)(E:XK)(t:TA):TE:=fun σ H Q=>t σ H fun vs H1=>∀ x dx,H1 x=none->H1 dx=none->dx ≠ x ->
 sp (.ref x::(vs++dvs)) (upd (upd H1 dx (.own x)) x (.ins C dx [])) (fun v H2=>v=.non/\Q (.ref x) H2) E
def Binds(K:W.Frag)(fd:FuncData)(ps:List Str)(ds:List Value):Prop :=
 ∀ (s:Shared) (us:List Value),K.In s.heap->(us++ds).length=ps.length->BindsTo s fd ⟨us,[]⟩ (ps.zip (us++ds))
theorem Binds.all{K:W.Frag}{fd:FuncData}{ps:List Str}(h:∀ us:List Value,us.length=ps.length->bindArgs fd ⟨us,[]⟩=pure (ps.zip us)):Binds K fd ps []:=fun s us _ hl=>by
 rw[List.append_nil] at hl ⊢
 exact .of_eq (h us hl)
def ff(CX:CXT)(X:Cx)(E:XK):Prop:=∀ (J0:List (Addr × Obj)) (σ:St) (H:Hp) (s:Shared) (e:Value) (s':Shared),Inv X J0 σ H s->CX X.stack H s E e s'->X.xe e s'
section
variable {X:Cx}{CX:CXT}{k:Nat}{f C:Addr}{fd:FuncData}{ps:List Str}{sp:Sp}{dvs:List V}{ds:List Value}{E:XK}{x m:Str}{p pos apos:Pos}{e o:Expr}{es:List Expr}{ta:TE}{t:TA}
theorem nu{J0:List (Addr × Obj)}{σ:St}{H:Hp}{s:Shared}{Q:VK}{us:List Value}{vs:List V}(F:FnOk X.prog X.w X.K X.mg X.base CX k f fd ps sp)(hr:Room k X.A)(hb:Binds X.K fd ps ds)(hd:Vals dvs ds)(hx:ff CX X E)(I:Inv X J0 σ H s)(r:Vals vs us)(h:sp (vs++dvs) H Q E):wpAny (model X.prog X.w) X.A (call (.ref f) us) (EP X J0 σ Q) X.xe s:=by
 have r2:Vals (vs++dvs) (us++ds):=r.append hd
 have hl:(us++ds).length=ps.length:=by rw[<- r2.length];exact F.len _ _ _ _ h
 refine wpAny_call (codeAny_mono (F.run X.A X.stack s H ⟨us,[]⟩ (us++ds) (vs++dvs) Q E hr I.env0 (hb s us I.kIn hl) r2 h) fun r s' hq=>?_)
 cases r with
 | error e=>exact hx J0 σ H s e s' I hq
 | ok fl =>
   cases fl with
   | ret u=>exact I.after hq
   | next=>exact False.elim hq
   | brk=>exact False.elim hq
   | cont=>exact False.elim hq
theorem li(F:FnOk X.prog X.w X.K X.mg X.base CX k f fd ps sp)(hr:Room k X.A)(hg:Gl X x)(hm:X.mg x=some (.ref f))(hk:W.keepIn X.K (.ref f)=true)(hb:Binds X.K fd ps ds)(hd:Vals dvs ds)(hx:ff CX X E)(ha:PA X (e::es) t)(hdb:(x == ("__debug__" : Str))=false:=by decide)(he:starEach (e::es) X.env=(false,eval e X.env)::starEach es X.env:=by rfl)(hpl:(backTo pos (starEach es X.env)).any (·.1)=false:=by rfl):
  PE X (.Call (.Name x p) (e::es) [] pos) (yC sp dvs E t):=by
 intro J0 s σ H Q I h
 refine wpAny_Call_Name_kw (gt I hg hm ?_ hdb)
 refine W.callWith_K (h₀:=X.base) I.ok.mod.kin hk (thn (ha pos J0 s σ H _ I h) fun us s1 ⟨vs,H1,I1,r,q⟩=>⟨I1.kIn,?_⟩) he hpl
 exact nu F hr hb hd hx I1 r q
theorem yE{pl:Sem Bool}(he:PE X o ta)(c:Cls X.K C)(hm:Meth X.K C m f)(F:FnOk X.prog X.w X.K X.mg X.base CX k f fd ps sp)(hr:Room k X.A)(hb:Binds X.K fd ps ds)(hd:Vals dvs ds)(hx:ff CX X E)(ha:PA X (e::es) t)(hst:starEach (e::es) X.env=(false,eval e X.env)::starEach es X.env:=by rfl)(hpl:(backTo pos (starEach es X.env)).any (·.1)=false:=by rfl)(ht:eval (.Call (.Attribute o m apos) (e::es) [] pos) X.env=(do
   let ov <- eval o X.env
   standAt apos.atName
   let (f,first) <- holding [ov] (getMethod ov m pl)
   callWith pos f first (backTo pos (starEach (e::es) X.env)) (backToKw pos (keywordEach [] X.env))):=by rfl):
  PE X (.Call (.Attribute o m apos) (e::es) [] pos) (rj C m sp dvs E ta t):=by
 intro J0 s σ H Q I h
 refine W.methodCall_KW (pl:=pl) (thn (he J0 s σ H _ I h) fun u s1 ⟨x,H1,I1,rx,a,dx,fs,ex,ea,l,q⟩=>?_) ht
 subst ex
 obtain rfl:u=Value.ref a:=rx
 refine lh I1 ea c hm l ?_
 refine W.callWith_K (first:=[.ref a]) (h₀:=X.base) I.ok.mod.kin hm.kp (thn (ha pos J0 s1 σ H1 _ I1 q) fun us s2 ⟨vs,H2,I2,r,q2⟩=>⟨I2.kIn,?_⟩) hst hpl
 exact nu (us:=.ref a::us) (vs:=.ref a::vs) F hr hb hd hx I2 (.cons rfl r) q2
theorem yF{pl:Sem Bool}(he:PE X o ta)(c:Cls X.K C)(hm:Meth X.K C m f)(F:FnOk X.prog X.w X.K X.mg X.base CX k f fd ps sp)(hr:Room k X.A)(hb:Binds X.K fd ps ds)(hd:Vals dvs ds)(hx:ff CX X E)(ht:eval (.Call (.Attribute o m apos) [] [] pos) X.env=(do
   let ov <- eval o X.env
   standAt apos.atName
   let (f,first) <- holding [ov] (getMethod ov m pl)
   callWith pos f first (backTo pos (starEach [] X.env)) (backToKw pos (keywordEach [] X.env))):=by rfl):
  PE X (.Call (.Attribute o m apos) [] [] pos) (rj C m sp dvs E ta nr):=by
 intro J0 s σ H Q I h
 refine W.methodCall_KW (pl:=pl) (thn (he J0 s σ H _ I h) fun u s1 ⟨x,H1,I1,rx,a,dx,fs,ex,ea,l,q⟩=>?_) ht
 subst ex
 obtain rfl:u=Value.ref a:=rx
 refine lh I1 ea c hm l ?_
 exact W.callWith_K0 (first:=[.ref a]) I1.kIn hm.kp (nu (us:=[.ref a]) (vs:=[.ref a]) F hr hb hd hx I1 (.cons rfl .nil) q)
structure Mk (K:W.Frag) (C f:Addr):Prop where
 makes:W.makesIn K C=true
 init:W.findIn K (.ref C) "__init__" = some (some (.ref f))
 fn:W.isFn K (.ref f)=true
 kp:W.keepIn K (.ref C)=true
theorem yG{J0:List (Addr × Obj)}{σ:St}{H:Hp}{s:Shared}{Q:VK}{us:List Value}{vs:List V}(M:Mk X.K C f)(F:FnOk X.prog X.w X.K X.mg X.base CX k f fd ps sp)(hr:Room (k+1) X.A)(hb:Binds X.K fd ps ds)(hd:Vals dvs ds)(hx:ff CX X E)(I:Inv X J0 σ H s)(r:Vals vs us)(h:∀ x dx,H x=none->H dx=none->dx ≠ x->sp (.ref x::(vs++dvs)) (upd (upd H dx (.own x)) x (.ins C dx [])) (fun v H2=>v=.non/\Q (.ref x) H2) E):
  wpAny (model X.prog X.w) X.A (call (.ref C) us) (EP X J0 σ Q) X.xe s:=by
 have hq:=h (s.heap.objs.size+1) s.heap.objs.size (I.hok.fresh (Nat.le_succ _)) (I.hok.fresh (Nat.le_refl _)) (Nat.ne_of_lt (Nat.lt_succ_self _))
 have I2:=Inv.made (C:=C) I
 have r2:Vals (V.ref (s.heap.objs.size+1)::(vs++dvs)) (Value.ref (s.heap.objs.size+1)::(us++ds)):=.cons rfl (r.append hd)
 have hl:(Value.ref (s.heap.objs.size+1)::us++ds).length=ps.length:=by
  have e:=r2.length
  rw[F.len _ _ _ _ hq] at e
  exact e.symm
 refine wpAny_call (qZ (f:=f) I.kIn M.makes M.init (beq_iff_eq.mp M.fn) (codeAny_mono (F.run _ X.stack _ _ ⟨Value.ref (s.heap.objs.size+1)::us,[]⟩ (Value.ref (s.heap.objs.size+1)::(us++ds)) _ _ E (hr.make C us [])
  (I2.env0.make C us []) (hb _ (Value.ref (s.heap.objs.size+1)::us) I2.kIn hl) r2 hq) fun r s' hq'=>?_))
 cases r with
 | error e=>exact hx J0 σ _ _ e s' I2 hq'
 | ok fl =>
   cases fl with
   | ret u =>
     obtain⟨v,H',I3,rv,ev,q3⟩:=I2.after hq'
     subst ev
     exact⟨rv,⟨V.ref (s.heap.objs.size+1),H',I3,rfl,q3⟩⟩
   | next=>exact False.elim hq'
   | brk=>exact False.elim hq'
   | cont=>exact False.elim hq'
theorem yH(M:Mk X.K C f)(F:FnOk X.prog X.w X.K X.mg X.base CX k f fd ps sp)(hr:Room (k+1) X.A)(hg:Gl X x)(hm:X.mg x=some (.ref C))(hb:Binds X.K fd ps ds)(hd:Vals dvs ds)(hx:ff CX X E)(ha:PA X (e::es) t)(hdb:(x == ("__debug__" : Str))=false:=by decide)(he:starEach (e::es) X.env=(false,eval e X.env)::starEach es X.env:=by rfl)(hpl:(backTo pos (starEach es X.env)).any (·.1)=false:=by rfl):
  PE X (.Call (.Name x p) (e::es) [] pos) (yD C sp dvs E t):=by
 intro J0 s σ H Q I h
 refine wpAny_Call_Name_kw (gt I hg hm ?_ hdb)
 refine W.callWith_K (h₀:=X.base) I.ok.mod.kin M.kp (thn (ha pos J0 s σ H _ I h) fun us s1 ⟨vs,H1,I1,r,q⟩=>⟨I1.kIn,?_⟩) he hpl
 exact yG M F hr hb hd hx I1 r q
end
section
variable {fd:FuncData}{ps ks:List Str}
structure KBinds (K:W.Frag) (fd:FuncData) (ps ks:List Str) (g:List Value->List Value->List Value) (gV:List V->List V->List V):Prop where
 to:∀ (s:Shared) (us ws:List Value),K.In s.heap->(g us ws).length=ps.length->BindsTo s fd ⟨us,ks.zip ws⟩ (ps.zip (g us ws))
 rel:∀ {vs:List V} {us:List Value} {zs:List V} {ws:List Value},Vals vs us->Vals zs ws->Vals (gV vs zs) (g us ws)
end
structure FnScope (N P:List Str) (sc:Scope):Prop where
 kind:sc.kind=.function
 co:sc.isCoroutine=false
 gen:sc.isGenerator=false
 nd:N.Nodup
 pre:N.take P.length=P
 par:∀ x ∈ P,sc.names.lookup x=some .local\/sc.names.lookup x=some .cell
 nofree:∀ y ∈ sc.names,y.2 ≠ .free
theorem rl{kindOf:Str->Option NameKind}{x:Str}:∀ {binds:List (Str × Value)} {m:Str->Option Value},(∀ v,(x,v) ∉ binds)->bindL kindOf binds m x=m x
 | [],_,_=>rfl
 | (n,v)::r,m,h=>by
   unfold bindL
   rw[rl fun w hw=>h w (List.mem_cons_of_mem _ hw)]
   split
   ·have:x ≠ n:=by rintro rfl;exact h v List.mem_cons_self
    simp[this]
   ·rfl
theorem rm{kindOf:Str->Option NameKind}{x:Str}:∀ {binds:List (Str × Value)} {m:Str->Option Value},(∀ v,(x,v) ∉ binds)->bindC kindOf binds m x=m x
 | [],_,_=>rfl
 | (n,v)::r,m,h=>by
   unfold bindC
   rw[rm fun w hw=>h w (List.mem_cons_of_mem _ hw)]
   split
   ·rfl
   ·have:x ≠ n:=by rintro rfl;exact h v List.mem_cons_self
    simp[this]
theorem rn{kindOf:Str->Option NameKind}{x:Str}{v:Value}:∀ {P:List Str} {vs:List Value} {i:Nat} {m:Str->Option Value},P.Nodup->P[i]?=some x->vs[i]?=some v->kindOf x=some .local ->
  bindL kindOf (P.zip vs) m x=some v
 | [],_,_,_,_,h,_,_=>by simp at h
 | _::_,[],_,_,_,_,h,_=>by simp at h
 | p::P,w::vs,0,m,nd,h1,h2,hk=>by
   simp at h1 h2;subst h1;subst h2
   show bindL kindOf ((p,w)::P.zip vs) m p=_
   unfold bindL
   rw[rl fun v hv=>(List.nodup_cons.mp nd).1 (List.of_mem_zip hv).1,if_pos hk]
   simp
 | p::P,w::vs,i+1,m,nd,h1,h2,hk=>by
   show bindL kindOf ((p,w)::P.zip vs) m x=_
   unfold bindL
   exact rn (i:=i) (List.nodup_cons.mp nd).2 (by simpa using h1) (by simpa using h2) hk
theorem rp{kindOf:Str->Option NameKind}{x:Str}{v:Value}:∀ {P:List Str} {vs:List Value} {i:Nat} {m:Str->Option Value},P.Nodup->P[i]?=some x->vs[i]?=some v->kindOf x ≠ some .local ->
  bindC kindOf (P.zip vs) m x=some v
 | [],_,_,_,_,h,_,_=>by simp at h
 | _::_,[],_,_,_,_,h,_=>by simp at h
 | p::P,w::vs,0,m,nd,h1,h2,hk=>by
   simp at h1 h2;subst h1;subst h2
   show bindC kindOf ((p,w)::P.zip vs) m p=_
   unfold bindC
   rw[rm fun v hv=>(List.nodup_cons.mp nd).1 (List.of_mem_zip hv).1,if_neg hk]
   simp
 | p::P,w::vs,i+1,m,nd,h1,h2,hk=>by
   show bindC kindOf ((p,w)::P.zip vs) m x=_
   unfold bindC
   exact rp (i:=i) (List.nodup_cons.mp nd).2 (by simpa using h1) (by simpa using h2) hk
def start(N:List Str)(vs:List V):St:=vs.map some++List.replicate (N.length - vs.length) none
def cG(CX:CXT)(P:Program)(w:World)(K:W.Frag)(mg:Str->Option Value)(base:Heap)(N:List Str)(qual:Str)(scope:Scope)(f:Addr)(cd:Value)(A:Around)(outer:List Env)(s:Shared)(H:Hp)(E:XK):Cx where
 prog:=P
 w:=w
 K:=K
 mg:=mg
 base:=base
 A:=A.deeper (envOfC qual scope s.heap.objs.size f cd)
 N:=N
 s₀:=s
 H₀:=H
 env:=envOfC qual scope s.heap.objs.size f cd
 outer:=outer
 stack:=envOfC qual scope s.heap.objs.size f cd::outer
 ex:=[]
 calm:=true
 fn:=fun _=>true
 pn:=[]
 xe:=fun e s'=>wpAny (model P w) (A.deeper (envOfC qual scope s.heap.objs.size f cd)) (leaving (envOfC qual scope s.heap.objs.size f cd) e) (fun _ s''=>CX outer H s E e s'') (fun e' s''=>CX outer H s E e' s'') s'
theorem rq{sc:Scope}{n:Nat}{x:Str}(h:sc.names.lookup x=some .cell):∃ c,(cellsFrom n sc.names []).lookup x=some c:=by
 have q:=W.cellsFrom_some sc.names n [] (.inl h)
 exact Option.isSome_iff_exists.mp q
theorem yI{CX:CXT}{P:Program}{w:World}{K:W.Frag}{mg:Str->Option Value}{base:Heap}{N ps:List Str}{qual:Str}{scope:Scope}{f:Addr}{cd:Value}{A:Around}{outer:List Env}{s s1:Shared}{H:Hp}{E:XK}{us:List Value}{vs:List V}(S:FnScope N ps scope)(hd:A.handled=none)(e0:Env0 P w K mg base A outer s H)(hl:vs.length=ps.length)(r:Vals vs us)(x:InCallC s s.heap.objs.size (bindL (envOfC qual scope s.heap.objs.size f cd).kindOf (ps.zip us) fun _=>none) (cellsFrom (s.heap.objs.size+1) scope.names []) (bindC (envOfC qual scope s.heap.objs.size f cd).kindOf (ps.zip us) fun _=>none) s1):
  Inv (cG CX P w K mg base N qual scope f cd A outer s H E) [] (start N vs) H s1:=by
 have hpl:ps.length<=N.length:=by have:=congrArg List.length S.pre;rw[List.length_take] at this;omega
 obtain⟨h1,tk,rfl,hk⟩:=x.done
 have noA:∀ b:Addr,b ∉ (cG CX P w K mg base N qual scope f cd A outer s H E).ex:=fun b z=>absurd (show b ∈ ([]:List Addr) from z) (by simp)
 refine⟨⟨e0.mod,S.kind,rfl,rfl,Nat.le_refl _,fun y z c h1 h2=>?_,fun y hy=>?_,fun y c _ h=>?_,fun _=>hd,Around.frames_deeper e0.frames,.inr ⟨rfl,rfl⟩,fun b z=>absurd z (noA b),e0.bs,e0.bsz,fun b _ _=>noA b,fun b z=>absurd z (noA b),e0.funs,e0.frf⟩,
  rfl,e0.bare,Un.kept hk,⟨_,x.toInCall.ns,fun i y v h1 h2 h3=>?_⟩,fun y c h=>⟨_,x.cell y c h⟩,e0.hok.fresh (Nat.le_refl _),fun y c h=>?_,fun p hp=>absurd (show p ∈ ([]:List (Addr × Obj)) from hp) (by simp),e0.hok.kept hk,?_⟩
 ·exact name_of_addr x.apart (PySem.mem_of_lookup h1) (PySem.mem_of_lookup h2)
 ·have hy:scope.names.lookup y=some .cell\/scope.names.lookup y=some .free:=hy
  rcases hy with hy | hy
  ·exact rq hy
  ·exact absurd rfl (S.nofree _ (PySem.mem_of_lookup hy))
 ·exact Nat.le_of_lt (x.above y c (PySem.mem_of_lookup h))
 ·have hi:i < vs.length:=by
   unfold start at h2
   by_cases hi:i < vs.length
   ·exact hi
   ·rw[List.getElem?_append_right (by simpa using hi)] at h2
    rw[List.getElem?_replicate] at h2
    split at h2 <;> cases h2
  have ha:vs[i]?=some v:=by
   unfold start at h2
   rw[List.getElem?_append_left (by simpa using hi),List.getElem?_map] at h2
   cases e:vs[i]? with
   | none=>rw[e] at h2;cases h2
   | some a=>rw[e] at h2;cases h2;rfl
  obtain⟨u,hu,rv⟩:=r.get ha
  have hp:ps[i]?=some y:=by
   rw[<- S.pre,List.getElem?_take_of_lt (by omega)];exact h1
  have ndP:ps.Nodup:=by rw[<- S.pre];exact S.nd.sublist (List.take_sublist _ _)
  refine⟨u,rv,?_⟩
  rcases S.par y (List.mem_of_getElem? hp) with k | k
  ·exact .inl ⟨k,rn ndP hp hu k⟩
  ·obtain⟨c,e⟩:=rq (n:=s.heap.objs.size+1) k
   refine .inr ⟨.inl k,c,e,?_⟩
   have q:=x.cell y c e
   rw[rp ndP hp hu (by show scope.names.lookup y ≠ _;rw[k];decide)] at q
   exact q
 ·exact e0.hok.fresh (Nat.le_of_lt (x.above y c (PySem.mem_of_lookup h)))
 ·unfold start
  show _=N.length
  rw[List.length_append,List.length_map,List.length_replicate]
  omega
theorem rz{CX:CXT}{P:Program}{w:World}{K:W.Frag}{mg:Str->Option Value}{base:Heap}{k:Nat}{f:Addr}{name qual:Str}{params:Arguments}{body:List Stmt}{scope:Scope}{dV kV doc pm cdv ct oc:Value}{an od:Option Addr}{osl:Array (Option Value)}{N ps:List Str}{sp:Sp}(lk:K.lookup f=some ⟨oc,od,.func (W.fnOf name qual params body scope dV kV doc pm an cdv ct),osl⟩)(hcd:W.codeIn K cdv qual=true)(S:FnScope N ps scope)(len:∀ vs H Q E,sp vs H Q E->vs.length=ps.length)(hbody:∀ (A:Around) (outer:List Env) (s:Shared) (H:Hp) (vs:List V) (Q:VK) (E:XK),Room k (A.deeper (envOfC qual scope s.heap.objs.size f cdv))->sp vs H Q E ->
   ∃ t,PSs (cG CX P w K mg base N qual scope f cdv A outer s H E) body t/\t { nx:=fun _ H'=>Q .non H',rt:=Q } (start N vs) H):
  FnOk P w K mg base CX (k+1) f (W.fnOf name qual params body scope dV kV doc pm an cdv ct) ps sp:=by
 refine⟨len,fun A outer s H args us vs Q E hr e0 hb r hsp=>?_⟩
 have hl:=len _ _ _ _ hsp
 have KX:K.In s.heap:=e0.mod.kin.keeps fun b o e=>(e0.bs b o e).1
 have lim:s.heap.NoLimit:=e0.mod.nolimit.keeps fun b o e=>(e0.bs b o e).1
 have hkind:∀ y ∈ ps.zip us,scope.names.lookup y.1=some .local\/(scope.names.lookup y.1=some .cell/\((cellsFrom (s.heap.objs.size+1) scope.names []).lookup y.1).isSome=true):=fun⟨n,v⟩ hy=>by
  rcases S.par n (List.of_mem_zip hy).1 with q | q
  ·exact .inl q
  ·exact .inr ⟨q,W.cellsFrom_some _ _ _ (.inl q)⟩
 refine codeAny_call_function hr.depth (KX _ _ lk) rfl S.co S.gen rfl (W.codeRec_of KX hcd) (hb _ _ _ _ ?_)
 refine wpAny_newFunctionEnv_cells S.kind hkind fun env he s1 x=>?_
 subst he
 refine⟨lim.keeps x.toInCall.keep,codeAny_func ?_⟩
 obtain⟨t,ht,hq⟩:=hbody A outer s H vs Q E (hr.deeper _) hsp
 have I:Inv (cG CX P w K mg base N qual scope f cdv A outer s H E) [] (start N vs) H s1:=yI S hr.hd e0 hl r x
 refine wpAny_mono (ht [] s1 (start N vs) H _ I hq) (fun fl s' hs=>?_) fun e s' hs=>hs
 have fin:∀ {σ':St} {H':Hp} {v:V} {u:Value},Inv (cG CX P w K mg base N qual scope f cdv A outer s H E) [] σ' H' s'->RelV v u->Q v H'->CE outer P w H s Q u s' :=
  fun {σ' H' v u} J rv q=>⟨v,H',J.os,J.bare,J.base,J.hok,rv,q⟩
 cases fl with
 | ret u =>
   obtain⟨v,σ',H',J,rv,q⟩:=hs
   exact fin J rv q
 | next =>
   obtain⟨σ',H',J,q⟩:=hs
   exact fin (v:=V.non) (u:=Value.none) J rfl q
 | brk =>
   obtain⟨_,_,_,q⟩:=hs
   exact False.elim q
 | cont =>
   obtain⟨_,_,_,q⟩:=hs
   exact False.elim q
end L2
namespace L2
open PySem PySem.Spec PyProof.Rows
section
variable {X:Cx}{x:Str}{p pos:Pos}{e:Expr}{es:List Expr}{t:TA}{id T:String}{r:List V->Hp->VK->Prop}
def tCB(r:List V->Hp->VK->Prop)(t:TA):TE:=fun σ H Q=>t σ H fun vs H1=>r vs H1 Q
theorem jw(hc:CallR X (.builtin id) r)(hg:Gl X x)(hm:X.mg x=none)(hv:bootBuiltins x=some (.builtin id))(ha:PA X (e::es) t)(hn:x ≠ "__name__":=by decide)(hdb:(x == ("__debug__" : Str))=false:=by decide)(he:starEach (e::es) X.env=(false,eval e X.env)::starEach es X.env:=by rfl)(hpl:(backTo pos (starEach es X.env)).any (·.1)=false:=by rfl):PE X (.Call (.Name x p) (e::es) [] pos) (tCB r t):=by
 intro J0 s σ H Q I h
 refine wpAny_Call_Name_kw (dF I hg hm hv ?_ hn hdb)
 exact PyProof.Rows.callWith_builtin1 (thn (ha pos J0 s σ H _ I h) fun us s1 ⟨vs,H1,I1,r1,q1⟩=>hc J0 s1 σ H1 vs us Q I1 r1 q1) he hpl
theorem nv(hc:CallR X (.type T) r)(hg:Gl X x)(hm:X.mg x=none)(hv:bootBuiltins x=some (.type T))(ha:PA X (e::es) t)(hn:x ≠ "__name__":=by decide)(hdb:(x == ("__debug__" : Str))=false:=by decide)(he:starEach (e::es) X.env=(false,eval e X.env)::starEach es X.env:=by rfl)(hpl:(backTo pos (starEach es X.env)).any (·.1)=false:=by rfl):PE X (.Call (.Name x p) (e::es) [] pos) (tCB r t):=by
 intro J0 s σ H Q I h
 refine wpAny_Call_Name_kw (dF I hg hm hv ?_ hn hdb)
 exact PyProof.Rows.callWith_type1 (thn (ha pos J0 s σ H _ I h) fun us s1 ⟨vs,H1,I1,r1,q1⟩=>hc J0 s1 σ H1 vs us Q I1 r1 q1) he hpl
end
end L2
namespace HT
open PySem PyProof.Rows
section
def sIx(n d:Nat):Option Int->Nat
 | none=>d
 | some v=>if v < 0 then (v+(n:Int)).toNat else min v.toNat n
end
end HT
namespace L2
open PySem PySem.Spec PyProof.Rows
abbrev TO:=St->Hp->(Option Int->Hp->Prop)->Prop
def PO(X:Cx)(e:Option Expr)(t:TO):Prop :=
 ∀ (J0:List (Addr × Obj)) (s:Shared) (σ:St) (H:Hp) (Q:Option Int->Hp->Prop),Inv X J0 σ H s->t σ H Q ->
   wpAny (model X.prog X.w) X.A (evalPart e X.env) (fun u s'=>∃ o H',Inv X J0 σ H' s'/\IsPart u o/\Q o H') X.xe s
def yJ:TO:=fun _ H Q=>Q none H
def yK(t:TE):TO:=fun σ H Q=>t σ H fun x H1=>∃ i,x=.int i/\Q (some i) H1
theorem yL{ns:List Int}:∀ {us:List Value},Vals (ns.map V.int) us->IntsAre us ns:=by
 induction ns with
 | nil=>intro us r;rw[List.map_nil] at r;cases r;exact .nil
 | cons n ns ih =>
   intro us r
   rw[List.map_cons] at r
   cases r with
   | cons r1 r2 =>
     obtain⟨t,e⟩:=r1
     subst e
     exact .cons n t (ih r2)
section
variable {X:Cx}{e:Expr}{te:TE}{lo hi:Option Expr}{tl th:TO}{pos p2:Pos}
theorem yM:PO X none yJ:=by
 intro J0 s σ H Q I h
 rw[evalPart_none]
 exact wpAny_pure ⟨none,H,I,.none,h⟩
theorem yN(h:PE X e te):PO X (some e) (yK te):=by
 intro J0 s σ H Q I hw
 rw[evalPart_some]
 refine thn (h J0 s σ H _ I hw) fun u s1 ⟨x,H1,I1,r1,q1⟩=>?_
 obtain⟨i,rfl,q⟩:=q1
 obtain⟨t,rfl⟩:=r1
 exact⟨some i,H1,I1,.int i t,q⟩
def SlR(X:Cx)(r:V->Option Int->Option Int->Hp->VK->Prop):Prop :=
 ∀ (J0:List (Addr × Obj)) (s:Shared) (σ:St) (H:Hp) (x:V) (v vl vu:Value) (lo hi:Option Int) (sl:Addr) (Q:VK),Inv X J0 σ H s->RelV x v->s.heap.IsSliceOf sl vl vu .none->IsPart vl lo->IsPart vu hi->r x lo hi H Q ->
   ∃ T id,typeLookup (.type T) "__getitem__" = pure (some (.builtin id))/\s.TypeIs v T/\wpAny (model X.prog X.w) X.A (getItem v (.ref sl)) (EP X J0 σ Q) X.xe s
theorem SlR.or{r r':V->Option Int->Option Int->Hp->VK->Prop}(h:SlR X r)(h':SlR X r'):SlR X (fun x lo hi H Q=>r x lo hi H Q\/r' x lo hi H Q):=by
 intro J0 s σ H x v vl vu lo hi sl Q I rx hs pl pu q
 rcases q with q | q
 ·exact h J0 s σ H x v vl vu lo hi sl Q I rx hs pl pu q
 ·exact h' J0 s σ H x v vl vu lo hi sl Q I rx hs pl pu q
def tSl(r:V->Option Int->Option Int->Hp->VK->Prop)(te:TE)(tl th:TO):TE:=fun σ H Q=>te σ H fun x H1=>tl σ H1 fun l H2=>th σ H2 fun u H3=>r x l u H3 Q
theorem yO{r:V->Option Int->Option Int->Hp->VK->Prop}(hr:SlR X r)(he:PE X e te)(hl:PO X lo tl)(hu:PO X hi th):PE X (.Subscript e (.Slice lo hi none p2) pos) (tSl r te tl th):=by
 intro J0 s σ H Q I h
 refine Subscript_ (thn (he J0 s σ H _ I h) fun v s1 ⟨x,H1,I1,r1,q1⟩=>?_)
 refine wpAny_Slice (thn (hl J0 s1 σ H1 _ I1 q1) fun vl s2 ⟨l,H2,I2,pl,q2⟩=>thn (hu J0 s2 σ H2 _ I2 q2) fun vu s3 ⟨u,H3,I3,pu,q3⟩=>?_)
 rw[evalPart_none]
 refine wpAny_pure ?_
 have I4:Inv X J0 σ H3 { s3 with heap:=s3.heap.push { cls:=.type "slice",data:=.fields #[vl,vu,.none] } }:=I3.kept (t':=s3.toks) fun b ob q=>Heap.get?_push_of_some _ q
 obtain⟨T,id,hT,ht,hg⟩:=hr J0 { s3 with heap:=s3.heap.push { cls:=.type "slice",data:=.fields #[vl,vu,.none] } } σ H3 x v vl vu l u s3.heap.objs.size Q I4 r1 (Heap.IsSliceOf.new ..) pl pu q3
 show wpAny (model X.prog X.w) X.A (subscriptTail e (.Slice lo hi none p2) v (.ref s3.heap.objs.size)) (EP X J0 σ Q) X.xe { s3 with heap:=s3.heap.push { cls:=.type "slice",data:=.fields #[vl,vu,.none] } }
 exact tail_any (ops:=[.ref s3.heap.objs.size,v]) ht hT hg (by with_unfolding_all rfl)
def iH(xs:List V)(lo hi:Option Int):List V:=(xs.drop (HT.sIx xs.length 0 lo)).take (HT.sIx xs.length xs.length hi - HT.sIx xs.length 0 lo)
theorem yP(xs:List V)(lo hi:Option Int):(iH xs lo hi).length<=xs.length:=by
 unfold iH
 rw[List.length_take,List.length_drop]
 omega
end
end L2
namespace L2
open PySem PySem.Spec PyProof.Rows
def ixN(n:Nat)(i:Int):Option Nat:=if 0<=i then (if i < n then some i.toNat else none) else if -(n:Int)<=i then some (i+n).toNat else none
def atI{α:Type}(xs:List α)(i:Int):Option α:=(ixN xs.length i).bind fun j=>xs[j]?
theorem rA{n:Nat}{i:Int}{j:Nat}(h:ixN n i=some j):seqIndex? i n=some j/\j < n/\-(n:Int)<=i/\i < n:=by
 unfold ixN at h
 by_cases h0:0<=i
 ·rw[if_pos h0] at h
  by_cases h1:i < n
  ·rw[if_pos h1] at h
   have e:i.toNat=j:=Option.some.inj h
   exact⟨by rw[seqIndex_of h0 h1,e],by omega,by omega,h1⟩
  ·rw[if_neg h1] at h;cases h
 ·rw[if_neg h0] at h
  by_cases h1:-(n:Int)<=i
  ·rw[if_pos h1] at h
   have e:(i+n).toNat=j:=Option.some.inj h
   exact⟨by rw[seqIndex_neg (by omega) h1,e],by omega,h1,by omega⟩
  ·rw[if_neg h1] at h;cases h
theorem rB{α:Type}{xs:List α}{i:Int}{v:α}(h:atI xs i=some v):∃ j,seqIndex? i xs.length=some j/\xs[j]?=some v/\j < xs.length/\-(xs.length:Int)<=i/\i < xs.length:=by
 unfold atI at h
 cases e:ixN xs.length i with
 | none=>rw[e] at h;cases h
 | some j =>
   rw[e] at h
   obtain⟨h1,h2,h3,h4⟩:=rA e
   exact⟨j,h1,h,h2,h3,h4⟩
def jx(b:Expr):Prop:=∀ o i,subscripted b false o i=operate [o,i] (getItem o i)
def IxR(X:Cx)(r:R2):Prop :=
 ∀ (value slice:Expr) (J0:List (Addr × Obj)) (s:Shared) (σ:St) (H:Hp) (x y:V) (v u:Value) (Q:VK),Inv X J0 σ H s->RelV x v->RelV y u->r x y H Q ->
   subscripted slice false v u=operate [v,u] (getItem v u)->wpAny (model X.prog X.w) X.A (subscriptTail value slice v u) (EP X J0 σ Q) X.xe s
def MtR(X:Cx)(id:String)(r:V->List V->Hp->VK->Prop):Prop :=
 ∀ (J0:List (Addr × Obj)) (s:Shared) (σ:St) (H:Hp) (x:V) (xs:List V) (v:Value) (us:List Value) (Q:VK),Inv X J0 σ H s->RelV x v->Vals xs us->r x xs H Q ->
   wpAny (model X.prog X.w) X.A (call (.builtin id) (v::us)) (EP X J0 σ Q) X.xe s
section
variable {X:Cx}{a b:Expr}{ta tb:TE}{pos:Pos}
theorem IxR.or{r r':R2}(h:IxR X r)(h':IxR X r'):IxR X (fun x y H Q=>r x y H Q\/r' x y H Q):=by
 intro value slice J0 s σ H x y v u Q I rx ry q hs
 rcases q with q | q
 ·exact h value slice J0 s σ H x y v u Q I rx ry q hs
 ·exact h' value slice J0 s σ H x y v u Q I rx ry q hs
theorem MtR.or{id:String}{r r':V->List V->Hp->VK->Prop}(h:MtR X id r)(h':MtR X id r'):MtR X id (fun x xs H Q=>r x xs H Q\/r' x xs H Q):=by
 intro J0 s σ H x xs v us Q I rx rs q
 rcases q with q | q
 ·exact h J0 s σ H x xs v us Q I rx rs q
 ·exact h' J0 s σ H x xs v us Q I rx rs q
theorem rC{r:R2}(hr:IxR X r)(ha:PE X a ta)(hb:PE X b tb)(hs:jx b):PE X (.Subscript a b pos) (tOp r ta tb):=by
 intro J0 s σ H Q I h
 exact Subscript_ (ng ha hb I h fun v u s2 x y H2 I2 rx ry q=>hr a b J0 s2 σ H2 x y v u Q I2 rx ry q (hs _ _))
def yQ(K:W.Frag):R2:=fun x y H Q=>∃ p xs i v,x=.ref p/\y=.int i/\SqL K H p xs/\atI xs i=some v/\Q v H
def yR(K:W.Frag):R2:=fun x y H Q=>∃ p xs i v,x=.ref p/\y=.int i/\SqT K H p xs/\atI xs i=some v/\Q v H
theorem ix_list:IxR X (yQ X.K):=by
 intro value slice J0 s σ H x y v u Q I rx ry h hs
 obtain⟨p,xs,i,z,rfl,rfl,hq,he,q⟩:=h
 cases rx
 obtain⟨t,rfl⟩:=ry
 obtain⟨its,r,pl,hz⟩:=I.list hq
 obtain⟨j,h1,h2,h3,h4,h5⟩:=rB he
 obtain⟨w,ew,rw'⟩:=r.get h2
 have hl:=r.length
 have hn:=ju
 have fin:EP X J0 σ Q w s:=⟨z,H,I,rw',q⟩
 by_cases h0:0<=i
 ·have hj:i.toNat=j:=by
   rw[seqIndex_of h0 h5] at h1
   exact Option.some.inj h1
  exact item_listR pl.isList h0 (by omega) (by rw[hj];simpa using ew) fin hs
 ·have hj:(i+(its.toArray.size:Int)).toNat=j:=by
   rw[seqIndex_neg (by omega) h4] at h1
   rw[List.size_toArray,<- hl]
   exact Option.some.inj h1
  exact subscriptTail_builtinR (x:=w) pl.isList.typeIs slot_list_getitem.lookup
   (wpAny_getItem_list_neg (Q:=fun r s'=>r=w/\EP X J0 σ Q r s') pl.isList (by omega) (by rw[List.size_toArray] <;> omega) (by omega) (by rw[hj];simpa using ew) ⟨rfl,fin⟩) hs
theorem rD:IxR X (yR X.K):=by
 intro value slice J0 s σ H x y v u Q I rx ry h hs
 obtain⟨p,xs,i,z,rfl,rfl,hq,he,q⟩:=h
 cases rx
 obtain⟨t,rfl⟩:=ry
 obtain⟨its,r,pl,hz⟩:=I.tuple hq
 obtain⟨j,h1,h2,h3,h4,h5⟩:=rB he
 obtain⟨w,ew,rw'⟩:=r.get h2
 have hl:=r.length
 have hn:=ju
 have fin:EP X J0 σ Q w s:=⟨z,H,I,rw',q⟩
 exact subscriptTail_builtinR (x:=w) pl.typeIs slot_tuple_getitem.lookup
  (getItem_tuple (j:=j) (Q:=fun r s'=>r=w/\EP X J0 σ Q r s') pl (by omega) (by omega) (by rw[List.size_toArray,<- hl];exact h1) (by simpa using ew) ⟨rfl,fin⟩) hs
theorem yS(its:List Value)(n j:Nat)(u:Value):Obj.mapSeq (·.setIfInBounds j u) { cls:=.type "list",data:=.seq its.toArray n }={ cls:=.type "list",data:=.seq (its.set j u).toArray n }:=by
 simp[Obj.mapSeq]
theorem Inv.lst{J0:List (Addr × Obj)}{σ:St}{H:Hp}{s:Shared}{p:Addr}{xs:List V}(I:Inv X J0 σ H s)(h:H p=some (.lst xs)):
  ∃ (its:List Value) (n:Nat),Vals xs its/\s.heap.get? p=some { cls:=.type "list",data:=.seq its.toArray n }/\xs.length<=sizeLine:=by
 obtain⟨z,its,n,r,e⟩:=I.hok p _ h
 exact⟨its,n,r,e,z⟩
theorem Inv.lstUpd{J0:List (Addr × Obj)}{σ:St}{H:Hp}{s:Shared}{p:Addr}{xs ys:List V}{its its':List Value}{n n':Nat}{f:Obj->Obj}(I:Inv X J0 σ H s)(h:H p=some (.lst xs))(ho:s.heap.get? p=some { cls:=.type "list",data:=.seq its.toArray n })(hf:f { cls:=.type "list",data:=.seq its.toArray n }={ cls:=.type "list",data:=.seq its'.toArray n' })(r:Vals ys its')(hz:ys.length<=sizeLine)(t:Nat):
  Inv X J0 σ (upd H p (.lst ys)) { s with heap:=s.heap.update p f,toks:=t }:=by
 have e:(s.heap.update p f).get? p=some { cls:=.type "list",data:=.seq its'.toArray n' }:=by
  rw[Heap.get?_update_self f ho (by rw[hf] <;> rfl),hf]
 refine I.write (x:=p) (e:=p) (by rw[h];trivial) (.inl rfl) (fun b u hb q=>(Heap.get?_update_other _ _ (Ne.symm hb)).trans q) ⟨_,e⟩ ?_
 exact⟨hz,its',n',r,e⟩
def yT:V->V->V->Hp->(Hp->Prop)->Prop:=fun o i v H Q=>∃ p xs k j,o=.ref p/\i=.int k/\H p=some (.lst xs)/\ixN xs.length k=some j/\Q (upd H p (.lst (xs.set j v)))
theorem yU:qA X yT:=by
 intro J0 s σ H o i v ov iv u Q I ro ri rv h
 obtain⟨p,xs,k,j,rfl,rfl,hp,hj,q⟩:=h
 cases ro
 obtain⟨t,rfl⟩:=ri
 obtain⟨its,n,r,ho,hz⟩:=I.lst hp
 obtain⟨h1,h2,h3,h4⟩:=rA hj
 have hl:=r.length
 have hn:=ju
 have I':Inv X J0 σ (upd H p (.lst (xs.set j v))) { s with heap:=s.heap.update p (Obj.mapSeq (·.setIfInBounds j u)) } :=
  I.lstUpd hp ho (yS its n j u) (r.set rv j) (by rw[List.length_set];exact hz) s.toks
 by_cases h0:0<=k
 ·have hk:k.toNat=j:=by
   rw[seqIndex_of h0 h4] at h1
   exact Option.some.inj h1
  exact W.ki_setAt ho h0 (by omega) (by rw[List.size_toArray,<- hl];exact h4) (by rw[hk];exact⟨_,I',q⟩)
 ·have hk:(k+(its.toArray.size:Int)).toNat=j:=by
   rw[seqIndex_neg (by omega) h3] at h1
   rw[List.size_toArray,<- hl]
   exact Option.some.inj h1
  exact W.ki_setBack ho (by omega) (by rw[List.size_toArray,<- hl];exact h3) (by omega) (by rw[hk];exact⟨_,I',q⟩)
theorem yV(lo hi:Option Int)(n:Nat):(sliceBounds lo hi none n).1=((HT.sIx n 0 lo:Nat):Int)/\(sliceBounds lo hi none n).2.1=((HT.sIx n n hi:Nat):Int)/\(sliceBounds lo hi none n).2.2=1:=by
 refine⟨?_,?_,rfl⟩
 ·cases lo with
  | none=>simp[sliceBounds,HT.sIx]
  | some i =>
    simp only[sliceBounds,HT.sIx,Option.getD_none,show (1:Int) > 0 by decide,if_true]
    by_cases h:i < 0
    ·simp only[h,if_true] <;> omega
    ·simp only[h,if_false] <;> omega
 ·cases hi with
  | none=>simp[sliceBounds,HT.sIx]
  | some i =>
    simp only[sliceBounds,HT.sIx,Option.getD_none,show (1:Int) > 0 by decide,if_true]
    by_cases h:i < 0
    ·simp only[h,if_true] <;> omega
    ·simp only[h,if_false] <;> omega
theorem yW(its:List Value)(lo hi:Option Int):slicePick its.toArray lo hi none=((its.drop (HT.sIx its.length 0 lo)).take (HT.sIx its.length its.length hi - HT.sIx its.length 0 lo)).toArray:=by
 obtain⟨h1,h2,h3⟩:=yV lo hi its.toArray.size
 unfold slicePick
 rw[h1,h2,h3]
 simp only[sliceRange_one,pick_run,List.size_toArray] <;> rfl
def yX(K:W.Frag):V->Option Int->Option Int->Hp->VK->Prop:=fun x lo hi H Q=>∃ a xs,x=.ref a/\SqL K H a xs/\∀ p,H p=none->Q (.ref p) (upd H p (.lst (iH xs lo hi)))
theorem yY:SlR X (yX X.K):=by
 intro J0 s σ H x v vl vu lo hi sl Q I rx hs pl pu h
 obtain⟨a,xs,rfl,hx,q⟩:=h
 cases rx
 obtain⟨its,r,ht,hz⟩:=I.list hx
 have hlen:=r.length
 refine⟨"list",_,slot_list_getitem.lookup,ht.isList.typeIs,?_⟩
 refine wpAny_getItem_list_slice ht.isList hs pl pu .none (by simp) ?_ (by rw[List.size_toArray] <;> omega)
 rw[yW,<- hlen]
 refine⟨.ref s.heap.objs.size,_,I.laid (t':=s.toks) (o:=.lst (iH xs lo hi)) (fun b ob q=>Heap.get?_push_of_some _ q) (Nat.le_refl _) ?_,rfl,q _ (I.hok.fresh (Nat.le_refl _))⟩
 exact⟨Nat.le_trans (yP xs lo hi) hz,_,0,(r.drop (HT.sIx xs.length 0 lo)).take (HT.sIx xs.length xs.length hi - HT.sIx xs.length 0 lo),Heap.get?_push_size _ rfl⟩
theorem rE:CallR X (.builtin "len") (fun xs H Q=>∃ p ys,xs=[.ref p]/\(SqL X.K H p ys\/SqT X.K H p ys)/\Q (.int ys.length) H):=by
 intro J0 s σ H xs us Q I r h
 obtain⟨p,ys,rfl,hq,q⟩:=h
 obtain⟨u,rfl,rx⟩:=eF r
 cases rx
 have hn:=ju
 rcases hq with hq | hq
 ·obtain⟨its,r',pl,hz⟩:=I.list hq
  have hlen:=r'.length
  exact Calls.call_len_list pl.isList (by simp only[List.size_toArray] <;> omega) ⟨.int ys.length,H,I.tok _,⟨s.toks+1,by rw[List.size_toArray,hlen]⟩,q⟩
 ·obtain⟨its,r',pl,hz⟩:=I.tuple hq
  have hlen:=r'.length
  exact len_tuple pl (by simp only[List.size_toArray] <;> omega) ⟨.int ys.length,H,I.tok _,⟨s.toks+1,by rw[List.size_toArray,hlen]⟩,q⟩
theorem CallR.or{f:Value}{r r':List V->Hp->VK->Prop}(h:CallR X f r)(h':CallR X f r'):CallR X f (fun xs H Q=>r xs H Q\/r' xs H Q):=by
 intro J0 s σ H xs us Q I rs q
 rcases q with q | q
 ·exact h J0 s σ H xs us Q I rs q
 ·exact h' J0 s σ H xs us Q I rs q
theorem yZ:CallR X (.type "list") (fun xs H Q=>∃ p ys,xs=[.ref p]/\(SqL X.K H p ys\/SqT X.K H p ys)/\∀ l,H l=none->Q (.ref l) (upd H l (.lst ys))):=by
 intro J0 s σ H xs us Q I r h
 obtain⟨p,ys,rfl,hq,q⟩:=h
 obtain⟨u,rfl,rx⟩:=eF r
 cases rx
 have fin:∀ (its:List Value),Vals ys its->ys.length<=sizeLine->∀ (h':Heap) (c':Nat),(∀ b o',s.heap.get? b=some o'->h'.get? b=some o') ->
   h'.get? s.heap.objs.size=some { cls:=.type "list",dict:=none,data:=.seq its.toArray c',slots:=#[] }->EP X J0 σ Q (.ref s.heap.objs.size) { s with heap:=h' }:=fun its r' hz h' c' kp e =>
  ⟨.ref s.heap.objs.size,_,I.laid (t':=s.toks) kp (Nat.le_refl _) (show ObjOk X.prog X.w _ h' _ (.lst ys) from ⟨hz,its,c',r',e⟩),rfl,q _ (I.hok.fresh (Nat.le_refl _))⟩
 rcases hq with hq | hq
 ·obtain⟨its,r',pl,hz⟩:=I.list hq
  have hlen:=r'.length
  obtain⟨o,ho,hc,n,hd⟩:=pl.isList
  exact call_list_seq p (.inl rfl) ho hc hd (fun h' c' kp e=>fin its r' hz h' c' kp e) (by simp only[List.size_toArray] <;> omega)
 ·obtain⟨its,r',pl,hz⟩:=I.tuple hq
  have hlen:=r'.length
  obtain⟨o,ho,hc,n,hd⟩:=pl
  exact call_list_seq p (.inr rfl) ho hc hd (fun h' c' kp e=>fin its r' hz h' c' kp e) (by simp only[List.size_toArray] <;> omega)
def tyV(K:W.Frag)(T:String)(x:V)(H:Hp):Prop:=match x with
 | .str _=>T = "str"
 | .int _=>T = "int"
 | .ref p=>(T = "list"/\∃ xs,SqL K H p xs)\/(T = "tuple"/\∃ o,K.lookup p=some o/\o.cls=.type "tuple"/\o.dict=none) \/
   (T = "dict"/\((∃ kvs,H p=some (.dK kvs))\/∃ kvs,H p=some (.dT kvs)))\/(T = "set"/\∃ S n,H p=some (.set S n))
 | _=>False
theorem za{J0:List (Addr × Obj)}{σ:St}{H:Hp}{s:Shared}{T:String}{x:V}{v:Value}(I:Inv X J0 σ H s)(r:RelV x v)(ty:tyV X.K T x H):
  s.TypeIs v T/\∀ a,v=.ref a->∃ ob,s.heap.get? a=some ob/\ob.dict=none:=by
 cases x with
 | str z =>
   obtain⟨t,rfl⟩:=r
   cases (show T = "str" from ty)
   exact⟨typeIs_str s z t,fun _ e=>nomatch e⟩
 | int i =>
   obtain⟨t,rfl⟩:=r
   cases (show T = "int" from ty)
   exact⟨typeIs_int s i t,fun _ e=>nomatch e⟩
 | ref p =>
   cases r
   rcases ty with⟨rfl,xs,hq⟩ | ⟨rfl,o,hk,hc,hd⟩ | ⟨rfl,hk⟩ | ⟨rfl,S,n,hk⟩
   ·obtain⟨its,_,pl,_⟩:=I.list hq
    refine⟨pl.isList.typeIs,fun a e=>?_⟩
    cases e
    obtain⟨o,n,e,c,hd,_⟩:=pl
    exact⟨o,e,hd⟩
   ·refine⟨⟨o,I.kIn p o hk,hc⟩,fun a e=>?_⟩
    cases e
    exact⟨o,I.kIn _ o hk,hd⟩
   ·have z:∃ o,s.heap.get? p=some o/\o.ExactDict:=by
     rcases hk with⟨kvs,hk⟩ | ⟨kvs,hk⟩
     ·obtain⟨_,_,_,_,o,_,_,e,ex,_⟩:=I.hok p _ hk
      exact⟨o,e,ex⟩
     ·obtain⟨_,_,_,_,o,_,_,e,ex,_⟩:=I.hok p _ hk
      exact⟨o,e,ex⟩
    obtain⟨o,e,ex⟩:=z
    refine⟨⟨o,e,ex.1⟩,fun a e2=>?_⟩
    cases e2
    exact⟨o,e,ex.2.1⟩
   ·obtain⟨o,_,_,_,e,ex,_⟩:=I.hok p _ hk
    refine⟨⟨o,e,ex.1⟩,fun a e2=>?_⟩
    cases e2
    exact⟨o,e,ex.2.1⟩
 | _=>exact False.elim ty
def tBM(K:W.Frag)(T:String)(r:V->List V->Hp->VK->Prop)(to:TE)(t:TA):TE:=fun σ H Q=>to σ H fun x H1=>tyV K T x H1/\t σ H1 fun xs H2=>r x xs H2 Q
variable {o e:Expr}{es:List Expr}{to:TE}{t:TA}{name:Str}{apos cpos:Pos}{T id:String}{r:V->List V->Hp->VK->Prop}
theorem rF(pa:PlainAttrs T)(slot:Slot T name id)(hty:typeOf (.builtin id)=pure (.type "method_descriptor"))(hm:MtR X id r)(ho:PE X o to)(ha:PA X (e::es) t)(hbase:attributeBase o name X.env (eval o X.env)=eval o X.env:=by rfl)(hfew:((backTo cpos (starEach (e::es) X.env)).all (fun x=>!x.1) && (backToKw cpos (keywordEach [] X.env)).all (fun x=>x.1.isSome)
   && decide ((e::es).length+([]:List Keyword).length+(if ([]:List Keyword).isEmpty then 0 else 1) < 30))=true:=by rfl)(hline:(apos.endLine == cpos.line)=true:=by rfl)(hs:starEach (e::es) X.env=(false,eval e X.env)::starEach es X.env:=by rfl)(hplain:(backTo cpos (starEach es X.env)).any (·.1)=false:=by rfl):
  PE X (.Call (.Attribute o name apos) (e::es) [] cpos) (tBM X.K T r to t):=by
 intro J0 s σ H Q I h
 refine wpAny_Call_method_late hbase hfew hline rfl (thn (ho J0 s σ H _ I h) fun v s1 ⟨x,H1,I1,r1,ty,q1⟩=>?_)
 obtain⟨h1,h2⟩:=za I1 r1 ty
 refine⟨T,id,pa,slot,hty,h1,h2,?_⟩
 have hA:=ha cpos J0 s1 σ H1 _ I1 q1
 rw[hs] at hA ⊢
 refine Calls.callWith_builtin (by show (false || (backTo cpos (starEach es X.env)).any (·.1))=false;rw[hplain] <;> rfl) (Calls.evalArgs_plain ?_)
 exact thn hA fun us s2 ⟨vs,H2,I2,r2,q2⟩=>hm J0 s2 σ H2 x vs v us Q I2 r1 r2 q2
end
end L2
namespace L2
open PySem PySem.Spec PyProof.Rows
def MtM(X:Cx)(id:String)(r:V->List V->Hp->VK->Prop):Prop :=
 ∀ (J0:List (Addr × Obj)) (s:Shared) (σ:St) (H:Hp) (x:V) (xs:List V) (v:Value) (us:List Value) (Q:VK),Inv X J0 σ H s->RelV x v->Vals xs us->r x xs H Q ->
   wpAny (model X.prog X.w) X.A (call (.builtin id) (v::us)) (EP X J0 σ Q) X.xe s
theorem Vals.one:∀ {x:V} {us:List Value},Vals [x] us->∃ u,us=[u]/\RelV x u
 | _,_,.cons r .nil=>⟨_,rfl,r⟩
theorem Vals.two:∀ {x y:V} {us:List Value},Vals [x,y] us->∃ u v,us=[u,v]/\RelV x u/\RelV y v
 | _,_,_,.cons r (.cons q .nil)=>⟨_,_,rfl,r,q⟩
theorem Vals.zero:∀ {us:List Value},Vals [] us->us=[]
 | _,.nil=>rfl
theorem Vals.dropLast{xs:List V}{us:List Value}(h:Vals xs us):Vals xs.dropLast us.dropLast:=by
 induction h with
 | nil=>exact .nil
 | cons r t ih =>
   cases t with
   | nil=>exact .nil
   | cons q t'=>exact .cons r ih
theorem Vals.reverse{xs:List V}{us:List Value}(h:Vals xs us):Vals xs.reverse us.reverse:=by
 induction h with
 | nil=>exact .nil
 | cons r t ih=>rw[List.reverse_cons,List.reverse_cons];exact Vals.append ih (.cons r .nil)
theorem Vals.rep{xs:List V}{us:List Value}(h:Vals xs us):∀ k:Nat,Vals (List.replicate k xs).flatten (List.replicate k us).flatten
 | 0=>.nil
 | k+1=>by
   rw[List.replicate_succ,List.replicate_succ,List.flatten_cons,List.flatten_cons]
   exact Vals.append h (Vals.rep h k)
theorem rG(its:List Value):∀ (k:Nat) (acc:List Value),
  List.foldl (fun x1 x2=>x1++x2) acc.toArray (List.replicate k its.toArray)=(acc++(List.replicate k its).flatten).toArray
 | 0,acc=>by simp
 | k + 1,acc=>by
   have e:acc.toArray++its.toArray=(acc++its).toArray:=by simp
   have e2:(acc++its)++(List.replicate k its).flatten=acc++(List.replicate (k+1) its).flatten:=by
    rw[List.replicate_succ,List.flatten_cons,List.append_assoc]
   rw[<- e2,<- rG its k (acc++its),<- e,List.replicate_succ,List.foldl_cons]
section
variable {X:Cx}{J0:List (Addr × Obj)}{σ:St}{H:Hp}{s:Shared}{l:Addr}{xs ys:List V}
theorem Inv.lset{its its':List Value}{n:Nat}{f:Array Value->Array Value}{t':Nat}(I:Inv X J0 σ H s)(hH:H l=some (.lst xs))(e:s.heap.get? l=some { cls:=.type "list",data:=.seq its.toArray n })(hf:f its.toArray=its'.toArray)(hv:Vals ys its')(hz:ys.length<=sizeLine):
  Inv X J0 σ (upd H l (.lst ys)) { s with heap:=s.heap.update l (Obj.mapSeq f),toks:=t' }:=by
 have q:=PySem.IsL.update e f
 rw[hf] at q
 refine I.write (x:=l) (e:=l) (by rw[hH];exact trivial) (.inl rfl) (fun b' u hb hu=>(Heap.get?_update_other s.heap (Obj.mapSeq f) (Ne.symm hb)).trans hu) ⟨_,q⟩ ?_
 exact⟨hz,its',_,hv,q⟩
theorem Inv.lnew{its:List Value}{t':Nat}(I:Inv X J0 σ H s)(hv:Vals ys its)(hz:ys.length<=sizeLine):
  Inv X J0 σ (upd H s.heap.objs.size (.lst ys)) { s with heap:=s.heap.push { cls:=.type "list",data:=.seq its.toArray },toks:=t' } :=
 I.laid (fun _ _ q=>Heap.get?_push_of_some _ q) (Nat.le_refl _) ⟨hz,its,0,hv,Heap.get?_push_size _ rfl⟩
theorem Inv.fresh(I:Inv X J0 σ H s):H s.heap.objs.size=none:=I.hok.fresh (Nat.le_refl _)
theorem Inv.lstM(I:Inv X J0 σ H s)(hH:H l=some (.lst xs)):xs.length<=sizeLine/\∃ (its:List Value) (n:Nat),Vals xs its/\xs.length=its.length/\s.heap.get? l=some { cls:=.type "list",data:=.seq its.toArray n }:=by
 obtain⟨z,its,n,r,e⟩:=I.hok l _ hH
 exact⟨z,its,n,r,r.length,e⟩
theorem zb{n:Nat}(h:n<=sizeLine):Builtin.List.listTooLong n=false:=by
 unfold Builtin.List.listTooLong
 exact decide_eq_false (by omega)
end
section
variable {X:Cx}
def zc:V->List V->Hp->VK->Prop:=fun x vs H Q=>∃ l xs y,x=.ref l/\vs=[y]/\H l=some (.lst xs)/\xs.length < sizeLine/\Q .non (upd H l (.lst (xs++[y])))
theorem rH:MtM X "list.append" zc:=by
 intro J0 s σ H x vs v us Q I rx rv h
 obtain⟨l,xs,y,rfl,rfl,hH,hz,q⟩:=h
 cases rx
 obtain⟨u,rfl,ru⟩:=rv.one
 obtain⟨z,its,n,r,hl,e⟩:=I.lstM hH
 refine call_meets F.slot_list_append ⟨_,e,rfl⟩ F.entry_list_append (F.args_list_append_2 _ _) (PySem.list_append l its.toArray n u (by rw[List.size_toArray];omega)) ⟨e,?_⟩
 refine⟨.non,_,I.lset (its':=its++[u]) hH e (by simp) (r.append (.cons ru .nil)) ?_,rfl,q⟩
 rw[List.length_append,List.length_singleton]
 omega
def zd:R2:=fun x y H Q=>∃ l k xs,x=.ref l/\y=.int k/\H l=some (.lst xs)/\-(2 ^ 63)<=k/\k < 2 ^ 63/\xs.length * k.toNat<=sizeLine /\
 ∀ p,H p=none->Q (.ref p) (upd H p (.lst (List.replicate k.toNat xs).flatten))
theorem ze{α:Type}(xs:List α)(k:Nat):(List.replicate k xs).flatten.length=k * xs.length:=by
 induction k with
 | zero=>simp
 | succ k ih=>rw[List.replicate_succ,List.flatten_cons,List.length_append,ih,Nat.succ_mul,Nat.add_comm]
theorem zf:OpR X (binaryOp .Mult) zd:=by
 intro J0 s σ H x y v u Q I rx ry h
 obtain⟨l,k,xs,rfl,rfl,hH,h1,h2,hz,q⟩:=h
 cases rx
 obtain⟨t,rfl⟩:=ry
 obtain⟨z,its,n,r,hl,e⟩:=I.lstM hH
 have hlen:its.toArray.size * k.toNat<=sizeLine:=by rw[List.size_toArray,<- hl];exact hz
 have hcap:¬ its.toArray.size * k.toNat > (2 ^ 63 - 1) / 8:=by
  have:(sizeLine:Nat)<=(2 ^ 63 - 1) / 8:=by decide
  omega
 have hfit:¬ (!Builtin.List.listFitsIndex k)=true:=by
  rw[fitsIndex_both h1 h2]
  exact Bool.false_ne_true
 have hlong:¬ Builtin.List.listTooLong (its.toArray.size * k.toNat)=true:=by
  rw[zb hlen]
  exact Bool.false_ne_true
 have hnew:List.foldl (fun x1 x2=>x1++x2) #[] (List.replicate (if its.toArray.isEmpty=true then 0 else k.toNat) its.toArray)=(List.replicate k.toNat its).flatten.toArray:=by
  have f0:∀ m:Nat,List.foldl (fun x1 x2=>x1++x2) #[] (List.replicate m its.toArray)=(List.replicate m its).flatten.toArray:=fun m=>by
   have:=rG its m []
   rw[List.nil_append] at this
   exact this
  rw[f0]
  cases its with
  | nil=>simp
  | cons a r'=>rw[if_neg (by simp)]
 refine wpAny_binaryOp_repeat_ref (T:="list") (U:="int") (by decide) ⟨_,e,rfl⟩ (fun s'=>typeIs_int s' k t) noFill_list_mul F.fills_int_mul F.slot_int_rmul repeat_list F.slot_int_index.lookup
  (call_meets F.slot_int_rmul (typeIs_int s k t) F.entry_int_rmul (F.args_int_rmul_2 _ _) (int___rmul___int_list k t l its.toArray n)
   ⟨e,rfl,⟨_,e,rfl⟩,call_meets F.slot_list_mul ⟨_,e,rfl⟩ F.entry_list_mul (F.args_list_mul_2 _ _) (AutoListH.list___mul___list_int_3 l its.toArray n k t hfit hcap hlong) ⟨e,?_⟩⟩)
 rw[hnew]
 exact⟨.ref _,_,I.lnew (t':=s.toks) (r.rep k.toNat) (by rw[ze,Nat.mul_comm];exact hz),rfl,q _ I.fresh⟩
end
end L2
namespace Att
open PySem PySem.W PySem.Calls PyProof.Rows
theorem zg{P:Params}{h:Heap}:∀ (ns:List Int) (vs:List Value),WellAll P h vs (ns.map WData.int)->IntsAre vs ns:=by
 intro ns
 induction ns with
 | nil =>
   intro vs w
   rw[List.map_nil] at w
   cases w
   exact .nil
 | cons n ns ih =>
   intro vs w
   rw[List.map_cons] at w
   cases w with
   | cons a b =>
     cases a
     exact .cons _ _ (ih _ b)
theorem zh{l:OpenLaw}{n:Nat}(hn:l.most=some n){P:Params}{h:Heap}{args:List WData}{vals:List Value}(hpre:l.row.toRowW.claim.pre args=true)(hwl:WellAll P h vals args):
  ∃ a vs ns,vals=[Value.ref a]/\args=[WData.list (ns.map WData.int)]/\h.get? a=some { cls:=.type "list",data:=.seq vs.toArray }/\IntsAre vs ns/\ns.length<=n:=by
 have hsh:WShape.hasAll [] args [.list .int]=true:=(pre_splitW hpre).1
 have hc:l.pre.holds [] { args:=args }=true:=(pre_splitW hpre).2
 obtain⟨d,r,rfl,h1,h2⟩:=hasAllW_cons hsh
 obtain rfl:=hasAllW_nil h2
 obtain⟨xs,rfl,h3⟩:=hasW_list h1
 obtain⟨ns,rfl⟩:=items_int h3
 have hlen:ns.length<=n:=by
  unfold OpenLaw.pre at hc
  have h4:(WTm.not (.lt (.lit (.int (n:Int))) (.len (.arg 0)))).holds [] { args:=[.list (ns.map .int)] }=true:=by
   have h4:=(holds_andW hc).1
   rw[hn] at h4
   exact h4
  have h5:=condW_of h4 (w_not (w_lt w_lit (w_len_list (w_arg rfl))))
  rw[List.length_map] at h5
  refine Nat.le_of_not_lt fun q=>?_
  have q':(n:Int) < ((ns.length:Nat):Int):=by omega
  first
   | (rw[decide_eq_true q'] at h5;exact absurd h5 (by decide))
   | (simp at h5;omega)
 cases hwl with
 | cons w1 w2 =>
   cases w2
   cases w1 with
   | list ho hall=>exact⟨_,_,ns,rfl,rfl,ho,zg ns _ hall,hlen⟩
theorem zi(l:OpenLaw)(args:List WData):l.row.toRowW.claim.post args (.bool true) args=true :=
 postW_of (r:=l.row.toRowW) (X:=(true == true))
  (show WShape.has [] (.bool true) .bool=true by first | rfl | decide | simp[WShape.has,WShape.arms,WShape.armsAll])
  (show (WTm.eq .res (.lit (.bool true))).value [] { args:=args,res:=some (.bool true),after:=args }=some (.bool (true == true)) from w_eq_bool (w_res rfl) w_lit) rfl
theorem attach_call{l:OpenLaw}{n:Nat}{q:Program}{loose:List Str}{XP:(Str->Option Value)->Heap->Prop}{YP:World->Heap->Prop}{d:DefRec}(hn:l.most=some n)(hdf:d.params.defaults=[])(call:∀ (w:World) (s₀ s₁:Shared) (mg mb:Str->Option Value) (fa:Addr) (o:Obj) (pm cd doc:Value) (a:Addr) (vs:List Value) (ns:List Int),
   Ground q loose [] XP w s₀ mg mb s₁.heap->YP w s₁.heap ->
   s₁.heap.get? fa=some o->o.data=.func (docDef d.name d.params d.body d.scope pm cd doc)->s₁.heap.CodeRec cd d.name->mg d.name=some (.ref fa) ->
   s₁.heap.get? a=some { cls:=.type "list",data:=.seq vs.toArray }->IntsAre vs ns->ns.length<=n->s₁.gens = #[] ->
   codeAny (model l.prog w) callerA (.call (.ref fa) ⟨[.ref a],[]⟩) (fun r s'=>r=.ok (.ret (.bool true))/\OldK s₁.heap s'.heap/\s'.os=s₁.os/\AllBare s'.gens) s₁):
  WalkO q loose XP YP l.row.toRowW d [] (fun f vs=>PySem.call f vs):=by
 intro w s₀ s₁ mg mb G Y fa o pm cd doc dV kV ho hd hcd hD hmg hg args vals as hpre hlay hrd hwl hlo
 obtain rfl:dV=.none:=Dflts.none hD hdf
 obtain rfl:kV=.none:=Dflts.noKw hD
 obtain⟨a,vs,ns,rfl,rfl,hobj,hints,hlen⟩:=zh hn hpre hwl
 refine enter_call (codeAny_mono (call w s₀ s₁ mg mb fa o pm cd doc a vs ns G Y ho (fd_plain hd) hcd hmg hobj hints hlen hg) fun r s' hq=>?_)
 obtain⟨rfl,h2,h3,h4⟩:=hq
 exact⟨.inl ⟨.bool true,.bool true,[],rfl,fun _=>rfl,.bool true,zi l _,fun _=>⟨List.Pairwise.nil,fun _ hm=>(nomatch hm)⟩⟩,h2,h3,h4⟩
end Att
namespace L2
open PySem PySem.Spec PyProof.Rows
theorem rJ:∀ {vs:List Value} {ns:List Int},IntsAre vs ns->Vals (ns.map V.int) vs
 | _,_,.nil=>.nil
 | _,_,.cons n t h=>.cons ⟨t,rfl⟩ (rJ h)
def nw(H:Hp):Prop:=∀ b,H b=none\/∃ o xs,H b=some (.frz o (.lst xs))
theorem zj{P:Program}{w:World}{K:W.Frag}{mg mb:Str->Option Value}{CX:CXT}{k:Nat}{fa a:Addr}{fd:FuncData}{x:Str}{sp:Sp}{s₁:Shared}{vs:List Value}{ns:List Int}(KX:K.In s₁.heap)(hns:s₁.heap.Ns mainGlobals mg)(hb:s₁.heap.Ns builtinsNs mb)(hbb:∀ x:Str,x ≠ "__name__"->mb x=bootBuiltins x)(hlim:s₁.heap.NoLimit)(hg:s₁.gens = #[])(ha:s₁.heap.get? a=some { cls:=.type "list",data:=.seq vs.toArray })(hi:IntsAre vs ns)(hl:ns.length<=sizeLine)(hr:Room k callerA)(F:∀ base:Heap,K.In base->base.Ns mainGlobals mg->FnOk P w K mg base CX k fa fd [x] sp)(hbind:∀ (s:Shared) (u:Value),BindsTo s fd ⟨[u],[]⟩ [(x,u)])(hsp:∀ H:Hp,nw H->SqL K H a (ns.map V.int)->sp [.ref a] H (fun v _=>v=.bl true) fun _ _ _=>False)(hCX:∀ H e s',CX [] H s₁ (fun _ _ _=>False) e s'->False):
  codeAny (model P w) callerA (.call (.ref fa) ⟨[.ref a],[]⟩) (fun r s'=>r=.ok (.ret (.bool true))/\OldK s₁.heap s'.heap/\s'.os=s₁.os/\AllBare s'.gens) s₁:=by
 have rv:=rJ hi
 have lenV:=hi.length
 have core : ∀ H:Hp,nw H->SqL K H a (ns.map V.int)->HOk P w H s₁.heap->(∀ b,H b ≠ none->b=a)->(H a ≠ none->K.lookup a=none) ->
   codeAny (model P w) callerA (.call (.ref fa) ⟨[.ref a],[]⟩) (fun r s'=>r=.ok (.ret (.bool true))/\OldK s₁.heap s'.heap/\s'.os=s₁.os/\AllBare s'.gens) s₁:=by
  intro H hO hS hok hA hK
  have base_of:∀ {b:Addr} {o:Obj},s₁.heap.get? b=some o->H b=none->(eZ s₁.heap H).get? b=some o:=fun e n=>xv e n
  have noA:∀ {b:Addr} {o:Obj} {es:Array DictEntry} {ep:Nat},s₁.heap.get? b=some o->o.data=.dict es ep->H b=none:=fun {b o es ep} e d=>by
   cases q:H b with
   | none=>rfl
   | some u =>
     have e':b=a:=hA b (by rw[q];simp)
     subst e'
     rw[ha] at e;cases e
     have d':Data.seq vs.toArray _=Data.dict es ep:=d
     cases d'
  have nsK:∀ {b:Addr} {m:Str->Option Value},s₁.heap.Ns b m->(eZ s₁.heap H).Ns b m:=fun {b m} ⟨o,es,ep,e,d,r⟩=>⟨o,es,ep,base_of e (noA e d),d,r⟩
  have hKb:K.In (eZ s₁.heap H):=fun b o e=>base_of (KX b o e) (by
   cases q:H b with
   | none=>rfl
   | some u =>
     have e':b=a:=hA b (by rw[q];simp)
     subst e'
     rw[hK (by rw[q];simp)] at e;cases e)
  have hM:Mod K mg (eZ s₁.heap H):=⟨hKb,nsK hns,⟨mb,nsK hb,hbb⟩,let ⟨mc,h1,h2⟩:=hlim;⟨mc,nsK h1,h2⟩⟩
  have e0:Env0 P w K mg (eZ s₁.heap H) callerA [] s₁ H:=⟨rfl,hM,fun b o e=>xw e,Nat.le_of_eq (xu _ _),trivial,fun b hb=>absurd (show b ∈ ([]:List Addr) from hb) (by simp),hok,.of_eq hg⟩
  refine codeAny_mono ((F _ hKb (nsK hns)).run callerA [] s₁ H ⟨[.ref a],[]⟩ [.ref a] [.ref a] _ _ hr e0 (hbind s₁ (.ref a)) (.cons rfl .nil) (hsp H hO hS)) fun r s' h=>?_
  cases r with
  | error e=>exact (hCX H e s' h).elim
  | ok fl =>
    cases fl with
    | next=>exact False.elim h
    | brk=>exact False.elim h
    | cont=>exact False.elim h
    | ret u =>
      obtain⟨v,H',os,bare,un,hok',r',q⟩:=h
      have q':v=.bl true:=q
      subst q'
      obtain rfl:u=Value.bool true:=r'
      refine⟨rfl,OldK.of_keep fun b o e=>?_,os,bare⟩
      cases q:H b with
      | none=>exact un.keep b o e q (by intro z;exact absurd (show b ∈ ([]:List Addr) from z) (by simp)) (by simp)
      | some u =>
        rcases hO b with z | ⟨ob,xs,z⟩
        ·rw[q] at z;cases z
        ·have z2:=un.frzs b ob _ z
         obtain⟨e1,_⟩:=hok b _ z
         obtain⟨e2,_⟩:=hok' b _ z2
         rw[e] at e1;cases e1
         exact e2
 cases hk:K.lookup a with
 | some o =>
   have e:=KX a o hk
   rw[ha] at e
   cases e
   refine core (fun _=>none) (fun _=>.inl rfl) (.inr ⟨_,vs.toArray,_,hk,rfl,rfl,rfl,by rw[List.size_toArray,lenV];exact hl,by simpa using rv⟩) (fun b u z=>by have z':(none:Option HO)=some u:=z;cases z') (fun b z=>absurd rfl z) fun z=>absurd rfl z
 | none =>
   refine core (fun b=>if b=a then some (.frz { cls:=.type "list",data:=.seq vs.toArray } (.lst (ns.map V.int))) else none) (fun b=>?_) (.inl (.inr ⟨{ cls:=.type "list",data:=.seq vs.toArray },if_pos rfl⟩)) (fun b u z=>?_) (fun b z=>?_) fun _=>hk
   ·by_cases hb:b=a
    ·exact .inr ⟨_,_,if_pos hb⟩
    ·exact .inl (if_neg hb)
   ·by_cases hb:b=a
    ·have z':=(if_pos hb).symm.trans z
     cases z'
     subst hb
     exact⟨ha,by rw[List.length_map];exact hl,vs,_,rv,ha⟩
    ·have z':=(if_neg hb).symm.trans z
     cases z'
   ·by_cases hb:b=a
    ·exact hb
    ·exact absurd (if_neg hb) z
end L2
namespace L2
open PySem PySem.Spec PyProof.Rows
theorem walk_of{l:W.OpenLaw}{n k:Nat}{q:Program}{loose:List Str}{XP:(Str->Option Value)->Heap->Prop}{YP:World->Heap->Prop}{d:DefRec}{K:Params->W.Frag}{CX:World->CXT}{sp:World->Sp}{x:Str}(hn:l.most=some n)(hn2:n<=sizeLine)(hdf:d.params.defaults=[])(hr:Room k callerA)(hY:∀ (w:World) (h:Heap),YP w h->(K w.params).In h)(F:∀ (w:World) (mg:Str->Option Value) (fa:Addr) (h:Heap),(K w.params).In h->h.Ns mainGlobals mg->mg d.name=some (.ref fa) ->
   ∃ fd:FuncData,(∀ (s:Shared) (u:Value),BindsTo s fd ⟨[u],[]⟩ [(x,u)]) /\
     ∀ base:Heap,(K w.params).In base->base.Ns mainGlobals mg->FnOk l.prog w (K w.params) mg base (CX w) k fa fd [x] (sp w))(hsp:∀ (w:World) (H:Hp) (a:Addr) (ns:List Int),ns.length<=n->nw H->SqL (K w.params) H a (ns.map V.int)->sp w [.ref a] H (fun v _=>v=.bl true) fun _ _ _=>False)(hCX:∀ (w:World) (H:Hp) (s:Shared) (e:Value) (s':Shared),CX w [] H s (fun _ _ _=>False) e s'->False):
  W.WalkO q loose XP YP l.row.toRowW d [] (fun f vs=>PySem.call f vs):=by
 refine Att.attach_call hn hdf fun w s₀ s₁ mg mb fa o pm cd doc a vs ns G Y ho hd hcd hmg hobj hints hlen hg=>?_
 have KX:=hY w _ Y
 obtain⟨fd,hb,hF⟩:=F w mg fa _ KX G.T.g hmg
 exact zj KX G.T.g G.T.b G.T.builtins G.T.nolimit hg hobj hints (Nat.le_trans hlen hn2) hr hF hb (fun H hO hS=>hsp w H a ns hlen hO hS) fun H e s'=>hCX w H s₁ e s'
end L2
namespace L2
open PySem PySem.Spec PyProof.Rows
def dY(s:Stmt)(j:Nat):Stmt:=match s with
 | .ClassDef _ _ _ body _ _ _ _ _ _ _=>body.getD j (.Pass ⟨0,0,0,0⟩)
 | _=>.Pass ⟨0,0,0,0⟩
def aJ(s:Stmt):Arguments:=match s with
 | .FunctionDef _ a _ _ _ _ _ _ _ _=>a
 | _=>{ posonlyargs:=[],args:=[],vararg:=none,kwonlyargs:=[],kw_defaults:=[],kwarg:=none,defaults:=[] }
def aG(s:Stmt):List Stmt:=match s with
 | .FunctionDef _ _ b _ _ _ _ _ _ _=>b
 | _=>[]
def ao(s:Stmt):Scope:=match s with
 | .FunctionDef _ _ _ _ _ _ sc _ _ _=>sc
 | _=>{ kind:=.function,names:=[],isGenerator:=false,isCoroutine:=false }
abbrev CX0:CXT:=fun _ _ _ _ _ _=>False
abbrev E0:XK:=fun _ _ _=>False
theorem gv{X:Cx}:ff CX0 X E0:=fun _ _ _ _ _ _ _ h=>h.elim
structure Fun (K:W.Frag) (x qual:Str) (st:Stmt) (f:Addr) (fd:FuncData):Prop where
 ex:∃ (oc:Value) (od:Option Addr) (kV doc pm:Value) (an:Option Addr) (cdv ct:Value) (osl:Array (Option Value)),
  fd=W.fnOf x qual (aJ st) (aG st) (ao st) .none kV doc pm an cdv ct/\K.lookup f=some ⟨oc,od,.func fd,osl⟩/\W.codeIn K cdv qual=true
 kp:W.keepIn K (.ref f)=true
section
variable {P:Program}{w:World}{K:W.Frag}{mg:Str->Option Value}{base:Heap}
theorem Fun.ok{x qual:Str}{st:Stmt}{f:Addr}{fd:FuncData}{N ps:List Str}{k:Nat}{sp:Sp}(F:Fun K x qual st f fd)(S:FnScope N ps (ao st))(len:∀ vs H Q E,sp vs H Q E->vs.length=ps.length)(hbody:∀ (cdv:Value) (A:Around) (outer:List Env) (s:Shared) (H:Hp) (vs:List V) (Q:VK) (E:XK),Room k (A.deeper (envOfC qual (ao st) s.heap.objs.size f cdv))->sp vs H Q E ->
   ∃ t,PSs (cG CX0 P w K mg base N qual (ao st) f cdv A outer s H E).nox (aG st) t/\t { nx:=fun _ H'=>Q .non H',rt:=Q } (start N vs) H):FnOk P w K mg base CX0 (k+1) f fd ps sp:=by
 obtain⟨oc,od,kV,doc,pm,an,cdv,ct,osl,rfl,lk,hcd⟩:=F.ex
 refine rz lk hcd S len fun A outer s H vs Q E hr hsp=>?_
 obtain⟨t,h,q⟩:=hbody cdv A outer s H vs Q E hr hsp
 exact⟨t,h.nox,q⟩
theorem Fun.binds{x qual:Str}{st:Stmt}{f:Addr}{fd:FuncData}{ps:List Str}(F:Fun K x qual st f fd)(h:∀ (kV doc pm:Value) (an:Option Addr) (cdv ct:Value) (us:List Value),us.length=ps.length->bindArgs (W.fnOf x qual (aJ st) (aG st) (ao st) .none kV doc pm an cdv ct) ⟨us,[]⟩=pure (ps.zip us)):Binds K fd ps []:=by
 obtain⟨oc,od,kV,doc,pm,an,cdv,ct,osl,rfl,lk,hcd⟩:=F.ex
 exact .all (h kV doc pm an cdv ct)
theorem aE{x qual:Str}{st:Stmt}{f:Addr}{oc:Value}{od an:Option Addr}{osl:Array (Option Value)}{kV doc pm cdv ct:Value}(l:K.lookup f=some ⟨oc,od,.func (W.fnOf x qual (aJ st) (aG st) (ao st) .none kV doc pm an cdv ct),osl⟩)(c:W.codeIn K cdv qual=true)(k:W.keepIn K (.ref f)=true):Fun K x qual st f (W.fnOf x qual (aJ st) (aG st) (ao st) .none kV doc pm an cdv ct):=⟨⟨oc,od,kV,doc,pm,an,cdv,ct,osl,rfl,l,c⟩,k⟩
end
theorem zk{n:Nat}(h:n<=1000):n < sizeLine:=Nat.lt_of_le_of_lt h (by decide)
theorem dH{A B:Prop}(h:B):if false=true then A else B:=by
 rw[if_neg Bool.false_ne_true]
 exact h
theorem dI{A B:Prop}(h:A):if true=true then A else B:=by
 rw[if_pos rfl]
 exact h
def Same(H H':Hp):Prop:=∀ b o,H b=some o->H' b=some o
theorem Same.refl(H:Hp):Same H H:=fun _ _ h=>h
theorem Same.trans{H H1 H2:Hp}(a:Same H H1)(b:Same H1 H2):Same H H2:=fun c o h=>b c o (a c o h)
theorem Same.free{H H':Hp}(e:Same H H'){l:Addr}(h:H' l=Option.none):H l=Option.none:=by
 cases q:H l with
 | none=>rfl
 | some o =>
   rw[e l o q] at h
   cases h
theorem Same.seq{K:W.Frag}{H H':Hp}{a:Addr}{xs:List V}(e:Same H H')(h:SqL K H a xs):SqL K H' a xs:=by
 rcases h with (h | ⟨o,h⟩) | h
 ·exact .inl (.inl (e _ _ h))
 ·exact .inl (.inr ⟨o,e _ _ h⟩)
 ·exact .inr h
end L2
namespace L2
open PySem PySem.Spec PyProof.Rows
section
variable {κ:Type}[DecidableEq κ]
def bX(kvs:List (κ × V))(k:κ):Option V:=(kvs.find? fun kv=>decide (kv.1=k)).map (·.2)
def ci(kvs:List (κ × V))(k:κ)(v:V):List (κ × V) :=
 if (kvs.any fun kv=>decide (kv.1=k))=true then kvs.map (fun kv=>if kv.1=k then (kv.1,v) else kv) else kvs++[(k,v)]
def rK(kvs:List (κ × V))(k:κ):List (κ × V):=kvs.filter fun kv=>decide (kv.1 ≠ k)
theorem zl{k:κ}:bX ([]:List (κ × V)) k=none:=rfl
theorem ll{p:κ × V}{r:List (κ × V)}{k:κ}(e:p.1=k):bX (p::r) k=some p.2:=by simp[bX,List.find?_cons,e]
theorem lm{p:κ × V}{r:List (κ × V)}{k:κ}(e:¬ p.1=k):bX (p::r) k=bX r k:=by simp[bX,List.find?_cons,e]
theorem ny(k:κ):∀ kvs:List (κ × V),(kvs.any fun kv=>decide (kv.1=k))=(bX kvs k).isSome
 | []=>rfl
 | p::r=>by
   rw[List.any_cons]
   by_cases e:p.1=k
   ·simp only[ll e,decide_eq_true e,Bool.true_or,Option.isSome_some]
   ·rw[lm e,decide_eq_false e,Bool.false_or];exact ny k r
theorem nz(kvs:List (κ × V))(k:κ)(v:V):(ci kvs k v).length<=kvs.length+1:=by
 unfold ci
 split
 ·rw[List.length_map];omega
 ·rw[List.length_append,List.length_cons,List.length_nil];omega
theorem rL{kvs:List (κ × V)}{k:κ}(v:V)(h:bX kvs k=none):ci kvs k v=kvs++[(k,v)]:=by
 unfold ci
 rw[ny,h]
 exact if_neg (by decide)
theorem RelO.isSome_eq{o:Option V}{u:Option Value}(r:RelO o u):o.isSome=u.isSome:=by
 cases o with
 | none=>cases u with
   | none=>rfl
   | some _=>exact (show False from r).elim
 | some _=>cases u with
   | none=>exact (show False from r).elim
   | some _=>rfl
theorem RelO.getD{o:Option V}{u:Option Value}{d:V}{d':Value}(r:RelO o u)(rd:RelV d d'):RelV (o.getD d) (u.getD d'):=by
 cases o with
 | none=>cases u with
   | none=>exact rd
   | some _=>exact (show False from r).elim
 | some _=>cases u with
   | none=>exact (show False from r).elim
   | some _=>exact r
theorem KV.val{kvs:List (κ × V)}{vs:List (κ × Value)}(r:KV kvs vs)(k:κ):RelO (bX kvs k) (valueAt vs k):=by
 unfold KV at r
 induction r with
 | nil=>exact True.intro
 | @cons p q ps qs h t ih =>
   obtain⟨h1,h2⟩:=h
   by_cases e:p.1=k
   ·have e':q.1=k:=h1.symm.trans e
    have b:valueAt (q::qs) k=some q.2:=by simp[valueAt,List.find?_cons,e']
    rw[ll e,b];exact h2
   ·have e':¬ q.1=k:=fun z=>e (h1.trans z)
    have b:valueAt (q::qs) k=valueAt qs k:=by simp[valueAt,List.find?_cons,e']
    rw[lm e,b];exact ih
theorem KV.any{kvs:List (κ × V)}{vs:List (κ × Value)}(r:KV kvs vs)(k:κ):(kvs.any fun kv=>decide (kv.1=k))=vs.any fun kv=>decide (kv.1=k):=by
 unfold KV at r
 induction r with
 | nil=>rfl
 | cons h t ih=>rw[List.any_cons,List.any_cons,ih,h.1]
theorem KV.repl{kvs:List (κ × V)}{vs:List (κ × Value)}(r:KV kvs vs)(k:κ){y:V}{u:Value}(ry:RelV y u):
  KV (kvs.map fun kv=>if kv.1=k then (kv.1,y) else kv) (vs.map fun kv=>if kv.1=k then (kv.1,u) else kv):=by
 unfold KV at r ⊢
 induction r with
 | nil=>exact .nil
 | @cons p q ps qs h t ih =>
   rw[List.map_cons,List.map_cons]
   refine .cons ?_ ih
   obtain⟨h1,h2⟩:=h
   by_cases e:p.1=k
   ·rw[if_pos e,if_pos (h1.symm.trans e)];exact⟨h1,ry⟩
   ·rw[if_neg e,if_neg (fun z=>e (h1.trans z))];exact⟨h1,h2⟩
theorem KV.put{kvs:List (κ × V)}{vs:List (κ × Value)}(r:KV kvs vs)(k:κ){y:V}{u:Value}(ry:RelV y u):KV (ci kvs k y) (stored vs k u):=by
 unfold ci stored
 rw[r.any k]
 by_cases e:(vs.any fun kv=>decide (kv.1=k))=true
 ·rw[if_pos e,if_pos e];exact r.repl k ry
 ·rw[if_neg e,if_neg e];exact Paired.snoc r ⟨rfl,ry⟩
theorem KV.drop{kvs:List (κ × V)}{vs:List (κ × Value)}(r:KV kvs vs)(k:κ):KV (rK kvs k) (without vs k):=by
 unfold KV at r ⊢
 unfold rK without
 induction r with
 | nil=>exact .nil
 | @cons p q ps qs h t ih =>
   obtain⟨h1,h2⟩:=h
   rw[List.filter_cons,List.filter_cons]
   by_cases e:p.1=k
   ·have a:¬ decide (p.1 ≠ k)=true:=by simp[e]
    have b:¬ decide (q.1 ≠ k)=true:=by simp[h1.symm.trans e]
    rw[if_neg a,if_neg b];exact ih
   ·have e':¬ q.1=k:=fun z=>e (h1.trans z)
    have a:decide (p.1 ≠ k)=true:=by simp[e]
    have b:decide (q.1 ≠ k)=true:=by simp[e']
    rw[if_pos a,if_pos b];exact .cons ⟨h1,h2⟩ ih
theorem KV.keys{kvs:List (κ × V)}{vs:List (κ × Value)}(r:KV kvs vs):kvs.map (·.1)=vs.map (·.1):=by
 unfold KV at r
 induction r with
 | nil=>rfl
 | cons h t ih=>rw[List.map_cons,List.map_cons,ih,h.1]
theorem KV.length{kvs:List (κ × V)}{vs:List (κ × Value)}(r:KV kvs vs):kvs.length=vs.length:=Paired.length r
end
theorem ln{P:Program}{w:World}{k:Key}{u:Value}(r:RelV (kV k) u):(cW P w).is k u=true:=by
 cases k with
 | inl i=>obtain⟨t,e⟩:=(show ∃ t,u=Value.int i t from r);subst e;exact xp P w i t
 | inr x=>obtain⟨t,e⟩:=(show ∃ t,u=Value.str x t from r);subst e;exact xq P w x t
theorem rM{P:Program}{w:World}:∀ {ks:List Key} {us:List Value},Vals (ks.map kV) us->ItemsAre (cW P w) ks us
 | [],_,r=>by rw[List.map_nil] at r;cases r;exact .nil
 | k::ks,_,r=>by
   rw[List.map_cons] at r
   cases r with
   | cons h t=>exact .cons (ln h) (rM t)
abbrev KT(H:Hp):List (List Key × V)->List (List Key × Addr × Value)->Prop:=Paired fun p q=>p.1=q.1/\H q.2.1=some (.tup (p.1.map kV))/\RelV p.2 q.2.2
theorem KT.val{H:Hp}{kvs:List (List Key × V)}{xs:List (List Key × Addr × Value)}(r:KT H kvs xs)(k:List Key):RelO (bX kvs k) ((atKey xs k).map (·.2)):=by
 induction r with
 | nil=>exact True.intro
 | @cons p q ps qs h t ih =>
   obtain⟨h1,_,h2⟩:=h
   by_cases e:p.1=k
   ·have e':q.1=k:=h1.symm.trans e
    have b:atKey (q::qs) k=some q.2:=by simp[atKey,List.find?_cons,e']
    rw[ll e,b];exact h2
   ·have e':¬ q.1=k:=fun z=>e (h1.trans z)
    have b:atKey (q::qs) k=atKey qs k:=by simp[atKey,List.find?_cons,e']
    rw[lm e,b];exact ih
theorem KT.repl{H:Hp}{kvs:List (List Key × V)}{xs:List (List Key × Addr × Value)}(r:KT H kvs xs)(k:List Key){y:V}{u:Value}(ry:RelV y u):
  KT H (kvs.map fun kv=>if kv.1=k then (kv.1,y) else kv) (xs.map (putAt k u)):=by
 induction r with
 | nil=>exact .nil
 | @cons p q ps qs h t ih =>
   rw[List.map_cons,List.map_cons]
   refine .cons ?_ ih
   obtain⟨h1,h2,h3⟩:=h
   unfold putAt
   by_cases e:p.1=k
   ·rw[if_pos e,if_pos (h1.symm.trans e)];exact⟨h1,h2,ry⟩
   ·rw[if_neg e,if_neg (fun z=>e (h1.trans z))];exact⟨h1,h2,h3⟩
theorem KT.put{H:Hp}{kvs:List (List Key × V)}{xs:List (List Key × Addr × Value)}(r:KT H kvs xs)(k:List Key){b:Addr}{y:V}{u:Value}(hb:H b=some (.tup (k.map kV)))(ry:RelV y u):
  KT H (ci kvs k y) (storedH xs k b u):=by
 have e:(kvs.any fun kv=>decide (kv.1=k))=(atKey xs k).isSome:=by
  rw[ny,(r.val k).isSome_eq,Option.isSome_map]
 unfold ci storedH
 rw[e]
 by_cases q:(atKey xs k).isSome=true
 ·rw[if_pos q,if_pos q];exact r.repl k ry
 ·rw[if_neg q,if_neg q];exact Paired.snoc r ⟨rfl,hb,ry⟩
theorem KT.keeps{H H':Hp}{kvs:List (List Key × V)}{xs:List (List Key × Addr × Value)}(r:KT H kvs xs)(ht:∀ b ys,H b=some (.tup ys)->H' b=some (.tup ys)):KT H' kvs xs :=
 Paired.mapP r fun _ _ z=>⟨z.1,ht _ _ z.2.1,z.2.2⟩
section
variable {P:Program}{w:World}{H:Hp}{h:Heap}{a:Addr}
theorem rN{u:HO}(ok:HOk P w H h)(e:Rd H a u):ObjOk P w H h a u:=e.ok ok
theorem lp{kvs:List (Key × V)}(ok:HOk P w H h)(e:Rd H a (.dK kvs)):kvs.length<=sizeLine/\(a == sysModules)=false/\∃ vs,KV kvs vs/\h.DictOf (cW P w) a vs :=
 show ObjOk P w H h a (.dK kvs) from rN ok e
theorem rO{kvs:List (Key × V)}(ok:HOk P w H h)(e:H a=some (.dK kvs)):kvs.length<=sizeLine/\(a == sysModules)=false/\∃ vs,KV kvs vs/\h.DictOf (cW P w) a vs:=lp ok (.inl e)
theorem nA{ks:List Key}(ok:HOk P w H h)(e:H a=some (.tup (ks.map kV))):(tupleKind (cW P w)).is h ks a:=by
 obtain⟨_,its,r,o,h1,h2,n,h3⟩:=(show ObjOk P w H h a (.tup (ks.map kV)) from ok a _ e)
 exact⟨o,its.toArray,n,h1,h2,h3,by simpa using rM r⟩
theorem nB{kvs:List (List Key × V)}(ok:HOk P w H h)(e:Rd H a (.dT kvs)):kvs.length<=sizeLine/\(a == sysModules)=false /\
  ∃ xs,KT H kvs xs/\h.DictOfH (tupleKind (cW P w)) a xs:=by
 obtain⟨z,y,xs,r,o,es,ep,h1,h2,h3,h4,h5⟩:=(show ObjOk P w H h a (.dT kvs) from rN ok e)
 refine⟨z,y,xs,r,o,es,ep,h1,h2,h3,h4,fun x hx=>?_,h5⟩
 have all:∀ {l:List (List Key × V)} {m:List (List Key × Addr × Value)},KT H l m->∀ x ∈ m,(tupleKind (cW P w)).is h x.1 x.2.1:=by
  intro l m q
  induction q with
  | nil=>intro x hx;exact nomatch hx
  | @cons p q ps qs hq t ih =>
    intro x hx
    rcases List.mem_cons.mp hx with e | hx
    ·subst e
     exact nA ok (by rw[<- hq.1];exact hq.2.1)
    ·exact ih x hx
 exact all r x hx
theorem zm{kvs:List (List Key × V)}(ok:HOk P w H h)(e:H a=some (.dT kvs)):kvs.length<=sizeLine/\(a == sysModules)=false /\
  ∃ xs,KT H kvs xs/\h.DictOfH (tupleKind (cW P w)) a xs:=nB ok (.inl e)
end
def DGet(H:Hp)(a:Addr)(y:V)(r:Option V):Prop :=
 (∃ kvs k,Rd H a (.dK kvs)/\y=kV k/\r=bX kvs k)\/∃ kvs k b,Rd H a (.dT kvs)/\y=.ref b/\H b=some (.tup (k.map kV))/\r=bX kvs k
def DPut(H:Hp)(a:Addr)(y v:V)(H':Hp):Prop :=
 (∃ kvs k,H a=some (.dK kvs)/\y=kV k/\kvs.length < sizeLine/\H'=upd H a (.dK (ci kvs k v))) \/
 ∃ kvs k b,H a=some (.dT kvs)/\y=.ref b/\H b=some (.tup (k.map kV))/\kvs.length < sizeLine/\H'=upd H a (.dT (ci kvs k v))
theorem DGet.k{H:Hp}{a:Addr}{kvs:List (Key × V)}{k:Key}(e:H a=some (.dK kvs)):DGet H a (kV k) (bX kvs k):=.inl ⟨kvs,k,.inl e,rfl,rfl⟩
theorem DGet.t{H:Hp}{a b:Addr}{kvs:List (List Key × V)}{k:List Key}(e:H a=some (.dT kvs))(eb:H b=some (.tup (k.map kV))):DGet H a (.ref b) (bX kvs k):=.inr ⟨kvs,k,b,.inl e,rfl,eb,rfl⟩
theorem DPut.k{H:Hp}{a:Addr}{kvs:List (Key × V)}{k:Key}{v:V}(e:H a=some (.dK kvs))(hl:kvs.length < sizeLine):DPut H a (kV k) v (upd H a (.dK (ci kvs k v))):=.inl ⟨kvs,k,e,rfl,hl,rfl⟩
theorem DPut.t{H:Hp}{a b:Addr}{kvs:List (List Key × V)}{k:List Key}{v:V}(e:H a=some (.dT kvs))(eb:H b=some (.tup (k.map kV)))(hl:kvs.length < sizeLine):
  DPut H a (.ref b) v (upd H a (.dT (ci kvs k v))):=.inr ⟨kvs,k,b,e,rfl,eb,hl,rfl⟩
section
variable {X:Cx}{J0:List (Addr × Obj)}{σ:St}{H:Hp}{s:Shared}{a:Addr}{y v:V}{u r:Value}{o:Option V}{A:Around}{E:Value->Shared->Prop}
theorem Inv.big(I:Inv X J0 σ H s):sysModules < s.heap.objs.size:=by
 have h:mainGlobals < s.heap.objs.size:=(I.mod.glob.keeps I.bk).lt
 exact Nat.lt_trans (by decide) h
theorem zn{Q:Value->Shared->Prop}(hu:A.units+1 < cLine)(I:Inv X J0 σ H s)(g:DGet H a y (some v))(ry:RelV y u)(h:∀ w' s',Inv X J0 σ H s'->RelV v w'->Q w' s'):
  wpAny (model X.prog X.w) A (getItem (.ref a) u) Q E s:=by
 rcases g with⟨kvs,k,e,ey,l⟩ | ⟨kvs,k,b,e,ey,eb,l⟩
 ·subst ey
  obtain⟨z,hd,vs,rel,dd⟩:=lp I.hok e
  obtain⟨w',hw,rw'⟩:=RelO.some_of (v:=v) (o:=valueAt vs k) (by rw[l];exact rel.val k)
  exact wpAny_getItem_of (ln ry) dd.mapOf hw (h w' _ (I.tok _) rw')
 ·subst ey
  cases (show u=Value.ref b from ry)
  obtain⟨z,hd,xs,rel,dd⟩:=nB I.hok e
  obtain⟨w',hw,rw'⟩:=RelO.some_of (v:=v) (o:=(atKey xs k).map (·.2)) (by rw[l];exact rel.val k)
  obtain⟨p,hp,hp2⟩:=Option.map_eq_some_iff.mp hw
  refine wpAny_getItem_heap (tupleKind_room_in1 hu) (nA I.hok eb) dd hp ?_
  rw[hp2]
  exact h w' _ (I.tok _) rw'
theorem nC{h':Heap}{t':Nat}{ob:HO}(I:Inv X J0 σ H s)(mu:Mut (H a))(hs:Heap.SameBut a s.heap h')(he:∃ q,h'.get? a=some q)(new:ObjOk X.prog X.w (upd H a ob) h' a ob):
  Inv X J0 σ (upd H a ob) { s with heap:=h',toks:=t' } :=
 I.write (x:=a) (e:=a) mu (.inl rfl) (fun b q hb z=>(hs.2 b hb).trans z) he new
theorem rP{P:Program}{w:World}{H':Hp}{h':Heap}{kvs:List (Key × V)}{vs:List (Key × Value)}(z:kvs.length<=sizeLine)(hd:(a == sysModules)=false)(rel:KV kvs vs)(dd:h'.DictOf (cW P w) a vs):
  ObjOk P w H' h' a (.dK kvs):=⟨z,hd,vs,rel,dd⟩
theorem zo{H':Hp}{Q:Unit->Shared->Prop}(hu:A.units+1 < cLine)(I:Inv X J0 σ H s)(g:DPut H a y v H')(ry:RelV y u)(rv:RelV v r)(h:∀ s',Inv X J0 σ H' s'->Q () s'):
  wpAny (model X.prog X.w) A (setItem (.ref a) u r) Q E s:=by
 rcases g with⟨kvs,k,e,ey,l,eH⟩ | ⟨kvs,k,b,e,ey,eb,l,eH⟩
 ·subst ey eH
  obtain⟨z,hd,vs,rel,dd⟩:=rO I.hok e
  have hz:vs.length<=sizeLine:=by rw[<- rel.length];exact z
  have hl:(ci kvs k v).length<=sizeLine:=by have:=nz kvs k v;omega
  refine wpAny_setItem_pairs (hsz:=hz) (ln ry) dd fun h' dd' hs=>h _ ?_
  have he:∃ q,h'.get? a=some q:=let ⟨q,_,_,hq,_⟩:=dd';⟨q,hq⟩
  exact nC I (by rw[e];exact True.intro) hs he (rP hl hd (rel.put k rv) dd')
 ·subst ey eH
  cases (show u=Value.ref b from ry)
  obtain⟨z,hd,xs,rel,dd⟩:=zm I.hok e
  have hz:xs.length<=sizeLine:=by rw[<- Paired.length rel];exact z
  have hl:(ci kvs k v).length<=sizeLine:=by have:=nz kvs k v;omega
  refine wpAny_setItem_heap (hsz:=hz) (tupleKind_room_in1 hu) (nA I.hok eb) dd fun h' dd' hs=>h _ ?_
  obtain⟨q,es,ep,hq,h2,h3,h4,_,h5⟩:=dd'
  refine nC I (by rw[e];exact True.intro) hs ⟨q,hq⟩ ⟨hl,hd,_,(rel.put k eb rv).keeps fun c ys ec=>?_,q,es,ep,hq,h2,h3,h4,h5⟩
  rw[aF (xr ec e (fun z=>nomatch z))]
  exact ec
end
def lq(i:Expr):Prop:=∀ ov iv,subscripted i false ov iv=operate [ov,iv] (getItem ov iv)
theorem zp{prog:Program}{w:World}{A:Around}{E:Value->Shared->Prop}{s:Shared}{env:Env}{value slice:Expr}{pos:Pos}{T id:String}{Q:Value->Shared->Prop}(hl:typeLookup (.type T) "__getitem__" = pure (some (.builtin id)))(hs:lq slice)(h:wpAny (model prog w) A (eval value env) (fun o s₁=>wpAny (model prog w) A (eval slice env) (fun i s₂=>s₂.TypeIs o T/\wpAny (model prog w) A (getItem o i) Q E s₂) E s₁) E s):
  wpAny (model prog w) A (eval (.Subscript value slice pos) env) Q E s:=by
 refine Subscript_ (wpAny_mono h (fun o s₁ h₁=>wpAny_mono h₁ (fun i s₂ h₂=>?_) fun _ _ x=>x) fun _ _ x=>x)
 obtain⟨hT,h₂⟩:=h₂
 unfold subscriptTail
 refine wpAny_bind ?_
 rw[getitemInPython_of_ne hT.not_modules]
 refine wpAny_bind (wpAny_specialOf hT hl ?_)
 have fin:wpAny (model prog w) A (subscripted slice false o i) (fun r s₃=>wpAny (model prog w) A (letTemporaryGo value o r >>= fun _=>pure r) Q E s₃) E s₂:=by
  rw[hs o i]
  exact wpAny_operating (wpAny_mono h₂ (fun r s₃ h₃=>wpAny_bind (wpAny_letTemporaryGo (wpAny_pure h₃))) fun _ _ x=>x)
 first
  | exact wpAny_pure (wpAny_bind fin)
  | exact wpAny_bind (wpAny_pure (wpAny_bind fin))
  | exact wpAny_bind fin
theorem zq{X:Cx}{J0:List (Addr × Obj)}{σ:St}{H:Hp}{s:Shared}{a:Addr}{y:V}{o:Option V}(I:Inv X J0 σ H s)(g:DGet H a y o):s.TypeIs (.ref a) "dict":=by
 rcases g with⟨kvs,k,e,_,_⟩ | ⟨kvs,k,b,e,_,_,_⟩
 ·obtain⟨_,_,vs,_,dd⟩:=lp I.hok e
  exact dd.typeIs
 ·obtain⟨_,_,xs,_,dd⟩:=nB I.hok e
  exact dd.typeIs
def zr(td ty:TE):TE:=fun σ H Q=>td σ H fun x H1=>ty σ H1 fun y H2=>∃ a v,x=.ref a/\DGet H2 a y (some v)/\Q v H2
def zt(td ty tv:TE):TS:=fun D σ H=>tv σ H fun v H1=>td σ H1 fun x H2=>ty σ H2 fun y H3=>∃ a H4,x=.ref a/\DPut H3 a y v H4/\D.nx σ H4
section
variable {X:Cx}{o i value:Expr}{pos pos':Pos}{td ty tv:TE}
theorem zu(hu:X.A.units+1 < cLine)(ho:PE X o td)(hi:PE X i ty)(hs:lq i):PE X (.Subscript o i pos) (zr td ty):=by
 intro J0 s σ H Q I h
 refine zp PySem.F.slot_dict_getitem.lookup hs (thn (ho J0 s σ H _ I h) fun u s1 ⟨x,H1,I1,rx,q1⟩=>thn (hi J0 s1 σ H1 _ I1 q1) fun iv s2 ⟨y,H2,I2,ry,a,v,ex,g,q2⟩=>?_)
 subst ex
 obtain rfl:u=Value.ref a:=rx
 exact⟨zq I2 g,zn hu I2 g ry fun w' s3 I3 rw'=>⟨v,H2,I3,rw',q2⟩⟩
theorem rQ(hu:X.A.units+1 < cLine)(ho:PE X o td)(hi:PE X i ty)(hv:PE X value tv)(hs:swapsWith value (some (.Subscript o i pos')) pos.line X.env=pure false):
  PS X (.Assign [.Subscript o i pos'] value pos) (zt td ty tv):=by
 intro J0 s σ H D I h
 refine wpAny_Assign_Subscript (thn (hv J0 s σ H _ I h) fun r s1 ⟨v,H1,I1,rv,q1⟩=>thn (ho J0 s1 σ H1 _ I1 q1) fun u s2 ⟨x,H2,I2,rx,q2⟩=>thn (hi J0 s2 σ H2 _ I2 q2) fun iv s3 ⟨y,H3,I3,ry,a,H4,ex,g,q3⟩=>?_) hs
 subst ex
 obtain rfl:u=Value.ref a:=rx
 exact zo hu I3 g ry rv fun s4 I4=>⟨σ,H4,I4,q3⟩
end
theorem zv{P:Program}{w:World}{H:Hp}(h:Heap)(hb:sysModules < h.objs.size):ObjOk P w H (h.push { cls:=.type "dict",data:=.dict #[] }) h.objs.size (.dK []) :=
 ⟨Nat.zero_le _,beq_eq_false_iff_ne.mpr (Ne.symm (Nat.ne_of_lt hb)),[],.nil,Heap.DictOf.new h⟩
def lr:List (TE × TE)->St->Hp->(List (V × V)->Hp->Prop)->Prop
 | [],_,H,Q=>Q [] H
 | (tk,tv)::r,σ,H,Q=>tk σ H fun x H1=>tv σ H1 fun y H2=>lr r σ H2 fun ps H3=>Q ((x,y)::ps) H3
abbrev VV:List (V × V)->List (Value × Value)->Prop:=Paired fun p q=>RelV p.1 q.1/\RelV p.2 q.2
def PPs(X:Cx)(pos:Pos)(keys:List (Option Expr))(values:List Expr)(trs:List (TE × TE)):Prop :=
 ∀ (J0:List (Addr × Obj)) (s:Shared) (σ:St) (H:Hp) (Q:List (V × V)->Hp->Prop),Inv X J0 σ H s->lr trs σ H Q ->
   wpAny (model X.prog X.w) X.A (evalPairs (pairTrees keys values X.env pos)) (fun vs s'=>∃ ps H',Inv X J0 σ H' s'/\VV ps vs/\Q ps H') X.xe s
theorem zw{X:Cx}{pos:Pos}:PPs X pos [] [] []:=fun J0 s σ H Q I h=>pairTrees_nil_walk ⟨[],H,I,.nil,h⟩
theorem zx{X:Cx}{pos:Pos}{k v:Expr}{ks:List (Option Expr)}{vs:List Expr}{tk tv:TE}{trs:List (TE × TE)}(hk:PE X k tk)(hv:PE X v tv)(hr:PPs X pos ks vs trs):
  PPs X pos (some k::ks) (v::vs) ((tk,tv)::trs):=fun J0 s σ H Q I h =>
 pairTrees_cons_walk (thn (hk J0 s σ H _ I h) fun u s1 ⟨x,H1,I1,rx,q1⟩=>thn (hv J0 s1 σ H1 _ I1 q1) fun w2 s2 ⟨y,H2,I2,ry,q2⟩ =>
  thn (hr J0 s2 σ H2 _ I2 q2) fun ws s3 ⟨ps,H3,I3,rel,q3⟩=>⟨(x,y)::ps,H3,I3,.cons ⟨rx,ry⟩ rel,q3⟩)
def fg(kvs more:List (Key × V)):List (Key × V):=more.foldl (fun acc kv=>ci acc kv.1 kv.2) kvs
theorem KV.merge:∀ {more:List (Key × V)} {rs:List (Key × Value)} {kvs:List (Key × V)} {vs:List (Key × Value)},KV more rs->KV kvs vs->KV (fg kvs more) (merged vs rs):=by
 intro more rs kvs vs r
 unfold KV at r
 induction r generalizing kvs vs with
 | nil=>intro q;exact q
 | @cons p q ps qs h t ih =>
   intro r0
   have e:KV (ci kvs p.1 p.2) (stored vs q.1 q.2):=by
    have:=r0.put p.1 h.2
    rw[<- h.1];exact this
   exact ih e
theorem rR:∀ (more kvs:List (Key × V)),(fg kvs more).length<=kvs.length+more.length
 | [],kvs=>by show kvs.length<=kvs.length+0;omega
 | p::r,kvs=>by
   have h1:=rR r (ci kvs p.1 p.2)
   have h2:=nz kvs p.1 p.2
   show (fg (ci kvs p.1 p.2) r).length<=_
   rw[List.length_cons];omega
theorem rS{P:Program}{w:World}:∀ {kvs:List (Key × V)} {ws:List (Value × Value)},VV (kvs.map fun kv=>(kV kv.1,kv.2)) ws->∃ rs,Carries (cW P w) ws rs/\KV kvs rs
 | [],_,r=>by rw[List.map_nil] at r;cases r;exact⟨[],True.intro,.nil⟩
 | p :: kvs,_,r=>by
   rw[List.map_cons] at r
   cases r with
   | @cons a b as bs h t =>
     obtain⟨rs,c,q⟩:=rS (P:=P) (w:=w) t
     obtain⟨b1,b2⟩:=b
     exact⟨(p.1,b2)::rs,⟨ln h.1,rfl,c⟩,.cons ⟨rfl,h.2⟩ q⟩
def zy(trs:List (TE × TE)):TE:=fun σ H Q=>∀ p,H p=none->lr trs σ (upd H p (.dK [])) fun ps H2=>H2 p=some (.dK [])/\∃ kvs:List (Key × V),ps=kvs.map (fun kv=>(kV kv.1,kv.2))/\kvs.length<=15/\Q (.ref p) (upd H2 p (.dK (fg [] kvs)))
theorem zz{X:Cx}{pos:Pos}{keys:List (Option Expr)}{values:List Expr}{trs:List (TE × TE)}(h:PPs X pos keys values trs)(hall:keys.all (·.isSome)=true)(hl:keys.length=values.length)(h0:keys ≠ [])(h15:keys.length<=15):PE X (.Dict keys values pos) (zy trs):=by
 intro J0 s σ H Q I q
 have hn:=I.hok.fresh (Nat.le_refl s.heap.objs.size)
 have I1:=I.laid (a:=s.heap.objs.size) (o:=.dK []) (h':=s.heap.push { cls:=.type "dict",data:=.dict #[] }) (t':=s.toks) (fun _ _ q=>Heap.get?_push_of_some _ q) (Nat.le_refl _) (zv s.heap I.big)
 refine wpAny_Dict_walk (knd:=cW X.prog X.w) hall hl h0 h15 (thn (h J0 _ σ _ _ I1 (q _ hn)) fun ws s2 ⟨ps,H2,I2,rel,e,kvs,ep,lk,q2⟩=>?_)
 subst ep
 obtain⟨rs,c,rk⟩:=rS (P:=X.prog) (w:=X.w) rel
 obtain⟨z,hd,vs0,r0,dd⟩:=rO I2.hok e
 cases r0
 refine⟨rs,c,dd,fun h' dd' hs=>⟨.ref s.heap.objs.size,_,?_,rfl,q2⟩⟩
 have hz:(fg [] kvs).length<=sizeLine:=by
  have h1:=rR kvs []
  rw[List.length_nil] at h1
  rw[sizeLine_eq];omega
 have he:∃ q,h'.get? s.heap.objs.size=some q:=let ⟨q,_,_,hq,_⟩:=dd';⟨q,hq⟩
 exact nC I2 (by rw[e];exact True.intro) hs he (rP hz hd (rk.merge .nil) dd')
structure M1 (X:Cx) (o:Expr) (m:Str) (apos:Pos) (e:Expr) (cpos:Pos):Prop where
 base:attributeBase o m X.env (eval o X.env)=eval o X.env
 few:((backTo cpos (starEach [e] X.env)).all (fun x=>!x.1) && (backToKw cpos (keywordEach [] X.env)).all (fun x=>x.1.isSome)
  && decide (([e]:List Expr).length+([]:List Keyword).length+(if ([]:List Keyword).isEmpty then 0 else 1) < 30))=true
 line:(apos.endLine == cpos.line)=true
 trees:backTo cpos (starEach [e] X.env)=[(false,eval e X.env)]
structure M2 (X:Cx) (o:Expr) (m:Str) (apos:Pos) (e f:Expr) (cpos:Pos):Prop where
 base:attributeBase o m X.env (eval o X.env)=eval o X.env
 few:((backTo cpos (starEach [e,f] X.env)).all (fun x=>!x.1) && (backToKw cpos (keywordEach [] X.env)).all (fun x=>x.1.isSome)
  && decide (([e,f]:List Expr).length+([]:List Keyword).length+(if ([]:List Keyword).isEmpty then 0 else 1) < 30))=true
 line:(apos.endLine == cpos.line)=true
 trees:backTo cpos (starEach [e,f] X.env)=[(false,eval e X.env),(false,eval f X.env)]
end L2
namespace VL
open PySem PySem.Spec PyProof.Rows L2
abbrev St:=L2.St
inductive D where
 | non | bl (b:Bool) | int (i:Int) | str (x:Str) | lst (xs:List D) | tup (xs:List D)
 | scr (ns:List Int)
 | dct (fz:Bool) (kvs:List (Int × Int))
 | ptr (a:Nat)
def jz(kvs:List (Int × Int)):List (Key × V):=kvs.map fun p=>(Sum.inl p.1,V.int p.2)
def DRd(H:Hp)(a:Addr)(fz:Bool)(kvs:List (Int × Int)):Prop:=(fz=true/\∃ o,H a=some (.frz o (.dK (jz kvs))))\/(fz=false/\H a=some (.dK (jz kvs)))
theorem DRd.same{H H':Hp}{a:Addr}{fz:Bool}{kvs:List (Int × Int)}(e:Same H H')(h:DRd H a fz kvs):DRd H' a fz kvs:=by
 rcases h with⟨z,o,h⟩ | ⟨z,h⟩
 ·exact .inl ⟨z,o,e _ _ h⟩
 ·exact .inr ⟨z,e _ _ h⟩
theorem DRd.rd{H:Hp}{a:Addr}{fz:Bool}{kvs:List (Int × Int)}(h:DRd H a fz kvs):Rd H a (.dK (jz kvs)):=by
 rcases h with⟨_,o,h⟩ | ⟨_,h⟩
 ·exact .inr ⟨o,h⟩
 ·exact .inl h
mutual
inductive Rep (K:W.Frag) (H:Hp):V->D->Prop where
 | non:Rep K H V.non D.non
 | bl (b:Bool):Rep K H (V.bl b) (D.bl b)
 | int (i:Int):Rep K H (V.int i) (D.int i)
 | str (x:Str):Rep K H (V.str x) (D.str x)
 | lst {a:Addr} {xs:List V} {ds:List D}:Rd H a (.lst xs)->Reps K H xs ds->Rep K H (V.ref a) (D.lst ds)
 | tup {a:Addr} {xs:List V} {ds:List D}:H a=some (.tup xs)->Reps K H xs ds->Rep K H (V.ref a) (D.tup ds)
 | scr {a:Addr} {ns:List Int}:SqL K H a (ns.map V.int)->Rep K H (V.ref a) (D.scr ns)
 | dct {a:Addr} {fz:Bool} {kvs:List (Int × Int)}:DRd H a fz kvs->Rep K H (V.ref a) (D.dct fz kvs)
 | ptr (a:Addr):Rep K H (V.ref a) (D.ptr a)
inductive Reps (K:W.Frag) (H:Hp):List V->List D->Prop where
 | nil:Reps K H [] []
 | cons {v:V} {d:D} {vs:List V} {ds:List D}:Rep K H v d->Reps K H vs ds->Reps K H (v::vs) (d::ds)
end
theorem dZ{H H':Hp}{a:Addr}{u:HO}(e:Same H H')(h:Rd H a u):Rd H' a u:=by
 rcases h with h | ⟨o,h⟩
 ·exact .inl (e _ _ h)
 ·exact .inr ⟨o,e _ _ h⟩
theorem dR{H:Hp}{a:Addr}{u:HO}(h:H a=some u):Rd H a u:=.inl h
theorem gw{H:Hp}{a:Addr}{xs ys:List V}(h:Rd H a (.lst xs))(h':Rd H a (.lst ys)):xs=ys:=by
 rcases h with h | ⟨o,h⟩ <;> rcases h' with h' | ⟨o',h'⟩ <;> rw[h] at h' <;> cases h' <;> rfl
theorem jA{H:Hp}{a:Addr}{xs ys:List V}(h:Rd H a (.tup xs))(h':Rd H a (.tup ys)):xs=ys:=by
 rcases h with h | ⟨o,h⟩ <;> rcases h' with h' | ⟨o',h'⟩ <;> rw[h] at h' <;> cases h' <;> rfl
theorem rT{H:Hp}{a:Addr}{xs ys:List V}(h:Rd H a (.lst xs))(h':Rd H a (.tup ys)):False:=by
 rcases h with h | ⟨o,h⟩ <;> rcases h' with h' | ⟨o',h'⟩ <;> rw[h] at h' <;> cases h'
theorem aH{K:W.Frag}{H H':Hp}(e:Same H H'){v:V}{d:D}(h:Rep K H v d):Rep K H' v d :=
 Rep.rec (motive_1:=fun v d _=>Rep K H' v d) (motive_2:=fun vs ds _=>Reps K H' vs ds)
  .non (fun b=>.bl b) (fun i=>.int i) (fun x=>.str x) (fun h _ ih=>.lst (dZ e h) ih) (fun h _ ih=>.tup (e _ _ h) ih) (fun h=>.scr (e.seq h)) (fun h=>.dct (h.same e)) (fun a=>.ptr a)
  .nil (fun _ _ ih1 ih2=>.cons ih1 ih2) h
theorem aU{K:W.Frag}{H H':Hp}(e:Same H H'){vs:List V}{ds:List D}(h:Reps K H vs ds):Reps K H' vs ds :=
 Reps.rec (motive_1:=fun v d _=>Rep K H' v d) (motive_2:=fun vs ds _=>Reps K H' vs ds)
  .non (fun b=>.bl b) (fun i=>.int i) (fun x=>.str x) (fun h _ ih=>.lst (dZ e h) ih) (fun h _ ih=>.tup (e _ _ h) ih) (fun h=>.scr (e.seq h)) (fun h=>.dct (h.same e)) (fun a=>.ptr a)
  .nil (fun _ _ ih1 ih2=>.cons ih1 ih2) h
section
variable {K:W.Frag}{H:Hp}
theorem Reps.length:∀ {vs:List V} {ds:List D},Reps K H vs ds->vs.length=ds.length
 | [],_,h=>by cases h;rfl
 | _::vs,_,h=>by cases h with | cons _ t=>simp[Reps.length t]
theorem Reps.append:∀ {vs ws:List V} {ds es:List D},Reps K H vs ds->Reps K H ws es->Reps K H (vs++ws) (ds++es)
 | [],_,_,_,h,h2=>by cases h;exact h2
 | _::_,_,_,_,h,h2=>by cases h with | cons a t=>exact .cons a (Reps.append t h2)
theorem Reps.get:∀ {vs:List V} {ds:List D} {i:Nat} {d:D},Reps K H vs ds->ds[i]?=some d->∃ v,vs[i]?=some v/\Rep K H v d
 | [],_,_,_,h,e=>by cases h;simp at e
 | _::_,_,0,_,h,e=>by cases h with | cons a t=>simp at e;subst e;exact⟨_,rfl,a⟩
 | _ :: _,_,i+1,_,h,e=>by
   cases h with
   | cons a t =>
     obtain⟨v,e1,r⟩:=Reps.get (i:=i) t (by simpa using e)
     exact⟨v,by simpa using e1,r⟩
theorem Reps.getV:∀ {vs:List V} {ds:List D} {i:Nat} {v:V},Reps K H vs ds->vs[i]?=some v->∃ d,ds[i]?=some d/\Rep K H v d
 | [],_,_,_,h,e=>by simp at e
 | _::_,_,0,_,h,e=>by cases h with | cons a t=>simp at e;subst e;exact⟨_,rfl,a⟩
 | _ :: _,_,i+1,_,h,e=>by
   cases h with
   | cons a t =>
     obtain⟨v,e1,r⟩:=Reps.getV (i:=i) t (by simpa using e)
     exact⟨v,by simpa using e1,r⟩
theorem Reps.take:∀ {vs:List V} {ds:List D} (n:Nat),Reps K H vs ds->Reps K H (vs.take n) (ds.take n)
 | _,_,0,_=>by simpa using Reps.nil
 | [],_,n+1,h=>by cases h;simpa using Reps.nil
 | _::_,_,n+1,h=>by cases h with | cons a t=>exact .cons a (Reps.take n t)
theorem Reps.drop:∀ {vs:List V} {ds:List D} (n:Nat),Reps K H vs ds->Reps K H (vs.drop n) (ds.drop n)
 | _,_,0,h=>by simpa using h
 | [],_,n+1,h=>by cases h;simpa using Reps.nil
 | _::_,_,n+1,h=>by cases h with | cons a t=>exact Reps.drop n t
theorem Reps.set{v:V}{d:D}(r:Rep K H v d):∀ {vs:List V} {ds:List D} (i:Nat),Reps K H vs ds->Reps K H (vs.set i v) (ds.set i d)
 | [],_,_,h=>by cases h;simpa using Reps.nil
 | _::_,_,0,h=>by cases h with | cons a t=>exact .cons r t
 | _::_,_,i+1,h=>by cases h with | cons a t=>exact .cons a (Reps.set r i t)
theorem Reps.reverse:∀ {vs:List V} {ds:List D},Reps K H vs ds->Reps K H vs.reverse ds.reverse
 | [],_,h=>by cases h;exact .nil
 | _::_,_,h=>by
   cases h with
   | cons a t=>rw[List.reverse_cons,List.reverse_cons];exact Reps.append (Reps.reverse t) (.cons a .nil)
theorem Reps.ints:∀ ns:List Int,Reps K H (ns.map V.int) (ns.map D.int)
 | []=>.nil
 | n::ns=>.cons (.int n) (Reps.ints ns)
theorem Reps.rep{vs:List V}{ds:List D}(h:Reps K H vs ds):∀ k:Nat,Reps K H (List.replicate k vs).flatten (List.replicate k ds).flatten
 | 0=>.nil
 | k+1=>by rw[List.replicate_succ,List.replicate_succ,List.flatten_cons,List.flatten_cons];exact h.append (Reps.rep h k)
end
noncomputable def ay(H:Hp)(A:Addr->Prop):Hp:=fun b=>@ite _ (A b) (Classical.propDecidable _) none (H b)
theorem zA{H:Hp}{A:Addr->Prop}{b:Addr}(h:A b):ay H A b=none:=by unfold ay;rw[if_pos h]
theorem bC{H:Hp}{A:Addr->Prop}{b:Addr}(h:¬ A b):ay H A b=H b:=by unfold ay;rw[if_neg h]
theorem dJ{H:Hp}{A:Addr->Prop}{b:Addr}{o:HO}(h:ay H A b=some o):¬ A b/\H b=some o:=by
 by_cases q:A b
 ·rw[zA q] at h;cases h
 ·rw[bC q] at h;exact⟨q,h⟩
theorem bc(H:Hp)(A:Addr->Prop):Same (ay H A) H:=fun _ _ h=>(dJ h).2
theorem cO{H H':Hp}{A B:Addr->Prop}(e:Same H H')(s:∀ b,B b->A b):Same (ay H A) (ay H' B):=fun b o h=>by
 obtain⟨n,h⟩:=dJ h
 rw[bC fun q=>n (s b q)]
 exact e b o h
theorem rV{H H':Hp}{A:Addr->Prop}(e:Same H H')(n:∀ b,A b->H b=none):Same H (ay H' A):=fun b o h=>by
 rw[bC fun q=>by rw[n b q] at h;cases h]
 exact e b o h
abbrev fh:Addr->Prop:=fun _=>False
theorem nD(H:Hp):Same H (ay H fh):=rV (fun _ _ h=>h) fun _ h=>h.elim
theorem bG{H:Hp}{p:Addr}(h:H p=none)(o:HO):Same H (upd H p o):=fun b u q=>by rw[aF (bM q h)];exact q
def Dom(H:Hp)(A:Addr->Prop):Prop:=∀ b,A b->H b ≠ none
theorem Dom.mono{H H':Hp}{A:Addr->Prop}(d:Dom H A)(e:Same H H'):Dom H' A:=fun b h n=>d b h (e.free n)
theorem Dom.none(H:Hp):Dom H fh:=fun _ h=>h.elim
theorem Dom.not_new{H:Hp}{A:Addr->Prop}{l:Addr}(d:Dom H A)(h:H l=Option.none):¬ A l:=fun q=>d l q h
def bg:D->Bool
 | .lst _=>false
 | .tup _=>false
 | .scr _=>false
 | .dct _ _=>false
 | .ptr _=>false
 | _=>true
theorem nE{K:W.Frag}{H H':Hp}{v:V}{d:D}(s:bg d=true)(h:Rep K H v d):Rep K H' v d:=by
 cases h with
 | non=>exact .non
 | bl b=>exact .bl b
 | int i=>exact .int i
 | str x=>exact .str x
 | lst _ _=>cases s
 | tup _ _=>cases s
 | scr _=>cases s
 | dct _=>cases s
 | ptr a=>cases s
end VL
namespace VL
open PySem PySem.Spec PyProof.Rows L2
abbrev am:=List (Option D)
abbrev FE:=am->Option D
inductive Es where
 | full (j:Nat)
 | el (j:Nat)
def EnvR(K:W.Frag)(H:Hp)(σ:St)(ρ:am):Prop:=∀ (i:Nat) (d:D),ρ[i]?=some (some d)->∃ v,σ[i]?=some (some v)/\Rep K H v d
theorem EnvR.mono{K:W.Frag}{H H':Hp}{σ:St}{ρ:am}(h:EnvR K H σ ρ)(e:Same H H'):EnvR K H' σ ρ:=fun i d q=>by
 obtain⟨v,h1,h2⟩:=h i d q
 exact⟨v,h1,aH e h2⟩
def zB:D->Option Unit
 | .scr _=>some ()
 | .dct _ _=>some ()
 | .ptr _=>some ()
 | _=>none
def ElR(K:W.Frag)(H:Hp)(A:Addr->Prop)(v:V)(d:D):Prop :=
 (bg d=true\/∃ u,zB d=some u)\/∃ p xs ds,v=V.ref p/\((d=.lst ds/\Rd H p (.lst xs))\/(d=.tup ds/\Rd H p (.tup xs)))/\Reps K (ay H A) xs ds
def Av(K:W.Frag)(H:Hp)(σ:St)(ρ:am)(A:Addr->Prop):Es->Prop
 | .full j=>∀ v d,σ[j]?=some (some v)->ρ[j]?=some (some d)->Rep K (ay H A) v d
 | .el j=>∀ v d,σ[j]?=some (some v)->ρ[j]?=some (some d)->ElR K H A v d
theorem bY{H H':Hp}{A:Addr->Prop}(e:Same H H'):Same (ay H A) (ay H' A):=cO e fun _ h=>h
theorem ElR.mono{K:W.Frag}{H H':Hp}{A:Addr->Prop}{v:V}{d:D}(e:Same H H')(h:ElR K H A v d):ElR K H' A v d:=by
 rcases h with h | ⟨p,xs,ds,h1,h2,h3⟩
 ·exact .inl h
 ·refine .inr ⟨p,xs,ds,h1,?_,aU (bY e) h3⟩
  rcases h2 with⟨h2,h4⟩ | ⟨h2,h4⟩
  ·exact .inl ⟨h2,dZ e h4⟩
  ·exact .inr ⟨h2,dZ e h4⟩
theorem Av.mono{K:W.Frag}{H H':Hp}{σ:St}{ρ:am}{A:Addr->Prop}{x:Es}(e:Same H H')(h:Av K H σ ρ A x):Av K H' σ ρ A x:=by
 cases x with
 | full j=>exact fun v d h1 h2=>aH (bY e) (h v d h1 h2)
 | el j=>exact fun v d h1 h2=>(h v d h1 h2).mono e
theorem Rep.el{K:W.Frag}{H:Hp}{A:Addr->Prop}{v:V}{d:D}(h:Rep K (ay H A) v d):ElR K H A v d:=by
 cases h with
 | non=>exact .inl (.inl rfl)
 | bl b=>exact .inl (.inl rfl)
 | int i=>exact .inl (.inl rfl)
 | str x=>exact .inl (.inl rfl)
 | lst h1 h2=>exact .inr ⟨_,_,_,rfl,.inl ⟨rfl,dZ (bc H A) h1⟩,h2⟩
 | tup h1 h2=>exact .inr ⟨_,_,_,rfl,.inr ⟨rfl,dZ (bc H A) (dR h1)⟩,h2⟩
 | scr h1=>exact .inl (.inr ⟨_,rfl⟩)
 | dct h1=>exact .inl (.inr ⟨_,rfl⟩)
 | ptr a=>exact .inl (.inr ⟨_,rfl⟩)
structure Post (K:W.Frag) (σ:St) (ρ:am) (H:Hp) (es:List Es) (d:D) (v:V) (H':Hp):Prop where
 same:Same H H'
 rep:Rep K H' v d
 av:∀ A,Dom H A->(∀ e ∈ es,Av K H σ ρ A e)->Rep K (ay H' A) v d
structure PostF (K:W.Frag) (σ:St) (ρ:am) (H:Hp) (es:List Es) (d:D) (v:V) (H':Hp):Prop where
 same:Same H H'
 new:∃ l xs ds,v=V.ref l/\d=.lst ds/\H l=none/\H' l=some (.lst xs)/\∀ A,Dom H A->(∀ e ∈ es,Av K H σ ρ A e)->Reps K (ay H' fun b=>A b\/b=l) xs ds
theorem Av.none{K:W.Frag}{H:Hp}{σ:St}{ρ:am}(hE:EnvR K H σ ρ)(e:Es):Av K H σ ρ fh e:=by
 have full:∀ (j:Nat) (v:V) (d:D),σ[j]?=some (some v)->ρ[j]?=some (some d)->Rep K (ay H fh) v d:=fun j v d h1 h2=>by
  obtain⟨v',h3,h4⟩:=hE j d h2
  rw[h1] at h3;cases h3
  exact aH (nD H) h4
 cases e with
 | full j=>exact full j
 | el j=>exact fun v d h1 h2=>(full j v d h1 h2).el
theorem PostF.post{K:W.Frag}{σ:St}{ρ:am}{H:Hp}{es:List Es}{d:D}{v:V}{H':Hp}(h:PostF K σ ρ H es d v H')(hE:EnvR K H σ ρ):Post K σ ρ H es d v H':=by
 obtain⟨l,xs,ds,rfl,rfl,hl,hl',h3⟩:=h.new
 have av:∀ A,Dom H A->(∀ e ∈ es,Av K H σ ρ A e)->Rep K (ay H' A) (V.ref l) (.lst ds):=fun A hA ha =>
  .lst (.inl (by rw[bC (hA.not_new hl)];exact hl')) (aU (cO (fun _ _ q=>q) fun b q=>.inl q) (h3 A hA ha))
 exact⟨h.same,aH (bc H' _) (av fh (Dom.none H) fun e _=>Av.none hE e),av⟩
def tv(K:W.Frag)(f:FE)(es:List Es):TE:=fun σ H Q=>∃ ρ d,EnvR K H σ ρ/\f ρ=some d/\∀ v H',Post K σ ρ H es d v H'->Q v H'
def tvF(K:W.Frag)(f:FE)(es:List Es):TE:=fun σ H Q=>∃ ρ d,EnvR K H σ ρ/\f ρ=some d/\∀ v H',PostF K σ ρ H es d v H'->Q v H'
def tvT(K:W.Frag)(f:am->Option Bool):TT:=fun σ H Q=>∃ ρ b,EnvR K H σ ρ/\f ρ=some b/\∀ H',Same H H'->Q b H'
abbrev FEs:=am->Option (List D)
structure Posts (K:W.Frag) (σ:St) (ρ:am) (H:Hp) (es:List Es) (ds:List D) (vs:List V) (H':Hp):Prop where
 same:Same H H'
 rep:Reps K H' vs ds
 av:∀ A,Dom H A->(∀ e ∈ es,Av K H σ ρ A e)->Reps K (ay H' A) vs ds
def tvA(K:W.Frag)(f:FEs)(es:List Es):TA:=fun σ H Q=>∃ ρ ds,EnvR K H σ ρ/\f ρ=some ds/\∀ vs H',Posts K σ ρ H es ds vs H'->Q vs H'
abbrev VE(X:Cx)(e:Expr)(f:FE)(es:List Es):Prop:=PE X e (tv X.K f es)
abbrev VF(X:Cx)(e:Expr)(f:FE)(es:List Es):Prop:=PE X e (tvF X.K f es)
abbrev VT(X:Cx)(e:Expr)(f:am->Option Bool):Prop:=PT X e (tvT X.K f)
abbrev VW(X:Cx)(e:Expr)(f:am->Option Bool):Prop:=PW X e (tvT X.K f)
abbrev VA(X:Cx)(e:List Expr)(f:FEs)(es:List Es):Prop:=PA X e (tvA X.K f es)
theorem aM{X:Cx}{e:Expr}{t t':TE}(h:PE X e t)(i:∀ σ H Q,t' σ H Q->t σ H Q):PE X e t':=fun J0 s σ H Q I q=>h J0 s σ H Q I (i σ H Q q)
theorem gx{X:Cx}{e:Expr}{t t':TT}(h:PT X e t)(i:∀ σ H Q,t' σ H Q->t σ H Q):PT X e t':=fun J0 s σ H Q I q=>h J0 s σ H Q I (i σ H Q q)
theorem nF{X:Cx}{e:Expr}{t t':TT}(h:PW X e t)(i:∀ σ H Q,t' σ H Q->t σ H Q):PW X e t':=fun w J0 s σ H Q I q=>h w J0 s σ H Q I (i σ H Q q)
theorem ls{X:Cx}{e:List Expr}{t t':TA}(h:PA X e t)(i:∀ σ H Q,t' σ H Q->t σ H Q):PA X e t':=fun pos J0 s σ H Q I q=>h pos J0 s σ H Q I (i σ H Q q)
section
variable {X:Cx}{a b c:Expr}{es ea eb ec:List Es}{fa fb fc:FE}{pos:Pos}
theorem VF.ve{f:FE}(h:VF X a f es):VE X a f es:=aM h fun σ H Q ⟨ρ,d,hE,hf,hQ⟩=>⟨ρ,d,hE,hf,fun v H' p=>hQ v H' (p.post hE)⟩
def aa(i:Nat):FE:=fun ρ=>(ρ[i]?).getD none
theorem iI{i:Nat}{ρ:am}{d:D}(h:aa i ρ=some d):ρ[i]?=some (some d):=by
 unfold aa at h
 cases e:ρ[i]? with
 | none=>rw[e] at h;cases h
 | some o=>rw[e] at h;simp only[Option.getD_some] at h;rw[h]
theorem zC(i:Nat){x:Str}{pos:Pos}(hN:X.N[i]?=some x)(hv:Vis X.env.scope x:=by first | exact Or.inl rfl | exact Or.inr (Or.inl rfl) | exact Or.inr (Or.inr rfl))(hd:(x == ("__debug__" : Str))=false)(hcd:(x == ("__classdict__" : Str))=false):VE X (.Name x pos) (aa i) [.full i] :=
 aM (iE hN hv hd hcd) fun σ H Q ⟨ρ,d,hE,hf,hQ⟩=>by
  have h:=iI hf
  obtain⟨v,hv,r⟩:=hE i d h
  exact⟨v,hv,hQ v H ⟨Same.refl H,r,fun A _ av=>av (.full i) (List.mem_singleton.mpr rfl) v d hv h⟩⟩
def eC(d:D):FE:=fun _=>some d
theorem jB{e:Expr}{v:V}{d:D}(h:PE X e (tC v))(r:∀ H,Rep X.K H v d):VE X e (eC d) [] :=
 aM h fun σ H Q ⟨ρ,d',hE,hf,hQ⟩=>by
  cases hf
  exact hQ v H ⟨Same.refl H,r H,fun A _ _=>r _⟩
theorem zD{i j pos}:VE X (.Constant (.int i) j pos) (eC (.int i)) []:=jB xA fun _=>.int i
theorem zE{i j pos}:VE X (.Constant (.bool i) j pos) (eC (.bl i)) []:=jB xB fun _=>.bl i
theorem iJ{j pos}:VE X (.Constant .none j pos) (eC .non) []:=jB xC fun _=>.non
theorem zF{x j pos}:VE X (.Constant (.str x) j pos) (eC (.str x)) []:=jB iF fun _=>.str x
theorem zG{x:Str}{i:Int}{t:Tok}{pos:Pos}(hm:X.mg x=some (.int i t))(hg:Gl X x)(hd:(x == ("__debug__" : Str))=false):VE X (.Name x pos) (eC (.int i)) [] :=
 jB (qo (v:=.int i) hg hm ⟨t,rfl⟩ hd) fun _=>.int i
def e2(g:D->D->Option D)(a b:FE):FE:=fun ρ=>(a ρ).bind fun x=>(b ρ).bind fun y=>g x y
def e1(g:D->Option D)(a:FE):FE:=fun ρ=>(a ρ).bind g
theorem bind_some{α β:Type}{o:Option α}{f:α->Option β}{b:β}(h:o.bind f=some b):∃ a,o=some a/\f a=some b:=by
 cases o with
 | none=>cases h
 | some a=>exact⟨a,rfl,h⟩
theorem Post.up{K:W.Frag}{σ:St}{ρ:am}{H H1 H2:Hp}{es:List Es}{d:D}{v:V}(h:Post K σ ρ H es d v H1)(e:Same H1 H2):Post K σ ρ H es d v H2 :=
 ⟨h.same.trans e,aH e h.rep,fun A hA ha=>aH (bY e) (h.av A hA ha)⟩
theorem Post.down{K:W.Frag}{σ:St}{ρ:am}{H H1 H2:Hp}{es:List Es}{d:D}{v:V}(h:Post K σ ρ H1 es d v H2)(e:Same H H1):Post K σ ρ H es d v H2 :=
 ⟨e.trans h.same,h.rep,fun A hA ha=>h.av A (hA.mono e) fun x hx=>(ha x hx).mono e⟩
def OpV(K:W.Frag)(r:R2)(g:D->D->Option D):Prop :=
 ∀ (x y:V) (H:Hp) (dx dy d:D) (Q:VK),Rep K H x dx->Rep K H y dy->g dx dy=some d ->
   (∀ v H',Same H H'->Rep K H' v d->(∀ A,Dom H A->Rep K (ay H A) x dx->Rep K (ay H A) y dy->Rep K (ay H' A) v d)->Q v H')->r x y H Q
def UnV(K:W.Frag)(r:V->Hp->VK->Prop)(g:D->Option D):Prop :=
 ∀ (x:V) (H:Hp) (dx d:D) (Q:VK),Rep K H x dx->g dx=some d ->
   (∀ v H',Same H H'->Rep K H' v d->(∀ A,Dom H A->Rep K (ay H A) x dx->Rep K (ay H' A) v d)->Q v H')->r x H Q
theorem nG{K:W.Frag}{r:R2}{g:D->D->Option D}(hr:OpV K r g){σ:St}{H:Hp}{Q:VK}(h:tv K (e2 g fa fb) (ea++eb) σ H Q):tOp r (tv K fa ea) (tv K fb eb) σ H Q:=by
 obtain⟨ρ,d,hE,hf,hQ⟩:=h
 obtain⟨dx,h1,hf⟩:=bind_some hf
 obtain⟨dy,h2,hf⟩:=bind_some hf
 refine⟨ρ,dx,hE,h1,fun x H1 p1=>⟨ρ,dy,hE.mono p1.same,h2,fun y H2 p2=>?_⟩⟩
 have q1:=p1.up p2.same
 have q2:=p2.down p1.same
 refine hr x y H2 dx dy d Q q1.rep q2.rep hf fun v H' e r' av=>hQ v H' ⟨q1.same.trans e,r',fun A hA ha=>?_⟩
 exact av A (hA.mono q1.same) (q1.av A hA fun z hz=>ha z (List.mem_append_left _ hz)) (q2.av A hA fun z hz=>ha z (List.mem_append_right _ hz))
theorem zH{K:W.Frag}{r:V->Hp->VK->Prop}{g:D->Option D}(hr:UnV K r g){σ:St}{H:Hp}{Q:VK}(h:tv K (e1 g fa) ea σ H Q):tUn r (tv K fa ea) σ H Q:=by
 obtain⟨ρ,d,hE,hf,hQ⟩:=h
 obtain⟨dx,h1,hf⟩:=bind_some hf
 refine⟨ρ,dx,hE,h1,fun x H1 p1=>?_⟩
 exact hr x H1 dx d Q p1.rep hf fun v H' e r' av=>hQ v H' ⟨p1.same.trans e,r',fun A hA ha=>av A (hA.mono p1.same) (p1.av A hA ha)⟩
theorem zI{op:Operator}{r:R2}{g:D->D->Option D}(ho:OpR X (binaryOp op) r)(hr:OpV X.K r g)(ha:VE X a fa ea)(hb:VE X b fb eb):VE X (.BinOp a op b pos) (e2 g fa fb) (ea++eb) :=
 aM (lf ho ha hb) fun _ _ _ h=>nG hr h
theorem lu{f:FE}(h:VE X a f es)(hs:∀ ρ d,f ρ=some d->bg d=true):VE X a f [] :=
 aM h fun σ H Q ⟨ρ,d,hE,hf,hQ⟩=>⟨ρ,d,hE,hf,fun v H' p=>hQ v H' ⟨p.same,p.rep,fun A _ _=>nE (hs ρ d hf) p.rep⟩⟩
theorem rW{g:D->D->Option D}(h:∀ x y d,g x y=some d->bg d=true)(fa fb:FE)(ρ:am)(d:D)(e:e2 g fa fb ρ=some d):bg d=true:=by
 obtain⟨x,_,e⟩:=bind_some e
 obtain⟨y,_,e⟩:=bind_some e
 exact h x y d e
theorem zJ{g:D->Option D}(h:∀ x d,g x=some d->bg d=true)(fa:FE)(ρ:am)(d:D)(e:e1 g fa ρ=some d):bg d=true:=by
 obtain⟨x,_,e⟩:=bind_some e
 exact h x d e
def gI(C:Int->Int->Prop)[∀ i j,Decidable (C i j)](k:Int->Int->D):D->D->Option D
 | .int i,.int j=>if C i j then some (k i j) else none
 | _,_=>none
theorem jC{C C':Int->Int->Prop}[∀ i j,Decidable (C' i j)]{k:Int->Int->D}{kv:Int->Int->V}(K:W.Frag)(hC:∀ i j,C' i j->C i j)(hk:∀ i j H,Rep K H (kv i j) (k i j)):OpV K (rI C kv) (gI C' k):=by
 intro x y H dx dy d Q rx ry hg hQ
 cases rx <;> cases ry <;> try (unfold gI at hg;cases hg;done)
 rename_i i j
 by_cases c:C' i j
 ·simp only[gI,if_pos c] at hg
  cases hg
  exact⟨i,j,rfl,rfl,hC i j c,hQ _ H (Same.refl H) (hk i j H) fun A _ _ _=>hk i j _⟩
 ·simp only[gI,if_neg c] at hg
  cases hg
theorem jD{C':Int->Int->Prop}[∀ i j,Decidable (C' i j)]{k:Int->Int->D}{kv:Int->Int->V}(K:W.Frag)(hk:∀ i j H,Rep K H (kv i j) (k i j)):OpV K (rI0 kv) (gI C' k):=by
 intro x y H dx dy d Q rx ry hg hQ
 cases rx <;> cases ry <;> try (unfold gI at hg;cases hg;done)
 rename_i i j
 by_cases c:C' i j
 ·simp only[gI,if_pos c] at hg
  cases hg
  exact⟨i,j,rfl,rfl,hQ _ H (Same.refl H) (hk i j H) fun A _ _ _=>hk i j _⟩
 ·simp only[gI,if_neg c] at hg
  cases hg
abbrev iK(_ _:Int):Prop:=True
def small(i:Int):Prop:=-18446744073709551616 < i/\i < 18446744073709551616
instance (i:Int):Decidable (small i):=inferInstanceAs (Decidable (_/\_))
def mid(i:Int):Prop:=i.natAbs.log2 < 4000
instance (i:Int):Decidable (mid i):=inferInstanceAs (Decidable (_ < _))
def okMul(i j:Int):Prop:=small i\/small j\/(mid i/\mid j)
instance (i j:Int):Decidable (okMul i j):=inferInstanceAs (Decidable (_\/_))
def jE(_ j:Int):Prop:=0 < j/\mid j
instance (i j:Int):Decidable (jE i j):=inferInstanceAs (Decidable (_/\_))
def lw(_ j:Int):Prop:=0 < j
instance (i j:Int):Decidable (lw i j):=inferInstanceAs (Decidable (_ < _))
def jF(i j:Int):Prop:=(0<=j/\j<=1000000)/\small i
instance (i j:Int):Decidable (jF i j):=inferInstanceAs (Decidable (_/\_))
theorem rX{i:Int}(h:mid i):Builtin.Int.intBits i<=4000:=by
 unfold Builtin.Int.intBits
 split
 ·exact Nat.zero_le _
 ·exact h
theorem okMul.ok{i j:Int}(h:okMul i j):IntMulOk i j:=by
 rcases h with h | h | ⟨h1,h2⟩
 ·exact .of_left (intBits_le_64 h.1 h.2)
 ·exact .of_right (intBits_le_64 h.1 h.2)
 ·exact PyProof.Rows.mulOk_of_bits (rX h1) (rX h2) (by decide)
abbrev aV:=gI iK fun i j=>.int (i+j)
abbrev bH:=gI iK fun i j=>.int (i - j)
abbrev cH:=gI okMul fun i j=>.int (i * j)
abbrev iL:=gI jE fun i j=>.int (i / j)
abbrev e7:=gI lw fun i j=>.int (i % j)
abbrev fj:=gI jF fun i j=>.int (i ^ j.toNat)
theorem iM{C:Int->Int->Prop}[∀ i j,Decidable (C i j)]{k:Int->Int->D}(hk:∀ i j,bg (k i j)=true)(x y d:D)(h:gI C k x y=some d):bg d=true:=by
 unfold gI at h
 split at h
 ·split at h
  ·cases h;exact hk _ _
  ·cases h
 ·cases h
theorem rY:OpR X (binaryOp .Mult) (rI okMul fun i j=>.int (i * j)):=opI fun _ _ _ _ _ _ _ hc q=>mul_int q hc.ok
theorem zK:OpR X (binaryOp .FloorDiv) (rI jE fun i j=>.int (i / j)):=opI fun i j _ _ _ _ _ hc q=>by
 have h1:(0:Int) < j:=hc.1
 have h2:j.natAbs.log2 < 4000:=hc.2
 exact floordiv_int (by omega) (by rw[Int.fdiv_eq_ediv_of_nonneg i (by omega)];exact q) (.inl (PyProof.noPylong_of_log2 (by omega)))
theorem zL:OpR X (binaryOp .Pow) (rI jF fun i j=>.int (i ^ j.toNat)):=opI fun i j _ _ _ _ _ hc q=>by
 have h1:-18446744073709551616 < i/\i < 18446744073709551616:=hc.2
 exact pow_int_small hc.1.1 hc.1.2 (by omega) q
theorem iN{op:Operator}{r:R2}{C:Int->Int->Prop}[∀ i j,Decidable (C i j)]{k:Int->Int->D}(ho:OpR X (binaryOp op) r)(hr:OpV X.K r (gI C k))(hk:∀ i j,bg (k i j)=true)(ha:VE X a fa ea)(hb:VE X b fb eb):
  VE X (.BinOp a op b pos) (e2 (gI C k) fa fb) []:=lu (zI ho hr ha hb) (rW (iM hk) fa fb)
theorem zM(ha:VE X a fa ea)(hb:VE X b fb eb):VE X (.BinOp a .Add b pos) (e2 aV fa fb) []:=iN qL (jD X.K fun _ _ _=>.int _) (fun _ _=>rfl) ha hb
theorem zN(ha:VE X a fa ea)(hb:VE X b fb eb):VE X (.BinOp a .Sub b pos) (e2 bH fa fb) []:=iN qM (jD X.K fun _ _ _=>.int _) (fun _ _=>rfl) ha hb
theorem zO(ha:VE X a fa ea)(hb:VE X b fb eb):VE X (.BinOp a .Mult b pos) (e2 cH fa fb) []:=iN rY (jC X.K (fun _ _ h=>h) fun _ _ _=>.int _) (fun _ _=>rfl) ha hb
theorem zP(ha:VE X a fa ea)(hb:VE X b fb eb):VE X (.BinOp a .FloorDiv b pos) (e2 iL fa fb) []:=iN zK (jC X.K (fun _ _ h=>h) fun _ _ _=>.int _) (fun _ _=>rfl) ha hb
theorem zQ(ha:VE X a fa ea)(hb:VE X b fb eb):VE X (.BinOp a .Mod b pos) (e2 e7 fa fb) []:=iN ye (jC X.K (fun _ _ h=>h) fun _ _ _=>.int _) (fun _ _=>rfl) ha hb
theorem zR(ha:VE X a fa ea)(hb:VE X b fb eb):VE X (.BinOp a .Pow b pos) (e2 fj fa fb) []:=iN zL (jC X.K (fun _ _ h=>h) fun _ _ _=>.int _) (fun _ _=>rfl) ha hb
def cj:D->Option D
 | .int i=>some (.int (-i))
 | _=>none
theorem zS(x d:D)(h:cj x=some d):bg d=true:=by
 cases x <;> simp only[cj] at h <;> cases h
 rfl
theorem zT(ha:VE X a fa ea):VE X (.UnaryOp .USub a pos) (e1 cj fa) [] :=
 lu (es:=ea) (aM (yd yf ha) fun _ _ _ h=>zH (fun x H dx d Q rx hg hQ=>by
  cases rx <;> simp only[cj] at hg <;> cases hg
  exact⟨_,rfl,hQ _ H (Same.refl H) (.int _) fun A _ _=>.int _⟩) h) (zJ zS fa)
abbrev ltI:=gI iK fun i j=>.bl (decide (i < j))
abbrev leI:=gI iK fun i j=>.bl (decide (i<=j))
abbrev gtI:=gI iK fun i j=>.bl (decide (j < i))
abbrev geI:=gI iK fun i j=>.bl (decide (j<=i))
theorem iO{op:CmpOp}{r:R2}{g:D->D->Option D}(ho:OpR X (compareOp op) r)(hr:OpV X.K r g)(ha:VE X a fa ea)(hb:VE X b fb eb)(hm:behindInMarks op b=false)(hs:∀ x y d,g x y=some d->bg d=true):
  VE X (.Compare a [op] [b] pos) (e2 g fa fb) []:=lu (es:=ea++eb) (aM (qR ho ha hb hm) fun _ _ _ h=>nG hr h) (rW hs fa fb)
def tru:D->Option Bool
 | .bl b=>some b
 | .int i=>some (i != 0)
 | .non=>some false
 | .lst xs=>some (!xs.isEmpty)
 | .tup xs=>some (!xs.isEmpty)
 | .str _=>none
 | .scr ns=>some (!ns.isEmpty)
 | .dct _ _=>none
 | .ptr _=>none
def eT(f:FE):am->Option Bool:=fun ρ=>(f ρ).bind fun d=>match d with | .bl b=>some b | _=>none
theorem jG{op:CmpOp}{r:R2}{g:D->D->Option D}(ho:OpR X (compareOp op) r)(hr:OpV X.K r g)(ha:VE X a fa ea)(hb:VE X b fb eb)(hm:behindInMarks op b=false):VT X (.Compare a [op] [b] pos) (eT (e2 g fa fb)) :=
 gx (qS ho ha hb hm) fun σ H Q ⟨ρ,b,hE,hf,hQ⟩=>by
  obtain⟨d,h1,h2⟩:=bind_some hf
  refine nG hr ⟨ρ,d,hE,h1,fun v H' p=>?_⟩
  cases d <;> simp only at h2 <;> cases h2
  cases p.rep
  exact⟨b,rfl,hQ H' p.same⟩
theorem fP{C':Int->Int->Prop}[∀ i j,Decidable (C' i j)]{k:Int->Int->Bool}(K:W.Frag):OpV K (rI0 fun i j=>.bl (k i j)) (gI C' fun i j=>.bl (k i j)):=jD K fun _ _ _=>.bl _
theorem zU(ha:VE X a fa ea)(hb:VE X b fb eb):VE X (.Compare a [.Lt] [b] pos) (e2 ltI fa fb) []:=iO qO (fP X.K) ha hb (cM _) (iM fun _ _=>rfl)
theorem zV(ha:VE X a fa ea)(hb:VE X b fb eb):VE X (.Compare a [.LtE] [b] pos) (e2 leI fa fb) []:=iO nh (fP X.K) ha hb (cM _) (iM fun _ _=>rfl)
theorem zW(ha:VE X a fa ea)(hb:VE X b fb eb):VE X (.Compare a [.Gt] [b] pos) (e2 gtI fa fb) []:=iO qP (fP X.K) ha hb (cM _) (iM fun _ _=>rfl)
theorem zX(ha:VE X a fa ea)(hb:VE X b fb eb):VE X (.Compare a [.GtE] [b] pos) (e2 geI fa fb) []:=iO yg (fP X.K) ha hb (cM _) (iM fun _ _=>rfl)
theorem zY(ha:VE X a fa ea)(hb:VE X b fb eb):VT X (.Compare a [.Lt] [b] pos) (eT (e2 ltI fa fb)):=jG qO (fP X.K) ha hb (cM _)
def e3c(g g':D->D->Option D)(a b c:FE):FE:=fun ρ=>(a ρ).bind fun x=>(b ρ).bind fun y=>(g x y).bind fun z=>match z with
 | .bl true=>(c ρ).bind fun w=>g' y w
 | .bl false=>some (.bl false)
 | _=>none
theorem zZ{K:W.Frag}{r r':R2}{g g':D->D->Option D}(hr:OpV K r g)(hr':OpV K r' g')(hs:∀ x y d,g' x y=some d->bg d=true){σ:St}{H:Hp}{Q:VK}(h:tv K (e3c g g' fa fb fc) [] σ H Q):
  qT r r' (tv K fa ea) (tv K fb eb) (tv K fc ec) σ H Q:=by
 obtain⟨ρ,d,hE,hf,hQ⟩:=h
 obtain⟨dx,h1,hf⟩:=bind_some hf
 obtain⟨dy,h2,hf⟩:=bind_some hf
 obtain⟨dz,h3,hf⟩:=bind_some hf
 refine⟨ρ,dx,hE,h1,fun x H1 p1=>⟨ρ,dy,hE.mono p1.same,h2,fun y H2 p2=>?_⟩⟩
 have q1:=p1.up p2.same
 have q2:=p2.down p1.same
 refine hr x y H2 dx dy dz _ q1.rep q2.rep h3 fun v H3 e3 r3 _=>?_
 have e03:=q1.same.trans e3
 cases dz with
 | bl k =>
   cases r3
   refine⟨k,rfl,?_⟩
   cases k with
   | false=>cases hf;exact dH (hQ _ H3 ⟨e03,.bl _,fun A _ _=>.bl _⟩)
   | true =>
     obtain⟨dw,h4,hf⟩:=bind_some hf
     refine dI ⟨ρ,dw,hE.mono e03,h4,fun w H4 p4=>?_⟩
     refine hr' y w H4 dy dw d Q (aH (e3.trans p4.same) q2.rep) p4.rep hf fun v' H' e r' _=>hQ v' H' ⟨(e03.trans p4.same).trans e,r',fun A _ _=>nE (hs _ _ _ hf) r'⟩
 | _=>cases hf
theorem A0{op op':CmpOp}{r r':R2}{g g':D->D->Option D}(ho:OpR X (compareOp op) r)(ho':OpR X (compareOp op') r')(hr:OpV X.K r g)(hr':OpV X.K r' g')(hs:∀ x y d,g' x y=some d->bg d=true)(ha:VE X a fa ea)(hb:VE X b fb eb)(hc:VE X c fc ec)(hm:lastMarks [op,op'] [b,c]=false:=by with_unfolding_all rfl):VE X (.Compare a [op,op'] [b,c] pos) (e3c g g' fa fb fc) [] :=
 aM (yj ho ho' ha hb hc hm) fun _ _ _ h=>zZ hr hr' hs h
theorem A9(ha:VE X a fa ea)(hb:VE X b fb eb)(hc:VE X c fc ec)(hm:lastMarks [.LtE,.LtE] [b,c]=false):VE X (.Compare a [.LtE,.LtE] [b,c] pos) (e3c leI leI fa fb fc) []:=A0 nh nh (fP X.K) (fP X.K) (iM fun _ _=>rfl) ha hb hc hm
def fk(f:FE):am->Option Bool:=fun ρ=>(f ρ).bind tru
theorem rZ{K:W.Frag}{H:Hp}{v:V}{d:D}{k:Bool}(r:Rep K H v d)(h:tru d=some k):nj K v H k:=by
 cases r with
 | non=>cases h;rfl
 | bl b=>cases h;rfl
 | int i=>cases h;rfl
 | str x=>cases h
 | lst h1 h2 =>
   cases h
   refine .inl ⟨_,.inl h1,?_⟩
   cases h2 <;> rfl
 | tup h1 h2 =>
   cases h
   refine .inr (.inl ⟨_,.inl (dR h1),?_⟩)
   cases h2 <;> rfl
 | @scr a ns h1 =>
   cases h
   exact .inl ⟨_,h1,by cases ns <;> rfl⟩
 | dct h1=>cases h
 | ptr a=>cases h
theorem Aa{f:FE}(h:VE X a f es)(he:∀ whole,isTrue a X.env whole=(do let v <- whole;standAt a.pos;holding [v] (truthy v))):VT X a (fk f) :=
 gx (qV h he) fun σ H Q ⟨ρ,b,hE,hf,hQ⟩=>by
  obtain⟨d,h1,h2⟩:=bind_some hf
  exact⟨ρ,d,hE,h1,fun v H' p=>⟨b,rZ p.rep h2,hQ H' p.same⟩⟩
def bOr(f g:am->Option Bool):am->Option Bool:=fun ρ=>(f ρ).bind fun b=>if b=true then some true else g ρ
def fQ(f:am->Option Bool):am->Option Bool:=fun ρ=>(f ρ).map (!·)
variable {ta tb:am->Option Bool}{az:List Expr}
theorem Ab(ha:VT X a ta):VW X (.BoolOp .Or [a] pos) ta:=qq ha
theorem Ac(ha:VT X a ta)(hb:VW X (.BoolOp .Or (b::az) pos) tb):VW X (.BoolOp .Or (a::b::az) pos) (bOr ta tb) :=
 nF (qr ha hb) fun σ H Q ⟨ρ,b,hE,hf,hQ⟩=>by
  obtain⟨k,h1,h2⟩:=bind_some hf
  refine⟨ρ,k,hE,h1,fun H1 e1=>?_⟩
  cases k with
  | false=>exact dH ⟨ρ,b,hE.mono e1,h2,fun H2 e2=>hQ H2 (e1.trans e2)⟩
  | true=>cases h2;exact dI (hQ H1 e1)
theorem Ad(h:VW X a ta):VT X a ta:=h.pt
theorem Ae(ha:VT X a ta):VT X (.UnaryOp .Not a pos) (fQ ta) :=
 gx (qt ha) fun σ H Q ⟨ρ,b,hE,hf,hQ⟩=>by
  unfold fQ at hf
  cases h1:ta ρ with
  | none=>rw[h1] at hf;cases hf
  | some k=>rw[h1] at hf;cases hf;exact⟨ρ,k,hE,h1,hQ⟩
def cI(f g:FE):FE:=fun ρ=>(f ρ).bind fun d=>match d with | .bl true=>g ρ | .bl false=>some (.bl false) | _=>none
def eOr(f g:FE):FE:=fun ρ=>(f ρ).bind fun d=>match d with | .bl false=>g ρ | .bl true=>some (.bl true) | _=>none
def jH(f:FE):FE:=fun ρ=>(f ρ).bind fun d=>match d with | .bl b=>some (.bl (!b)) | _=>none
theorem Af{op}{f:FE}(h:VE X a f es):VE X (.BoolOp op [a] pos) f es:=qu h
theorem Ag(ha:VE X a fa ea)(hb:VE X (.BoolOp .And (b::az) pos) fb eb):VE X (.BoolOp .And (a::b::az) pos) (cI fa fb) eb :=
 aM (qv ha hb) fun σ H Q ⟨ρ,d,hE,hf,hQ⟩=>by
  obtain⟨k,h1,h2⟩:=bind_some hf
  refine⟨ρ,k,hE,h1,fun x H1 p1=>?_⟩
  cases k with
  | bl b =>
    cases p1.rep
    refine⟨b,rfl,?_⟩
    cases b with
    | true=>exact dI ⟨ρ,d,hE.mono p1.same,h2,fun v H2 p2=>hQ v H2 (p2.down p1.same)⟩
    | false=>cases h2;exact dH (hQ _ H1 ⟨p1.same,.bl _,fun A _ _=>.bl _⟩)
  | _=>cases h2
theorem Ah(ha:VE X a fa ea)(hb:VE X (.BoolOp .Or (b::az) pos) fb eb):VE X (.BoolOp .Or (a::b::az) pos) (eOr fa fb) eb :=
 aM (qw ha hb) fun σ H Q ⟨ρ,d,hE,hf,hQ⟩=>by
  obtain⟨k,h1,h2⟩:=bind_some hf
  refine⟨ρ,k,hE,h1,fun x H1 p1=>?_⟩
  cases k with
  | bl b =>
    cases p1.rep
    refine⟨b,rfl,?_⟩
    cases b with
    | false=>exact dH ⟨ρ,d,hE.mono p1.same,h2,fun v H2 p2=>hQ v H2 (p2.down p1.same)⟩
    | true=>cases h2;exact dI (hQ _ H1 ⟨p1.same,.bl _,fun A _ _=>.bl _⟩)
  | _=>cases h2
theorem Ai(ha:VE X a fa ea):VE X (.UnaryOp .Not a pos) (jH fa) [] :=
 aM (xK ha) fun σ H Q ⟨ρ,d,hE,hf,hQ⟩=>by
  obtain⟨k,h1,h2⟩:=bind_some hf
  refine⟨ρ,k,hE,h1,fun x H1 p1=>?_⟩
  cases k with
  | bl b =>
    cases p1.rep
    cases h2
    exact⟨b,rfl,hQ _ H1 ⟨p1.same,.bl _,fun A _ _=>.bl _⟩⟩
  | _=>cases h2
def aq:FEs:=fun _=>some []
def ag(f:FE)(g:FEs):FEs:=fun ρ=>(f ρ).bind fun d=>(g ρ).bind fun ds=>some (d::ds)
theorem Aj:VA X [] aq []:=ls dG fun σ H Q ⟨ρ,ds,hE,hf,hQ⟩=>by
 cases hf
 exact hQ [] H ⟨Same.refl H,.nil,fun _ _ _=>.nil⟩
theorem Ak{xs:List Expr}{fs:FEs}(ha:VE X a fa ea)(hr:VA X xs fs eb)(hs:starEach (a::xs) X.env=(false,eval a X.env)::starEach xs X.env):VA X (a::xs) (ag fa fs) (ea++eb) :=
 ls (cN ha hr hs) fun σ H Q ⟨ρ,ds,hE,hf,hQ⟩=>by
  obtain⟨d,h1,hf⟩:=bind_some hf
  obtain⟨dr,h2,hf⟩:=bind_some hf
  cases hf
  refine⟨ρ,d,hE,h1,fun v H1 p1=>⟨ρ,dr,hE.mono p1.same,h2,fun vs H2 p2=>hQ _ H2 ⟨p1.same.trans p2.same,.cons (aH p2.same p1.rep) p2.rep,fun A hA hz=>?_⟩⟩⟩
  exact .cons (aH (bY p2.same) (p1.av A hA fun z q=>hz z (List.mem_append_left _ q))) (p2.av A (hA.mono p1.same) fun z q=>(hz z (List.mem_append_right _ q)).mono p1.same)
def b8(f:FEs):FE:=fun ρ=>(f ρ).bind fun ds=>if ds.length<=1000 then some (.lst ds) else none
def bO(f:FEs):FE:=fun ρ=>(f ρ).bind fun ds=>if ds.length<=1000 then some (.tup ds) else none
theorem lz{n:Nat}(h:n<=1000):n<=sizeLine:=Nat.le_of_lt (zk h)
theorem de{α:Type}{c:Prop}[Decidable c]{a b:α}(h:(if c then some a else none)=some b):c/\a=b:=by
 by_cases q:c
 ·rw[if_pos q] at h;exact⟨q,Option.some.inj h⟩
 ·rw[if_neg q] at h;cases h
theorem Al{xs:List Expr}{fs:FEs}(h:VA X xs fs es):VF X (.List xs pos) (b8 fs) es :=
 aM (rh h) fun σ H Q ⟨ρ,d,hE,hf,hQ⟩=>by
  obtain⟨ds,h1,hf⟩:=bind_some hf
  obtain⟨hl,rfl⟩:=de hf
  refine⟨ρ,ds,hE,h1,fun vs H1 p=>⟨by rw[p.rep.length];exact lz hl,fun l hl1=>hQ _ _ ⟨p.same.trans (bG hl1 _),⟨l,vs,ds,rfl,rfl,p.same.free hl1,br,fun A hA hz=>?_⟩⟩⟩⟩
  refine aU (fun b o q=>?_) (p.av A hA hz)
  obtain⟨n,q⟩:=dJ q
  have ne:b ≠ l:=bM q hl1
  rw[bC (fun z=>z.elim n ne),aF ne]
  exact q
theorem Am{xs:List Expr}{fs:FEs}{x1}(h:VA X xs fs es):VE X (.Tuple xs x1 pos) (bO fs) es :=
 aM (rg h) fun σ H Q ⟨ρ,d,hE,hf,hQ⟩=>by
  obtain⟨ds,h1,hf⟩:=bind_some hf
  obtain⟨hl,rfl⟩:=de hf
  refine⟨ρ,ds,hE,h1,fun vs H1 p=>⟨by rw[p.rep.length];exact lz hl,fun l hl1=>hQ _ _ ⟨p.same.trans (bG hl1 _),.tup br (aU (bG hl1 _) p.rep),fun A hA hz=>?_⟩⟩⟩
  have hA1:=hA.mono p.same
  refine .tup ?_ (aU (bY (bG hl1 _)) (p.av A hA hz))
  rw[bC (hA1.not_new hl1)]
  exact br
end
end VL
namespace VL
open PySem PySem.Spec PyProof.Rows L2
structure PostB (K:W.Frag) (σ:St) (ρ:am) (H:Hp) (es:List Es) (d:D) (v:V) (H':Hp):Prop where
 same:Same H H'
 rep:Rep K H' v d
 av:∀ A,Dom H A->(∀ e ∈ es,Av K H σ ρ A e)->ElR K H' A v d
def tvB(K:W.Frag)(f:FE)(es:List Es):TE:=fun σ H Q=>∃ ρ d,EnvR K H σ ρ/\f ρ=some d/\∀ v H',PostB K σ ρ H es d v H'->Q v H'
abbrev VB(X:Cx)(e:Expr)(f:FE)(es:List Es):Prop:=PE X e (tvB X.K f es)
theorem PostB.up{K:W.Frag}{σ:St}{ρ:am}{H H1 H2:Hp}{es:List Es}{d:D}{v:V}(h:PostB K σ ρ H es d v H1)(e:Same H1 H2):PostB K σ ρ H es d v H2 :=
 ⟨h.same.trans e,aH e h.rep,fun A hA ha=>(h.av A hA ha).mono e⟩
theorem PostB.down{K:W.Frag}{σ:St}{ρ:am}{H H1 H2:Hp}{es:List Es}{d:D}{v:V}(h:PostB K σ ρ H1 es d v H2)(e:Same H H1):PostB K σ ρ H es d v H2 :=
 ⟨e.trans h.same,h.rep,fun A hA ha=>h.av A (hA.mono e) fun x hx=>(ha x hx).mono e⟩
section
variable {X:Cx}{a b:Expr}{es ea eb:List Es}{fa fb:FE}{pos p2:Pos}
theorem VE.vb(h:VE X a fa es):VB X a fa es:=aM h fun σ H Q ⟨ρ,d,hE,hf,hQ⟩=>⟨ρ,d,hE,hf,fun v H' p=>hQ v H' ⟨p.same,p.rep,fun A hA ha=>(p.av A hA ha).el⟩⟩
theorem An(i:Nat){x:Str}{pos:Pos}(hN:X.N[i]?=some x)(hv:Vis X.env.scope x:=by first | exact Or.inl rfl | exact Or.inr (Or.inl rfl) | exact Or.inr (Or.inr rfl))(hd:(x == ("__debug__" : Str))=false)(hcd:(x == ("__classdict__" : Str))=false):VB X (.Name x pos) (aa i) [.el i] :=
 aM (iE hN hv hd hcd) fun σ H Q ⟨ρ,d,hE,hf,hQ⟩=>by
  have h:=iI hf
  obtain⟨v,hv,r⟩:=hE i d h
  exact⟨v,hv,hQ v H ⟨Same.refl H,r,fun A _ av=>av (.el i) (List.mem_singleton.mpr rfl) v d hv h⟩⟩
def items:D->Option (List D)
 | .lst ds=>some ds
 | .tup ds=>some ds
 | .scr ns=>some (ns.map .int)
 | _=>none
theorem lA{K:W.Frag}{H:Hp}{v:V}{d:D}{ds:List D}(r:Rep K H v d)(h:items d=some ds):∃ p xs,v=V.ref p/\(SqL K H p xs\/SqT K H p xs)/\Reps K H xs ds/\∀ A,ElR K H A v d->Reps K (ay H A) xs ds:=by
 cases r with
 | @lst p xs ds' h1 h2 =>
   cases h
   refine⟨p,xs,rfl,.inl (.inl h1),h2,fun A e=>?_⟩
   rcases e with (e | ⟨_,e⟩) | ⟨q,ys,es',e,⟨e1,e2⟩ | ⟨e1,e2⟩,e3⟩
   ·cases e
   ·cases e
   ·cases e;cases e1;rw[gw h1 e2];exact e3
   ·cases e1
 | @tup p xs ds' h1 h2 =>
   cases h
   have h1:=dR h1
   refine⟨p,xs,rfl,.inr (.inl h1),h2,fun A e=>?_⟩
   rcases e with (e | ⟨_,e⟩) | ⟨q,ys,es',e,⟨e1,e2⟩ | ⟨e1,e2⟩,e3⟩
   ·cases e
   ·cases e
   ·cases e1
   ·cases e;cases e1;rw[jA h1 e2];exact e3
 | @scr p ns h1=>cases h;exact⟨p,_,rfl,.inl h1,Reps.ints ns,fun A _=>Reps.ints ns⟩
 | _=>cases h
def cX:D->Bool
 | .tup _=>true
 | _=>false
theorem fm{K:W.Frag}{H:Hp}{v:V}{d:D}{ds:List D}(r:Rep K H v d)(h:items d=some ds)(n:cX d=false):∃ p xs,v=V.ref p/\SqL K H p xs/\Reps K H xs ds/\∀ A,ElR K H A v d->Reps K (ay H A) xs ds:=by
 cases r with
 | @lst p xs ds' h1 h2 =>
   cases h
   refine⟨p,xs,rfl,.inl h1,h2,fun A e=>?_⟩
   rcases e with (e | ⟨_,e⟩) | ⟨q,ys,es',e,⟨e1,e2⟩ | ⟨e1,e2⟩,e3⟩
   ·cases e
   ·cases e
   ·cases e;cases e1;rw[gw h1 e2];exact e3
   ·cases e1
 | @scr p ns h1=>cases h;exact⟨p,_,rfl,h1,Reps.ints ns,fun A _=>Reps.ints ns⟩
 | tup _ _=>cases n
 | _=>cases h
theorem jI{K:W.Frag}{H:Hp}{v:V}{ds:List D}(r:Rep K H v (.lst ds)):∃ p xs,v=V.ref p/\Rd H p (.lst xs)/\Reps K H xs ds/\∀ A,ElR K H A v (.lst ds)->Reps K (ay H A) xs ds:=by
 cases r with
 | @lst p xs _ h1 h2 =>
   refine⟨p,xs,rfl,h1,h2,fun A e=>?_⟩
   rcases e with (e | ⟨_,e⟩) | ⟨q,ys,es',e,⟨e1,e2⟩ | ⟨e1,e2⟩,e3⟩
   ·cases e
   ·cases e
   ·cases e;cases e1;rw[gw h1 e2];exact e3
   ·cases e1
def ixD:D->D->Option D
 | x,.int i=>(items x).bind fun ds=>atI ds i
 | _,_=>none
theorem nH{K:W.Frag}{H:Hp}{xs:List V}{ds:List D}{i:Int}{d:D}(r:Reps K H xs ds)(h:atI ds i=some d):∃ v,atI xs i=some v/\Rep K H v d:=by
 unfold atI at h ⊢
 rw[r.length]
 obtain⟨j,h1,h2⟩:=bind_some h
 obtain⟨v,h3,h4⟩:=r.get h2
 exact⟨v,by rw[h1];exact h3,h4⟩
theorem Ao(ha:VB X a fa ea)(hb:VE X b fb eb)(hs:jx b):VE X (.Subscript a b pos) (e2 ixD fa fb) ea :=
 aM (rC (ix_list.or rD) ha hb hs) fun σ H Q ⟨ρ,d,hE,hf,hQ⟩=>by
  obtain⟨dx,h1,hf⟩:=bind_some hf
  obtain⟨dy,h2,hf⟩:=bind_some hf
  refine⟨ρ,dx,hE,h1,fun x H1 p1=>⟨ρ,dy,hE.mono p1.same,h2,fun y H2 p2=>?_⟩⟩
  have q1:=p1.up p2.same
  cases dy with
  | int i =>
    cases p2.rep
    obtain⟨ds,h3,h4⟩:=bind_some hf
    obtain⟨p,xs,rfl,hp,hx,hA⟩:=lA q1.rep h3
    obtain⟨v,h5,h6⟩:=nH hx h4
    have fin:Q v H2:=hQ v H2 ⟨q1.same,h6,fun A hD hz=>by
     obtain⟨v',h7,h8⟩:=nH (hA A (q1.av A hD hz)) h4
     rw[h5] at h7;cases h7;exact h8⟩
    rcases hp with hp | hp
    ·exact .inl ⟨p,xs,i,v,rfl,rfl,hp,h5,fin⟩
    ·exact .inr ⟨p,xs,i,v,rfl,rfl,hp,h5,fin⟩
  | _=>cases hf
theorem gy{K:W.Frag}{σ:St}{ρ:am}{H H1:Hp}{es:List Es}{xs:List V}{ds:List D}{l:Addr}(e:Same H H1)(hl:H1 l=none)(h:∀ A,Dom H A->(∀ z ∈ es,Av K H σ ρ A z)->Reps K (ay H1 A) xs ds):PostF K σ ρ H es (.lst ds) (.ref l) (upd H1 l (.lst xs)):=by
 refine⟨e.trans (bG hl _),⟨l,xs,ds,rfl,rfl,e.free hl,br,fun A hA hz=>?_⟩⟩
 refine aU (fun b o q=>?_) (h A hA hz)
 obtain⟨n,q⟩:=dJ q
 have ne:b ≠ l:=bM q hl
 rw[bC (fun z=>z.elim n ne),aF ne]
 exact q
def cB{α:Type}(xs:List α)(lo hi:Option Int):List α:=(xs.drop (HT.sIx xs.length 0 lo)).take (HT.sIx xs.length xs.length hi - HT.sIx xs.length 0 lo)
theorem Ap{K:W.Frag}{H:Hp}{xs:List V}{ds:List D}(r:Reps K H xs ds)(lo hi:Option Int):Reps K H (iH xs lo hi) (cB ds lo hi):=by
 unfold iH cB
 rw[r.length]
 exact (r.drop _).take _
abbrev FO:=am->Option (Option Int)
def tvO(K:W.Frag)(f:FO):TO:=fun σ H Q=>∃ ρ o,EnvR K H σ ρ/\f ρ=some o/\∀ H',Same H H'->Q o H'
abbrev VO(X:Cx)(e:Option Expr)(f:FO):Prop:=PO X e (tvO X.K f)
theorem sd{e:Option Expr}{t t':TO}(h:PO X e t)(i:∀ σ H Q,t' σ H Q->t σ H Q):PO X e t':=fun J0 s σ H Q I q=>h J0 s σ H Q I (i σ H Q q)
def cy:FO:=fun _=>some none
def bU(f:FE):FO:=fun ρ=>(f ρ).bind fun d=>match d with | .int i=>some (some i) | _=>none
theorem Aq:VO X none cy:=sd yM fun σ H Q ⟨ρ,o,hE,hf,hQ⟩=>by cases hf;exact hQ H (Same.refl H)
theorem Ar(h:VE X a fa ea):VO X (some a) (bU fa):=sd (yN h) fun σ H Q ⟨ρ,o,hE,hf,hQ⟩=>by
 obtain⟨d,h1,hf⟩:=bind_some hf
 refine⟨ρ,d,hE,h1,fun v H' p=>?_⟩
 cases d <;> simp only at hf <;> cases hf
 cases p.rep
 exact⟨_,rfl,hQ H' p.same⟩
def eSl(fa:FE)(lo hi:FO):FE:=fun ρ=>(fa ρ).bind fun x=>(lo ρ).bind fun l=>(hi ρ).bind fun h=>if cX x=true then none else (items x).bind fun ds=>some (.lst (cB ds l h))
theorem As{lo hi:Option Expr}{flo fhi:FO}(ha:VB X a fa ea)(hl:VO X lo flo)(hh:VO X hi fhi):VF X (.Subscript a (.Slice lo hi none p2) pos) (eSl fa flo fhi) ea :=
 aM (yO yY ha hl hh) fun σ H Q ⟨ρ,d,hE,hf,hQ⟩=>by
  obtain⟨dx,h1,hf⟩:=bind_some hf
  obtain⟨l,h2,hf⟩:=bind_some hf
  obtain⟨h,h3,hf⟩:=bind_some hf
  refine⟨ρ,dx,hE,h1,fun x H1 p1=>⟨ρ,l,hE.mono p1.same,h2,fun H2 e2=>⟨ρ,h,hE.mono (p1.same.trans e2),h3,fun H3 e3=>?_⟩⟩⟩
  have q:=p1.up (e2.trans e3)
  cases ht:cX dx with
  | true=>rw[if_pos ht] at hf;cases hf
  | false =>
    rw[if_neg (by rw[ht];exact Bool.false_ne_true)] at hf
    obtain⟨ds,h4,hf⟩:=bind_some hf
    cases hf
    obtain⟨p,xs,rfl,hp,hx,hA⟩:=fm q.rep h4 ht
    exact⟨p,xs,rfl,hp,fun r hr=>hQ _ _ (gy q.same hr fun A hD hz=>Ap (hA A (q.av A hD hz)) l h)⟩
def se:R2:=fun x y H Q=>∃ l b xs zs,x=.ref l/\y=.ref b/\Rd H l (.lst xs)/\Rd H b (.lst zs)/\xs.length+zs.length<=sizeLine/\∀ p,H p=none->Q (.ref p) (upd H p (.lst (xs++zs)))
theorem sf{J0:List (Addr × Obj)}{σ:St}{H:Hp}{s:Shared}{l:Addr}{xs:List V}(I:Inv X J0 σ H s)(h:Rd H l (.lst xs)):xs.length<=sizeLine/\∃ (its:List Value) (n:Nat),Vals xs its/\xs.length=its.length/\s.heap.get? l=some { cls:=.type "list",data:=.seq its.toArray n }:=by
 obtain⟨z,its,n,r,e⟩:=h.ok I.hok
 exact⟨z,its,n,r,r.length,e⟩
theorem sg:OpR X (binaryOp .Add) se:=by
 intro J0 s σ H x y v u Q I rx ry h
 obtain⟨l,b,xs,zs,rfl,rfl,hH,hB,hz,q⟩:=h
 cases rx
 cases ry
 obtain⟨z,its,n,r,hl,e⟩:=sf I hH
 obtain⟨z2,its2,n2,r2,hl2,e2⟩:=sf I hB
 refine PySem.P.add_list e e2 ?_ (by rw[List.size_toArray,List.size_toArray];omega)
 have ea:its.toArray++its2.toArray=(its++its2).toArray:=by simp
 rw[ea]
 exact⟨.ref _,_,I.lnew (t':=s.toks) (r.append r2) (by rw[List.length_append];omega),rfl,q _ I.fresh⟩
def bh:D->D->Option D
 | .lst xs,.lst ys=>if xs.length+ys.length<=100000 then some (.lst (xs++ys)) else none
 | _,_=>none
theorem nI{n:Nat}(h:n<=100000):n<=sizeLine:=Nat.le_trans h (by decide)
theorem At(ha:VB X a fa ea)(hb:VB X b fb eb):VF X (.BinOp a .Add b pos) (e2 bh fa fb) (ea++eb) :=
 aM (lf sg ha hb) fun σ H Q ⟨ρ,d,hE,hf,hQ⟩=>by
  obtain⟨dx,h1,hf⟩:=bind_some hf
  obtain⟨dy,h2,hf⟩:=bind_some hf
  refine⟨ρ,dx,hE,h1,fun x H1 p1=>⟨ρ,dy,hE.mono p1.same,h2,fun y H2 p2=>?_⟩⟩
  have q1:=p1.up p2.same
  have q2:=p2.down p1.same
  cases dx with
  | lst ds =>
    cases dy with
    | lst es' =>
      obtain⟨hl,rfl⟩:=de hf
      obtain⟨p,xs,rfl,hp,hx,hA⟩:=jI q1.rep
      obtain⟨p',ys,rfl,hp',hy,hA'⟩:=jI q2.rep
      refine⟨p,p',xs,ys,rfl,rfl,hp,hp',by rw[hx.length,hy.length];exact nI hl,fun r hr=>hQ _ _ (gy q1.same hr fun A hD hz=>?_)⟩
      exact (hA A (q1.av A hD fun z w=>hz z (List.mem_append_left _ w))).append (hA' A (q2.av A hD fun z w=>hz z (List.mem_append_right _ w)))
    | _=>cases hf
  | _=>cases hf
def dS:D->D->Option D
 | .lst xs,.int k=>if xs.length * k.toNat<=100000/\k < 100000/\-100000 < k then some (.lst (List.replicate k.toNat xs).flatten) else none
 | _,_=>none
theorem Au(ha:VF X a fa ea)(hb:VE X b fb eb):VF X (.BinOp a .Mult b pos) (e2 dS fa fb) ea :=
 aM (lf zf ha hb) fun σ H Q ⟨ρ,d,hE,hf,hQ⟩=>by
  obtain⟨dx,h1,hf⟩:=bind_some hf
  obtain⟨dy,h2,hf⟩:=bind_some hf
  refine⟨ρ,dx,hE,h1,fun x H1 p1=>⟨ρ,dy,hE.mono p1.same,h2,fun y H2 p2=>?_⟩⟩
  obtain⟨l,xs,ds,rfl,rfl,hl0,hl1,hA⟩:=p1.new
  cases dy with
  | int k =>
    cases p2.rep
    obtain⟨⟨hl,hk1,hk2⟩,rfl⟩:=de hf
    have hx:Reps X.K H1 xs ds:=aU (bc _ _) (hA fh (Dom.none H) fun e _=>Av.none hE e)
    refine⟨l,k,xs,rfl,rfl,p2.same _ _ hl1,by omega,by omega,by rw[hx.length];exact nI hl,fun r hr=>hQ _ _ (gy (p1.same.trans p2.same) hr fun A hD hz=>?_)⟩
    exact (aU (cO p2.same fun _ q=>.inl q) (hA A hD hz)).rep k.toNat
  | _=>cases hf
def bi:D->Option D:=fun d=>(items d).bind fun ds=>some (.int ds.length)
def aI(g:D->Option D):List D->Option D
 | [x]=>g x
 | _=>none
def cP(g:D->D->Option D):List D->Option D
 | [x,y]=>g x y
 | _=>none
def eA(f:List D->Option D)(as:FEs):FE:=fun ρ=>(as ρ).bind f
def gz(K:W.Frag)(r:List V->Hp->VK->Prop)(g:List D->Option D):Prop :=
 ∀ (xs:List V) (H:Hp) (ds:List D) (d:D) (Q:VK),Reps K H xs ds->g ds=some d->(∀ v,(∀ H',Rep K H' v d)->Q v H)->r xs H Q
theorem jJ{x:Str}{p:Pos}{id:String}{r:List V->Hp->VK->Prop}{g:List D->Option D}{xs:List Expr}{as:FEs}(hc:CallR X (.builtin id) r)(hv:gz X.K r g)(hm:X.mg x=none)(hb:bootBuiltins x=some (.builtin id))(ha:VA X (a::xs) as es)(hg:Gl X x:=by rfl)(hn:x ≠ "__name__":=by decide)(hdb:(x == ("__debug__" : Str))=false:=by decide)(he:starEach (a::xs) X.env=(false,eval a X.env)::starEach xs X.env:=by rfl)(hpl:(backTo pos (starEach xs X.env)).any (·.1)=false:=by rfl):
  VE X (.Call (.Name x p) (a::xs) [] pos) (eA g as) [] :=
 aM (jw hc hg hm hb ha hn hdb he hpl) fun σ H Q ⟨ρ,d,hE,hf,hQ⟩=>by
  obtain⟨ds,h1,hf⟩:=bind_some hf
  exact⟨ρ,ds,hE,h1,fun vs H1 p=>hv vs H1 ds d Q p.rep hf fun v hr=>hQ v H1 ⟨p.same,hr _,fun A _ _=>hr _⟩⟩
theorem e8{K:W.Frag}{H:Hp}{vs:List V}{d:D}(h:Reps K H vs [d]):∃ v,vs=[v]/\Rep K H v d:=by
 cases h with
 | cons h1 h2=>cases h2;exact⟨_,rfl,h1⟩
theorem nJ{K:W.Frag}{H:Hp}{vs:List V}{d e:D}(h:Reps K H vs [d,e]):∃ v w,vs=[v,w]/\Rep K H v d/\Rep K H w e:=by
 cases h with
 | cons h1 h2 =>
   cases h2 with
   | cons h3 h4=>cases h4;exact⟨_,_,rfl,h1,h3⟩
theorem iP{g:D->Option D}{ds:List D}{d:D}(h:aI g ds=some d):∃ x,ds=[x]/\g x=some d:=by
 match ds,h with
 | [x],h=>exact⟨x,rfl,h⟩
theorem nK{g:D->D->Option D}{ds:List D}{d:D}(h:cP g ds=some d):∃ x y,ds=[x,y]/\g x y=some d:=by
 match ds,h with
 | [x,y],h=>exact⟨x,y,rfl,h⟩
theorem sh:gz X.K (fun xs H Q=>∃ p ys,xs=[.ref p]/\(SqL X.K H p ys\/SqT X.K H p ys)/\Q (.int ys.length) H) (aI bi):=by
 intro xs H ds d Q r hg hQ
 obtain⟨x,rfl,hg1⟩:=iP hg
 obtain⟨v,rfl,r1⟩:=e8 r
 obtain⟨es,h1,hg2⟩:=bind_some hg1
 cases hg2
 obtain⟨p,ys,rfl,hp,hx,_⟩:=lA r1 h1
 exact⟨p,ys,rfl,hp,hQ _ fun H'=>by rw[hx.length];exact .int _⟩
theorem Aw{p:Pos}{as:FEs}(ml:X.mg "len" = none)(ha:VA X [a] as es)(hg:Gl X "len")(he:starEach [a] X.env=(false,eval a X.env)::starEach [] X.env)(hpl:(backTo pos (starEach [] X.env)).any (·.1)=false):
  VE X (.Call (.Name "len" p) [a] [] pos) (eA (aI bi) as) []:=jJ rE sh ml PySem.boot_len ha hg (by decide) (by decide) he hpl
def e9:D->Option D:=fun d=>(items d).bind fun ds=>some (.lst ds)
theorem Ax{p:Pos}(ml:X.mg "list" = none)(ha:VB X a fa ea)(hg:Gl X "list")(he:starEach [a] X.env=(false,eval a X.env)::starEach [] X.env)(hpl:(backTo pos (starEach [] X.env)).any (·.1)=false):
  VF X (.Call (.Name "list" p) [a] [] pos) (e1 e9 fa) ea :=
 aM (nv yZ hg ml (by decide +kernel) (cN ha dG he) (by decide) (by decide) he hpl) fun σ H Q ⟨ρ,d,hE,hf,hQ⟩=>by
  obtain⟨dx,h1,hf⟩:=bind_some hf
  obtain⟨ds,h2,hf⟩:=bind_some hf
  cases hf
  refine⟨ρ,dx,hE,h1,fun x H1 p1=>?_⟩
  obtain⟨p,xs,rfl,hp,hx,hA⟩:=lA p1.rep h2
  exact⟨p,xs,rfl,hp,fun l hl=>hQ _ _ (gy p1.same hl fun A hD hz=>hA A (p1.av A hD hz))⟩
def gA:List D->Option (List Int)
 | []=>some []
 | .int i::r=>(gA r).map (i::·)
 | _::_=>none
theorem sj:∀ {ds:List D} {ns:List Int},gA ds=some ns->ds=ns.map D.int
 | [],ns,h=>by cases h;rfl
 | .int i::r,ns,h=>by
   simp only[gA] at h
   cases e:gA r with
   | none=>rw[e] at h;cases h
   | some ms=>rw[e] at h;cases h;rw[sj e];rfl
 | .non::_,_,h=>by cases h
 | .bl _::_,_,h=>by cases h
 | .str _::_,_,h=>by cases h
 | .lst _::_,_,h=>by cases h
 | .tup _::_,_,h=>by cases h
 | .scr _::_,_,h=>by cases h
theorem sk{K:W.Frag}{H:Hp}:∀ {ns:List Int} {xs:List V},Reps K H xs (ns.map D.int)->xs=ns.map V.int
 | [],xs,h=>by cases h;rfl
 | n::ns,xs,h=>by
   cases h with
   | cons h1 h2=>cases h1;rw[sk h2];rfl
theorem sm(hc:X.calm=true):CallR X (.builtin "sum") (fun xs H Q=>∃ (p:Addr) (ns:List Int),xs=[.ref p]/\SqL X.K H p (ns.map V.int)/\Q (.int ns.sum) H):=by
 intro J0 s σ H xs us Q I r h
 obtain⟨p,ns,rfl,hp,q⟩:=h
 obtain⟨u,rfl,ru⟩:=eF r
 cases ru
 obtain⟨its,rv,pl,hz⟩:=I.list hp
 have hi:=yL rv
 obtain⟨ys,e⟩:=hi.allInts.items
 have hl:=pl.isList
 rw[e] at hl
 refine sum_intListG (I.ok.hd hc) hl fun h' tk t' hk=>?_
 have e2:preSum (numAt ys) ys.size=ns.sum:=by
  rw[preSum_eq,List.take_of_length_le (by simp),<- hi.numsOf]
  rw[show its=its.toArray.toList from rfl,e,nums_intItems]
 rw[e2]
 exact⟨.int ns.sum,H,I.kept (t':=tk) hk,⟨_,rfl⟩,q⟩
def dL:D->Option D:=fun d=>if cX d=true then none else (items d).bind fun ds=>(gA ds).bind fun ns=>some (.int ns.sum)
theorem so:gz X.K (fun xs H Q=>∃ (p:Addr) (ns:List Int),xs=[.ref p]/\SqL X.K H p (ns.map V.int)/\Q (.int ns.sum) H) (aI dL):=by
 intro xs H ds d Q r hg hQ
 obtain⟨x,rfl,hg1⟩:=iP hg
 obtain⟨v,rfl,r1⟩:=e8 r
 unfold dL at hg1
 cases ht:cX x with
 | true=>rw[if_pos ht] at hg1;cases hg1
 | false =>
   rw[if_neg (by rw[ht];exact Bool.false_ne_true)] at hg1
   obtain⟨es,h1,hg2⟩:=bind_some hg1
   obtain⟨ns,h2,hg3⟩:=bind_some hg2
   cases hg3
   obtain⟨p,ys,rfl,hp,hx,_⟩:=fm r1 h1 ht
   rw[sj h2] at hx
   rw[sk hx] at hp
   exact⟨p,ns,rfl,hp,hQ _ fun H'=>.int _⟩
theorem Ay{p:Pos}{as:FEs}(hc:X.calm=true)(ml:X.mg "sum" = none)(ha:VA X [a] as es)(hg:Gl X "sum")(he:starEach [a] X.env=(false,eval a X.env)::starEach [] X.env)(hpl:(backTo pos (starEach [] X.env)).any (·.1)=false):
  VE X (.Call (.Name "sum" p) [a] [] pos) (eA (aI dL) as) []:=jJ (sm hc) so ml PyProof.Rows.boot_sum ha hg (by decide) (by decide) he hpl
def dU:D->D->Option D
 | .int i,.int j=>some (.int (if j > i then j else i))
 | _,_=>none
def gB:D->D->Option D
 | .int i,.int j=>some (.int (if j < i then j else i))
 | _,_=>none
theorem sr:gz X.K (fun xs H Q=>∃ i j,xs=[.int i,.int j]/\Q (.int (if j > i then j else i)) H) (cP dU):=by
 intro xs H ds d Q r hg hQ
 obtain⟨x,y,rfl,hg1⟩:=nK hg
 obtain⟨v,w,rfl,r1,r2⟩:=nJ r
 clear hg r
 cases r1 <;> cases r2 <;> simp only[dU] at hg1 <;> cases hg1
 exact⟨_,_,rfl,hQ _ fun H'=>.int _⟩
theorem Az:gz X.K (fun xs H Q=>∃ i j,xs=[.int i,.int j]/\Q (.int (if j < i then j else i)) H) (cP gB):=by
 intro xs H ds d Q r hg hQ
 obtain⟨x,y,rfl,hg1⟩:=nK hg
 obtain⟨v,w,rfl,r1,r2⟩:=nJ r
 clear hg r
 cases r1 <;> cases r2 <;> simp only[gB] at hg1 <;> cases hg1
 exact⟨_,_,rfl,hQ _ fun H'=>.int _⟩
theorem AB{p:Pos}{as:FEs}(hc:X.calm=true)(ml:X.mg "max" = none)(ha:VA X [a,b] as es)(hg:Gl X "max")(he:starEach [a,b] X.env=(false,eval a X.env)::starEach [b] X.env)(hpl:(backTo pos (starEach [b] X.env)).any (·.1)=false):
  VE X (.Call (.Name "max" p) [a,b] [] pos) (eA (cP dU) as) []:=jJ (qW hc) sr ml PyProof.Rows.boot_max ha hg (by decide) (by decide) he hpl
theorem AC{p:Pos}{as:FEs}(hc:X.calm=true)(ml:X.mg "min" = none)(ha:VA X [a,b] as es)(hg:Gl X "min")(he:starEach [a,b] X.env=(false,eval a X.env)::starEach [b] X.env)(hpl:(backTo pos (starEach [b] X.env)).any (·.1)=false):
  VE X (.Call (.Name "min" p) [a,b] [] pos) (eA (cP gB) as) []:=jJ (ym hc) Az ml PyProof.Rows.boot_min ha hg (by decide) (by decide) he hpl
def tyD:D->String
 | .non=>"NoneType" | .bl _=>"bool" | .int _=>"int" | .str _=>"str" | .lst _=>"list" | .tup _=>"tuple" | .scr _=>"list" | .dct _ _=>"dict" | .ptr _=>"list"
def fR(T:String)(t:String):Bool:=t == T || (T == "int" && t == "bool")
end
end VL
namespace VL
open PySem PySem.Spec PyProof.Rows L2
inductive Out where
 | nx (ρ:am)
 | rt (d:D)
 | bk (ρ:am)
 | ct (ρ:am)
abbrev FS:=am->Option Out
def AD(σ:St)(O:List Nat):Addr->Prop:=fun a=>∃ i ∈ O,σ[i]?=some (some (V.ref a))
structure Fr0 where
 H0:Hp
 PA:(Addr->Prop)->Prop
 n:Nat
 dom:∀ A,PA A->Dom H0 A
 none:PA fh
structure Hd where
 P:Hp->Prop
 up:∀ H H',Same H H'->P H->P H'
def HdOk(K:W.Frag)(H:Hp)(p:Hd):Prop:=p.P H
theorem HdOk.mono{K:W.Frag}{H H':Hp}{p:Hd}(e:Same H H')(h:HdOk K H p):HdOk K H' p:=p.up H H' e h
def hdL(K:W.Frag)(q:Addr)(xs:List V)(ds:List D):Hd:=⟨fun H=>SqL K H q xs/\Reps K H xs ds,fun _ _ e h=>⟨e.seq h.1,aU e h.2⟩⟩
def hdD(q:Addr)(o:Obj)(kvs:List (Int × Int)):Hd:=⟨fun H=>H q=some (.frz o (.dK (jz kvs))),fun _ _ e h=>e _ _ h⟩
def OwnC(K:W.Frag)(H:Hp)(o:HO)(d:D):Prop:=(∃ xs ds,o=.lst xs/\d=.lst ds/\Reps K H xs ds)\/∃ kvs,o=.dK (jz kvs)/\d=.dct false kvs
theorem OwnC.mono{K:W.Frag}{H H':Hp}{o:HO}{d:D}(e:Same H H')(h:OwnC K H o d):OwnC K H' o d:=by
 rcases h with⟨xs,ds,h1,h2,h3⟩ | h
 ·exact .inl ⟨xs,ds,h1,h2,aU e h3⟩
 ·exact .inr h
theorem OwnC.rep{K:W.Frag}{H H':Hp}{a:Addr}{o:HO}{d:D}(ha:H a=some o)(h:OwnC K H' o d)(e:Same H' H):Rep K H (.ref a) d:=by
 rcases h with⟨xs,ds,rfl,rfl,h3⟩ | ⟨kvs,rfl,rfl⟩
 ·exact .lst (.inl ha) (aU e h3)
 ·exact .dct (.inr ⟨rfl,ha⟩)
theorem OwnC.el{K:W.Frag}{H:Hp}{A:Addr->Prop}{a:Addr}{o:HO}{d:D}(ha:H a=some o)(h:OwnC K (ay H A) o d):ElR K H A (.ref a) d:=by
 rcases h with⟨xs,ds,rfl,rfl,h3⟩ | ⟨kvs,rfl,rfl⟩
 ·exact .inr ⟨a,xs,ds,rfl,.inl ⟨rfl,.inl ha⟩,h3⟩
 ·exact .inl (.inr ⟨_,rfl⟩)
def Off(σ:St)(O:List Nat)(A:Addr->Prop):Addr->Prop:=fun b=>AD σ O b\/A b
structure EnvO (K:W.Frag) (F:Fr0) (J6:List Hd) (O:List Nat) (σ:St) (ρ:am) (H:Hp):Prop where
 same:Same F.H0 H
 lσ:σ.length=F.n
 lρ:ρ.length=F.n
 val:∀ i d,ρ[i]?=some (some d)->i ∉ O->∃ v,σ[i]?=some (some v)/\∀ A,F.PA A->Rep K (ay H (Off σ O A)) v d
 hld:∀ p ∈ J6,∀ A,F.PA A->HdOk K (ay H (Off σ O A)) p
 own:∀ i ∈ O,∃ a o d,σ[i]?=some (some (V.ref a))/\ρ[i]?=some (some d)/\H a=some o/\F.H0 a=Option.none/\∀ A,F.PA A->OwnC K (ay H (Off σ O A)) o d
 inj:∀ i ∈ O,∀ j ∈ O,∀ a,σ[i]?=some (some (V.ref a))->σ[j]?=some (some (V.ref a))->i=j
section
variable {K:W.Frag}{F:Fr0}{J6:List Hd}{O O':List Nat}{σ:St}{ρ:am}{H H':Hp}
theorem EnvO.envR(h:EnvO K F J6 O σ ρ H):EnvR K H σ ρ:=fun i d e=>by
 by_cases hi:i ∈ O
 ·obtain⟨a,xs,ds,h1,h2,h3,_,h5⟩:=h.own i hi
  rw[h2] at e;cases e
  exact⟨_,h1,(h5 _ F.none).rep h3 (bc _ _)⟩
 ·obtain⟨v,h1,h2⟩:=h.val i d e hi
  exact⟨v,h1,aH (bc _ _) (h2 _ F.none)⟩
theorem lC(hs:∀ i ∈ O',i ∈ O){A:Addr->Prop}:∀ b,Off σ O' A b->Off σ O A b:=fun b h=>by
 rcases h with⟨i,hi,e⟩ | h
 ·exact .inl ⟨i,hs i hi,e⟩
 ·exact .inr h
theorem EnvO.weaken(h:EnvO K F J6 O σ ρ H)(hs:∀ i ∈ O',i ∈ O):EnvO K F J6 O' σ ρ H:=by
 have up:∀ {A:Addr->Prop},Same (ay H (Off σ O A)) (ay H (Off σ O' A)):=cO (fun _ _ q=>q) (lC hs)
 refine⟨h.same,h.lσ,h.lρ,fun i d e hi=>?_,fun p hp A hA=>(h.hld p hp A hA).mono up,fun i hi=>?_,fun i hi j hj=>h.inj i (hs i hi) j (hs j hj)⟩
 ·by_cases hi':i ∈ O
  ·obtain⟨a,xs,ds,h1,h2,h3,h4,h5⟩:=h.own i hi'
   rw[h2] at e;cases e
   refine⟨_,h1,fun A hA=>(h5 A hA).rep ?_ up⟩
   rw[bC]
   ·exact h3
   ·rintro (⟨j,hj,ej⟩ | q)
    ·exact hi (h.inj i hi' j (hs j hj) a h1 ej ▸ hj)
    ·exact F.dom A hA a q h4
  ·obtain⟨v,h1,h2⟩:=h.val i d e hi'
   exact⟨v,h1,fun A hA=>aH up (h2 A hA)⟩
 ·obtain⟨a,xs,ds,h1,h2,h3,h4,h5⟩:=h.own i (hs i hi)
  exact⟨a,xs,ds,h1,h2,h3,h4,fun A hA=>(h5 A hA).mono up⟩
theorem EnvO.up(h:EnvO K F J6 O σ ρ H)(e:Same H H'):EnvO K F J6 O σ ρ H' :=
 ⟨h.same.trans e,h.lσ,h.lρ,fun i d q hi=>let ⟨v,h1,h2⟩:=h.val i d q hi;⟨v,h1,fun A hA=>aH (bY e) (h2 A hA)⟩,fun p hp A hA=>(h.hld p hp A hA).mono (bY e),
  fun i hi=>let ⟨a,xs,ds,h1,h2,h3,h4,h5⟩:=h.own i hi;⟨a,xs,ds,h1,h2,e _ _ h3,h4,fun A hA=>(h5 A hA).mono (bY e)⟩,h.inj⟩
theorem EnvO.dom(h:EnvO K F J6 O σ ρ H){A:Addr->Prop}(hA:F.PA A):Dom H (Off σ O A):=fun b q=>by
 rcases q with⟨i,hi,e⟩ | q
 ·obtain⟨a,xs,ds,h1,h2,h3,_⟩:=h.own i hi
  rw[e] at h1;cases h1
  rw[h3];exact fun z=>nomatch z
 ·exact ((F.dom A hA).mono h.same) b q
def gC(O:List Nat):Es->Bool
 | .full j=>!O.contains j
 | .el _=>true
theorem EnvO.av(h:EnvO K F J6 O σ ρ H){A:Addr->Prop}(hA:F.PA A){e:Es}(he:gC O e=true):Av K H σ ρ (Off σ O A) e:=by
 have out:∀ (j:Nat) (v:V) (d:D),j ∉ O->σ[j]?=some (some v)->ρ[j]?=some (some d)->Rep K (ay H (Off σ O A)) v d:=fun j v d hj h1 h2=>by
  obtain⟨v',h3,h4⟩:=h.val j d h2 hj
  rw[h1] at h3;cases h3
  exact h4 A hA
 cases e with
 | full j=>exact fun v d=>out j v d (by simpa [gC] using he)
 | el j =>
   intro v d h1 h2
   by_cases hj:j ∈ O
   ·obtain⟨a,xs,ds,h3,h4,h5,_,h6⟩:=h.own j hj
    rw[h1] at h3;cases h3
    rw[h2] at h4;cases h4
    exact (h6 A hA).el h5
   ·exact (out j v d hj h1 h2).el
def cC(O:List Nat)(es:List Es):List Nat:=O.filter fun i=>es.all (gC [i])
theorem lD{es:List Es}:∀ i ∈ cC O es,i ∈ O:=fun i h=>(List.mem_filter.mp h).1
theorem nL{es:List Es}{e:Es}(he:e ∈ es):gC (cC O es) e=true:=by
 cases e with
 | el j=>rfl
 | full j =>
   show (!(cC O es).contains j)=true
   rw[Bool.not_eq_true',Bool.eq_false_iff]
   intro q
   have q':=List.contains_iff_mem.mp q
   have:=List.all_eq_true.mp (List.mem_filter.mp q').2 _ he
   simp[gC] at this
theorem EnvO.eval(h:EnvO K F J6 O σ ρ H){es:List Es}{d:D}{v:V}(p:Post K σ ρ H es d v H'):EnvO K F J6 (cC O es) σ ρ H'/\∀ A,F.PA A->Rep K (ay H' (Off σ (cC O es) A)) v d:=by
 have h1:=h.weaken (O':=cC O es) lD
 exact⟨h1.up p.same,fun A hA=>p.av _ (h1.dom hA) fun e he=>h1.av hA (nL he)⟩
theorem AE{i:Nat}{v:Option V}{A:Addr->Prop}(hi:i ∉ O)(b:Addr):Off (σ.set i v) O A b ↔ Off σ O A b:=by
 have:∀ j ∈ O,(σ.set i v)[j]?=σ[j]?:=fun j hj=>List.getElem?_set_ne (fun (e:i=j)=>hi (e ▸ hj))
 constructor
 ·rintro (⟨j,hj,e⟩ | q)
  ·exact .inl ⟨j,hj,by rw[this j hj] at e;exact e⟩
  ·exact .inr q
 ·rintro (⟨j,hj,e⟩ | q)
  ·exact .inl ⟨j,hj,by rw[this j hj];exact e⟩
  ·exact .inr q
theorem EnvO.set(h:EnvO K F J6 O σ ρ H){i:Nat}{v:V}{d:D}(hi:i ∉ O)(hv:∀ A,F.PA A->Rep K (ay H (Off σ O A)) v d):EnvO K F J6 O (σ.set i (some v)) (ρ.set i (some d)) H:=by
 have ne:∀ {j:Nat},j ∈ O->i ≠ j:=fun hj e=>hi (e ▸ hj)
 have up:∀ {A:Addr->Prop},Same (ay H (Off σ O A)) (ay H (Off (σ.set i (some v)) O A)):=cO (fun _ _ q=>q) fun b q=>(AE hi b).mp q
 refine⟨h.same,by rw[List.length_set];exact h.lσ,by rw[List.length_set];exact h.lρ,fun j e q hj=>?_,fun p hp A hA=>(h.hld p hp A hA).mono up,fun j hj=>?_,fun j hj k hk a e1 e2=>?_⟩
 ·by_cases e1:j=i
  ·subst e1
   have hl:j < ρ.length:=by
    have:=(List.getElem?_eq_some_iff.mp q).1
    rwa [List.length_set] at this
   rw[List.getElem?_set_self hl] at q
   cases q
   exact⟨v,List.getElem?_set_self (by rw[h.lσ,<- h.lρ];exact hl),fun A hA=>aH up (hv A hA)⟩
  ·rw[List.getElem?_set_ne (Ne.symm e1)] at q
   obtain⟨v',h1,h2⟩:=h.val j e q hj
   exact⟨v',by rw[List.getElem?_set_ne (Ne.symm e1)];exact h1,fun A hA=>aH up (h2 A hA)⟩
 ·obtain⟨a,xs,ds,h1,h2,h3,h4,h5⟩:=h.own j hj
  exact⟨a,xs,ds,by rw[List.getElem?_set_ne (ne hj)];exact h1,by rw[List.getElem?_set_ne (ne hj)];exact h2,h3,h4,fun A hA=>(h5 A hA).mono up⟩
 ·rw[List.getElem?_set_ne (ne hj)] at e1
  rw[List.getElem?_set_ne (ne hk)] at e2
  exact h.inj j hj k hk a e1 e2
theorem EnvO.setF(h:EnvO K F J6 O σ ρ H){es:List Es}{i:Nat}{v:V}{d:D}(p:PostF K σ ρ H es d v H')(hn:i < F.n)(hi:i ∉ O)(he:∀ e ∈ es,gC O e=true):EnvO K F J6 (i::O) (σ.set i (some v)) (ρ.set i (some d)) H':=by
 obtain⟨l,xs,ds,rfl,rfl,hl,hl',hr⟩:=p.new
 have ne:∀ {j:Nat},j ∈ O->i ≠ j:=fun hj e=>hi (e ▸ hj)
 have at_i:(σ.set i (some (V.ref l)))[i]?=some (some (V.ref l)):=List.getElem?_set_self (by rw[h.lσ];exact hn)
 have off:∀ {A:Addr->Prop} (b:Addr),Off (σ.set i (some (V.ref l))) (i::O) A b ↔ (Off σ O A b\/b=l):=fun {A} b=>by
  constructor
  ·rintro (⟨j,hj,e⟩ | q)
   ·rcases List.mem_cons.mp hj with e1 | hj
    ·subst e1;rw[at_i] at e;cases e;exact .inr rfl
    ·rw[List.getElem?_set_ne (ne hj)] at e;exact .inl (.inl ⟨j,hj,e⟩)
   ·exact .inl (.inr q)
  ·rintro ((⟨j,hj,e⟩ | q) | rfl)
   ·exact .inl ⟨j,List.mem_cons_of_mem _ hj,by rw[List.getElem?_set_ne (ne hj)];exact e⟩
   ·exact .inr q
   ·exact .inl ⟨i,List.mem_cons_self,at_i⟩
 have up:∀ {A:Addr->Prop},Same (ay H (Off σ O A)) (ay H' (Off (σ.set i (some (V.ref l))) (i::O) A)):=fun {A} b o q=>by
  obtain⟨n,q⟩:=dJ q
  rw[bC fun z=>((off b).mp z).elim n (bM q hl)]
  exact p.same b o q
 refine⟨h.same.trans p.same,by rw[List.length_set];exact h.lσ,by rw[List.length_set];exact h.lρ,fun j e q hj=>?_,fun z hz A hA=>(h.hld z hz A hA).mono up,fun j hj=>?_,fun j hj k hk a e1 e2=>?_⟩
 ·have e1:j ≠ i:=fun e=>hj (e ▸ List.mem_cons_self)
  rw[List.getElem?_set_ne (Ne.symm e1)] at q
  obtain⟨v',h1,h2⟩:=h.val j e q fun z=>hj (List.mem_cons_of_mem _ z)
  exact⟨v',by rw[List.getElem?_set_ne (Ne.symm e1)];exact h1,fun A hA=>aH up (h2 A hA)⟩
 ·by_cases e1:j=i
  ·subst e1
   refine⟨l,_,_,at_i,List.getElem?_set_self (by rw[h.lρ];exact hn),hl',h.same.free hl,fun A hA=>.inl ⟨xs,ds,rfl,rfl,?_⟩⟩
   exact aU (cO (fun _ _ q=>q) fun b q=>(off b).mp q) (hr _ (h.dom hA) fun e q=>h.av hA (he e q))
  ·have hj:j ∈ O:=(List.mem_cons.mp hj).resolve_left e1
   obtain⟨a,ys,es',h1,h2,h3,h4,h5⟩:=h.own j hj
   exact⟨a,ys,es',by rw[List.getElem?_set_ne (Ne.symm e1)];exact h1,by rw[List.getElem?_set_ne (Ne.symm e1)];exact h2,p.same _ _ h3,h4,fun A hA=>(h5 A hA).mono up⟩
 ·have key:∀ {m:Nat} {b:Addr},m ∈ O->(σ.set i (some (V.ref l)))[m]?=some (some (V.ref b))->b ≠ l:=fun {m b} hm e z=>by
   subst z
   rw[List.getElem?_set_ne (ne hm)] at e
   obtain⟨a',_,_,h1,_,h3,_⟩:=h.own m hm
   rw[e] at h1;cases h1
   rw[hl] at h3;cases h3
  rcases List.mem_cons.mp hj with e3 | hj' <;> rcases List.mem_cons.mp hk with e4 | hk'
  ·rw[e3,e4]
  ·rw[e3,at_i] at e1;cases e1;exact absurd rfl (key hk' e2)
  ·rw[e4,at_i] at e2;cases e2;exact absurd rfl (key hj' e1)
  ·rw[List.getElem?_set_ne (ne hj')] at e1
   rw[List.getElem?_set_ne (ne hk')] at e2
   exact h.inj j hj' k hk' a e1 e2
theorem EnvO.putC(h:EnvO K F J6 O σ ρ H){i:Nat}{a:Addr}{o':HO}{d':D}(hi:i ∈ O)(ha:σ[i]?=some (some (V.ref a)))(hr:∀ A,F.PA A->OwnC K (ay H (Off σ O A)) o' d'):
  EnvO K F J6 O σ (ρ.set i (some d')) (upd H a o'):=by
 obtain⟨a',xs,ds,h1,h2,h3,h4,h5⟩:=h.own i hi
 rw[ha] at h1;cases h1
 have up:∀ {A:Addr->Prop},Same (ay H (Off σ O A)) (ay (upd H a o') (Off σ O A)):=fun {A} b o q=>by
  obtain⟨n,q⟩:=dJ q
  have ne:b ≠ a:=fun e=>n (.inl ⟨i,hi,e ▸ ha⟩)
  rw[bC n,aF ne]
  exact q
 have hl:i < ρ.length:=(List.getElem?_eq_some_iff.mp h2).1
 refine⟨fun b o q=>?_,h.lσ,by rw[List.length_set];exact h.lρ,fun j e q hj=>?_,fun p hp A hA=>(h.hld p hp A hA).mono up,fun j hj=>?_,h.inj⟩
 ·rw[aF (bM q h4)]
  exact h.same b o q
 ·have e1:j ≠ i:=fun e=>hj (e ▸ hi)
  rw[List.getElem?_set_ne (Ne.symm e1)] at q
  obtain⟨v',k1,k2⟩:=h.val j e q hj
  exact⟨v',k1,fun A hA=>aH up (k2 A hA)⟩
 ·by_cases e1:j=i
  ·subst e1
   exact⟨a,_,_,ha,List.getElem?_set_self hl,br,h4,fun A hA=>(hr A hA).mono up⟩
  ·obtain⟨b,zs,es',k1,k2,k3,k4,k5⟩:=h.own j hj
   have ne:b ≠ a:=fun e=>e1 (h.inj j hj i hi a (e ▸ k1) ha)
   exact⟨b,zs,es',k1,by rw[List.getElem?_set_ne (Ne.symm e1)];exact k2,by rw[aF ne];exact k3,k4,fun A hA=>(k5 A hA).mono up⟩
theorem EnvO.put(h:EnvO K F J6 O σ ρ H){i:Nat}{a:Addr}{ys:List V}{es:List D}(hi:i ∈ O)(ha:σ[i]?=some (some (V.ref a)))(hr:∀ A,F.PA A->Reps K (ay H (Off σ O A)) ys es):
  EnvO K F J6 O σ (ρ.set i (some (.lst es))) (upd H a (.lst ys)):=h.putC hi ha fun A hA=>.inl ⟨ys,es,rfl,rfl,hr A hA⟩
theorem EnvO.ownL(h:EnvO K F J6 O σ ρ H){i:Nat}(hi:i ∈ O){ds0:List D}(hd:ρ[i]?=some (some (.lst ds0))):∃ a xs ds,σ[i]?=some (some (V.ref a))/\ρ[i]?=some (some (.lst ds))/\H a=some (.lst xs)/\F.H0 a=Option.none/\∀ A,F.PA A->Reps K (ay H (Off σ O A)) xs ds:=by
 obtain⟨a,o,d,h1,h2,h3,h4,h5⟩:=h.own i hi
 rw[hd] at h2;cases h2
 rcases h5 _ F.none with⟨xs,ds,rfl,e,_⟩ | ⟨kvs,_,e⟩
 ·cases e
  refine⟨a,xs,ds0,h1,hd,h3,h4,fun A hA=>?_⟩
  rcases h5 A hA with⟨xs',ds',e1,e2,h6⟩ | ⟨kvs,e1,_⟩
  ·cases e1;cases e2;exact h6
  ·cases e1
 ·cases e
theorem EnvO.hold{p:Hd}(h:EnvO K F J6 O σ ρ H)(hv:∀ A,F.PA A->HdOk K (ay H (Off σ O A)) p):EnvO K F (p::J6) O σ ρ H :=
 ⟨h.same,h.lσ,h.lρ,h.val,fun q hq=>(List.mem_cons.mp hq).elim (fun e=>e ▸ hv) (h.hld q),h.own,h.inj⟩
theorem EnvO.unhold{p:Hd}(h:EnvO K F (p::J6) O σ ρ H):EnvO K F J6 O σ ρ H:=⟨h.same,h.lσ,h.lρ,h.val,fun q hq=>h.hld q (List.mem_cons_of_mem _ hq),h.own,h.inj⟩
end
structure Ret (K:W.Frag) (F:Fr0) (fr:Bool) (d:D) (v:V) (H':Hp):Prop where
 same:Same F.H0 H'
 rep:∀ A,F.PA A->Rep K (ay H' A) v d
 new:fr=true->∃ l xs ds,v=V.ref l/\d=.lst ds/\F.H0 l=none/\H' l=some (.lst xs)/\∀ A,F.PA A->Reps K (ay H' fun b=>A b\/b=l) xs ds
def tsP(K:W.Frag)(F:Fr0)(J6:List Hd)(O' OL:List Nat)(fr:Bool)(De:Ends):Out->Prop
 | .nx ρ'=>∀ σ' H',EnvO K F J6 O' σ' ρ' H'->De.nx σ' H'
 | .bk ρ'=>∀ σ' H',EnvO K F J6 OL σ' ρ' H'->De.bk σ' H'
 | .ct ρ'=>∀ σ' H',EnvO K F J6 OL σ' ρ' H'->De.ct σ' H'
 | .rt d=>∀ v H',Ret K F fr d v H'->De.rt v H'
def ts(K:W.Frag)(F:Fr0)(J6:List Hd)(O O' OL:List Nat)(fr:Bool)(f:FS):TS:=fun De σ H=>∃ ρ o,EnvO K F J6 O σ ρ H/\f ρ=some o/\tsP K F J6 O' OL fr De o
abbrev VS(X:Cx)(F:Fr0)(O:List Nat)(st:Stmt)(f:FS)(O' OL:List Nat)(fr:Bool):Prop:=∀ J6,PS X st (ts X.K F J6 O O' OL fr f)
abbrev VSs(X:Cx)(F:Fr0)(O:List Nat)(st:List Stmt)(f:FS)(O' OL:List Nat)(fr:Bool):Prop:=∀ J6,PSs X st (ts X.K F J6 O O' OL fr f)
theorem bu{X:Cx}{e:Stmt}{t t':TS}(h:PS X e t)(i:∀ De σ H,t' De σ H->t De σ H):PS X e t':=fun J0 s σ H De I q=>h J0 s σ H De I (i De σ H q)
theorem ef{X:Cx}{e:List Stmt}{t t':TS}(h:PSs X e t)(i:∀ De σ H,t' De σ H->t De σ H):PSs X e t':=fun J0 s σ H De I q=>h J0 s σ H De I (i De σ H q)
section
variable {X:Cx}{F:Fr0}{O O1 O2 O' OL:List Nat}{fr:Bool}{f g:FS}{st:Stmt}{az:List Stmt}{pos:Pos}{e:Expr}{fe:FE}{es:List Es}
def jK:FS:=fun ρ=>some (.nx ρ)
def bz(f g:FS):FS:=fun ρ=>(f ρ).bind fun o=>match o with
 | .nx ρ'=>g ρ'
 | .rt d=>some (.rt d)
 | .bk ρ'=>some (.bk ρ')
 | .ct ρ'=>some (.ct ρ')
theorem AF:VSs X F O [] jK O OL fr:=fun J6=>ef n5 fun De σ H ⟨ρ,o,hE,hf,hQ⟩=>by cases hf;exact hQ σ H hE
theorem AG(h1:VS X F O st f O1 OL fr)(h2:VSs X F O1 az g O2 OL fr):VSs X F O (st::az) (bz f g) O2 OL fr:=fun J6=>ef (n6 (h1 J6) (h2 J6)) fun De σ H ⟨ρ,o,hE,hf,hQ⟩=>by
 obtain⟨o1,h1,hf⟩:=bind_some hf
 refine⟨ρ,o1,hE,h1,?_⟩
 cases o1 with
 | nx ρ'=>exact fun σ' H' hE'=>⟨ρ',o,hE',hf,hQ⟩
 | rt d=>cases hf;exact hQ
 | bk ρ'=>cases hf;exact hQ
 | ct ρ'=>cases hf;exact hQ
theorem AH(h1:VS X F O st f O1 OL fr):VSs X F O [st] f O1 OL fr:=fun J6=>ef (kX (h1 J6)) fun De σ H h=>h
theorem iQ(h:VSs X F O az f O1 OL fr)(hs:∀ i ∈ O',i ∈ O1):VSs X F O az f O' OL fr:=fun J6=>ef (h J6) fun De σ H ⟨ρ,o,hE,hf,hQ⟩=>⟨ρ,o,hE,hf,by
 cases o with
 | nx ρ'=>exact fun σ' H' hE'=>hQ σ' H' (hE'.weaken hs)
 | rt d=>exact hQ
 | bk ρ'=>exact hQ
 | ct ρ'=>exact hQ⟩
def sIf(t:am->Option Bool)(f g:FS):FS:=fun ρ=>(t ρ).bind fun b=>if b=true then f ρ else g ρ
theorem AI{c:Expr}{tc:am->Option Bool}{a b:List Stmt}(hc:VT X c tc)(ha:VSs X F O a f O1 OL fr)(hb:VSs X F O b g O2 OL fr)(h1:∀ i ∈ O',i ∈ O1)(h2:∀ i ∈ O',i ∈ O2):VS X F O (.If c a b pos) (sIf tc f g) O' OL fr:=fun J6 =>
 bu (n8 hc (iQ ha h1 J6) (iQ hb h2 J6)) fun De σ H ⟨ρ,o,hE,hf,hQ⟩=>by
  obtain⟨k,h1,hf⟩:=bind_some hf
  refine⟨ρ,k,hE.envR,h1,fun H1 e1=>?_⟩
  cases k with
  | true=>exact dI ⟨ρ,o,hE.up e1,hf,hQ⟩
  | false=>exact dH ⟨ρ,o,hE.up e1,hf,hQ⟩
def ba(f:FE):FS:=fun ρ=>(f ρ).map .rt
theorem nM{f:FE}{ρ:am}{o:Out}(h:ba f ρ=some o):∃ d,f ρ=some d/\o=.rt d:=by
 unfold ba at h
 cases e:f ρ with
 | none=>rw[e] at h;cases h
 | some d=>rw[e] at h;cases h;exact⟨d,rfl,rfl⟩
theorem nN{σ:St}{A:Addr->Prop}{H:Hp}:Same (ay H (Off σ O A)) (ay H A):=cO (fun _ _ q=>q) fun _ q=>.inr q
theorem AJ(he:VE X e fe es):VS X F O (.Return (some e) pos) (ba fe) O' OL false:=fun J6=>bu (iG he) fun De σ H ⟨ρ,o,hE,hf,hQ⟩=>by
 obtain⟨d,h1,rfl⟩:=nM hf
 refine⟨ρ,d,hE.envR,h1,fun v H' p=>hQ v H' ?_⟩
 obtain⟨hE',hr⟩:=hE.eval p
 exact⟨hE'.same,fun A hA=>aH nN (hr A hA),fun z=>nomatch z⟩
theorem AK(he:VF X e fe es):VS X F O (.Return (some e) pos) (ba fe) O' OL fr:=fun J6=>bu (iG he) fun De σ H ⟨ρ,o,hE,hf,hQ⟩=>by
 obtain⟨d,h1,rfl⟩:=nM hf
 refine⟨ρ,d,hE.envR,h1,fun v H' p=>hQ v H' ?_⟩
 obtain⟨hE',hr⟩:=hE.eval (p.post hE.envR)
 refine⟨hE'.same,fun A hA=>aH nN (hr A hA),fun _=>?_⟩
 obtain⟨l,xs,ds,e1,e2,hl,hl',hA⟩:=p.new
 have h1:=hE.weaken (O':=cC O es) lD
 exact⟨l,xs,ds,e1,e2,hE.same.free hl,hl',fun A hPA=>aU (cO (fun _ _ q=>q) fun b q=>q.elim (fun z=>.inl (.inr z)) .inr) (hA _ (h1.dom hPA) fun e he=>h1.av hPA (nL he))⟩
def eL(f:FE):FE:=fun ρ=>(f ρ).bind fun d=>match d with
 | .lst ds=>some (.lst ds)
 | _=>none
theorem AL{f:FE}{ρ:am}{d:D}(h:eL f ρ=some d):∃ ds,d=.lst ds/\f ρ=some (.lst ds):=by
 obtain⟨x,h1,h2⟩:=bind_some h
 cases x with
 | lst ds=>cases h2;exact⟨ds,rfl,h1⟩
 | _=>cases h2
theorem AM(i:Nat){x:Str}{p2:Pos}(hi:i ∈ O)(hN:X.N[i]?=some x)(hv:Vis X.env.scope x:=by first | exact Or.inl rfl | exact Or.inr (Or.inl rfl) | exact Or.inr (Or.inr rfl))(hd:(x == ("__debug__" : Str))=false)(hcd:(x == ("__classdict__" : Str))=false):VS X F O (.Return (some (.Name x p2)) pos) (ba (eL (aa i))) O' OL fr:=fun J6=>bu (iG (iE hN hv hd hcd)) fun De σ H ⟨ρ,o,hE,hf,hQ⟩=>by
 obtain⟨d,h1,rfl⟩:=nM hf
 obtain⟨ds0,e0,h10⟩:=AL h1
 subst e0
 have h2:=iI h10
 obtain⟨a,xs,ds,k1,k2,k3,k4,k5⟩:=hE.ownL hi h2
 rw[k2] at h2;cases h2
 refine⟨_,k1,hQ _ H ⟨hE.same,fun A hA=>?_,fun _=>⟨a,xs,_,rfl,rfl,k4,k3,fun A hA=>?_⟩⟩⟩
 ·refine .lst (.inl ?_) (aU nN (k5 A hA))
  rw[bC fun q=>F.dom A hA a q k4]
  exact k3
 ·exact aU (cO (fun _ _ q=>q) fun b q=>q.elim .inr fun z=>.inl ⟨i,hi,z ▸ k1⟩) (k5 A hA)
def bK(i:Nat)(f:FE):FS:=fun ρ=>(f ρ).map fun d=>.nx (ρ.set i (some d))
theorem ss{i:Nat}{f:FE}{ρ:am}{o:Out}(h:bK i f ρ=some o):∃ d,f ρ=some d/\o=.nx (ρ.set i (some d)):=by
 unfold bK at h
 cases e:f ρ with
 | none=>rw[e] at h;cases h
 | some d=>rw[e] at h;cases h;exact⟨d,rfl,rfl⟩
def iR(O:List Nat)(i:Nat):List Nat:=O.filter fun j=>j != i
theorem lE{i:Nat}:∀ j ∈ iR O i,j ∈ O:=fun j h=>(List.mem_filter.mp h).1
theorem su{i:Nat}:i ∉ iR O i:=fun h=>by simpa using (List.mem_filter.mp h).2
theorem AN(i:Nat){x:Str}{p2:Pos}(hN:X.N.Nodup)(he:VE X e fe es)(hi:X.N[i]?=some x)(hx:Loc X.env.scope x)(hs:swapsWith e (some (.Name x p2)) pos.line X.env=pure false)(hfn:X.fn x=true\/X.env.scope.names.lookup x=some .local):VS X F O (.Assign [.Name x p2] e pos) (bK i fe) (iR (cC O es) i) OL fr:=fun J6 =>
 bu (jr hN hi hx he hs hfn) fun De σ H ⟨ρ,o,hE,hf,hQ⟩=>by
  obtain⟨d,h1,rfl⟩:=ss hf
  refine⟨ρ,d,hE.envR,h1,fun v H' p=>hQ _ _ ?_⟩
  obtain⟨hE',hr⟩:=hE.eval p
  exact (hE'.weaken lE).set su fun A hA=>aH (cO (fun _ _ q=>q) (lC lE)) (hr A hA)
theorem AO(i:Nat){x:Str}{p2:Pos}(hN:X.N.Nodup)(he:VF X e fe es)(hn:i < F.n)(hi:X.N[i]?=some x)(hx:Loc X.env.scope x)(hs:swapsWith e (some (.Name x p2)) pos.line X.env=pure false)(hfn:X.fn x=true\/X.env.scope.names.lookup x=some .local):VS X F O (.Assign [.Name x p2] e pos) (bK i fe) (i::iR (cC O es) i) OL fr:=fun J6 =>
 bu (jr hN hi hx he hs hfn) fun De σ H ⟨ρ,o,hE,hf,hQ⟩=>by
  obtain⟨d,h1,rfl⟩:=ss hf
  refine⟨ρ,d,hE.envR,h1,fun v H' p=>hQ _ _ ?_⟩
  refine (hE.weaken fun j hj=>lD j (lE j hj)).setF p hn su fun z hz=>?_
  have:=nL (O:=O) hz
  cases z with
  | el j=>rfl
  | full j =>
    simp only[gC,Bool.not_eq_true',List.contains_eq_mem,decide_eq_false_iff_not] at this ⊢
    exact fun q=>this (lE j q)
end
end VL
namespace VL
open PySem PySem.Spec PyProof.Rows L2
section
variable {X:Cx}{F:Fr0}{O O2 OL:List Nat}{fr:Bool}{f g:FS}{pos p2:Pos}{e a:Expr}{fe:FE}{es:List Es}
def iS(i:Nat)(f:FE):FS:=fun ρ=>(aa i ρ).bind fun x=>match x with
 | .lst ds=>(f ρ).bind fun d=>if ds.length < 100000 then some (.nx (ρ.set i (some (.lst (ds++[d]))))) else none
 | _=>none
theorem AQ(i:Nat){x:Str}{ap cp:Pos}(he:VE X e fe es)(hi:i ∈ cC O es)(hN:X.N[i]?=some x)(hv:Vis X.env.scope x:=by first | exact Or.inl rfl | exact Or.inr (Or.inl rfl) | exact Or.inr (Or.inr rfl))(hd:(x == ("__debug__" : Str))=false)(hcd:(x == ("__classdict__" : Str))=false)(hbase:attributeBase (.Name x p2) "append" X.env (eval (.Name x p2) X.env)=eval (.Name x p2) X.env)(hfew:((backTo cp (starEach [e] X.env)).all (fun x=>!x.1) && (backToKw cp (keywordEach [] X.env)).all (fun x=>x.1.isSome)
   && decide (([e]:List Expr).length+([]:List Keyword).length+(if ([]:List Keyword).isEmpty then 0 else 1) < 30))=true:=by rfl)(hline:(ap.endLine == cp.line)=true:=by rfl)(hs:starEach [e] X.env=(false,eval e X.env)::starEach [] X.env:=by rfl)(hplain:(backTo cp (starEach [] X.env)).any (·.1)=false:=by rfl)(hsw:swapsWith (.Call (.Attribute (.Name x p2) "append" ap) [e] [] cp) none pos.line X.env=pure false:=by rfl):
  VS X F O (.Expr (.Call (.Attribute (.Name x p2) "append" ap) [e] [] cp) pos) (iS i fe) (cC O es) OL fr:=fun J6 =>
 bu (qz (rF PySem.F.plainAttrs_list PySem.F.slot_list_append PySem.F.type_list_append rH (iE hN hv hd hcd) (cN he dG hs) hbase hfew hline hs hplain) hsw) fun De σ H ⟨ρ,o,hE,hf,hQ⟩=>by
  obtain⟨x,h1,hf⟩:=bind_some hf
  have h1:=iI h1
  obtain⟨ds0,rfl⟩:∃ ds0,x=.lst ds0:=by cases x <;> first | exact⟨_,rfl⟩ | cases hf
  obtain⟨a,xs,ds,k1,k2,k3,k4,k5⟩:=hE.ownL (lD i hi) h1
  rw[k2] at h1;cases h1
  obtain⟨d,h2,hf⟩:=bind_some hf
  obtain⟨hl,rfl⟩:=de hf
  refine⟨_,k1,.inl ⟨rfl,xs,.inl (.inl k3)⟩,ρ,d,hE.envR,h2,fun v H1 p=>?_⟩
  obtain⟨hE1,hr⟩:=hE.eval p
  obtain⟨a',ys,ds',m1,m2,m3,m4,m5⟩:=hE1.ownL hi k2
  rw[k1] at m1;cases m1
  rw[k2] at m2;cases m2
  have e3:=p.same _ _ k3
  have e4:xs=ys:=by rw[m3] at e3;cases e3;rfl
  subst e4
  have len:=(m5 _ F.none).length
  refine⟨a,xs,v,rfl,rfl,m3,Nat.lt_of_lt_of_le (show xs.length < 100000 by omega) (by decide),hQ σ _ ?_⟩
  exact hE1.put hi k1 fun A hA=>(m5 A hA).append (.cons (hr A hA) .nil)
inductive Tgs (X:Cx):List Expr->List Nat->Prop where
 | nil:Tgs X [] []
 | cons {i:Nat} {x:Str} {p:Pos} {es:List Expr} {is:List Nat} (hi:X.N[i]?=some x) (hx:Loc X.env.scope x) (hf:X.fn x=true\/X.env.scope.names.lookup x=some .local) (t:Tgs X es is)
   (hs:(assignEach (.Name x p::es) X.env).map (·.2)=assign (.Name x p) X.env::(assignEach es X.env).map (·.2)):Tgs X (.Name x p::es) (i::is)
def jL:List Nat->TGs
 | []=>qB
 | i::is=>qC (cc i) (jL is)
theorem Tgs.ok(hN:X.N.Nodup):∀ {es:List Expr} {is:List Nat},Tgs X es is->PGs X es (jL is)
 | _,_,.nil=>xS
 | _,_,.cons hi hx hf t hs=>xT (bN hN hi hx hf) (Tgs.ok hN t) hs
theorem sv{K:W.Frag}{H:Hp}{v:V}{ds:List D}(r:Rep K H v (.tup ds)):∃ p xs,v=V.ref p/\Rd H p (.tup xs)/\Reps K H xs ds:=by
 cases r with
 | @tup p xs _ h1 h2=>exact⟨p,xs,rfl,.inl h1,h2⟩
theorem AR{K:W.Frag}{H:Hp}{A:Addr->Prop}{p:Addr}{xs:List V}{ds:List D}(h1:Rd H p (.tup xs))(r:Rep K (ay H A) (.ref p) (.tup ds)):Reps K (ay H A) xs ds:=by
 cases r with
 | tup h2 h3=>rw[jA h1 (dZ (bc H A) (.inl h2))];exact h3
theorem sw{K:W.Frag}{H:Hp}{A:Addr->Prop}{p:Addr}{xs:List V}{ds:List D}(h1:Rd H p (.lst xs))(r:Rep K (ay H A) (.ref p) (.lst ds)):Reps K (ay H A) xs ds:=by
 cases r with
 | lst h2 h3=>rw[gw h1 (dZ (bc H A) h2)];exact h3
def bD(body:D->FS):List D->FS
 | [],ρ=>some (.nx ρ)
 | x::r,ρ=>(body x ρ).bind fun o=>match o with
   | .nx ρ'=>bD body r ρ'
   | .ct ρ'=>bD body r ρ'
   | .bk ρ'=>some (.nx ρ')
   | .rt d=>some (.rt d)
theorem jM{body:D->FS}{x:D}{r:List D}{ρ:am}:bD body (x::r) ρ=(body x ρ).bind fun o=>match o with
  | .nx ρ'=>bD body r ρ'
  | .ct ρ'=>bD body r ρ'
  | .bk ρ'=>some (.nx ρ')
  | .rt d=>some (.rt d):=rfl
theorem lF{K:W.Frag}{J6 held':List Hd}{De:Ends}{d:D}{ds:List D}{o:Out}{ρ:am}{body:D->FS}{N:St->Hp->Prop}{o1:Out}{OL':List Nat}(h1:body d ρ=some o1)(hf:bD body (d::ds) ρ=some o)(hQ:tsP K F J6 OL OL' fr De o)(hh:∀ σ ρ H,EnvO K F held' OL σ ρ H->EnvO K F J6 OL σ ρ H)(hN:∀ σ' H' ρ',EnvO K F held' OL σ' ρ' H'->bD body ds ρ'=some o->N σ' H'):tsP K F held' OL OL fr { De with nx:=N,ct:=N,bk:=De.nx } o1:=by
 rw[jM,h1] at hf
 cases o1 with
 | nx ρ'=>exact fun σ' H' hE'=>hN σ' H' ρ' hE' hf
 | ct ρ'=>exact fun σ' H' hE'=>hN σ' H' ρ' hE' hf
 | bk ρ'=>cases hf;exact fun σ' H' hE'=>hQ σ' H' (hh _ _ _ hE')
 | rt d'=>cases hf;exact hQ
theorem sx{K:W.Frag}{H:Hp}{v:V}{d:D}{ds:List D}{σ:St}(hr:∀ A,F.PA A->Rep K (ay H (Off σ O A)) v d)(hds:items d=some ds)(ht:cX d=false):
  ∃ q xs,v=V.ref q/\∀ A,F.PA A->HdOk K (ay H (Off σ O A)) (hdL K q xs ds):=by
 have h0:=hr _ F.none
 cases h0 with
 | @lst q xs ds' h1 h2 =>
   cases hds
   refine⟨q,xs,rfl,fun A hA=>?_⟩
   cases hr A hA with
   | @lst _ ys _ h3 h4 =>
     have e:=gw (dZ (bc _ _) h1) (dZ (bc _ _) h3)
     subst e
     exact⟨.inl h3,h4⟩
 | @scr q ns h1 =>
   cases hds
   refine⟨q,ns.map V.int,rfl,fun A hA=>?_⟩
   cases hr A hA with
   | scr h3=>exact⟨h3,Reps.ints ns⟩
 | tup _ _=>cases ht
 | _=>cases hds
def jN(t:Nat)(it:FE)(tb:FS):FS:=fun ρ=>(it ρ).bind fun d=>if cX d=true then none else (items d).bind fun ds=>bD (fun x ρ=>tb (ρ.set t (some x))) ds ρ
theorem AT(t:Nat){x:Str}{iter:Expr}{body:List Stmt}{fi:FE}{ei:List Es}{tb:FS}(Ol:List Nat)(hN:X.N.Nodup)(hc:X.calm=true)(hi:VE X iter fi ei)(hb:VSs X F Ol body tb O2 Ol fr)(h1:∀ i ∈ Ol,i ∈ cC O ei)(h2:∀ i ∈ Ol,i ∈ O2)(h3:t ∉ Ol)(hp:PassesOwn (model X.prog X.w) X.A X.env X.xe)(hxN:X.N[t]?=some x)(hx:Loc X.env.scope x)(hfn:X.fn x=true\/X.env.scope.names.lookup x=some .local)(hs:∀ x,foldedSetIterable iter X.env x=pure x):VS X F O (.For (.Name x p2) iter body [] pos) (jN t fi tb) Ol OL fr:=fun J6=>by
 have hb':PSs X body (fun De σ H=>∃ p:Hd,ts X.K F (p::J6) Ol Ol Ol fr tb De σ H):=fun J0 s σ H De I ⟨p,h⟩=>iQ hb h2 (p::J6) J0 s σ H De I h
 refine bu (gu hp hc (l0 hi) (bN hN hxN hx hfn) hb' hs) fun De σ H h=>?_
 obtain⟨ρ,o,hE,hf,hQ⟩:=h
 obtain⟨d,hd,hf⟩:=bind_some hf
 cases ht:cX d with
 | true=>rw[if_pos ht] at hf;cases hf
 | false =>
   rw[if_neg (by rw[ht];exact Bool.false_ne_true)] at hf
   obtain⟨ds,hds,hf⟩:=bind_some hf
   refine⟨ρ,d,hE.envR,hd,fun v H1 p=>?_⟩
   obtain⟨hE1,hr⟩:=hE.eval p
   have hE2:=hE1.weaken h1
   have hr2:∀ A,F.PA A->Rep X.K (ay H1 (Off σ Ol A)) v d:=fun A hA=>aH (cO (fun _ _ q=>q) (lC h1)) (hr A hA)
   obtain⟨q,xs,rfl,hq⟩:=sx hr2 hds ht
   have len:xs.length=ds.length:=(hq _ F.none).2.length
   refine⟨q,rfl,⟨xs,(bc _ _).seq (hq _ F.none).1⟩,?_⟩
   refine qI (K:=X.K) (a:=q) (xs:=xs) (g:=cc t) (tb:=fun De σ H=>∃ p:Hd,ts X.K F (p::J6) Ol Ol Ol fr tb De σ H) (D:=De) (fun i σ' H'=>∃ ρ',EnvO X.K F (hdL X.K q xs ds::J6) Ol σ' ρ' H'/\bD (fun x ρ=>tb (ρ.set t (some x))) (ds.drop i) ρ'=some o) ⟨ρ,hE2.hold hq,by simpa using hf⟩ ?_ ?_ ?_
   ·rintro i σ' H' _ ⟨ρ',hE',_⟩
    exact (bc _ _).seq (hE'.hld _ List.mem_cons_self _ F.none).1
   ·rintro i y σ' H' hy ⟨ρ',hE',hf'⟩
    obtain⟨dy,h4,_⟩:=(hE'.hld _ List.mem_cons_self _ F.none).2.getV hy
    have h5:∀ A,F.PA A->Rep X.K (ay H' (Off σ' Ol A)) y dy:=fun A hA=>by
     obtain⟨dy',h6,h7⟩:=(hE'.hld _ List.mem_cons_self A hA).2.getV hy
     rw[h4] at h6;cases h6;exact h7
    have hi':i < ds.length:=(List.getElem?_eq_some_iff.mp h4).1
    have ed:ds.drop i=dy::ds.drop (i+1):=by
     rw[List.drop_eq_getElem_cons hi']
     have e2:ds[i]=dy:=(List.getElem?_eq_some_iff.mp h4).2
     rw[e2]
    rw[ed] at hf'
    have hf2:=hf'
    rw[jM] at hf2
    obtain⟨o1,h8,_⟩:=bind_some hf2
    refine⟨hdL X.K q xs ds,ρ'.set t (some dy),o1,hE'.set h3 h5,h8,?_⟩
    exact lF h8 hf' hQ (fun _ _ _ z=>z.unhold) fun σ'' H'' ρ'' hE'' hf''=>⟨ρ'',hE'',hf''⟩
   ·rintro σ' H' ⟨ρ',hE',hf'⟩
    rw[len,List.drop_length] at hf'
    cases hf'
    exact hQ σ' H' hE'.unhold
def cQ(lo:Int)(n:Nat):List D:=(List.range n).map fun (k:Nat)=>.int (lo+k)
theorem AU{lo:Int}{n i:Nat}(h:i < n):(cQ lo n).drop i=.int (lo+i)::(cQ lo n).drop (i+1):=by
 have hl:i < (cQ lo n).length:=by simpa [cQ] using h
 rw[List.drop_eq_getElem_cons hl]
 simp[cQ]
def okR(j:Int):Prop:=-4611686018427387904<=j/\j < 4611686018427387904
instance (j:Int):Decidable (okR j):=inferInstanceAs (Decidable (_/\_))
def iT(t:Nat)(as:FEs)(tb:FS):FS:=fun ρ=>(as ρ).bind fun ds=>match ds with
 | [.int j]=>if okR j then bD (fun x ρ=>tb (ρ.set t (some x))) (cQ 0 j.toNat) ρ else none
 | _=>none
theorem AV{K:W.Frag}{J6:List Hd}{De:Ends}{o:Out}{ρ:am}{σ:St}{H:Hp}{lo:Int}{n t:Nat}{Ol OL':List Nat}{tb:FS}(hE:EnvO K F J6 Ol σ ρ H)(h3:t ∉ Ol)(hf:bD (fun x ρ=>tb (ρ.set t (some x))) (cQ lo n) ρ=some o)(hQ:tsP K F J6 Ol OL' fr De o):
  ∃ W:Nat->Nat->St->Hp->Prop,(∃ m,W 0 m σ H)/\∀ i m σ H,W i m σ H ->
    ((Itr lo n).stop i H/\De.nx σ H)\/((Itr lo n).go i H/\∃ N:St->Hp->Prop,(∀ σ' H',N σ' H'->∃ m',m' < m/\W (i+1) m' σ' H')/\∀ x H',(Itr lo n).yld i H x H'->cc t x σ H' fun σ2 H2=>ts K F J6 Ol Ol Ol fr tb { De with nx:=N,ct:=N,bk:=De.nx } σ2 H2):=by
 refine qJ (lo:=lo) (n:=n) (g:=cc t) (tb:=ts K F J6 Ol Ol Ol fr tb) (D:=De) (fun i σ' H'=>∃ ρ',EnvO K F J6 Ol σ' ρ' H'/\bD (fun x ρ=>tb (ρ.set t (some x))) ((cQ lo n).drop i) ρ'=some o) ⟨ρ,hE,by simpa using hf⟩ ?_ ?_
 ·rintro i σ' H' hi ⟨ρ',hE',hf'⟩
  rw[AU hi] at hf'
  have hf2:=hf'
  rw[jM] at hf2
  obtain⟨o1,h8,_⟩:=bind_some hf2
  refine⟨ρ'.set t (some (.int (lo+i))),o1,hE'.set h3 fun A hA=>.int _,h8,?_⟩
  exact lF h8 hf' hQ (fun _ _ _ z=>z) fun σ'' H'' ρ'' hE'' hf''=>⟨ρ'',hE'',hf''⟩
 ·rintro σ' H' ⟨ρ',hE',hf'⟩
  rw[List.drop_eq_nil_of_le (by simp[cQ])] at hf'
  cases hf'
  exact hQ σ' H' hE'
theorem EnvO.evals{K:W.Frag}{J6:List Hd}{σ:St}{ρ:am}{H H':Hp}(h:EnvO K F J6 O σ ρ H){ds:List D}{vs:List V}(p:Posts K σ ρ H es ds vs H'):EnvO K F J6 O σ ρ H':=h.up p.same
theorem AW(t:Nat){x:Str}{a:Expr}{body:List Stmt}{as:FEs}{ei:List Es}{tb:FS}{pr pn:Pos}(Ol:List Nat)(hN:X.N.Nodup)(hc:X.calm=true)(mr:X.mg "range" = none)(hi:VA X [a] as ei)(hb:VSs X F Ol body tb O2 Ol fr)(h1:∀ i ∈ Ol,i ∈ O)(h2:∀ i ∈ Ol,i ∈ O2)(h3:t ∉ Ol)(hp:PassesOwn (model X.prog X.w) X.A X.env X.xe)(hg:Gl X "range")(hst:starEach [a] X.env=[(false,eval a X.env)])(hxN:X.N[t]?=some x)(hx:Loc X.env.scope x)(hfn:X.fn x=true\/X.env.scope.names.lookup x=some .local)(hs:∀ x,foldedSetIterable (.Call (.Name "range" pn) [a] [] pr) X.env x=pure x):VS X F O (.For (.Name x p2) (.Call (.Name "range" pn) [a] [] pr) body [] pos) (iT t as tb) Ol OL fr:=fun J6=>by
 refine bu (gu hp hc (la hg mr hi hst) (bN hN hxN hx hfn) (iQ hb h2 J6) hs) fun De σ H h=>?_
 obtain⟨ρ,o,hE,hf,hQ⟩:=h
 obtain⟨ds,hd,hf⟩:=bind_some hf
 refine⟨ρ,ds,hE.envR,hd,fun vs H1 p=>?_⟩
 have hE1:=(hE.evals p).weaken h1
 match ds,hf,p with
 | [.int j],hf,p =>
   by_cases hj:okR j
   ·simp only[if_pos hj] at hf
    obtain⟨v,rfl,r⟩:=e8 p.rep
    cases r
    exact⟨j,rfl,hj.1,hj.2,AV hE1 h3 hf hQ⟩
   ·simp only[if_neg hj] at hf
    cases hf
end
structure RetC (K:W.Frag) (H:Hp) (vs:List V) (ds:List D) (fr:Bool) (d:D) (v:V) (H':Hp):Prop where
 same:Same H H'
 rep:∀ A,Dom H A->Reps K (ay H A) vs ds->Rep K (ay H' A) v d
 new:fr=true->∃ l xs es,v=V.ref l/\d=.lst es/\H l=none/\H' l=some (.lst xs)/\∀ A,Dom H A->Reps K (ay H A) vs ds->Reps K (ay H' fun b=>A b\/b=l) xs es
def spF(K:W.Frag)(G:List D->Option D)(fr:Bool):Sp:=fun vs H Q _=>∃ ds d,Reps K H vs ds/\G ds=some d/\∀ v H',RetC K H vs ds fr d v H'->Q v H'
def mkF(fr:Bool)(np n:Nat)(body:FS):List D->Option D:=fun ds=>if ds.length=np then (body (ds.map some++List.replicate (n - np) none)).bind fun o=>match o with
 | .rt d=>some d
 | .nx _=>if fr=true then none else some .non
 | _=>none
 else none
theorem AX{P:Program}{w:World}{K:W.Frag}{mg:Str->Option Value}{base:Heap}{x qual:Str}{st:Stmt}{f:Addr}{fd:FuncData}{N ps:List Str}{k:Nat}{fr:Bool}{body:FS}{O' OL:List Nat}(Fn:Fun K x qual st f fd)(S:FnScope N ps (ao st))(h:∀ (cdv:Value) (A:Around) (outer:List PySem.Env) (s:Shared) (H:Hp) (E:XK) (F:Fr0),F.n=N.length->Room k (A.deeper (envOfC qual (ao st) s.heap.objs.size f cdv)) ->
   VSs (cG CX0 P w K mg base N qual (ao st) f cdv A outer s H E).nox F [] (aG st) body O' OL fr):
  FnOk P w K mg base CX0 (k+1) f fd ps (spF K (mkF fr ps.length N.length body) fr):=by
 have hpl:ps.length<=N.length:=by have:=congrArg List.length S.pre;rw[List.length_take] at this;omega
 refine Fn.ok S (fun vs H Q E h=>?_) (fun cdv A outer s H vs Q E hr h'=>?_)
 ·obtain⟨ds,d,r,hg,_⟩:=h
  unfold mkF at hg
  by_cases hl:ds.length=ps.length
  ·rw[r.length,hl]
  ·rw[if_neg hl] at hg;cases hg
 ·obtain⟨ds,d,r,hg,hQ⟩:=h'
  unfold mkF at hg
  by_cases hl:ds.length=ps.length
  ·rw[if_pos hl] at hg
   obtain⟨o,ho,hg⟩:=bind_some hg
   let F:Fr0:=⟨H,fun A=>Dom H A/\Reps K (ay H A) vs ds,N.length,fun A h=>h.1,⟨Dom.none H,aU (nD H) r⟩⟩
   refine⟨_,h cdv A outer s H E F rfl hr [],ds.map some++List.replicate (N.length - ps.length) none,o,?_,ho,?_⟩
   ·have lv:=r.length
    have get:∀ (i:Nat) (d:D),(ds.map some++List.replicate (N.length - ps.length) none)[i]?=some (some d)->ds[i]?=some d:=fun i d q=>by
     by_cases hi:i < ds.length
     ·rw[List.getElem?_append_left (by simpa using hi),List.getElem?_map] at q
      cases e:ds[i]? with
      | none=>rw[e] at q;cases q
      | some z=>rw[e] at q;simpa using q
     ·rw[List.getElem?_append_right (by simpa using hi),List.getElem?_replicate] at q
      split at q <;> cases q
    refine⟨Same.refl H,?_,?_,fun i d q _=>?_,fun p hp=>absurd hp (by simp),fun i hi=>absurd hi (by simp),fun i hi=>absurd hi (by simp)⟩
    ·show (L2.start N vs).length=N.length
     unfold L2.start
     rw[List.length_append,List.length_map,List.length_replicate]
     omega
    ·show _=N.length
     rw[List.length_append,List.length_map,List.length_replicate]
     omega
    ·have h1:=get i d q
     obtain⟨v,h2,_⟩:=r.get h1
     refine⟨v,?_,fun A hA=>?_⟩
     ·unfold L2.start
      have hi:i < vs.length:=(List.getElem?_eq_some_iff.mp h2).1
      rw[List.getElem?_append_left (by simpa using hi),List.getElem?_map,h2]
      rfl
     ·obtain⟨v',h3,h4⟩:=hA.2.get h1
      rw[h2] at h3;cases h3
      exact aH (cO (fun _ _ z=>z) fun b z=>z.elim (fun⟨_,hj,_⟩=>absurd hj (by simp)) id) h4
   ·cases o with
    | rt d' =>
      cases hg
      exact fun v H' rt=>hQ v H' ⟨rt.same,fun A hA hr=>rt.rep A ⟨hA,hr⟩,fun e=>let ⟨l,xs,es,e1,e2,e3,e4,e5⟩:=rt.new e;⟨l,xs,es,e1,e2,e3,e4,fun A hA hr=>e5 A ⟨hA,hr⟩⟩⟩
    | nx ρ' =>
      cases fr with
      | true=>cases hg
      | false =>
        cases hg
        exact fun σ' H' hE=>hQ _ H' ⟨hE.same,fun A hA hr=>.non,fun e=>nomatch e⟩
    | _=>cases hg
  ·rw[if_neg hl] at hg;cases hg
section
variable {X:Cx}{k:Nat}{f:Addr}{fd:FuncData}{ps:List Str}{G:List D->Option D}{fr:Bool}{x:Str}{p pos:Pos}{e:Expr}{es':List Expr}{as:FEs}{es:List Es}
theorem AY(Gk:FnOk X.prog X.w X.K X.mg X.base CX0 k f fd ps (spF X.K G fr))(hr:Room k X.A)(hm:X.mg x=some (.ref f))(hk:W.keepIn X.K (.ref f)=true)(hb:Binds X.K fd ps [])(ha:VA X (e::es') as es)(hg:Gl X x:=by rfl)(hdb:(x == ("__debug__" : Str))=false:=by decide)(he:starEach (e::es') X.env=(false,eval e X.env)::starEach es' X.env:=by rfl)(hpl:(backTo pos (starEach es' X.env)).any (·.1)=false:=by rfl):
  VE X (.Call (.Name x p) (e::es') [] pos) (eA G as) es :=
 aM (li Gk hr hg hm hk hb .nil gv ha hdb he hpl) fun σ H Q ⟨ρ,d,hE,hf,hQ⟩=>by
  obtain⟨ds,h1,hf⟩:=bind_some hf
  refine⟨ρ,ds,hE,h1,fun vs H1 p=>?_⟩
  show spF X.K G fr (vs++[]) H1 Q E0
  rw[List.append_nil]
  refine⟨ds,d,p.rep,hf,fun v H' r=>hQ v H' ⟨p.same.trans r.same,aH (bc _ _) (r.rep fh (Dom.none _) (aU (nD _) p.rep)),fun A hA hz=>r.rep A (hA.mono p.same) (p.av A hA hz)⟩⟩
theorem AZ(Gk:FnOk X.prog X.w X.K X.mg X.base CX0 k f fd ps (spF X.K G true))(hr:Room k X.A)(hm:X.mg x=some (.ref f))(hk:W.keepIn X.K (.ref f)=true)(hb:Binds X.K fd ps [])(ha:VA X (e::es') as es)(hg:Gl X x:=by rfl)(hdb:(x == ("__debug__" : Str))=false:=by decide)(he:starEach (e::es') X.env=(false,eval e X.env)::starEach es' X.env:=by rfl)(hpl:(backTo pos (starEach es' X.env)).any (·.1)=false:=by rfl):
  VF X (.Call (.Name x p) (e::es') [] pos) (eA G as) es :=
 aM (li Gk hr hg hm hk hb .nil gv ha hdb he hpl) fun σ H Q ⟨ρ,d,hE,hf,hQ⟩=>by
  obtain⟨ds,h1,hf⟩:=bind_some hf
  refine⟨ρ,ds,hE,h1,fun vs H1 p=>?_⟩
  show spF X.K G true (vs++[]) H1 Q E0
  rw[List.append_nil]
  refine⟨ds,d,p.rep,hf,fun v H' r=>hQ v H' ⟨p.same.trans r.same,?_⟩⟩
  obtain⟨l,xs,es,e1,e2,e3,e4,e5⟩:=r.new rfl
  exact⟨l,xs,es,e1,e2,p.same.free e3,e4,fun A hA hz=>e5 A (hA.mono p.same) (p.av A hA hz)⟩
end
end VL
namespace VL
open PySem PySem.Spec PyProof.Rows L2
theorem nO(env:PySem.Env):∀ (names:List (Str × NameKind)) (acc:List (Str × Addr)),(∀ x ∈ names,x.2=.free->∃ c,env.cells.lookup x.1=some c) ->
  ∃ cl,(forIn names acc fun x r=>(if (x.2 == NameKind.free)=true then (do let c <- cellOf env x.1;pure (ForInStep.yield ((x.1,c)::r))) else pure (ForInStep.yield r):Sem (ForInStep (List (Str × Addr)))))=pure cl /\
    (∀ x c,cl.lookup x=some c->acc.lookup x=some c\/env.cells.lookup x=some c)/\(∀ x,(∃ c,acc.lookup x=some c)->∃ c,cl.lookup x=some c)/\(∀ x ∈ names,x.2=.free->∃ c,cl.lookup x.1=some c)
 | [],acc,_=>⟨acc,rfl,fun _ _ h=>.inl h,fun _ h=>h,fun _ h=>nomatch h⟩
 | (n, k)::r,acc,h=>by
   have hr:∀ x ∈ r,x.2=.free->∃ c,env.cells.lookup x.1=some c:=fun x hx=>h x (List.mem_cons_of_mem _ hx)
   by_cases hk:k=.free
   ·subst hk
    obtain⟨c,hc⟩:=h (n,.free) List.mem_cons_self rfl
    obtain⟨cl,e,h1,h2,h3⟩:=nO env r ((n,c)::acc) hr
    refine⟨cl,?_,fun x c' hx=>?_,fun x ⟨c',hx⟩=>?_,fun x hx hf=>?_⟩
    ·rw[List.forIn_cons]
     have e1:cellOf env n=pure c:=by unfold cellOf;rw[hc]
     simp only[beq_self_eq_true,if_true,e1,pure_bind]
     exact e
    ·rcases h1 x c' hx with q | q
     ·rw[List.lookup_cons] at q
      cases hxn:x == n with
      | true =>
        rw[hxn] at q
        have e2:x=n:=by simpa using hxn
        cases q
        rw[e2]
        exact .inr hc
      | false=>rw[hxn] at q;exact .inl q
     ·exact .inr q
    ·refine h2 x ?_
     rw[List.lookup_cons]
     cases x == n with
     | true=>exact⟨_,rfl⟩
     | false=>exact⟨c',hx⟩
    ·rcases List.mem_cons.mp hx with q | q
     ·subst q
      refine h2 n ⟨c,?_⟩
      rw[List.lookup_cons]
      simp
     ·exact h3 x q hf
   ·obtain⟨cl,e,h1,h2,h3⟩:=nO env r acc hr
    refine⟨cl,?_,h1,h2,fun x hx hf=>?_⟩
    ·rw[List.forIn_cons]
     have e1:(k == NameKind.free)=false:=by simpa using hk
     simp only[e1,Bool.false_eq_true,if_false,pure_bind]
     exact e
    ·rcases List.mem_cons.mp hx with q | q
     ·subst q;exact absurd hf hk
     ·exact h3 x q hf
theorem nQ{scope:Scope}{env:PySem.Env}(h:∀ x ∈ scope.names,x.2=.free->∃ c,env.cells.lookup x.1=some c):
  ∃ cl,closureFor scope env=pure cl/\(∀ x c,cl.lookup x=some c->env.cells.lookup x=some c)/\(∀ x ∈ scope.names,x.2=.free->∃ c,cl.lookup x.1=some c):=by
 obtain⟨cl,e,h1,h2,h3⟩:=nO env scope.names [] h
 refine⟨cl,?_,fun x c q=>(h1 x c q).resolve_left (fun z=>by simp at z),h3⟩
 simp only[closureFor]
 rw[e]
 first | rfl | simp
section
variable {prog:Program}{w:World}{A:Around}{R:Result->Shared->Prop}{s:Shared}
theorem B5{elt target iter:Expr}{ifs:List Expr}{scope:Scope}{pos:Pos}{it acc:Value}{env:PySem.Env}(I:Nat->Shared->Prop)(turn : ∀ n s,I n s->wpAny (model prog w) A (pyNext it) (fun r s₁=>match r with
   | none=>R (.ok .next) s₁
   | some v=>wpAny (model prog w) A (letOwnedTupleGo target it v) (fun _ s₁'=>wpAny (model prog w) A (assign target env v) (fun _ s₂ =>
     wpAny (model prog w) A (forIn ifs true fun c r=>if r=true then do let ok <- isTrue c env (eval c env);pure (ForInStep.yield ok) else pure (ForInStep.yield r)) (fun ok s₃ =>
      if ok=true then wpAny (model prog w) A (eval elt env) (fun x s₄ =>
       wpAny (model prog w) A (call (.builtin "list.append") [acc,x]) (fun _ s₅=>∃ m,m < n/\I m s₅) (fun _ _=>False) s₄) (fun _ _=>False) s₃
      else ∃ m,m < n/\I m s₃) (fun _ _=>False) s₂) (fun _ _=>False) s₁') (fun _ _=>False) s₁) (fun _ _=>False) s)(n:Nat)(h:I n s):codeAny (model prog w) A (.compLoop (.ListComp elt [⟨target,iter,ifs,0⟩] scope pos) 0 it acc env) R s:=by
 refine codeAny_loop rfl I (fun n s hI=>?_) n h
 show wpAny _ A ((compTurn (.ListComp elt [⟨target,iter,ifs,0⟩] scope pos) 0 it acc env).onRaise (fun x=>do noteFrame x env;theTreesLotGoes x)) _ _ s
 refine wpAny_noted ?_
 rw[compTurn_list]
 refine wpAny_bind (wpAny_standAt (wpAny_bind (wpAny_mono (turn n s hI) (fun r s₁ h₁=>?_) fun _ _ h'=>h'.elim)))
 cases r with
 | none=>exact wpAny_pure h₁
 | some v =>
   refine wpAny_bind (wpAny_mono h₁ (fun _ s₁' h₁'=>?_) fun _ _ h'=>h'.elim)
   refine wpAny_bind (wpAny_mono h₁' (fun _ s₂ h₂=>wpAny_bind (wpAny_mono h₂ (fun ok s₃ h₃=>?_) fun _ _ h'=>h'.elim)) fun _ _ h'=>h'.elim)
   cases ok with
   | false=>exact wpAny_pure ⟨rfl,h₃⟩
   | true =>
     exact wpAny_bind (wpAny_bind (wpAny_mono h₃ (fun x s₄ h₄=>wpAny_bind (wpAny_mono h₄ (fun _ s₅ h₅=>wpAny_pure (wpAny_pure ⟨rfl,h₅⟩)) fun _ _ h'=>h'.elim)) fun _ _ h'=>h'.elim))
end
def blk(X:Cx)(N:List Str)(s:Shared)(H:Hp)(scope:Scope)(cl:List (Str × Addr))(ex:List Addr):Cx :=
 { X with N:=N,s₀:=s,H₀:=H,env:=compEnvC scope cl s.heap.objs.size X.env,outer:=X.stack,ex:=ex,fn:=fun _=>false,pn:=[],xe:=fun _ _=>False }
structure BlkOk (X:Cx) (scope:Scope) (own:List Str) (J7:List Nat) (cn:List Str):Prop where
 kind:scope.kind=.function
 nocell:∀ x ∈ scope.names,x.2 ≠ .cell
 locals:∀ x ∈ scope.names,x.2=.local->scope.names.lookup x.1=some .local
 free:∀ x ∈ scope.names,x.2=.free->(X.env.kindOf x.1=some .cell\/X.env.kindOf x.1=some .free)
 names:J7.map (fun j=>X.N[j]?)=cn.map some
 capf:∀ x ∈ cn,scope.names.lookup x=some .free
 nd:(own++cn).Nodup
theorem nR{env:PySem.Env}:∀ {names:List (Str × NameKind)} {x:Str} {k:NameKind},(names.map fun (n,k)=>if (k == NameKind.free && env.scope.kind == .function && env.kindOf n == some .cell) then (n,NameKind.cell) else (n,k)).lookup x=some k ->
  (∀ y ∈ names,y.2 ≠ .cell)->(k=.cell\/k=.free)->(x,NameKind.free) ∈ names
 | [],_,_,h,_,_=>by simp at h
 | (n, k')::r,x,k,h,hc,hk=>by
   have ih:=@nR env r x k
   have h:List.lookup x ((if (k' == NameKind.free && env.scope.kind == .function && env.kindOf n == some .cell)=true then (n,NameKind.cell) else (n,k'))::(r.map fun (n,k)=>if (k == NameKind.free && env.scope.kind == .function && env.kindOf n == some .cell) then (n,NameKind.cell) else (n,k)))=some k:=h
   have hr:∀ y ∈ r,y.2 ≠ .cell:=fun y hy=>hc y (List.mem_cons_of_mem _ hy)
   by_cases hcd:(k' == NameKind.free && env.scope.kind == .function && env.kindOf n == some .cell)=true
   ·have hk':k'=.free:=by
     rw[Bool.and_eq_true,Bool.and_eq_true] at hcd
     simpa using hcd.1.1
    rw[if_pos hcd,List.lookup_cons] at h
    cases hx:x == n with
    | true =>
      have e:x=n:=by simpa using hx
      rw[e,hk'];exact List.mem_cons_self
    | false=>rw[hx] at h;exact List.mem_cons_of_mem _ (ih h hr hk)
   ·rw[if_neg hcd,List.lookup_cons] at h
    cases hx:x == n with
    | true =>
      have e:x=n:=by simpa using hx
      rw[hx] at h
      cases h
      rcases hk with hk | hk
      ·exact absurd hk (hc (n,k') List.mem_cons_self)
      ·rw[e,<- hk];exact List.mem_cons_self
    | false=>rw[hx] at h;exact List.mem_cons_of_mem _ (ih h hr hk)
theorem sy{env:PySem.Env}:∀ {names:List (Str × NameKind)} {x:Str},names.lookup x=some .free ->
  (names.map fun (n,k)=>if (k == NameKind.free && env.scope.kind == .function && env.kindOf n == some .cell) then (n,NameKind.cell) else (n,k)).lookup x ≠ some .local
 | [],_,h=>by simp at h
 | (n,k)::r,x,h=>by
   have ih:=@sy env r x
   show List.lookup x ((if (k == NameKind.free && env.scope.kind == .function && env.kindOf n == some .cell)=true then (n,NameKind.cell) else (n,k))::(r.map fun (n,k)=>if (k == NameKind.free && env.scope.kind == .function && env.kindOf n == some .cell) then (n,NameKind.cell) else (n,k))) ≠ some .local
   rw[List.lookup_cons] at h
   by_cases hcd:(k == NameKind.free && env.scope.kind == .function && env.kindOf n == some .cell)=true
   ·rw[if_pos hcd,List.lookup_cons]
    cases hx:x == n with
    | true=>exact fun z=>by cases z
    | false=>rw[hx] at h;exact ih h
   ·rw[if_neg hcd,List.lookup_cons]
    cases hx:x == n with
    | true=>rw[hx] at h;cases h;exact fun z=>by cases z
    | false=>rw[hx] at h;exact ih h
section
variable {X:Cx}{J0:List (Addr × Obj)}{σ:St}{H:Hp}{s:Shared}{scope:Scope}{own cn:List Str}{J7:List Nat}{cl:List (Str × Addr)}{ex:List Addr}
def cR(σ:St)(J7:List Nat):St:=J7.map fun j=>(σ[j]?).getD none
theorem B9(I:L2.Inv X J0 σ H s)(B:BlkOk X scope own J7 cn)(hcl:∀ x c,cl.lookup x=some c->X.env.cells.lookup x=some c)(hha:∀ x ∈ scope.names,x.2=.free->∃ c,cl.lookup x.1=some c)(hex:∀ b ∈ ex,ce X J0 H b/\b < s.heap.objs.size){h₁:Heap}{tk:Nat}(hns:h₁.Ns s.heap.objs.size (fun _=>none))(hk:∀ b o,s.heap.get? b=some o->h₁.get? b=some o):
  L2.Inv (blk X (own++cn) s H scope cl ex) [] (List.replicate own.length none++cR σ J7) H { s with heap:=h₁,toks:=tk }:=by
 have hcap:cn.length=J7.length:=by have:=congrArg List.length B.names;simpa using this.symm
 refine⟨⟨I.ok.mod,B.kind,I.ok.glob,I.ok.blt,Nat.le_refl _,fun x y c h1 h2=>I.ok.inj x y c (hcl x c h1) (hcl y c h2),fun x hx=>?_,fun x c h=>(nomatch h),I.ok.hd,I.ok.frames,.inl rfl,fun b hb=>?_,fun b o e=>I.bs b o e,Nat.le_trans I.ok.bsz I.sz,fun b o e hb=>?_,fun b hb hfs=>?_,I.stack,I.stkFree⟩,
  rfl,I.bare,Un.kept hk,⟨_,hns,fun i x v h1 h2 h3=>?_⟩,fun x c h=>?_,I.hok.fresh (Nat.le_refl _),fun x c h=>I.freeC x c (hcl x c h),fun p hp=>absurd hp (by simp[blk]),I.hok.kept hk,?_⟩
 ·have hx':(relabel scope X.env).names.lookup x=some .cell\/(relabel scope X.env).names.lookup x=some .free:=hx
  have m:(x,NameKind.free) ∈ scope.names:=by
   rcases hx' with q | q
   ·exact nR q B.nocell (.inl rfl)
   ·exact nR q B.nocell (.inr rfl)
  exact hha _ m rfl
 ·obtain⟨f,lt⟩:=hex b hb
  exact⟨Nat.ne_of_lt lt,fun x c h=>f.2.2.2.2.1 x c (hcl x c h)⟩
 ·obtain⟨f,lt⟩:=hex b hb
  rcases f.2.2.2.1 with q | q
  ·exact I.ok.noex b o e q
  ·exact absurd (Nat.lt_of_lt_of_le (Heap.lt_size e) I.ok.bsz) (Nat.not_lt.mpr q)
 ·obtain⟨f,lt⟩:=hex b hb
  rcases List.mem_cons.mp (I.stkSub b hfs) with q | q
  ·exact f.2.1 q
  ·exact f.2.2.1 q
 ·
  have hlen:(List.replicate own.length (none:Option V)).length=own.length:=List.length_replicate
  by_cases hi:i < own.length
  ·rw[List.getElem?_append_left (by rw[hlen];exact hi),List.getElem?_replicate,if_pos hi] at h2
   cases h2
  ·rw[List.getElem?_append_right (by rw[hlen];omega),hlen] at h2
   have h1':cn[i - own.length]?=some x:=by
    have h1'':(own++cn)[i]?=some x:=h1
    rwa [List.getElem?_append_right (by omega)] at h1''
   unfold cR at h2
   rw[List.getElem?_map] at h2
   cases hj:J7[i - own.length]? with
   | none=>rw[hj] at h2;cases h2
   | some j =>
     rw[hj] at h2
     have hN:X.N[j]?=some x:=by
      have q:=congrArg (fun l=>l[i - own.length]?) B.names
      simp only[List.getElem?_map,hj,h1',Option.map_some] at q
      exact Option.some.inj q
     have hσ:σ[j]?=some (some v):=by
      simp only[Option.map_some,Option.some.injEq] at h2
      cases e:σ[j]? with
      | none=>rw[e] at h2;cases h2
      | some o=>rw[e] at h2;simp only[Option.getD_some] at h2;rw[h2]
     have hxf:scope.names.lookup x=some .free:=B.capf x (List.mem_of_getElem? h1')
     have hkind:=B.free (x,.free) (PySem.mem_of_lookup hxf) rfl
     have hvis:Vis X.env.scope x:=hkind.elim (fun q=>.inr (.inl q)) fun q=>.inr (.inr q)
     obtain⟨m,hm,hl⟩:=I.loc
     obtain⟨u,r,look⟩:=hl j x v hN hσ hvis
     rcases look with⟨hloc,_⟩ | ⟨_,c,hc,hcell⟩
     ·rcases hkind with q | q <;> rw[q] at hloc <;> cases hloc
     ·obtain⟨c',hc'⟩:=hha (x,.free) (PySem.mem_of_lookup hxf) rfl
      have e:=hcl x c' hc'
      rw[hc] at e;cases e
      refine⟨u,r,.inr ⟨?_,c,hc',?_⟩⟩
      ·rcases h3 with q | q | q
       ·exfalso
        have:(relabel scope X.env).names.lookup x=some .local:=q
        unfold relabel at this
        have z:=@sy X.env scope.names x hxf
        exact z this
       ·exact .inl q
       ·exact .inr q
      ·obtain⟨oc,ho,hd⟩:=hcell
       exact⟨oc,hk _ _ ho,hd⟩
 ·obtain⟨v,oc,ho,hd⟩:=I.cell x c (hcl x c h)
  exact⟨v,oc,hk _ _ ho,hd⟩
 ·show (List.replicate own.length none++cR σ J7).length=(own++cn).length
  simp[cR,hcap]
end
end VL
namespace VL
open PySem PySem.Spec PyProof.Rows L2
theorem Inv.track{X:Cx}{J0:List (Addr × Obj)}{σ:St}{H:Hp}{s:Shared}{d:Addr}{ys:List V}{its:List Value}{n:Nat}(I:L2.Inv X J0 σ H s)(e:s.heap.get? d=some { cls:=.type "list",data:=.seq its.toArray n })(hv:Vals ys its)(hz:ys.length<=sizeLine)(f:ce X J0 H d)(f3:X.s₀.heap.objs.size<=d):L2.Inv X J0 σ (upd H d (.lst ys)) s:=by
 obtain⟨f0,f1,f2,_,f4,f5⟩:=f
 have old:∀ b o,X.s₀.heap.get? b=some o->b ≠ d:=fun b o q z=>absurd (Nat.lt_of_lt_of_le (Heap.lt_size q) (by rw[z];exact f3)) (Nat.lt_irrefl _)
 have nd:∀ b u,H b=some u->b ≠ d:=fun b u q z=>by rw[z,f0] at q;cases q
 refine⟨I.ok,I.os,I.bare,⟨I.base.keep,I.base.slot,fun b o q n hx=>?_,I.base.there,fun b xs q=>?_,fun b o u q=>?_,fun b ps q=>?_⟩,I.loc,I.cell,?_,fun x c q=>?_,fun p hp=>?_,fun b o q=>?_,I.len⟩
 ·rw[aF (old b o q)];exact I.base.free b o q n hx
 ·have z:=I.base.tups b xs q;rw[aF (nd b _ z)];exact z
 ·have z:=I.base.frzs b o u q;rw[aF (nd b _ z)];exact z
 ·obtain⟨more,z⟩:=I.base.tbls b ps q;exact⟨more,by rw[aF (nd b _ z)];exact z⟩
 ·rw[aF (Ne.symm f1)];exact I.free
 ·rw[aF (f4 x c q)];exact I.freeC x c q
 ·obtain⟨k1,k2,k3,k4,k5⟩:=I.pin p hp
  exact⟨k1,by rw[aF (f5 p hp)];exact k2,k3,k4,k5⟩
 ·by_cases hb:b=d
  ·subst hb
   rw[br] at q;cases q
   exact⟨hz,its,n,hv,e⟩
  ·rw[aF hb] at q
   refine (I.hok b o q).stay (fun c v _ z=>z) (fun c z=>?_) fun c xs z=>?_
   ·rw[aF (nd c _ z)];exact z
   ·rw[aF (nd c _ z)];exact z
def PTs(X:Cx)(ifs:List Expr)(t:TT):Prop :=
 ∀ (J0:List (Addr × Obj)) (s:Shared) (σ:St) (H:Hp) (Q:Bool->Hp->Prop),L2.Inv X J0 σ H s->t σ H Q ->
   wpAny (model X.prog X.w) X.A (forIn ifs true fun c r=>if r=true then do let ok <- isTrue c X.env (eval c X.env);pure (ForInStep.yield ok) else pure (ForInStep.yield r)) (TP X J0 σ Q) X.xe s
theorem nS{X:Cx}:PTs X [] (fun _ H Q=>Q true H):=fun J0 s σ H Q I h=>wpAny_tests_nil ⟨H,I,h⟩
def iU(nown:Nat)(J7:List Nat)(wi:TI)(g:TG)(tt:TT)(te:TE):TE:=fun σ H Q=>wi σ H fun J H1=>∃ W:Nat->Nat->List V->St->Hp->Prop,
 (∃ m, W 0 m [] (List.replicate nown none++cR σ J7) H1)/\∀ i m ys σb H2,W i m ys σb H2->ys.length < sizeLine /\
  ((J.stop i H2/\∀ d,H2 d=none->Q (.ref d) (upd H2 d (.lst ys))) \/
   (J.go i H2/\∀ x H3,J.yld i H2 x H3->g x σb H3 fun σb' H4=>tt σb' H4 fun b H5 =>
    if b=true then te σb' H5 fun y H6=>∃ m',m' < m/\W (i+1) m' (ys++[y]) σb' H6 else ∃ m',m' < m/\W (i+1) m' ys σb' H5))
section
variable {X:Cx}{elt tg iter:Expr}{ifs:List Expr}{scope:Scope}{own cn:List Str}{J7:List Nat}{wi:TI}{g:TG}{tt:TT}{te:TE}{pos:Pos}
structure After (X:Cx) (J0:List (Addr × Obj)) (σ:St) (H:Hp) (d c:Addr) (ys:List V) (s:Shared):Prop where
 inv:L2.Inv X J0 σ (upd H d (.lst ys)) s
 ns:∃ m,s.heap.Ns c m
 new:H d=none
 cf:ce X J0 (upd H d (.lst ys)) c
theorem Ba(B:BlkOk X scope own J7 cn)(hc:X.calm=true)(hg:∀ s H cl ex,PG (blk X (own++cn) s H scope cl ex) tg g)(ht:∀ s H cl ex,PTs (blk X (own++cn) s H scope cl ex) ifs tt)(he:∀ s H cl ex,PE (blk X (own++cn) s H scope cl ex) elt te){J0:List (Addr × Obj)}{s3:Shared}{σ:St}{H2:Hp}{Q:VK}{it d:Addr}{fp:List Addr}{tn:Nat->Heap->Prop}{J:It}{W:Nat->Nat->List V->St->Hp->Prop}{m0 tk:Nat}{h₁:Heap}(I3:L2.Inv X J0 σ H2 s3){cl:List (Str × Addr)}(hcl:∀ x c,cl.lookup x=some c->X.env.cells.lookup x=some c)(hha:∀ x ∈ scope.names,x.2=.free->∃ c,cl.lookup x.1=some c)(T:Turn X.prog X.w X.K tg J fp it tn)(st:tn 0 s3.heap)(f2:∀ b ∈ fp,ce X J0 H2 b)(fpd:ce X J0 H2 d)(fd3:X.s₀.heap.objs.size<=d)(dnf:∀ b ∈ fp,b ≠ d)(hd3:s3.heap.get? d=some { cls:=.type "list",data:=.seq #[] 0 })(w0:W 0 m0 [] (List.replicate own.length none++cR σ J7) H2)(turn : ∀ i m ys σb H2,W i m ys σb H2->ys.length < sizeLine /\
   ((J.stop i H2/\∀ d,H2 d=none->Q (.ref d) (upd H2 d (.lst ys))) \/
    (J.go i H2/\∀ x H3,J.yld i H2 x H3->g x σb H3 fun σb' H4=>tt σb' H4 fun b H5 =>
     if b=true then te σb' H5 fun y H6=>∃ m',m' < m/\W (i+1) m' (ys++[y]) σb' H6 else ∃ m',m' < m/\W (i+1) m' ys σb' H5)))(hns:h₁.Ns s3.heap.objs.size (fun _=>none))(hk:∀ b o,s3.heap.get? b=some o->h₁.get? b=some o){RR:Value->Addr->Result->Shared->Prop}(hRR:∀ d c ys H' s',After X J0 σ H' d c ys s'->Q (.ref d) (upd H' d (.lst ys))->RR (.ref d) c (.ok .next) s'):
  codeAny (model X.prog X.w) X.A (.compStart (.ListComp elt [⟨tg,iter,ifs,0⟩] scope pos) 0 (.ref it) (.ref d) (compEnvC scope cl s3.heap.objs.size X.env)) (RR (.ref d) s3.heap.objs.size) { s3 with heap:=h₁,toks:=tk }:=by
 have lt3:∀ b ∈ d::fp,b < s3.heap.objs.size:=fun b hb=>by
  rcases List.mem_cons.mp hb with e | hb
  ·rw[e];exact Heap.lt_size hd3
  ·obtain⟨o,e,_⟩:=T.obj _ _ st b hb;exact Heap.lt_size e
 have fex:∀ b ∈ d::fp,ce X J0 H2 b:=fun b hb=>(List.mem_cons.mp hb).elim (fun e=>e ▸ fpd) (f2 b)
 have IB:=B9 (ex:=d::fp) (tk:=tk) I3 B hcl hha (fun b hb=>⟨fex b hb,lt3 b hb⟩) hns hk
 have fpB:∀ {P:List (Addr × Obj)} {H':Hp},(∀ b ∈ fp,H' b=none)->(∀ p ∈ P,p.1=d)->∀ b ∈ fp,ce (blk X (own++cn) s3 H2 scope cl (d::fp)) P H' b:=fun {P H'} hn hP b hb=>by
  refine⟨hn b hb,Nat.ne_of_lt (lt3 b (List.mem_cons_of_mem _ hb)),fun z=>?_,.inl (List.mem_cons_of_mem _ hb),fun x c q=>(f2 b hb).2.2.2.2.1 x c (hcl x c q),fun p hp=>?_⟩
  ·rcases List.mem_cons.mp (I3.stkSub b z) with q | q
   ·exact (f2 b hb).2.1 q
   ·exact (f2 b hb).2.2.1 q
  ·have hp':p ∈ P:=by simpa [blk] using hp
   rw[hP p hp'];exact Ne.symm (dnf b hb)
 have dB:∀ {P:List (Addr × Obj)} {H':Hp},H' d=none->(∀ p ∈ P,p.1 ∈ fp)->ce (blk X (own++cn) s3 H2 scope cl (d::fp)) P H' d:=fun {P H'} hn hP=>by
  refine⟨hn,Nat.ne_of_lt (lt3 d List.mem_cons_self),fun z=>?_,.inl List.mem_cons_self,fun x c q=>fpd.2.2.2.2.1 x c (hcl x c q),fun p hp=>?_⟩
  ·rcases List.mem_cons.mp (I3.stkSub d z) with q | q
   ·exact fpd.2.1 q
   ·exact fpd.2.2.1 q
  ·have hp':p ∈ P:=by simpa [blk] using hp
   exact fun e=>dnf p.1 (hP p hp') e
 have loop:∀ s':Shared,s'={ s3 with heap:=h₁,toks:=tk }->codeAny (model X.prog X.w) X.A (.compLoop (.ListComp elt [⟨tg,iter,ifs,0⟩] scope pos) 0 (.ref it) (.ref d) (compEnvC scope cl s3.heap.objs.size X.env)) (RR (.ref d) s3.heap.objs.size) s':=by
  rintro s' rfl
  refine B5 (fun n s'=>∃ (i:Nat) (ys:List V) (σb:St) (H':Hp) (its:List Value) (nn:Nat),L2.Inv (blk X (own++cn) s3 H2 scope cl (d::fp)) [] σb H' s'/\tn i s'.heap/\(∀ b ∈ fp,H' b=none)/\H' d=none/\s'.heap.get? d=some { cls:=.type "list",data:=.seq its.toArray nn }/\Vals ys its/\W i n ys σb H') ?_ m0
   ⟨0,[],_,H2,[],0,IB,T.keep _ _ _ st fun b _ o e=>hk b o e,fun b hb=>(f2 b hb).1,fpd.1,hk _ _ hd3,.nil,w0⟩
  rintro n s4 ⟨i,ys,σb,H',its,nn,I4,st4,fr4,hd4,o4,r4,w4⟩
  have I4p:L2.Inv (blk X (own++cn) s3 H2 scope cl (d::fp)) [(d,{ cls:=.type "list",data:=.seq its.toArray nn })] σb H' s4:=I4.pins_of fun p hp=>by
   have e:p=(d,{ cls:=.type "list",data:=.seq its.toArray nn }):=by simpa using hp
   subst e
   obtain⟨a0,a1,a2,_⟩:=dB (P:=[]) hd4 (by simp)
   exact⟨o4,a0,a1,a2,fun v z=>by cases z⟩
  obtain⟨hys,alt⟩:=turn i n ys σb H' w4
  rcases alt with⟨stop,q⟩ | ⟨go,step⟩
  ·refine thn (T.done (blk X (own++cn) s3 H2 scope cl (d::fp)) rfl rfl rfl hc i [(d,{ cls:=.type "list",data:=.seq its.toArray nn })] s4 σb H' _ I4p (fpB fr4 (by simp)) st4 stop) fun r s5 ⟨hr,I5⟩=>?_
   subst hr
   obtain⟨o5,_⟩:=I5.pin (d,{ cls:=.type "list",data:=.seq its.toArray nn }) (by simp[blk])
   have IX:L2.Inv X J0 σ H' s5:=I3.call' (ch:=d::fp) I5.os I5.base I5.hok I5.bare fun b hb=>⟨(fex b hb).2.2.2.1,(fex b hb).2.1,(fex b hb).2.2.2.2.1,(fex b hb).2.2.2.2.2⟩
   have fpd':ce X J0 H' d:=⟨hd4,fpd.2⟩
   have IT:=Inv.track IX o5 r4 (Nat.le_of_lt hys) fpd' fd3
   refine hRR d s3.heap.objs.size ys H' s5 ⟨IT,?_,hd4,?_⟩ (q d hd4)
   ·obtain⟨m,hm,_⟩:=I5.loc;exact⟨m,hm⟩
   ·have cf:H' s3.heap.objs.size=none:=I5.free
    refine I3.fpOk (Nat.le_refl _) ?_
    rw[aF (Ne.symm (Nat.ne_of_lt (lt3 d List.mem_cons_self)))]
    exact cf
  ·refine thn (T.item (blk X (own++cn) s3 H2 scope cl (d::fp)) rfl rfl rfl hc i [(d,{ cls:=.type "list",data:=.seq its.toArray nn })] s4 σb H' _ I4p (fpB fr4 (by simp)) st4 go) fun r s5 ⟨u,hr,h5⟩=>?_
   subst hr
   refine thn h5 fun _ s6 ⟨x,H6,I6,r6,y6,st6,fr6⟩=>?_
   have I6':=I6.pinned (fpB fr6 (by simp)) (T.obj _ _ st6)
   refine thn (hg s3 H2 cl (d::fp) _ s6 σb H6 x u _ I6' r6 (step x H6 y6)) fun _ s7 ⟨σ7,H7,I7,q7⟩=>?_
   refine thn (ht s3 H2 cl (d::fp) _ s7 σ7 H7 _ I7 q7) fun b s8 ⟨H8,I8,q8⟩=>?_
   have fin:∀ {H9:Hp} {s9:Shared},L2.Inv (blk X (own++cn) s3 H2 scope cl (d::fp)) ([(d,{ cls:=.type "list",data:=.seq its.toArray nn })]++js fp s6.heap) σ7 H9 s9 ->
     L2.Inv (blk X (own++cn) s3 H2 scope cl (d::fp)) [] σ7 H9 s9/\tn (i+1) s9.heap/\(∀ b ∈ fp,H9 b=none)/\H9 d=none/\s9.heap.get? d=some { cls:=.type "list",data:=.seq its.toArray nn }:=fun {H9 s9} I9=>by
    have pd:=I9.pin (d,{ cls:=.type "list",data:=.seq its.toArray nn }) (by simp[blk])
    refine⟨I9.pins_of fun p hp=>absurd hp (by simp),T.keep _ _ _ st6 fun b hb o e=>(I9.pin (b,o) (List.mem_append_right _ (List.mem_append_right _ (ld hb e)))).1,fun b hb=>?_,pd.2.1,pd.1⟩
    obtain⟨o,e,_⟩:=T.obj _ _ st6 b hb
    exact (I9.pin (b,o) (List.mem_append_right _ (List.mem_append_right _ (ld hb e)))).2.1
   cases b with
   | false =>
     obtain⟨m',hm,w'⟩:=q8
     obtain⟨k1,k2,k3,k4,k5⟩:=fin I8
     exact⟨m',hm,i+1,ys,σ7,H8,its,nn,k1,k2,k3,k4,k5,r4,w'⟩
   | true =>
     refine thn (he s3 H2 cl (d::fp) _ s8 σ7 H8 _ I8 q8) fun v s9 ⟨y,H9,I9,r9,m',hm,w'⟩=>?_
     obtain⟨k1,k2,k3,k4,k5⟩:=fin I9
     have lv:=r4.length
     refine call_meets F.slot_list_append ⟨_,k5,rfl⟩ F.entry_list_append (F.args_list_append_2 _ _) (PySem.list_append d its.toArray nn v (by rw[List.size_toArray];omega)) ⟨k5,?_⟩
     have up:=PySem.IsL.update k5 (fun a=>a.push v)
     have ep:its.toArray.push v=(its++[v]).toArray:=by simp
     rw[ep] at up
     refine⟨m',hm,i+1,ys++[y],σ7,H9,its++[v],_,?_,?_,k3,k4,up,r4.append (.cons r9 .nil),w'⟩
     ·exact k1.turned (it:=d) (fun b o hb e=>(Heap.get?_update_other s9.heap _ (Ne.symm hb)).trans e) k4 (dB (P:=[]) k4 (by simp)).2.1 (.inl List.mem_cons_self) (dB (P:=[]) k4 (by simp)).2.2.2.2.1 fun p hp=>absurd hp (by simp[blk])
     ·exact T.keep _ _ _ k2 fun b hb o e=>(Heap.get?_update_other s9.heap _ (Ne.symm (dnf b hb))).trans e
 exact codeAny_compStart_list (loop _ rfl) (T.self X.A 0 _ _ _ (T.keep _ _ _ st fun b _ o e=>hk b o e) (loop _ rfl))
theorem nT(B:BlkOk X scope own J7 cn)(hc:X.calm=true)(hi:PI X tg iter wi)(hg:∀ s H cl ex,PG (blk X (own++cn) s H scope cl ex) tg g)(ht:∀ s H cl ex,PTs (blk X (own++cn) s H scope cl ex) ifs tt)(he:∀ s H cl ex,PE (blk X (own++cn) s H scope cl ex) elt te){J0:List (Addr × Obj)}{s:Shared}{σ:St}{H:Hp}{Q:VK}(I:L2.Inv X J0 σ H s)(h:iU own.length J7 wi g tt te σ H Q){cl:List (Str × Addr)}(hcl:∀ x c,cl.lookup x=some c->X.env.cells.lookup x=some c)(hha:∀ x ∈ scope.names,x.2=.free->∃ c,cl.lookup x.1=some c){RR:Value->Addr->Result->Shared->Prop}(hRR:∀ d c ys H' s',After X J0 σ H' d c ys s'->Q (.ref d) (upd H' d (.lst ys))->RR (.ref d) c (.ok .next) s'):
  wpAny (model X.prog X.w) X.A (eval iter X.env) (fun x s₁=>wpAny (model X.prog X.w) X.A (pyIter x) (fun it s₂=>wpAny (model X.prog X.w) X.A (newList []) (fun acc s₃ =>
   wpAny (model X.prog X.w) X.A (newFunctionEnv scope X.env.globals cl [] X.env.qual none .none (some X.env)) (fun cenv s₄ =>
    codeAny (model X.prog X.w) X.A (.compStart (.ListComp elt [⟨tg,iter,ifs,0⟩] scope pos) 0 it acc { cenv with scope:=relabel scope X.env }) (RR acc cenv.locals) s₄) X.xe s₃) X.xe s₂) X.xe s₁) X.xe s:=by
 refine thn (hi J0 s σ H _ I h) fun x s1 h1=>thn h1 fun itv s2 h2=>?_
 obtain⟨it,fp,tn,J,H2,rfl,I2,T,st2,f2,W,⟨m0,w0⟩,turn⟩:=h2
 refine wpAny_newObj_type (wpAny_newFunctionEnv B.nocell (by intro y hy;simp at hy) (fun h₁ hns₁ hsb₁=>?_) B.kind)
 dsimp only at hns₁ hsb₁ ⊢
 generalize hd:s2.heap.objs.size=d at hns₁ hsb₁ ⊢
 have hfd:H2 d=none:=by rw[<- hd];exact I2.hok.fresh (Nat.le_refl _)
 have fpd:ce X J0 H2 d:=I2.fpOk (by rw[hd];exact Nat.le_refl _) hfd
 have fpl:∀ b ∈ fp,b < s2.heap.objs.size:=fun b hb=>by obtain⟨o,e,_⟩:=T.obj _ _ st2 b hb;exact Heap.lt_size e
 have dnf:∀ b ∈ fp,b ≠ d:=fun b hb e=>absurd (fpl b hb) (by rw[e,hd];exact Nat.lt_irrefl _)
 have I3:L2.Inv X J0 σ H2 { s2 with heap:=s2.heap.push { cls:=.type "list",dict:=none,data:=.seq ([]:List Value).toArray } }:=I2.kept (t':=s2.toks) fun b o e=>Heap.get?_push_of_some _ e
 exact Ba (s3:={ s2 with heap:=s2.heap.push { cls:=.type "list",dict:=none,data:=.seq ([]:List Value).toArray } }) B hc hg ht he I3 hcl hha T (T.keep _ _ _ st2 fun b _ o e=>Heap.get?_push_of_some _ e) f2 fpd (by rw[<- hd];exact I2.sz) dnf
  (by rw[<- hd];exact Heap.get?_push_size _ rfl) w0 turn hns₁ (fun b o e=>hsb₁.extBut b o (Nat.ne_of_lt (Heap.lt_size e)) (Heap.get?_push_of_some _ e)) hRR
end
end VL
namespace VL
open PySem PySem.Spec PyProof.Rows L2
structure PostI (K:W.Frag) (σ:St) (ρ:am) (H:Hp) (es:List Es) (ds:List D) (J:It) (H1:Hp):Prop where
 same:Same H H1
 go:∀ (i:Nat) (d:D) (H':Hp),ds[i]?=some d->Same H1 H'->J.go i H'/\∀ x H'',J.yld i H' x H''->Same H' H''/\Rep K H'' x d/\∀ A,Dom H A->(∀ e ∈ es,Av K H σ ρ A e)->Rep K (ay H'' A) x d
 stop:∀ H',Same H1 H'->J.stop ds.length H'
def tvI(K:W.Frag)(f:FEs)(es:List Es):TI:=fun σ H R=>∃ ρ ds,EnvR K H σ ρ/\f ρ=some ds/\∀ J H1,PostI K σ ρ H es ds J H1->R J H1
abbrev VI(X:Cx)(tg iter:Expr)(f:FEs)(es:List Es):Prop:=PI X tg iter (tvI X.K f es)
theorem lG{X:Cx}{tg e:Expr}{t t':TI}(h:PI X tg e t)(i:∀ σ H R,t' σ H R->t σ H R):PI X tg e t':=fun J0 s σ H R I q=>h J0 s σ H R I (i σ H R q)
section
variable {X:Cx}{tg iter a:Expr}{fi:FE}{as:FEs}{ei:List Es}{pr pn:Pos}
def dt(f:FE):FEs:=fun ρ=>(f ρ).bind fun d=>if cX d=true then none else items d
theorem Bb(h:VB X iter fi ei):VI X tg iter (dt fi) ei:=lG (l0 h) fun σ H R ⟨ρ,ds,hE,hf,hR⟩=>by
 obtain⟨d,h1,hf⟩:=bind_some hf
 cases ht:cX d with
 | true=>rw[if_pos ht] at hf;cases hf
 | false =>
   rw[if_neg (by rw[ht];exact Bool.false_ne_true)] at hf
   refine⟨ρ,d,hE,h1,fun v H1 p=>?_⟩
   obtain⟨q,xs,rfl,hq,hx,hA⟩:=fm p.rep hf ht
   have len:=hx.length
   refine⟨q,rfl,⟨xs,hq⟩,hR _ _ ⟨p.same,fun i d' H' hd e=>?_,fun H' e=>⟨xs,e.seq hq,by omega⟩⟩⟩
   obtain⟨x,h2,h3⟩:=hx.get hd
   refine⟨⟨xs,x,e.seq hq,h2⟩,fun y H'' ⟨eq,hy⟩=>?_⟩
   subst eq
   have e2:=hy xs (e.seq hq)
   rw[h2] at e2;cases e2
   refine⟨Same.refl _,aH e h3,fun A hD hz=>?_⟩
   obtain⟨x',h4,h5⟩:=(hA A (p.av A hD hz)).get hd
   rw[h2] at h4;cases h4
   exact aH (bY e) h5
theorem Bc{K:W.Frag}{σ:St}{ρ:am}{H H1:Hp}{lo:Int}{n:Nat}(e:Same H H1):PostI K σ ρ H [] (cQ lo n) (Itr lo n) H1:=by
 refine⟨e,fun i d H' hd _=>?_,fun H' _=>?_⟩
 ·have hi:i < n:=by
   have:=(List.getElem?_eq_some_iff.mp hd).1
   simpa [cQ] using this
  have ed:d=.int (lo+i):=by
   have:=(List.getElem?_eq_some_iff.mp hd).2
   rw[<- this];simp[cQ]
  subst ed
  refine⟨hi,fun x H'' ⟨e1,e2⟩=>?_⟩
  subst e1 e2
  exact⟨Same.refl _,.int _,fun A _ _=>.int _⟩
 ·show n<=(cQ lo n).length
  simp[cQ]
def iR1(as:FEs):FEs:=fun ρ=>(as ρ).bind fun ds=>match ds with
 | [.int j]=>if okR j then some (cQ 0 j.toNat) else none
 | _=>none
theorem Bd(mr:X.mg "range" = none)(hi:VA X [a] as ei)(hg:Gl X "range")(hst:starEach [a] X.env=[(false,eval a X.env)]):VI X tg (.Call (.Name "range" pn) [a] [] pr) (iR1 as) [] :=
 lG (la hg mr hi hst) fun σ H R ⟨ρ,ds,hE,hf,hR⟩=>by
  obtain⟨vs,h1,hf⟩:=bind_some hf
  refine⟨ρ,vs,hE,h1,fun xs H1 p=>?_⟩
  match vs,hf,p with
  | [.int j],hf,p =>
    obtain⟨hj,rfl⟩:=de hf
    obtain⟨v,rfl,r⟩:=e8 p.rep
    cases r
    exact⟨j,rfl,hj.1,hj.2,hR _ _ (Bc p.same)⟩
end
def bj{α:Type}(σ:List (Option α))(is:List Nat)(xs:List α):List (Option α):=(is.zip xs).foldl (fun r p=>r.set p.1 (some p.2)) σ
structure TgV (K:W.Frag) (g:TG) (is:List Nat) (un:D->Option (List D)):Prop where
 ok:∀ (x:V) (σ:St) (H:Hp) (Q:St->Hp->Prop) (d:D) (ds:List D),Rep K H x d->un d=some ds->(∀ xs:List V,Reps K H xs ds->(∀ A,Rep K (ay H A) x d->Reps K (ay H A) xs ds)->Q (bj σ is xs) H)->g x σ H Q
 len:∀ d ds,un d=some ds->ds.length=is.length
def un1(d:D):Option (List D):=some [d]
theorem dM{K:W.Frag}(t:Nat):TgV K (cc t) [t] un1 where
 ok:=fun x σ H Q d ds r hd h=>by
  cases hd
  exact h [x] (.cons r .nil) fun A r'=>.cons r' .nil
 len:=fun d ds h=>by cases h;rfl
def unT(n:Nat):D->Option (List D)
 | .tup ds=>if ds.length=n then some ds else none
 | _=>none
theorem sA{Q:St->Hp->Prop}{H:Hp}:∀ {is:List Nat} {xs:List V} {σ:St},is.length=xs.length->Q (bj σ is xs) H->jL is xs σ H Q
 | [],[],_,_,h=>⟨rfl,h⟩
 | [],_::_,_,h,_=>by cases h
 | _::_,[],_,h,_=>by cases h
 | i::is,x::xs,σ,hl,h=>⟨x,xs,rfl,sA (σ:=σ.set i (some x)) (by simpa using hl) h⟩
theorem nU{K:W.Frag}(is:List Nat):TgV K (qD K is.length (jL is)) is (unT is.length) where
 ok:=fun x σ H Q d ds r hd h=>by
  cases d with
  | tup es =>
    obtain⟨hl,rfl⟩:=de hd
    obtain⟨p,xs,rfl,hp,hx⟩:=sv r
    have len:=hx.length
    exact⟨p,xs,rfl,.inl hp,by omega,sA (by omega) (h xs hx fun A r'=>AR hp r')⟩
  | _=>cases hd
 len:=fun d ds h=>by
  cases d with
  | tup es=>obtain⟨hl,rfl⟩:=de h;exact hl
  | _=>cases h
def bn(nown:Nat)(J7:List Nat)(ρ:am):am:=List.replicate nown none++J7.map fun j=>(ρ[j]?).getD none
theorem lH{P:Nat->V->D->Prop}:∀ {is:List Nat} {xs:List V} {ds:List D} {σ:St} {ρ:am},σ.length=ρ.length->xs.length=ds.length->(∀ (j:Nat) v d,σ[j]?=some (some v)->ρ[j]?=some (some d)->P j v d) ->
  (∀ (k:Nat) j v d,is[k]?=some j->xs[k]?=some v->ds[k]?=some d->P j v d)->∀ (j:Nat) v d,(bj σ is xs)[j]?=some (some v)->(bj ρ is ds)[j]?=some (some d)->P j v d
 | [],_,_,_,_,_,_,h0,_=>by simpa [bj] using h0
 | i::is,[],[],_,_,_,_,h0,_=>by simpa [bj] using h0
 | i::is,[],_::_,_,_,_,h,_,_=>by cases h
 | i::is,_::_,[],_,_,_,h,_,_=>by cases h
 | i :: is,x::xs,d::ds,σ,ρ,hl,hx,h0,h1=>by
   refine lH (is:=is) (xs:=xs) (ds:=ds) (σ:=σ.set i (some x)) (ρ:=ρ.set i (some d)) (by simpa using hl) (by simpa using hx) (fun j v d' e1 e2=>?_) fun k j v d' a1 a2 a3=>h1 (k+1) j v d' (by simpa using a1) (by simpa using a2) (by simpa using a3)
   by_cases hj:j=i
   ·subst hj
    have l1:j < σ.length:=by have:=(List.getElem?_eq_some_iff.mp e1).1;simpa using this
    rw[List.getElem?_set_self l1] at e1
    rw[List.getElem?_set_self (by omega)] at e2
    cases e1;cases e2
    exact h1 0 j x d rfl rfl rfl
   ·rw[List.getElem?_set_ne (Ne.symm hj)] at e1 e2
    exact h0 j v d' e1 e2
theorem sB{α β:Type}:∀ {is:List Nat} {xs:List α} {ds:List β} {σ:List (Option α)} {ρ:List (Option β)},σ.length=ρ.length->xs.length=ds.length->(∀ (j:Nat) d,ρ[j]?=some (some d)->∃ v,σ[j]?=some (some v)) ->
  ∀ (j:Nat) d,(bj ρ is ds)[j]?=some (some d)->∃ v,(bj σ is xs)[j]?=some (some v)
 | [],_,_,_,_,_,_,h0=>by simpa [bj] using h0
 | i::is,[],[],_,_,_,_,h0=>by simpa [bj] using h0
 | i::is,[],_::_,_,_,_,h,_=>by cases h
 | i::is,_::_,[],_,_,_,h,_=>by cases h
 | i :: is,x::xs,d::ds,σ,ρ,hl,hx,h0=>by
   refine sB (is:=is) (xs:=xs) (ds:=ds) (σ:=σ.set i (some x)) (ρ:=ρ.set i (some d)) (by simpa using hl) (by simpa using hx) fun j d' e2=>?_
   by_cases hj:j=i
   ·subst hj
    have l1:j < ρ.length:=by have:=(List.getElem?_eq_some_iff.mp e2).1;simpa using this
    exact⟨x,List.getElem?_set_self (by omega)⟩
   ·rw[List.getElem?_set_ne (Ne.symm hj)] at e2 ⊢
    exact h0 j d' e2
theorem sC{α:Type}:∀ {is:List Nat} {xs:List α} {σ:List (Option α)},(bj σ is xs).length=σ.length
 | [],_,_=>by simp[bj]
 | _::_,[],_=>by simp[bj]
 | i::is,x::xs,σ=>by
   have:=sC (is:=is) (xs:=xs) (σ:=σ.set i (some x))
   simpa [bj] using this
theorem sD{α:Type}{n:Nat}:∀ {is:List Nat} {xs:List α} {σ:List (Option α)},(∀ i ∈ is,i < n)->∀ j,n<=j->(bj σ is xs)[j]?=σ[j]?
 | [],_,_,_,_,_=>by simp[bj]
 | _::_,[],_,_,_,_=>by simp[bj]
 | i::is,x::xs,σ,h,j,hj=>by
   have:=sD (is:=is) (xs:=xs) (σ:=σ.set i (some x)) (fun k hk=>h k (List.mem_cons_of_mem _ hk)) j hj
   have hi:=h i List.mem_cons_self
   rw[List.getElem?_set_ne (by omega)] at this
   simpa [bj] using this
def esC(nown:Nat)(J7:List Nat)(ei:List Es):List Es->List Es
 | []=>[]
 | .full j::r=>(if j < nown then ei else [.full (J7.getD (j - nown) 0)])++esC nown J7 ei r
 | .el j::r=>(if j < nown then ei else [.el (J7.getD (j - nown) 0)])++esC nown J7 ei r
theorem lI{nown:Nat}{J7:List Nat}{ei:List Es}:∀ {ee:List Es} {e:Es},e ∈ ee->(∀ j,e=.full j\/e=.el j->j < nown)->∀ z ∈ ei,z ∈ esC nown J7 ei ee
 | .full j::r,e,he,hj,z,hz=>by
   rcases List.mem_cons.mp he with q | q
   ·have:=hj j (.inl q)
    show z ∈ (if j < nown then ei else _)++_
    rw[if_pos this];exact List.mem_append_left _ hz
   ·exact List.mem_append_right _ (lI q hj z hz)
 | .el j::r,e,he,hj,z,hz=>by
   rcases List.mem_cons.mp he with q | q
   ·have:=hj j (.inr q)
    show z ∈ (if j < nown then ei else _)++_
    rw[if_pos this];exact List.mem_append_left _ hz
   ·exact List.mem_append_right _ (lI q hj z hz)
theorem nV{nown:Nat}{J7:List Nat}{ei:List Es}{j:Nat}(hj:¬ j < nown):∀ {ee:List Es},Es.full j ∈ ee->Es.full (J7.getD (j - nown) 0) ∈ esC nown J7 ei ee
 | .full k::r,he=>by
   rcases List.mem_cons.mp he with q | q
   ·cases q
    show _ ∈ (if j < nown then ei else _)++_
    rw[if_neg hj];exact List.mem_append_left _ List.mem_cons_self
   ·exact List.mem_append_right _ (nV hj q)
 | .el k::r,he=>by
   rcases List.mem_cons.mp he with q | q
   ·cases q
   ·exact List.mem_append_right _ (nV hj q)
theorem nW{nown:Nat}{J7:List Nat}{ei:List Es}{j:Nat}(hj:¬ j < nown):∀ {ee:List Es},Es.el j ∈ ee->Es.el (J7.getD (j - nown) 0) ∈ esC nown J7 ei ee
 | .full k::r,he=>by
   rcases List.mem_cons.mp he with q | q
   ·cases q
   ·exact List.mem_append_right _ (nW hj q)
 | .el k::r,he=>by
   rcases List.mem_cons.mp he with q | q
   ·cases q
    show _ ∈ (if j < nown then ei else _)++_
    rw[if_neg hj];exact List.mem_append_left _ List.mem_cons_self
   ·exact List.mem_append_right _ (nW hj q)
def fo(g:D->Option (Option D)):List D->Option (List D)
 | []=>some []
 | x::r=>(g x).bind fun o=>(fo g r).bind fun ds=>some (match o with | some d=>d::ds | none=>ds)
def gD(is:List Nat)(un:D->Option (List D))(c:am->Option Bool)(fe:FE)(ρ:am):D->Option (Option D):=fun d=>(un d).bind fun ds=>(c (bj ρ is ds)).bind fun b=>if b=true then (fe (bj ρ is ds)).map some else some none
def bP(nown:Nat)(J7:List Nat)(is:List Nat)(un:D->Option (List D))(fi:FEs)(c:am->Option Bool)(fe:FE):FE:=fun ρ=>(fi ρ).bind fun ds=>if ds.length < 100000 then (fo (gD is un c fe (bn nown J7 ρ)) ds).map .lst else none
def bQ:am->Option Bool:=fun _=>some true
theorem Be{K:W.Frag}{nown:Nat}{J7 is:List Nat}{un:D->Option (List D)}{fi:FEs}{ei ee:List Es}{g:TG}{c:am->Option Bool}{fe:FE}(hg:TgV K g is un)(his:∀ i ∈ is,i < nown){σ:St}{H:Hp}{Q:VK}(h:tvF K (bP nown J7 is un fi c fe) (esC nown J7 ei ee) σ H Q):iU nown J7 (tvI K fi ei) g (tvT K c) (tv K fe ee) σ H Q:=by
 obtain⟨ρ,dd,hE,hf,hQ⟩:=h
 obtain⟨ds,h1,hf⟩:=bind_some hf
 by_cases hl:ds.length < 100000
 ·rw[if_pos hl] at hf
  cases htot:fo (gD is un c fe (bn nown J7 ρ)) ds with
  | none=>rw[htot] at hf;cases hf
  | some tot =>
    rw[htot] at hf
    cases hf
    refine⟨ρ,ds,hE,h1,fun J H1 p=>?_⟩
    refine⟨fun i m ys σb H2=>m=ds.length - i/\i<=ds.length/\Same H1 H2/\(σb.length=nown+J7.length/\∀ k,nown<=k->σb[k]?=(cR σ J7)[k - nown]?) /\
     ∃ done az,fo (gD is un c fe (bn nown J7 ρ)) (ds.drop i)=some az/\tot=done++az/\done.length<=i/\Reps K H2 ys done/\∀ A,Dom H A->(∀ e ∈ esC nown J7 ei ee,Av K H σ ρ A e)->Reps K (ay H2 A) ys done,?_,?_⟩
    ·refine⟨ds.length,by simp,Nat.zero_le _,Same.refl _,⟨by simp[cR],fun k hk=>?_⟩,[],tot,by simpa using htot,rfl,Nat.le_refl _,.nil,fun _ _ _=>.nil⟩
     rw[List.getElem?_append_right (by simpa using hk)]
     simp
    ·rintro i m ys σb H2 ⟨rfl,hi,e2,⟨hlen,hcap⟩,done,az,hgo,htot',hdl,hr,hA⟩
     have lys:=hr.length
     refine⟨Nat.lt_of_lt_of_le (show ys.length < 100000 by omega) (by decide),?_⟩
     by_cases hlt:i < ds.length
     ·obtain⟨d,hd⟩:∃ d,ds[i]?=some d:=⟨ds[i],by simp[hlt]⟩
      have ed:ds.drop i=d::ds.drop (i+1):=by
       rw[List.drop_eq_getElem_cons hlt]
       have q:=(List.getElem?_eq_some_iff.mp hd).2
       rw[q]
      rw[ed] at hgo
      obtain⟨o,ho,hgo⟩:=bind_some hgo
      obtain⟨rest',hgo',hgo⟩:=bind_some hgo
      cases hgo
      obtain⟨ts,hun,ho⟩:=bind_some ho
      obtain⟨b,hb,ho⟩:=bind_some ho
      obtain⟨jg,jy⟩:=p.go i d H2 hd e2
      refine .inr ⟨jg,fun x H3 y=>?_⟩
      obtain⟨e3,rx,ax⟩:=jy x H3 y
      refine hg.ok x σb H3 _ d ts rx hun fun xs rxs axs=>?_
      have e13:Same H H3:=(p.same.trans e2).trans e3
      have lx:=rxs.length
      have lts:=hg.len d ts hun
      have lb:σb.length=(bn nown J7 ρ).length:=by rw[hlen];simp[bn]
      have base:∀ (j:Nat) v d',σb[j]?=some (some v)->(bn nown J7 ρ)[j]?=some (some d')->¬ j < nown/\∃ k,J7[j - nown]?=some k/\σ[k]?=some (some v)/\ρ[k]?=some (some d'):=fun j v d' q1 q2=>by
       by_cases hj:j < nown
       ·unfold bn at q2
        rw[List.getElem?_append_left (by simpa using hj),List.getElem?_replicate,if_pos hj] at q2
        cases q2
       ·rw[hcap j (by omega)] at q1
        unfold bn at q2
        rw[List.getElem?_append_right (by simp;omega)] at q2
        simp only[List.length_replicate,List.getElem?_map] at q2
        unfold cR at q1
        rw[List.getElem?_map] at q1
        cases hk:J7[j - nown]? with
        | none=>rw[hk] at q1;cases q1
        | some k =>
          rw[hk] at q1 q2
          refine⟨hj,k,rfl,?_,?_⟩
          ·simp only[Option.map_some,Option.some.injEq] at q1
           cases e:σ[k]? with
           | none=>rw[e] at q1;cases q1
           | some o'=>rw[e] at q1;simp only[Option.getD_some] at q1;rw[q1]
          ·simp only[Option.map_some,Option.some.injEq] at q2
           cases e:ρ[k]? with
           | none=>rw[e] at q2;cases q2
           | some o'=>rw[e] at q2;simp only[Option.getD_some] at q2;rw[q2]
      have hE':EnvR K H3 (bj σb is xs) (bj (bn nown J7 ρ) is ts):=fun j d' q=>by
       obtain⟨v,hv⟩:=sB lb lx (fun j' d'' q'=>by
        by_cases hj:j' < nown
        ·unfold bn at q'
         rw[List.getElem?_append_left (by simpa using hj),List.getElem?_replicate,if_pos hj] at q'
         cases q'
        ·have q0:=q'
         unfold bn at q'
         rw[List.getElem?_append_right (by simp;omega)] at q'
         simp only[List.length_replicate,List.getElem?_map] at q'
         cases hk:J7[j' - nown]? with
         | none=>rw[hk] at q';cases q'
         | some k =>
           rw[hk] at q'
           simp only[Option.map_some,Option.some.injEq] at q'
           cases e:ρ[k]? with
           | none=>rw[e] at q';cases q'
           | some o' =>
             rw[e] at q'
             simp only[Option.getD_some] at q'
             subst q'
             obtain⟨v,hv,_⟩:=hE k d'' e
             refine⟨v,?_⟩
             rw[hcap j' (by omega)]
             unfold cR
             rw[List.getElem?_map,hk]
             simp[hv]) j d' q
       refine⟨v,hv,lH (P:=fun _ v d=>Rep K H3 v d) lb lx (fun j v d' q1 q2=>?_) (fun k j v d' a1 a2 a3=>?_) j v d' hv q⟩
       ·obtain⟨_,k,_,k1,k2⟩:=base j v d' q1 q2
        obtain⟨v',k3,k4⟩:=hE k d' k2
        rw[k1] at k3;cases k3
        exact aH e13 k4
       ·obtain⟨v',k3,k4⟩:=rxs.get a3
        rw[a2] at k3;cases k3
        exact k4
      have av:∀ A,Dom H A->(∀ e ∈ esC nown J7 ei ee,Av K H σ ρ A e)->∀ H5,Same H3 H5->∀ e ∈ ee,Av K H5 (bj σb is xs) (bj (bn nown J7 ρ) is ts) A e:=fun A hD hz H5 e5 e he=>by
       have item:(∀ z ∈ ei,z ∈ esC nown J7 ei ee)->Reps K (ay H3 A) xs ts:=fun hsub=>axs A (ax A hD fun z hz'=>hz z (hsub z hz'))
       refine Av.mono e5 ?_
       cases e with
       | full j0 =>
         intro v d' q1 q2
         refine lH (P:=fun j v d=>j=j0->Rep K (ay H3 A) v d) lb lx (fun j v d' q3 q4 ej=>?_) (fun k j v d' a1 a2 a3 ej=>?_) j0 v d' q1 q2 rfl
         ·rw[<- ej] at he
          obtain⟨hj,k,hk,k1,k2⟩:=base j v d' q3 q4
          have:=hz _ (nV hj he)
          rw[List.getD_eq_getElem?_getD,hk] at this
          exact aH (bY e13) (this v d' k1 k2)
         ·rw[<- ej] at he
          have hj:=his j (List.mem_of_getElem? a1)
          obtain⟨v',k3,k4⟩:=(item (lI he fun j' hj'=>by rcases hj' with q | q <;> cases q;exact hj)).get a3
          rw[a2] at k3;cases k3
          exact k4
       | el j0 =>
         intro v d' q1 q2
         refine lH (P:=fun j v d=>j=j0->ElR K H3 A v d) lb lx (fun j v d' q3 q4 ej=>?_) (fun k j v d' a1 a2 a3 ej=>?_) j0 v d' q1 q2 rfl
         ·rw[<- ej] at he
          obtain⟨hj,k,hk,k1,k2⟩:=base j v d' q3 q4
          have:=hz _ (nW hj he)
          rw[List.getD_eq_getElem?_getD,hk] at this
          exact (this v d' k1 k2).mono e13
         ·rw[<- ej] at he
          have hj:=his j (List.mem_of_getElem? a1)
          obtain⟨v',k3,k4⟩:=(item (lI he fun j' hj'=>by rcases hj' with q | q <;> cases q;exact hj)).get a3
          rw[a2] at k3;cases k3
          exact k4.el
      have shape:(bj σb is xs).length=nown+J7.length/\∀ k,nown<=k->(bj σb is xs)[k]?=(cR σ J7)[k - nown]?:=⟨by rw[sC];exact hlen,fun k hk=>by rw[sD his k hk];exact hcap k hk⟩
      refine⟨_,b,hE',hb,fun H5 e5=>?_⟩
      have e25:Same H2 H5:=e3.trans e5
      cases b with
      | false =>
        cases ho
        refine dH ⟨ds.length - (i+1),by omega,rfl,hlt,e2.trans e25,shape,done,rest',hgo',htot',by omega,aU e25 hr,fun A hD hz=>aU (bY e25) (hA A hD hz)⟩
      | true =>
        have ho':(fe (bj (bn nown J7 ρ) is ts)).map some=some o:=ho
        cases hfe:fe (bj (bn nown J7 ρ) is ts) with
        | none=>rw[hfe] at ho';cases ho'
        | some dv =>
          rw[hfe] at ho'
          cases ho'
          refine dI ⟨_,dv,hE'.mono e5,hfe,fun v H6 p6=>?_⟩
          have e26:Same H2 H6:=e25.trans p6.same
          refine⟨ds.length - (i+1),by omega,rfl,hlt,e2.trans e26,shape,done++[dv],rest',hgo',by rw[htot'];simp,by simp;omega,(aU e26 hr).append (.cons p6.rep .nil),fun A hD hz=>?_⟩
          exact (aU (bY e26) (hA A hD hz)).append (.cons (p6.av A (hD.mono (e13.trans e5)) (av A hD hz H5 e5)) .nil)
     ·have ei':i=ds.length:=by omega
      subst ei'
      rw[List.drop_length] at hgo
      cases hgo
      rw[List.append_nil] at htot'
      subst htot'
      exact .inl ⟨p.stop H2 e2,fun d hd=>hQ _ _ (gy (p.same.trans e2) hd fun A hD hz=>hA A hD hz)⟩
 ·rw[if_neg hl] at hf;cases hf
end VL
namespace VL
open PySem PySem.Spec PyProof.Rows L2
def b2z(b:Bool):Int:=if b then 1 else 0
def eg:D->D->Bool
 | .non,.non=>true
 | .bl a,.bl b=>a == b
 | .int i,.int j=>i == j
 | .str x,.str y=>x == y
 | .bl a,.int j=>b2z a == j
 | .int i,.bl b=>i == b2z b
 | _,_=>false
def aZ:Nat->D->D->Bool
 | k+1,.lst xs,.lst ys=>xs.length == ys.length && (xs.zip ys).all fun p=>aZ k p.1 p.2
 | k+1,.tup xs,.tup ys=>xs.length == ys.length && (xs.zip ys).all fun p=>aZ k p.1 p.2
 | _,d,e=>eg d e
def aN:Nat->D->Bool
 | _,.scr _=>false
 | _,.dct _ _=>false
 | _,.ptr _=>false
 | 0,.lst _=>false
 | 0,.tup _=>false
 | k+1,.lst xs=>xs.all (aN k)
 | k+1,.tup xs=>xs.all (aN k)
 | _,_=>true
structure Cmp3 (A:Around) (s:Shared) (v u:Value) (b:Bool):Prop where
 eq:SeqAt.EqAt A s v u b
 rc:SeqAt.RcAt A s v u b
 ne:SeqAt.RcNeAt A s v u (!b)
theorem nX(f:D->D->Bool):∀ (xs ys:List D),xs.length=ys.length ->
  (List.range xs.length).all (fun j=>match xs[j]?,ys[j]? with | some a,some b=>f a b | _,_=>false)=(xs.zip ys).all fun p=>f p.1 p.2
 | [],[],_=>rfl
 | [],_::_,h=>by cases h
 | _::_,[],h=>by cases h
 | x::xs,y::ys,h=>by
   have ih:=nX f xs ys (by simpa using h)
   rw[List.length_cons,List.range_succ_eq_map,List.all_cons,List.all_map,List.zip_cons_cons,List.all_cons,<- ih]
   simp[Function.comp_def]
def nY:D->Bool
 | .scr _=>true
 | .dct _ _=>true
 | .ptr _=>true
 | _=>false
def lJ:D->D->Bool
 | .lst _,.lst _=>true
 | .tup _,.tup _=>true
 | _,_=>false
theorem sE{X:Cx}{J0:List (Addr × Obj)}{σ:St}{H:Hp}{s:Shared}(I:L2.Inv X J0 σ H s)(A:Around)(v u:V)(vv uu:Value)(d e:D)(hu:A.units < cLine)(nd:nY d=false)(ne:nY e=false)(nl:lJ d e=false)(rd:Rep X.K H v d)(re:Rep X.K H u e)(rv:RelV v vv)(ru:RelV u uu):Cmp3 A s vv uu (eg d e):=by
 cases rd with
 | scr _=>cases nd
 | dct _=>cases nd
 | ptr _=>cases nd
 | non =>
   cases rv
   cases re with
   | scr _=>cases ne
   | dct _=>cases ne
   | ptr _=>cases ne
   | non =>
     cases ru
     exact⟨.same _,.none_none,.none_none⟩
   | bl b2 =>
     cases ru
     exact⟨.none_bool b2,.none_bool b2,.none_bool b2⟩
   | int i2 =>
     obtain⟨t2,rfl⟩:=ru
     exact⟨.none_int i2 t2,.none_int i2 t2,.none_int i2 t2⟩
   | str x2 =>
     obtain⟨t2,rfl⟩:=ru
     exact⟨.none_str x2 t2,.none_str x2 t2,.none_str x2 t2⟩
   | @lst p2 xs2 ds2 h2 r2 =>
     cases ru;obtain⟨its2,q2,pl2,z2⟩:=I.list (.inl h2);have l2:=pl2.isList
     exact⟨.none_list l2 hu,.none_list l2 hu,.none_list l2 hu⟩
   | @tup p2 xs2 ds2 h2 r2 =>
     have h2:=dR h2
     cases ru;obtain⟨its2,q2,l2,z2⟩:=I.tuple (.inl h2)
     exact⟨.none_tuple l2 hu,.none_tuple l2 hu,.none_tuple l2 hu⟩
 | bl b1 =>
   cases rv
   cases re with
   | scr _=>cases ne
   | dct _=>cases ne
   | ptr _=>cases ne
   | non =>
     cases ru
     exact⟨.bool_none b1,.bool_none b1,.bool_none b1⟩
   | bl b2 =>
     cases ru
     exact⟨.bool_bool b1 b2,.bool_bool b1 b2,.bool_bool b1 b2⟩
   | int i2 =>
     obtain⟨t2,rfl⟩:=ru
     exact⟨.bool_int b1 i2 t2,.bool_int b1 i2 t2,.bool_int b1 i2 t2⟩
   | str x2 =>
     obtain⟨t2,rfl⟩:=ru
     exact⟨.bool_str b1 x2 t2,.bool_str b1 x2 t2,.bool_str b1 x2 t2⟩
   | @lst p2 xs2 ds2 h2 r2 =>
     cases ru;obtain⟨its2,q2,pl2,z2⟩:=I.list (.inl h2);have l2:=pl2.isList
     exact⟨.bool_list b1 l2 hu,.bool_list b1 l2 hu,.bool_list b1 l2 hu⟩
   | @tup p2 xs2 ds2 h2 r2 =>
     have h2:=dR h2
     cases ru;obtain⟨its2,q2,l2,z2⟩:=I.tuple (.inl h2)
     exact⟨.bool_tuple b1 l2 hu,.bool_tuple b1 l2 hu,.bool_tuple b1 l2 hu⟩
 | int i1 =>
   obtain⟨t1,rfl⟩:=rv
   cases re with
   | scr _=>cases ne
   | dct _=>cases ne
   | ptr _=>cases ne
   | non =>
     cases ru
     exact⟨.int_none i1 t1,.int_none i1 t1,.int_none i1 t1⟩
   | bl b2 =>
     cases ru
     exact⟨.int_bool i1 t1 b2,.int_bool i1 t1 b2,.int_bool i1 t1 b2⟩
   | int i2 =>
     obtain⟨t2,rfl⟩:=ru
     exact⟨.int_int i1 t1 i2 t2,.int_int i1 t1 i2 t2,.int_int i1 t1 i2 t2⟩
   | str x2 =>
     obtain⟨t2,rfl⟩:=ru
     exact⟨.int_str i1 t1 x2 t2,.int_str i1 t1 x2 t2,.int_str i1 t1 x2 t2⟩
   | @lst p2 xs2 ds2 h2 r2 =>
     cases ru;obtain⟨its2,q2,pl2,z2⟩:=I.list (.inl h2);have l2:=pl2.isList
     exact⟨.int_list i1 t1 l2 hu,.int_list i1 t1 l2 hu,.int_list i1 t1 l2 hu⟩
   | @tup p2 xs2 ds2 h2 r2 =>
     have h2:=dR h2
     cases ru;obtain⟨its2,q2,l2,z2⟩:=I.tuple (.inl h2)
     exact⟨.int_tuple i1 t1 l2 hu,.int_tuple i1 t1 l2 hu,.int_tuple i1 t1 l2 hu⟩
 | str x1 =>
   obtain⟨t1,rfl⟩:=rv
   cases re with
   | scr _=>cases ne
   | dct _=>cases ne
   | ptr _=>cases ne
   | non =>
     cases ru
     exact⟨.str_none x1 t1,.str_none x1 t1,.str_none x1 t1⟩
   | bl b2 =>
     cases ru
     exact⟨.str_bool x1 t1 b2,.str_bool x1 t1 b2,.str_bool x1 t1 b2⟩
   | int i2 =>
     obtain⟨t2,rfl⟩:=ru
     exact⟨.str_int x1 t1 i2 t2,.str_int x1 t1 i2 t2,.str_int x1 t1 i2 t2⟩
   | str x2 =>
     obtain⟨t2,rfl⟩:=ru
     exact⟨.str_str x1 t1 x2 t2,.str_str x1 t1 x2 t2,.str_str x1 t1 x2 t2⟩
   | @lst p2 xs2 ds2 h2 r2 =>
     cases ru;obtain⟨its2,q2,pl2,z2⟩:=I.list (.inl h2);have l2:=pl2.isList
     exact⟨.str_list x1 t1 l2 hu,.str_list x1 t1 l2 hu,.str_list x1 t1 l2 hu⟩
   | @tup p2 xs2 ds2 h2 r2 =>
     have h2:=dR h2
     cases ru;obtain⟨its2,q2,l2,z2⟩:=I.tuple (.inl h2)
     exact⟨.str_tuple x1 t1 l2 hu,.str_tuple x1 t1 l2 hu,.str_tuple x1 t1 l2 hu⟩
 | @lst p1 xs1 ds1 h1 r1 =>
   cases rv;obtain⟨its1,q1,pl1,z1⟩:=I.list (.inl h1);have l1:=pl1.isList
   cases re with
   | scr _=>cases ne
   | dct _=>cases ne
   | ptr _=>cases ne
   | non =>
     cases ru
     exact⟨.list_none l1 hu,.list_none l1 hu,.list_none l1 hu⟩
   | bl b2 =>
     cases ru
     exact⟨.list_bool b2 l1 hu,.list_bool b2 l1 hu,.list_bool b2 l1 hu⟩
   | int i2 =>
     obtain⟨t2,rfl⟩:=ru
     exact⟨.list_int i2 t2 l1 hu,.list_int i2 t2 l1 hu,.list_int i2 t2 l1 hu⟩
   | str x2 =>
     obtain⟨t2,rfl⟩:=ru
     exact⟨.list_str x2 t2 l1 hu,.list_str x2 t2 l1 hu,.list_str x2 t2 l1 hu⟩
   | lst _ _=>cases nl
   | @tup p2 xs2 ds2 h2 r2 =>
     have h2:=dR h2
     cases ru;obtain⟨its2,q2,l2,z2⟩:=I.tuple (.inl h2)
     exact⟨.list_tuple l1 l2 hu,.list_tuple l1 l2 hu,.list_tuple l1 l2 hu⟩
 | @tup p1 xs1 ds1 h1 r1 =>
   have h1:=dR h1
   cases rv;obtain⟨its1,q1,l1,z1⟩:=I.tuple (.inl h1)
   cases re with
   | scr _=>cases ne
   | dct _=>cases ne
   | ptr _=>cases ne
   | non =>
     cases ru
     exact⟨.tuple_none l1 hu,.tuple_none l1 hu,.tuple_none l1 hu⟩
   | bl b2 =>
     cases ru
     exact⟨.tuple_bool b2 l1 hu,.tuple_bool b2 l1 hu,.tuple_bool b2 l1 hu⟩
   | int i2 =>
     obtain⟨t2,rfl⟩:=ru
     exact⟨.tuple_int i2 t2 l1 hu,.tuple_int i2 t2 l1 hu,.tuple_int i2 t2 l1 hu⟩
   | str x2 =>
     obtain⟨t2,rfl⟩:=ru
     exact⟨.tuple_str x2 t2 l1 hu,.tuple_str x2 t2 l1 hu,.tuple_str x2 t2 l1 hu⟩
   | @lst p2 xs2 ds2 h2 r2 =>
     cases ru;obtain⟨its2,q2,pl2,z2⟩:=I.list (.inl h2);have l2:=pl2.isList
     exact⟨.tuple_list l1 l2 hu,.tuple_list l1 l2 hu,.tuple_list l1 l2 hu⟩
   | tup _ _=>cases nl
theorem sF{K:W.Frag}:∀ (k:Nat) (H:Hp) {xs:List V} {j:Nat} {d e:D},(∃ v,xs[j]?=some v/\Rep K H v d)->(∃ v,xs[j]?=some v/\Rep K H v e)->aN k d=true->aN k e=true->aZ k d e=true:=by
 intro k H
 have main:∀ (k:Nat) {v:V} {d e:D},Rep K H v d->Rep K H v e->aN k d=true->aN k e=true->aZ k d e=true:=by
  intro k
  induction k with
  | zero =>
    intro v d e h1 h2 f1 f2
    cases h1 <;> cases h2 <;> first | (cases f1;done) | (cases f2;done) | simp[aZ,eg]
  | succ k ih =>
    intro v d e h1 h2 f1 f2
    have seq:∀ {xs:List V} {ds es:List D},Reps K H xs ds->Reps K H xs es->ds.all (aN k)=true->es.all (aN k)=true->(ds.length == es.length && (ds.zip es).all fun p=>aZ k p.1 p.2)=true:=by
     intro xs ds es r1 r2 g1 g2
     rw[Bool.and_eq_true]
     refine⟨by rw[<- r1.length,r2.length];simp,List.all_eq_true.mpr fun z hz=>?_⟩
     obtain⟨j,hj,ej⟩:=List.getElem_of_mem hz
     have ej':(ds.zip es)[j]?=some z:=by rw[List.getElem?_eq_getElem hj,ej]
     rw[List.getElem?_zip_eq_some] at ej'
     obtain⟨a,a1,a2⟩:=r1.get ej'.1
     obtain⟨b,b1,b2⟩:=r2.get ej'.2
     rw[a1] at b1;cases b1
     exact ih a2 b2 (List.all_eq_true.mp g1 _ (List.mem_of_getElem? ej'.1)) (List.all_eq_true.mp g2 _ (List.mem_of_getElem? ej'.2))
    cases h1 with
    | lst a1 a2 =>
      cases h2 with
      | lst b1 b2=>rw[gw a1 b1] at a2;exact seq a2 b2 f1 f2
      | tup b1 b2=>exact (rT a1 (.inl b1)).elim
      | scr _=>cases f2
      | dct _=>cases f2
      | ptr _=>cases f2
    | tup a1 a2 =>
      cases h2 with
      | tup b1 b2=>rw[jA (.inl a1) (.inl b1)] at a2;exact seq a2 b2 f1 f2
      | lst b1 b2=>exact (rT b1 (.inl a1)).elim
      | scr _=>cases f2
      | dct _=>cases f2
      | ptr _=>cases f2
    | scr _=>cases f1
    | dct _=>cases f1
    | ptr _=>cases f1
    | _=>cases h2;simp[aZ,eg]
 intro xs j d e ⟨v,h1,r1⟩ ⟨w,h2,r2⟩ f1 f2
 rw[h1] at h2;cases h2
 exact main k r1 r2 f1 f2
theorem sG{k:Nat}{d e:D}(h:lJ d e=false):aZ k d e=eg d e:=by
 cases k <;> cases d <;> cases e <;> first | rfl | cases h
theorem lK{k:Nat}{d:D}(h:aN k d=true):nY d=false:=by
 cases d <;> first | rfl | (cases k <;> cases h)
theorem sH{X : Cx}{J0:List (Addr × Obj)}{σ:St}{H:Hp}{s:Shared}(I:L2.Inv X J0 σ H s):∀ (k:Nat) (A:Around) (v u:V) (vv uu:Value) (d e:D),A.units+k < cLine->aN k d=true->aN k e=true ->
  Rep X.K H v d->Rep X.K H u e->RelV v vv->RelV u uu->Cmp3 A s vv uu (aZ k d e):=by
 intro k
 induction k with
 | zero =>
   intro A v u vv uu d e hA fd fe rd re rv ru
   have nb:lJ d e=false:=by
    cases d <;> cases e <;> first | rfl | cases fd
   rw[sG nb]
   exact sE I A v u vv uu d e (by omega) (lK fd) (lK fe) nb rd re rv ru
 | succ k ih =>
   intro A v u vv uu d e hA fd fe rd re rv ru
   have hu:A.units < cLine:=by omega
   have hin:A.in1.units+k < cLine:=by show A.units+1+k < cLine;omega
   cases nb:lJ d e with
   | false =>
     rw[sG nb]
     exact sE I A v u vv uu d e hu (lK fd) (lK fe) nb rd re rv ru
   | true =>
     have items:∀ {ds es:List D} {xs ys:List V} {its its2:List Value},ds.all (aN k)=true->es.all (aN k)=true->Reps X.K H xs ds->Reps X.K H ys es->Vals xs its->Vals ys its2 ->
       ∀ j (h1:j < its.toArray.size) (h2:j < its2.toArray.size),SeqAt.EqAt A.in1 s its.toArray[j] its2.toArray[j] (match ds[j]?,es[j]? with | some a,some b=>aZ k a b | _,_=>false):=by
      intro ds es xs ys its its2 hd he rx ry vx vy j h1 h2
      have lx:=rx.length
      have ly:=ry.length
      have mx:=vx.length
      have my:=vy.length
      have k1:j < ds.length:=by simp only[List.size_toArray] at h1;omega
      have k2:j < es.length:=by simp only[List.size_toArray] at h2;omega
      obtain⟨a,ea⟩:∃ a,ds[j]?=some a:=⟨_,List.getElem?_eq_getElem k1⟩
      obtain⟨b,eb⟩:∃ b,es[j]?=some b:=⟨_,List.getElem?_eq_getElem k2⟩
      obtain⟨x,ex,qx⟩:=rx.get ea
      obtain⟨y,ey,qy⟩:=ry.get eb
      obtain⟨w1,e1,r1⟩:=vx.get ex
      obtain⟨w2,e2,r2⟩:=vy.get ey
      have f1:its.toArray[j]=w1:=by have:=(List.getElem?_eq_some_iff.mp e1).2;simpa using this
      have f2:its2.toArray[j]=w2:=by have:=(List.getElem?_eq_some_iff.mp e2).2;simpa using this
      rw[f1,f2,ea,eb]
      exact (ih A.in1 x y w1 w2 a b hin (List.all_eq_true.mp hd a (List.mem_of_getElem? ea)) (List.all_eq_true.mp he b (List.mem_of_getElem? eb)) qx qy r1 r2).eq
     cases rd with
     | @lst p xs ds h1 h2 =>
       cases rv
       cases re with
       | @lst q ys es h3 h4 =>
         cases ru
         obtain⟨its,vx,pl,hz⟩:=I.list (.inl h1)
         obtain⟨its2,vy,pl2,hz2⟩:=I.list (.inl h3)
         have e1:its.toArray.size=ds.length:=by rw[List.size_toArray,<- vx.length,h2.length]
         have e2:its2.toArray.size=es.length:=by rw[List.size_toArray,<- vy.length,h4.length]
         have core:SeqAt.RcAt A s (.ref p) (.ref q) (aZ (k+1) (.lst ds) (.lst es))/\SeqAt.RcNeAt A s (.ref p) (.ref q) (!aZ (k+1) (.lst ds) (.lst es)):=by
          by_cases hl:ds.length=es.length
          ·have val:aZ (k+1) (.lst ds) (.lst es)=(List.range its.toArray.size).all (fun j=>match ds[j]?,es[j]? with | some a,some b=>aZ k a b | _,_=>false):=by
            rw[e1,nX (aZ k) ds es hl]
            show (ds.length == es.length && _)=_
            rw[hl];simp
           rw[val]
           exact⟨.lists pl.isList pl2.isList (by omega) hu (items fd fe h2 h4 vx vy),.lists pl.isList pl2.isList (by omega) hu (items fd fe h2 h4 vx vy)⟩
          ·have val:aZ (k+1) (.lst ds) (.lst es)=false:=by
            show (ds.length == es.length && _)=false
            rw[show (ds.length == es.length)=false by simpa using hl];rfl
           rw[val]
           have hne:(its.toArray.size != its2.toArray.size)=true:=by rw[e1,e2];simpa using hl
           exact⟨.lists_lengths pl.isList pl2.isList hne hu,.lists_lengths pl.isList pl2.isList hne hu⟩
         refine⟨?_,core.1,core.2⟩
         by_cases hpq:p=q
         ·subst hpq
          have ev:aZ (k+1) (.lst ds) (.lst es)=true:=by
           have exy:=gw h1 h3
           subst exy
           show (ds.length == es.length && (ds.zip es).all fun p=>aZ k p.1 p.2)=true
           rw[Bool.and_eq_true]
           refine⟨by rw[<- h2.length,h4.length];simp,List.all_eq_true.mpr fun z hz=>?_⟩
           obtain⟨j,hj,ej⟩:=List.getElem_of_mem hz
           have ej':(ds.zip es)[j]?=some z:=by rw[List.getElem?_eq_getElem hj,ej]
           rw[List.getElem?_zip_eq_some] at ej'
           exact sF k H (h2.get ej'.1) (h4.get ej'.2) (List.all_eq_true.mp fd _ (List.mem_of_getElem? ej'.1)) (List.all_eq_true.mp fe _ (List.mem_of_getElem? ej'.2))
          rw[ev]
          exact .same _
         ·exact .of_refs hpq core.1
       | tup _ _=>cases nb
       | _=>cases nb
     | @tup p xs ds h1 h2 =>
       have h1:=dR h1
       cases rv
       cases re with
       | @tup q ys es h3 h4 =>
         have h3:=dR h3
         cases ru
         obtain⟨its,vx,pl,hz⟩:=I.tuple (.inl h1)
         obtain⟨its2,vy,pl2,hz2⟩:=I.tuple (.inl h3)
         have e1:its.toArray.size=ds.length:=by rw[List.size_toArray,<- vx.length,h2.length]
         have e2:its2.toArray.size=es.length:=by rw[List.size_toArray,<- vy.length,h4.length]
         have core:SeqAt.RcAt A s (.ref p) (.ref q) (aZ (k+1) (.tup ds) (.tup es))/\SeqAt.RcNeAt A s (.ref p) (.ref q) (!aZ (k+1) (.tup ds) (.tup es)):=by
          have val:aZ (k+1) (.tup ds) (.tup es)=((List.range (min its.toArray.size its2.toArray.size)).all (fun j=>match ds[j]?,es[j]? with | some a,some b=>aZ k a b | _,_=>false) && its.toArray.size == its2.toArray.size):=by
           rw[e1,e2]
           by_cases hl:ds.length=es.length
           ·rw[<- hl,Nat.min_self,nX (aZ k) ds es hl]
            show (ds.length == es.length && _)=_
            rw[hl];simp
           ·show (ds.length == es.length && _)=_
            rw[show (ds.length == es.length)=false by simpa using hl];simp
          rw[val]
          exact⟨.tuples pl pl2 hu (items fd fe h2 h4 vx vy),.tuples pl pl2 hu (items fd fe h2 h4 vx vy)⟩
         refine⟨?_,core.1,core.2⟩
         by_cases hpq:p=q
         ·subst hpq
          have ev:aZ (k+1) (.tup ds) (.tup es)=true:=by
           have exy:=jA h1 h3
           subst exy
           show (ds.length == es.length && (ds.zip es).all fun p=>aZ k p.1 p.2)=true
           rw[Bool.and_eq_true]
           refine⟨by rw[<- h2.length,h4.length];simp,List.all_eq_true.mpr fun z hz=>?_⟩
           obtain⟨j,hj,ej⟩:=List.getElem_of_mem hz
           have ej':(ds.zip es)[j]?=some z:=by rw[List.getElem?_eq_getElem hj,ej]
           rw[List.getElem?_zip_eq_some] at ej'
           exact sF k H (h2.get ej'.1) (h4.get ej'.2) (List.all_eq_true.mp fd _ (List.mem_of_getElem? ej'.1)) (List.all_eq_true.mp fe _ (List.mem_of_getElem? ej'.2))
          rw[ev]
          exact .same _
         ·exact .of_refs hpq core.1
       | lst _ _=>cases nb
       | _=>cases nb
     | _=>cases e <;> cases nb
end VL
namespace VL
open PySem PySem.Spec PyProof.Rows L2
section
variable {X:Cx}{a b:Expr}{es ea eb:List Es}{fa fb:FE}{pos p p2:Pos}{k:Nat}
def sI(K:W.Frag):R2:=fun x y H Q=>∃ d e,Rep K H x d/\Rep K H y e/\aN 4 d=true/\aN 4 e=true/\Q (.bl (aZ 4 d e)) H
def sJ(K:W.Frag):R2:=fun x y H Q=>∃ d e,Rep K H x d/\Rep K H y e/\aN 4 d=true/\aN 4 e=true/\Q (.bl (!aZ 4 d e)) H
theorem lM(hr:Room k X.A):OpR X (compareOp .Eq) (sI X.K):=by
 intro J0 s σ H x y v u Q I rx ry h
 obtain⟨d,e,r1,r2,f1,f2,q⟩:=h
 have hu:=hr.units
 exact (sH I 4 X.A x y v u d e (by omega) f1 f2 r1 r2 rx ry).rc X.prog X.w X.xe _ ⟨.bl _,H,I,rfl,q⟩
theorem sK(hr:Room k X.A):OpR X (compareOp .NotEq) (sJ X.K):=by
 intro J0 s σ H x y v u Q I rx ry h
 obtain⟨d,e,r1,r2,f1,f2,q⟩:=h
 have hu:=hr.units
 exact (sH I 4 X.A x y v u d e (by omega) f1 f2 r1 r2 rx ry).ne X.prog X.w X.xe _ ⟨.bl _,H,I,rfl,q⟩
def eqD(d e:D):Option D:=if aN 4 d=true/\aN 4 e=true then some (.bl (aZ 4 d e)) else none
def neD(d e:D):Option D:=if aN 4 d=true/\aN 4 e=true then some (.bl (!aZ 4 d e)) else none
theorem lN(K:W.Frag):OpV K (sI K) eqD:=by
 intro x y H dx dy d Q rx ry hg hQ
 obtain⟨⟨h1,h2⟩,rfl⟩:=de hg
 exact⟨dx,dy,rx,ry,h1,h2,hQ _ H (Same.refl H) (.bl _) fun A _ _ _=>.bl _⟩
theorem sL(K:W.Frag):OpV K (sJ K) neD:=by
 intro x y H dx dy d Q rx ry hg hQ
 obtain⟨⟨h1,h2⟩,rfl⟩:=de hg
 exact⟨dx,dy,rx,ry,h1,h2,hQ _ H (Same.refl H) (.bl _) fun A _ _ _=>.bl _⟩
theorem Bf(x y d:D)(h:eqD x y=some d):bg d=true:=by obtain⟨_,rfl⟩:=de h;rfl
theorem Bg(hr:Room k X.A)(ha:VE X a fa ea)(hb:VE X b fb eb):VE X (.Compare a [.Eq] [b] pos) (e2 eqD fa fb) []:=iO (lM hr) (lN X.K) ha hb (cM _) Bf
theorem Bh(hr:Room k X.A)(ha:VE X a fa ea)(hb:VE X b fb eb):VT X (.Compare a [.Eq] [b] pos) (eT (e2 eqD fa fb)):=jG (lM hr) (lN X.K) ha hb (cM _)
theorem Bi(hr:Room k X.A)(ha:VE X a fa ea)(hb:VE X b fb eb):VT X (.Compare a [.NotEq] [b] pos) (eT (e2 neD fa fb)):=jG (sK hr) (sL X.K) ha hb (cM _)
theorem Bj(K:W.Frag)(d:D):W.kitOne K (.type (tyD d)) (.type "int")=some (fR "int" (tyD d)):=by
 cases d <;> first | rfl | kernel_rfl
theorem Bk(K:W.Frag)(d:D):W.kitOne K (.type (tyD d)) (.type "bool")=some (fR "bool" (tyD d)):=by
 cases d <;> first | rfl | kernel_rfl
def nZ:D->Bool
 | .ptr _=>true
 | _=>false
theorem Bl{T:String}(hk:∀ K d,W.kitOne K (.type (tyD d)) (.type T)=some (fR T (tyD d))):CallR X (.builtin "isinstance") (fun xs H Q=>∃ x d,xs=[x,.ty T]/\Rep X.K H x d/\nZ d=false/\Q (.bl (fR T (tyD d))) H):=by
 intro J0 s σ H xs us Q I r h
 obtain⟨x,d,rfl,rx,np,q⟩:=h
 obtain⟨u,w,rfl,ru,rw'⟩:=jv r
 cases rw'
 have fin:∀ tk,EP X J0 σ Q (.bool (fR T (tyD d))) { s with toks:=tk }:=fun tk=>⟨.bl _,H,I.tok tk,rfl,q⟩
 have e:=hk X.K d
 cases rx with
 | non=>cases ru;exact W.kia_one W.kitx_none I.kIn True.intro e (fun z=>nomatch z) fin
 | bl b=>cases ru;exact W.kia_one W.kitx_bool I.kIn True.intro e (fun z=>nomatch z) fin
 | int i=>obtain⟨t,rfl⟩:=ru;exact W.kia_one W.kitx_int I.kIn True.intro e (fun z=>nomatch z) fin
 | str i=>obtain⟨t,rfl⟩:=ru;exact W.kia_one W.kitx_str I.kIn True.intro e (fun z=>nomatch z) fin
 | lst h1 h2 =>
   cases ru
   obtain⟨its,_,⟨o,n,e1,e2,_⟩,_⟩:=I.list (.inl h1)
   exact W.kia_one W.kitx_list I.kIn ⟨o,e1,e2⟩ e (fun z=>nomatch z) fin
 | scr h1 =>
   cases ru
   obtain⟨its,_,⟨o,n,e1,e2,_⟩,_⟩:=I.list h1
   exact W.kia_one W.kitx_list I.kIn ⟨o,e1,e2⟩ e (fun z=>nomatch z) fin
 | tup h1 h2 =>
   cases ru
   obtain⟨its,_,⟨o,e1,e2,_⟩,_⟩:=I.tuple (.inl (dR h1))
   exact W.kia_one W.kitx_tuple I.kIn ⟨o,e1,e2⟩ e (fun z=>nomatch z) fin
 | dct h1 =>
   cases ru
   obtain⟨_,_,vs,_,o,es,ep,e1,e2,_⟩:=lp I.hok h1.rd
   exact W.kia_one W.kitx_dict I.kIn ⟨o,e1,e2.1⟩ e (fun z=>nomatch z) fin
 | ptr a=>cases np
def fU(T:String):D->Option D:=fun d=>if nZ d=true then none else some (.bl (fR T (tyD d)))
theorem Bm{T:Str}{TS:String}(hk:∀ K d,W.kitOne K (.type (tyD d)) (.type TS)=some (fR TS (tyD d)))(hT:bootBuiltins T=some (.type TS))(mi:X.mg "isinstance" = none)(mt:X.mg T=none)(ha:VE X a fa ea)(hg:Gl X "isinstance")(hgT:Gl X T)(hn:T ≠ "__name__")(hd:(T == ("__debug__" : Str))=false)(hs:starEach [a,.Name T p2] X.env=(false,eval a X.env)::starEach [.Name T p2] X.env)(hs2:starEach [.Name T p2] X.env=(false,eval (.Name T p2) X.env)::starEach [] X.env)(hpl:(backTo pos (starEach [.Name T p2] X.env)).any (·.1)=false):
  VE X (.Call (.Name "isinstance" p) [a,.Name T p2] [] pos) (e1 (fU TS) fa) [] :=
 aM (jw (Bl hk) hg mi (by decide +kernel) (cN ha (cN (qp (v:=.ty TS) hgT mt hT rfl hn hd) dG hs2) hs) (by decide) (by decide) hs hpl) fun σ H Q ⟨ρ,d,hE,hf,hQ⟩=>by
  obtain⟨dx,h1,hf⟩:=bind_some hf
  cases np:nZ dx with
  | true=>simp only[fU,np] at hf;cases hf
  | false =>
  simp only[fU,np] at hf
  cases hf
  exact⟨ρ,dx,hE,h1,fun x H1 p1=>⟨x,dx,rfl,p1.rep,np,hQ _ H1 ⟨p1.same,.bl _,fun A _ _=>.bl _⟩⟩⟩
def gE:List D->Option (List Bool)
 | []=>some []
 | .bl b::r=>(gE r).map (b::·)
 | _::_=>none
theorem sM:∀ {ds:List D} {bs:List Bool},gE ds=some bs->ds=bs.map D.bl
 | [],bs,h=>by cases h;rfl
 | .bl i::r,bs,h=>by
   simp only[gE] at h
   cases e:gE r with
   | none=>rw[e] at h;cases h
   | some ms=>rw[e] at h;cases h;rw[sM e];rfl
 | .non::_,_,h=>by cases h
 | .int _::_,_,h=>by cases h
 | .str _::_,_,h=>by cases h
 | .lst _::_,_,h=>by cases h
 | .tup _::_,_,h=>by cases h
 | .scr _::_,_,h=>by cases h
theorem sO{K:W.Frag}{H:Hp}:∀ {bs:List Bool} {xs:List V},Reps K H xs (bs.map D.bl)->xs=bs.map V.bl
 | [],xs,h=>by cases h;rfl
 | n::ns,xs,h=>by
   cases h with
   | cons h1 h2=>cases h1;rw[sO h2];rfl
theorem Bn{bs:List Bool}{us:List Value}(h:Vals (bs.map V.bl) us):us=bs.map Value.bool:=by
 induction bs generalizing us with
 | nil=>cases h;rfl
 | cons b r ih =>
   cases h with
   | cons h1 h2=>cases h1;rw[ih h2];rfl
theorem Bo(bs:List Bool):((List.range bs.length).all fun i=>(bs[i]?).getD true)=bs.all id:=by
 rw[Bool.eq_iff_iff,List.all_eq_true,List.all_eq_true]
 constructor
 ·intro h b hb
  obtain⟨i,hi,rfl⟩:=List.getElem_of_mem hb
  have:=h i (List.mem_range.mpr hi)
  simpa [List.getElem?_eq_getElem hi] using this
 ·intro h i hi
  have hi':=List.mem_range.mp hi
  simpa [List.getElem?_eq_getElem hi'] using h _ (List.getElem_mem hi')
theorem Bp(hc:X.calm=true):CallR X (.builtin "all") (fun xs H Q=>∃ (q:Addr) (bs:List Bool),xs=[.ref q]/\SqL X.K H q (bs.map V.bl)/\Q (.bl (bs.all id)) H):=by
 intro J0 s σ H xs us Q I r h
 obtain⟨q,bs,rfl,hq,hQ⟩:=h
 obtain⟨u,rfl,ru⟩:=eF r
 cases ru
 obtain⟨its,rv,pl,hz⟩:=I.list hq
 have ei:=Bn rv
 have hl:=pl.isList
 have hlt:q < s.heap.objs.size:=by obtain⟨_,e,_⟩:=hl;exact Heap.lt_size e
 refine call_all_walk (wpAny_pyIter_list hl ⟨s.heap.objs.size,[s.heap.objs.size,q],[s.heap.objs.size],its.toArray.size,_,_,fun i=>(bs[i]?).getD true,rfl,Walks.list (A:=X.A.in1) (I.ok.hd hc) _ q (Nat.ne_of_lt hlt) its.toArray,
  ⟨⟨_,Heap.get?_push_size _ rfl,rfl,rfl⟩,hl.push _⟩,fun i v s' Q' E' hP hQ'=>?_,fun h' tk hk=>?_⟩)
 ·have hP':its[i]?=some v:=by simpa using hP
  rw[ei,List.getElem?_map] at hP'
  cases e:bs[i]? with
  | none=>rw[e] at hP';cases hP'
  | some b =>
    rw[e] at hP'
    cases hP'
    simp only[e,Option.getD_some] at hQ'
    exact wpAny_truthy_bool hQ'
 ·have e:its.toArray.size=bs.length:=by rw[List.size_toArray,ei,List.length_map]
  rw[e,Bo]
  refine⟨.bl _,H,I.kept (t':=tk) fun b o z=>hk b o (fun hm=>?_) (Heap.get?_push_of_some _ z),rfl,hQ⟩
  rw[List.mem_singleton.mp hm] at z
  exact Nat.lt_irrefl _ (Heap.lt_size z)
def fV(g:List Bool->Bool):D->Option D
 | .lst ds=>(gE ds).bind fun bs=>some (.bl (g bs))
 | _=>none
theorem Bq(g:List Bool->Bool):gz X.K (fun xs H Q=>∃ (q:Addr) (bs:List Bool),xs=[.ref q]/\SqL X.K H q (bs.map V.bl)/\Q (.bl (g bs)) H) (aI (fV g)):=by
 intro xs H ds d Q r hg hQ
 obtain⟨x,rfl,hg1⟩:=iP hg
 obtain⟨v,rfl,r1⟩:=e8 r
 cases x with
 | lst es =>
   obtain⟨bs,h2,hg3⟩:=bind_some hg1
   cases hg3
   obtain⟨q,ys,rfl,hq,hx,_⟩:=jI r1
   rw[sM h2] at hx
   rw[sO hx] at hq
   exact⟨q,bs,rfl,.inl hq,hQ _ fun H'=>.bl _⟩
 | _=>cases hg1
theorem Br{as:FEs}(hc:X.calm=true)(ml:X.mg "all" = none)(ha:VA X [a] as es)(hg:Gl X "all")(he:starEach [a] X.env=(false,eval a X.env)::starEach [] X.env)(hpl:(backTo pos (starEach [] X.env)).any (·.1)=false):
  VE X (.Call (.Name "all" p) [a] [] pos) (eA (aI (fV fun bs=>bs.all id)) as) []:=jJ (Bp hc) (Bq _) ml PyProof.Rows.boot_all ha hg (by decide) (by decide) he hpl
end
section
variable {X:Cx}{elt tg iter:Expr}{ifs:List Expr}{scope:Scope}{own cn:List Str}{J7 is:List Nat}{g:TG}{un:D->Option (List D)}{fi:FEs}{ei ee:List Es}{c:am->Option Bool}{fe:FE}{pos:Pos}
theorem cY{X:Cx}:PTs X [] (tvT X.K bQ):=fun J0 s σ H Q I h=>by
 obtain⟨ρ,b,_,hb,hQ⟩:=h
 cases hb
 exact nS J0 s σ H Q I (hQ H (Same.refl H))
theorem Bs(B:BlkOk X scope own J7 cn)(hc:X.calm=true)(hi:VI X tg iter fi ei)(hg:∀ s H cl ex,PG (blk X (own++cn) s H scope cl ex) tg g)(hgv:TgV X.K g is un)(his:∀ i ∈ is,i < own.length)(ht:∀ s H cl ex,PTs (blk X (own++cn) s H scope cl ex) ifs (tvT X.K c))(he:∀ s H cl ex,VE (blk X (own++cn) s H scope cl ex) elt fe ee)(hs:∀ x,foldedSetIterable iter X.env x=pure x):
  VF X (.ListComp elt [⟨tg,iter,ifs,0⟩] scope pos) (bP own.length J7 is un fi c fe) (esC own.length J7 ei ee):=by
 intro J0 s σ H Q I h
 obtain⟨cl,hclos,hcl,hha⟩:=nQ (scope:=scope) (env:=X.env) fun x hx hf=>I.ok.has x.1 (B.free x hx hf)
 rw[eval_ListComp]
 refine wpAny_comprehension_free (use:=none) rfl hs hclos B.kind B.locals (nT B hc hi hg ht he I (Be hgv his h) hcl hha (RR:=fun acc C=>compPost (model X.prog X.w) X.A X.xe none (EP X J0 σ Q) acc C) fun d c ys H' s' af q=>?_)
 obtain⟨m,hm⟩:=af.ns
 obtain⟨f0,f1,_,f3,f4,f5⟩:=af.cf
 refine⟨m,hm,fun h' sb=>⟨.ref d,_,af.inv.turned (t':=s'.toks) (it:=c) (fun b o hb e=>(sb.2 b hb).trans e) f0 f1 f3 f4 f5,rfl,q⟩⟩
end
end VL
namespace VL
open PySem PySem.Spec PyProof.Rows L2
def Def(P:Program)(w:World)(K:W.Frag)(mg:Str->Option Value)(base:Heap)(x:Str)(k:Nat)(ps:List Str)(G:List D->Option D)(fr:Bool):Prop :=
 ∃ f fd,FnOk P w K mg base CX0 k f fd ps (spF K G fr)/\mg x=some (.ref f)/\W.keepIn K (.ref f)=true/\Binds K fd ps []
def scF(G:List D->Option D):List D->Option D:=fun ds=>(G ds).bind fun d=>if bg d=true then some d else none
theorem sP{G:List D->Option D}{ds:List D}{d:D}(h:scF G ds=some d):G ds=some d/\bg d=true:=by
 obtain⟨e,h1,h2⟩:=bind_some h
 obtain⟨h3,rfl⟩:=de h2
 exact⟨h1,h3⟩
section
variable {P:Program}{w:World}{K:W.Frag}{mg:Str->Option Value}{base:Heap}{x:Str}{j k:Nat}{ps:List Str}{G:List D->Option D}{fr:Bool}
theorem Def.sc(h:Def P w K mg base x k ps G fr):Def P w K mg base x k ps (scF G) fr :=
 let ⟨f,fd,F,m,kp,b⟩:=h
 ⟨f,fd,F.imp fun vs H Q E ⟨ds,d,r,hg,q⟩=>⟨ds,d,r,(sP hg).1,q⟩,m,kp,b⟩
theorem Def.mono(h:Def P w K mg base x j ps G fr)(hk:j<=k:=by decide):Def P w K mg base x k ps G fr :=
 let ⟨f,fd,F,m,kp,b⟩:=h
 ⟨f,fd,F.mono hk,m,kp,b⟩
theorem Bt{np n:Nat}{qual:Str}{st:Stmt}{f:Addr}{fd:FuncData}{N:List Str}{body:FS}(O' OL:List Nat)(h1:ps.length=np)(h2:N.length=n)(h3:G=mkF fr np n body)(Fn:Fun K x qual st f fd)(S:FnScope N ps (ao st))(h:∀ (cdv:Value) (A:Around) (outer:List PySem.Env) (s:Shared) (H:Hp) (E:XK) (F:Fr0),F.n=n->Room k (A.deeper (envOfC qual (ao st) s.heap.objs.size f cdv)) ->
   VSs (cG CX0 P w K mg base N qual (ao st) f cdv A outer s H E).nox F [] (aG st) body O' OL fr):
  FnOk P w K mg base CX0 (k+1) f fd ps (spF K G fr):=by
 subst h1 h2 h3
 exact AX Fn S h
end
section
variable {X:Cx}{k:Nat}{ps:List Str}{G:List D->Option D}{fr:Bool}{x:Str}{p pos:Pos}{e:Expr}{es':List Expr}{as:FEs}{es:List Es}
theorem Bu(d:Def X.prog X.w X.K X.mg X.base x k ps G fr)(hr:Room k X.A)(ha:VA X (e::es') as es)(hg:Gl X x:=by rfl)(hdb:(x == ("__debug__" : Str))=false:=by decide)(he:starEach (e::es') X.env=(false,eval e X.env)::starEach es' X.env:=by rfl)(hpl:(backTo pos (starEach es' X.env)).any (·.1)=false:=by rfl):
  VE X (.Call (.Name x p) (e::es') [] pos) (eA G as) es :=
 let ⟨_,_,F,m,kp,b⟩:=d
 AY F hr m kp b ha hg hdb he hpl
theorem Bv(d:Def X.prog X.w X.K X.mg X.base x k ps G true)(hr:Room k X.A)(ha:VA X (e::es') as es)(hg:Gl X x)(hdb:(x == ("__debug__" : Str))=false)(he:starEach (e::es') X.env=(false,eval e X.env)::starEach es' X.env)(hpl:(backTo pos (starEach es' X.env)).any (·.1)=false):
  VF X (.Call (.Name x p) (e::es') [] pos) (eA G as) es :=
 let ⟨_,_,F,m,kp,b⟩:=d
 AZ F hr m kp b ha hg hdb he hpl
theorem Bw(d:Def X.prog X.w X.K X.mg X.base x k ps (scF G) fr)(hr:Room k X.A)(ha:VA X (e::es') as es)(hg:Gl X x)(hdb:(x == ("__debug__" : Str))=false)(he:starEach (e::es') X.env=(false,eval e X.env)::starEach es' X.env)(hpl:(backTo pos (starEach es' X.env)).any (·.1)=false):
  VE X (.Call (.Name x p) (e::es') [] pos) (eA (scF G) as) [] :=
 lu (Bu d hr ha hg hdb he hpl) fun ρ d h=>by
  obtain⟨ds,_,h2⟩:=bind_some h
  exact (sP h2).2
end
def o3:D->Bool
 | .non=>true
 | _=>false
def df:D->Option D:=fun d=>some (.bl (o3 d))
def cZ:D->Option D:=fun d=>some (.bl (!o3 d))
def o6:D->D->Option D
 | d,.non=>df d
 | _,_=>none
def lO:D->D->Option D
 | d,.non=>cZ d
 | _,_=>none
theorem sQ{K:W.Frag}{H:Hp}{v:V}{d:D}(r:Rep K H v d):decide (v=.non)=o3 d:=by
 cases r <;> rfl
theorem sR(K:W.Frag):OpV K (fun x y H Q=>y=.non/\Q (.bl (decide (x=.non))) H) o6:=fun x y H dx dy d Q rx ry hg q=>by
 cases dy <;> first | (cases hg;done) | skip
 cases ry
 have hg:some (D.bl _)=some d:=hg
 cases hg
 refine⟨rfl,q _ _ (Same.refl H) ?_ fun A _ _ _=>?_⟩ <;> (rw[sQ rx];exact .bl _)
theorem o7(K:W.Frag):OpV K (fun x y H Q=>y=.non/\Q (.bl (!decide (x=.non))) H) lO:=fun x y H dx dy d Q rx ry hg q=>by
 cases dy <;> first | (cases hg;done) | skip
 cases ry
 have hg:some (D.bl _)=some d:=hg
 cases hg
 refine⟨rfl,q _ _ (Same.refl H) ?_ fun A _ _ _=>?_⟩ <;> (rw[sQ rx];exact .bl _)
section
variable {X:Cx}{a:Expr}{fa:FE}{ea:List Es}{pos p2:Pos}
theorem Bx(x y d:D)(h:lO x y=some d):bg d=true:=by
 cases y <;> first | (cases h;done) | (have h:some (D.bl _)=some d:=h;cases h;rfl)
theorem By(fa:FE):e2 o6 fa (eC .non)=e1 df fa:=by
 funext ρ
 unfold e2 e1 eC
 cases fa ρ <;> rfl
theorem sS(fa:FE):e2 lO fa (eC .non)=e1 cZ fa:=by
 funext ρ
 unfold e2 e1 eC
 cases fa ρ <;> rfl
theorem Bz{j}(ha:VE X a fa ea):VT X (.Compare a [.Is] [.Constant .none j p2] pos) (eT (e1 df fa)):=by
 rw[<- By];exact jG qQ (sR X.K) ha iJ (cM _)
theorem BA{j}(ha:VE X a fa ea):VE X (.Compare a [.IsNot] [.Constant .none j p2] pos) (e1 cZ fa) []:=by
 rw[<- sS];exact iO ni (o7 X.K) ha iJ (cM _) Bx
theorem BB{j}(ha:VE X a fa ea):VT X (.Compare a [.IsNot] [.Constant .none j p2] pos) (eT (e1 cZ fa)):=by
 rw[<- sS];exact jG ni (o7 X.K) ha iJ (cM _)
end
end VL
namespace VL
open PySem PySem.Spec PyProof.Rows L2
def ck(d:D):Option (List D):=if cX d=true then none else items d
def jO(t:Nat)(it:FE)(tb:FS):FS:=fun ρ=>(it ρ).bind fun d=>(ck d).bind fun ds=>bD (fun x ρ=>tb (ρ.set t (some x))) ds.reverse ρ
def jP:D->Option D:=fun d=>(ck d).bind fun ds=>some (.lst ds.reverse)
def fW(ds:List D):List D:=ds.zipIdx.map fun p=>.tup [.int (p.2:Nat),p.1]
def fX(ds es:List D):List D:=(ds.zip es).map fun p=>.tup [p.1,p.2]
def jQ(a:FE):FEs:=fun ρ=>(a ρ).bind fun d=>(ck d).bind fun ds=>some (fW ds)
def iV(a b:FE):FEs:=fun ρ=>(a ρ).bind fun d=>(b ρ).bind fun e=>(ck d).bind fun ds=>(ck e).bind fun es=>some (fX ds es)
end VL
namespace VL
open PySem PySem.Spec PyProof.Rows L2
theorem o8{X:Cx}{J0:List (Addr × Obj)}{σ:St}{H:Hp}{s:Shared}{h':Heap}{t':Nat}{ch:List Addr}(I:Inv X J0 σ H s)(k:∀ b o,b ∉ ch->s.heap.get? b=some o->h'.get? b=some o)(hf:∀ b ∈ ch,ce X J0 H b):
  Inv X J0 σ H { s with heap:=h',toks:=t' }:=by
 have nit:∀ b u,H b=some u->b ∉ ch:=fun b u e z=>by rw[(hf b z).1] at e;cases e
 have hL:X.env.locals ∉ ch:=fun z=>(hf _ z).2.1 rfl
 refine I.step (g':=s.gens) (d':=s.drawn) (ch:=ch) (fun b hb=>?_) (fun b o _ _ hc e _=>k b o hc e) (fun b o _ _ hc e _=>⟨o.slots,k b o hc e⟩) (fun _ _ _ _ n=>n)
  (fun b o hc e=>⟨o,k b o hc e⟩) (fun _ _ e=>e) (fun _ _ _ e=>e) (fun b ps e=>⟨#[],by rw[e];simp⟩) (fun m hm=>?_) (fun b u e=>?_) I.bare
 ·obtain⟨f0,f1,f2,f3,f4,f5⟩:=hf b hb
  exact⟨f3,f1,f4,f5⟩
 ·obtain⟨o,es,ep,ho,r⟩:=hm
  exact⟨o,es,ep,k _ o hL ho,r⟩
 ·refine (I.hok b u e).stay (fun c v hc q=>k c v ?_ q) (fun _ q=>q) fun _ _ q=>q
  rcases hc with z | z
  ·rw[z];exact nit b u e
  ·exact nit c _ z
theorem lP{X:Cx}{J0:List (Addr × Obj)}{σ:St}{H:Hp}{s:Shared}{T:Addr}{o:HO}(I:Inv X J0 σ H s)(hf:ce X J0 H T)(new:ObjOk X.prog X.w (upd H T o) s.heap T o):Inv X J0 σ (upd H T o) s:=by
 obtain⟨f0,f1,f2,f3,f4,f5⟩:=hf
 have key:=I.step (h':=s.heap) (H':=upd H T o) (g':=s.gens) (d':=s.drawn) (t':=s.toks) (ch:=[T]) (fun b hb=>?_) (fun b o _ _ hc e _=>e) (fun b o _ _ hc e _=>⟨o.slots,e⟩) (fun b o' hc e n=>by rw[aF (by simpa using hc)];exact n)
  (fun b o hc e=>⟨o,e⟩) (fun b xs e=>by rw[aF (bM e f0)];exact e) (fun b o u e=>by rw[aF (bM e f0)];exact e) (fun b ps e=>⟨#[],by rw[aF (bM e f0),e];simp⟩) (fun m hm=>hm) (fun b u e=>?_) I.bare
 ·exact key
 ·have e:b=T:=by simpa using hb
  subst e
  exact⟨f3,f1,f4,f5⟩
 ·by_cases hb:b=T
  ·subst hb;rw[br] at e;cases e;exact new
  ·rw[aF hb] at e
   exact (I.hok b u e).stay (fun c v _ q=>q) (fun c q=>by rw[aF (bM q f0)];exact q) fun c xs q=>by rw[aF (bM q f0)];exact q
def Itv(K:W.Frag)(a:Addr)(n:Nat):It :=
 ⟨fun i H=>∃ xs x,SqL K H a xs/\xs.length=n/\i < n/\xs[n - 1 - i]?=some x,fun i H x H'=>H'=H/\∀ xs,SqL K H a xs->xs[n - 1 - i]?=some x,fun i H=>i=n⟩
theorem BC{P:Program}{w:World}{K:W.Frag}{tg:Expr}(a it:Addr)(n:Nat):Turn P w K tg (Itv K a n) [it] it (fun i h=>h.IsRevIter it a ((n:Int) - 1 - (i:Nat))) where
 mem:=by simp
 obj:=fun i h st b hb=>by
  have e:b=it:=by simpa using hb
  subst e
  obtain⟨o,e,c,d⟩:=st
  exact⟨o,e,fun v z=>by rw[d] at z;cases z⟩
 keep:=fun i h h' st k=>st.at fun o e=>k it (by simp) o e
 item:=by
  intro X hP hw hK hc i J0 s σ H E I hf st hg
  subst hP hw hK
  obtain⟨xs,x,hq,hn,hi,hx⟩:=hg
  obtain⟨its,rv,p,hz⟩:=I.list hq
  obtain⟨u,hu,ru⟩:=rv.get hx
  obtain⟨f0,f1,f2,f3,f4,f5⟩:=hf it (by simp)
  have st':s.heap.IsRevIter it a ((n - 1 - i:Nat):Int):=by
   have e:((n - 1 - i:Nat):Int)=(n:Int) - 1 - (i:Nat):=by omega
   rw[e];exact st
  refine wpAny_pyNext_rev_item st' p.isList (x:=u) (by simpa using hu) fun h' st2 sb=>?_
  have I1:Inv X J0 σ H { s with heap:=h' }:=I.turned (t':=s.toks) (fun b o hb e=>(sb.2 b hb).trans e) f0 f1 f3 f4 f5
  obtain⟨o,e,c,d⟩:=id st2
  refine⟨u,rfl,kZ (s:={ s with heap:=h' }) e c d (by decide) ⟨x,H,I1,ru,⟨rfl,fun ys hy=>by rw[I.list_inj hy hq];exact hx⟩,?_,fun b hb=>(hf b hb).1⟩⟩
  have e:(n:Int) - 1 - ((i+1:Nat):Int)=((n - 1 - i:Nat):Int) - 1:=by omega
  show h'.IsRevIter it a ((n:Int) - 1 - ((i+1:Nat):Int))
  rw[e];exact st2
 done:=by
  intro X hP hw hK hc i J0 s σ H E I hf st hg
  subst hP hw hK
  have hg:i=n:=hg
  subst hg
  obtain⟨f0,f1,f2,f3,f4,f5⟩:=hf it (by simp)
  have st':s.heap.IsRevIter it a (-1):=by
   have e:(-1:Int)=(i:Int) - 1 - (i:Nat):=by omega
   rw[e];exact st
  exact wpAny_pyNext_rev_end (I.ok.hd hc) st' fun h' eb=>⟨rfl,I.turned (t':=s.toks) (fun b o hb e=>eb b o hb e) f0 f1 f3 f4 f5⟩
 self:=fun _ _ _ _ _ st h=>wpAny_pyIter_revIter st h
def Ite(K:W.Frag)(a:Addr):It :=
 ⟨fun i H=>∃ xs x,SqL K H a xs/\xs[i]?=some x,fun i H x H'=>∃ T y,H T=none/\x=.ref T/\H'=upd H T (.tup [.int (i:Nat),y])/\∀ xs,SqL K H a xs->xs[i]?=some y,fun i H=>∃ xs,SqL K H a xs/\xs.length<=i⟩
theorem lQ{X:Cx}{J0:List (Addr × Obj)}{σ:St}{H:Hp}{s:Shared}(I:Inv X J0 σ H s):ce X J0 H s.heap.objs.size:=I.fpOk (Nat.le_refl _) (I.hok.fresh (Nat.le_refl _))
theorem BD{P:Program}{w:World}{K:W.Frag}{elts:List Expr}{ek:Nat}{ep:Pos}(a e it:Addr)(hei:e ≠ it):Turn P w K (.Tuple elts ek ep) (Ite K a) [e,it] e (fun i h=>(∃ old,IsEnum h e it (i:Nat) old)/\h.IsListIter it a i) where
 mem:=by simp
 obj := fun i h st b hb=>by
  obtain⟨⟨old,he⟩,hit⟩:=st
  have e:b=e\/b=it:=by simpa using hb
  rcases e with rfl | rfl
  ·exact⟨_,he,fun v z=>by have z':Data.fields _=Data.cell v:=z;cases z'⟩
  ·obtain⟨o,e,c,d⟩:=hit
   exact⟨o,e,fun v z=>by rw[d] at z;cases z⟩
 keep:=fun i h h' st k=>⟨let ⟨old,he⟩:=st.1;⟨old,k e (by simp) _ he⟩,st.2.at fun o q=>k it (by simp) o q⟩
 item:=by
  intro X hP hw hK hc i J0 s σ H E I hf st hg
  subst hP hw hK
  obtain⟨⟨old,he⟩,hit⟩:=st
  obtain⟨xs,x,hq,hx⟩:=hg
  obtain⟨its,rv,p,hz⟩:=I.list hq
  obtain⟨u,hu,ru⟩:=rv.get hx
  have fT:=lQ I
  have hsz:∀ b ∈ [e,it],b < s.heap.objs.size:=fun b hb=>by
   have:b=e\/b=it:=by simpa using hb
   rcases this with rfl | rfl
   ·exact Heap.lt_size he
   ·obtain⟨o,q,_⟩:=hit;exact Heap.lt_size q
  refine wpAny_pyNext_enum_item he hit p.isList (x:=u) (by simpa using hu) hei fun h' ho hit' hT hs' hk=>?_
  refine⟨_,rfl,wpAny_letOwnedTupleGo_enum (s:={ s with heap:=h',toks:=s.toks+1 }) ho fun h2 he2 hs2=>?_⟩
  have hT2:h2.get? s.heap.objs.size=some { cls:=.type "tuple",data:=.seq #[.int i s.toks,u] }:=(hs2.2 _ (Nat.ne_of_gt (hsz e (by simp)))).trans hT
  have I1:Inv X J0 σ H { s with heap:=h2,toks:=s.toks+1 }:=o8 I (fun b o hb q=>(hs2.2 b fun z=>hb (by simp[z])).trans (hk b o (fun z=>hb (by simp[z])) (fun z=>hb (by simp[z])) q)) hf
  have I2:=lP (o:=.tup [.int (i:Nat),x]) I1 fT ⟨show 2<=sizeLine by decide,[.int i s.toks,u],.cons ⟨_,rfl⟩ (.cons ru .nil),⟨_,hT2,rfl,_,rfl⟩⟩
  refine⟨.ref s.heap.objs.size,_,I2,rfl,⟨s.heap.objs.size,x,fT.1,rfl,rfl,fun ys hy=>by rw[I.list_inj hy hq];exact hx⟩,⟨⟨u,?_⟩,?_⟩,fun b hb=>?_⟩
  ·have q:((i+1:Nat):Int)=(i:Int)+1:=by omega
   show IsEnum h2 e it ((i+1:Nat):Int) u
   rw[q];exact he2
  ·exact hit'.at fun o q=>(hs2.2 it hei.symm).trans q
  ·rw[aF (Nat.ne_of_lt (hsz b hb))];exact (hf b hb).1
 done:=by
  intro X hP hw hK hc i J0 s σ H E I hf st hg
  subst hP hw hK
  obtain⟨⟨old,he⟩,hit⟩:=st
  obtain⟨xs,hq,hx⟩:=hg
  obtain⟨its,rv,p,hz⟩:=I.list hq
  have hl:=rv.length
  obtain⟨f0,f1,f2,f3,f4,f5⟩:=hf it (by simp)
  exact wpAny_pyNext_enum_end (I.ok.hd hc) he hit p.isList (Array.getElem?_eq_none (by simp;omega)) fun h' eb=>⟨rfl,I.turned (t':=s.toks) (fun b o hb e=>eb b o hb e) f0 f1 f3 f4 f5⟩
 self:=fun _ _ _ _ _ st h=>let ⟨⟨_,he⟩,_⟩:=st;wpAny_pyIter_enum he h
def Itz(K:W.Frag)(l1 l2:Addr):It :=
 ⟨fun i H=>∃ xs ys x y,SqL K H l1 xs/\SqL K H l2 ys/\xs[i]?=some x/\ys[i]?=some y,
  fun i H v H'=>∃ T x y,H T=none/\v=.ref T/\H'=upd H T (.tup [x,y])/\∀ xs ys,SqL K H l1 xs->SqL K H l2 ys->xs[i]?=some x/\ys[i]?=some y,
  fun i H=>∃ xs ys,SqL K H l1 xs/\SqL K H l2 ys/\(xs.length<=i\/ys.length<=i)⟩
theorem BE{P:Program}{w:World}{K:W.Frag}{elts:List Expr}{ek:Nat}{ep:Pos}(l1 l2 z TI TO i1 i2:Addr)(D:ZipApart z TI TO i1 i2 l1 l2):
  Turn P w K (.Tuple elts ek ep) (Itz K l1 l2) [z,TI,TO,i1,i2] z (fun i h=>IsZip h z TI TO .none/\IsPair h TI (.ref i1) (.ref i2)/\(∃ a b,IsPair h TO a b)/\h.IsListIter i1 l1 i/\h.IsListIter i2 l2 i) where
 mem:=by simp
 obj := fun i h st b hb=>by
  obtain⟨hz,hTI,⟨a,b',hTO⟩,h1,h2⟩:=st
  have e:b=z\/b=TI\/b=TO\/b=i1\/b=i2:=by simpa using hb
  rcases e with rfl | rfl | rfl | rfl | rfl
  ·exact⟨_,hz,fun v z=>by have z':Data.fields _=Data.cell v:=z;cases z'⟩
  ·exact⟨_,hTI,fun v z=>by have z':Data.seq _ _=Data.cell v:=z;cases z'⟩
  ·exact⟨_,hTO,fun v z=>by have z':Data.seq _ _=Data.cell v:=z;cases z'⟩
  ·obtain⟨o,e,c,d⟩:=h1
   exact⟨o,e,fun v z=>by rw[d] at z;cases z⟩
  ·obtain⟨o,e,c,d⟩:=h2
   exact⟨o,e,fun v z=>by rw[d] at z;cases z⟩
 keep:=fun i h h' st k=>by
  obtain⟨hz,hTI,⟨a,b',hTO⟩,h1,h2⟩:=st
  exact⟨k z (by simp) _ hz,k TI (by simp) _ hTI,⟨a,b',k TO (by simp) _ hTO⟩,h1.at fun o q=>k i1 (by simp) o q,h2.at fun o q=>k i2 (by simp) o q⟩
 item:=by
  intro X hP hw hK hc i J0 s σ H E I hf st hg
  subst hP hw hK
  obtain⟨hz,hTI,⟨a,b',hTO⟩,h1,h2⟩:=st
  obtain⟨xs,ys,x,y,hq1,hq2,hx,hy⟩:=hg
  obtain⟨its1,rv1,p1,hz1⟩:=I.list hq1
  obtain⟨its2,rv2,p2,hz2⟩:=I.list hq2
  obtain⟨u,hu,ru⟩:=rv1.get hx
  obtain⟨v,hv,rv⟩:=rv2.get hy
  have fT:=lQ I
  have hsz:∀ b ∈ [z,TI,TO,i1,i2],b < s.heap.objs.size:=fun b hb=>by
   have e:b=z\/b=TI\/b=TO\/b=i1\/b=i2:=by simpa using hb
   rcases e with rfl | rfl | rfl | rfl | rfl
   ·exact Heap.lt_size hz
   ·exact Heap.lt_size hTI
   ·exact Heap.lt_size hTO
   ·obtain⟨o,q,_⟩:=h1;exact Heap.lt_size q
   ·obtain⟨o,q,_⟩:=h2;exact Heap.lt_size q
  refine wpAny_pyNext_zip_item D hz hTI hTO h1 h2 p1.isList p2.isList (x:=u) (y:=v) (by simpa using hu) (by simpa using hv) fun h' hz' hTO' h1' h2' hT hs' hk=>?_
  refine⟨_,rfl,wpAny_letOwnedTupleGo_zip (s:={ s with heap:=h' }) hz' fun h3 hz3 hs3=>?_⟩
  have hT3:IsPair h3 s.heap.objs.size u v:=(hs3.2 _ (Nat.ne_of_gt (hsz z (by simp)))).trans hT
  have I1:Inv X J0 σ H { s with heap:=h3,toks:=s.toks }:=o8 I (fun b o hb q=>(hs3.2 b fun z=>hb (by simp[z])).trans (hk b o (fun z=>hb (by simp[z])) (fun z=>hb (by simp[z])) (fun z=>hb (by simp[z])) (fun z=>hb (by simp[z])) q)) hf
  have I2:=lP (o:=.tup [x,y]) I1 fT ⟨show 2<=sizeLine by decide,[u,v],.cons ru (.cons rv .nil),⟨_,hT3,rfl,_,rfl⟩⟩
  refine⟨.ref s.heap.objs.size,_,I2,rfl,⟨s.heap.objs.size,x,y,fT.1,rfl,rfl,fun as bs ha hb=>⟨by rw[I.list_inj ha hq1];exact hx,by rw[I.list_inj hb hq2];exact hy⟩⟩,⟨hz3,?_,⟨u,v,?_⟩,?_,?_⟩,fun b hb=>?_⟩
  ·exact (hs3.2 TI D.TIz).trans (hk TI _ D.TIz D.TITO D.TIi1 D.TIi2 hTI)
  ·exact (hs3.2 TO D.TOz).trans hTO'
  ·exact h1'.at fun o q=>(hs3.2 i1 D.i1z).trans q
  ·exact h2'.at fun o q=>(hs3.2 i2 D.i2z).trans q
  ·rw[aF (Nat.ne_of_lt (hsz b hb))];exact (hf b hb).1
 done:=by
  intro X hP hw hK hc i J0 s σ H E I hf st hg
  subst hP hw hK
  obtain⟨hz,hTI,⟨a,b',hTO⟩,h1,h2⟩:=st
  obtain⟨xs,ys,hq1,hq2,hx⟩:=hg
  obtain⟨its1,rv1,p1,hz1⟩:=I.list hq1
  obtain⟨its2,rv2,p2,hz2⟩:=I.list hq2
  have l1:=rv1.length
  have l2:=rv2.length
  refine wpAny_pyNext_zip_end (I.ok.hd hc) D hz hTI hTO h1 h2 p1.isList p2.isList (hx.imp (fun q=>Array.getElem?_eq_none (by simp;omega)) fun q=>Array.getElem?_eq_none (by simp;omega)) fun h' hk=>⟨rfl,?_⟩
  exact o8 (t':=s.toks) I (fun b o hb q=>hk b o (fun z=>hb (by simp[z])) (fun z=>hb (by simp[z])) (fun z=>hb (by simp[z])) (fun z=>hb (by simp[z])) q) hf
 self:=fun _ _ _ _ _ st h=>wpAny_pyIter_zip st.1 h
section
variable {X:Cx}{tg a b:Expr}{elts:List Expr}{ek:Nat}{ep pn pr:Pos}{ta:TA}
def BF(K:W.Frag)(ta:TA):TI:=fun σ H R=>ta σ H fun vs H1=>∃ p xs,vs=[.ref p]/\SqL K H1 p xs/\R (Itv K p xs.length) H1
theorem BG(hg:Gl X "reversed")(hm:X.mg "reversed" = none)(ha:PA X [a] ta)(hs:starEach [a] X.env=[(false,eval a X.env)]:=by rfl):PI X tg (.Call (.Name "reversed" pn) [a] [] pr) (BF X.K ta):=by
 intro J0 s σ H R I h
 refine Call_ (dF I hg hm boot_reversed (PyProof.Rows.callWith_type1 (thn (ha pr J0 s σ H _ I h) fun us s1 ⟨vs,H1,I1,r1,q1⟩=>?_) hs rfl))
 obtain⟨p,xs,rfl,hq,q⟩:=q1
 obtain⟨u,rfl,ru⟩:=eF r1
 cases ru
 obtain⟨its,rv,pl,hz⟩:=I1.list hq
 have hl:=rv.length
 refine call_reversed_list pl.isList ?_
 have e0:(s1.heap.push (revObj p ((its.toArray.size:Int) - 1))).get? s1.heap.objs.size=some (revObj p ((its.toArray.size:Int) - 1)):=Heap.get?_push_size _ rfl
 refine wpAny_pyIter_revIter ⟨_,e0,rfl,rfl⟩ ?_
 refine⟨s1.heap.objs.size,[s1.heap.objs.size],_,_,H1,rfl,I1.kept (t':=s1.toks) fun b o e=>Heap.get?_push_of_some _ e,BC p _ xs.length,⟨_,e0,rfl,?_⟩,fun b hb=>?_,q⟩
 ·rw[hl];simp[revObj]
 have e:b=s1.heap.objs.size:=by simpa using hb
 subst e
 exact I1.fpOk (Nat.le_refl _) (I1.hok.fresh (Nat.le_refl _))
def BH(K:W.Frag)(ta:TA):TI:=fun σ H R=>ta σ H fun vs H1=>∃ p xs,vs=[.ref p]/\SqL K H1 p xs/\R (Ite K p) H1
theorem BI(hg:Gl X "enumerate")(hm:X.mg "enumerate" = none)(ha:PA X [a] ta)(hs:starEach [a] X.env=[(false,eval a X.env)]:=by rfl):PI X (.Tuple elts ek ep) (.Call (.Name "enumerate" pn) [a] [] pr) (BH X.K ta):=by
 intro J0 s σ H R I h
 refine Call_ (dF I hg hm boot_enumerate (PyProof.Rows.callWith_type1 (thn (ha pr J0 s σ H _ I h) fun us s1 ⟨vs,H1,I1,r1,q1⟩=>?_) hs rfl))
 obtain⟨p,xs,rfl,hq,q⟩:=q1
 obtain⟨u,rfl,ru⟩:=eF r1
 cases ru
 obtain⟨its,rv,pl,hz⟩:=I1.list hq
 refine call_enumerate_list pl.isList fun h' he hit hsz hk=>?_
 refine wpAny_pyIter_enum he ?_
 refine⟨s1.heap.objs.size+1,[s1.heap.objs.size+1,s1.heap.objs.size],_,_,H1,rfl,I1.kept (t':=s1.toks) fun b o e=>hk b o e,BD p _ _ (by simp),⟨⟨_,he⟩,hit⟩,fun b hb=>?_,q⟩
 have e:b=s1.heap.objs.size+1\/b=s1.heap.objs.size:=by simpa using hb
 rcases e with rfl | rfl
 ·exact I1.fpOk (by omega) (I1.hok.fresh (by omega))
 ·exact I1.fpOk (Nat.le_refl _) (I1.hok.fresh (Nat.le_refl _))
def BJ(K:W.Frag)(ta:TA):TI:=fun σ H R=>ta σ H fun vs H1=>∃ p p' xs ys,vs=[.ref p,.ref p']/\SqL K H1 p xs/\SqL K H1 p' ys/\R (Itz K p p') H1
theorem BK(hg:Gl X "zip")(hm:X.mg "zip" = none)(ha:PA X [a,b] ta)(hs:starEach [a,b] X.env=[(false,eval a X.env),(false,eval b X.env)]:=by rfl)(hs2:starEach [b] X.env=[(false,eval b X.env)]:=by rfl):
  PI X (.Tuple elts ek ep) (.Call (.Name "zip" pn) [a,b] [] pr) (BJ X.K ta):=by
 intro J0 s σ H R I h
 refine Call_ (dF I hg hm boot_zip (PyProof.Rows.callWith_type1 (thn (ha pr J0 s σ H _ I h) fun us s1 ⟨vs,H1,I1,r1,q1⟩=>?_) (by rw[hs,hs2]) (by rw[hs2];rfl)))
 obtain⟨p,p',xs,ys,rfl,hq,hq',q⟩:=q1
 cases r1 with
 | cons ru rr =>
   cases rr with
   | cons rv' rr =>
     cases rr
     cases ru
     cases rv'
     obtain⟨its,rv,pl,hz⟩:=I1.list hq
     obtain⟨its',rv',pl',hz'⟩:=I1.list hq'
     have lt1:p < s1.heap.objs.size:=by obtain⟨o,e,_⟩:=pl.isList;exact Heap.lt_size e
     have lt2:p' < s1.heap.objs.size:=by obtain⟨o,e,_⟩:=pl'.isList;exact Heap.lt_size e
     refine call_zip_2 pl.isList pl'.isList fun h' hz hTI hTO hit1 hit2 hsz hk=>?_
     refine wpAny_pyIter_zip hz ?_
     refine⟨s1.heap.objs.size+4,[s1.heap.objs.size+4,s1.heap.objs.size+2,s1.heap.objs.size+3,s1.heap.objs.size,s1.heap.objs.size+1],_,_,H1,rfl,I1.kept (t':=s1.toks) fun b o e=>hk b o e,
      BE p p' _ _ _ _ _ (zipApart_new lt1 lt2),⟨hz,hTI,⟨_,_,hTO⟩,hit1,hit2⟩,fun b hb=>?_,q⟩
     have e:b=s1.heap.objs.size+4\/b=s1.heap.objs.size+2\/b=s1.heap.objs.size+3\/b=s1.heap.objs.size\/b=s1.heap.objs.size+1:=by simpa using hb
     rcases e with rfl | rfl | rfl | rfl | rfl <;> exact I1.fpOk (by omega) (I1.hok.fresh (by omega))
end
end VL
namespace VL
open PySem PySem.Spec PyProof.Rows L2
theorem jR{d:D}{ds:List D}(h:ck d=some ds):cX d=false/\items d=some ds:=by
 unfold ck at h
 cases ht:cX d with
 | true=>rw[if_pos ht] at h;cases h
 | false=>rw[if_neg (by rw[ht];exact Bool.false_ne_true)] at h;exact⟨rfl,h⟩
theorem BL{ds:List D}{i:Nat}{d:D}(h:(fW ds)[i]?=some d):∃ e,ds[i]?=some e/\d=.tup [.int (i:Nat),e]:=by
 unfold fW at h
 rw[List.getElem?_map,List.getElem?_zipIdx] at h
 cases e:ds[i]? with
 | none=>rw[e] at h;cases h
 | some x=>rw[e] at h;simp at h;exact⟨x,rfl,h.symm⟩
theorem BM{ds es:List D}{i:Nat}{d:D}(h:(fX ds es)[i]?=some d):∃ a b,ds[i]?=some a/\es[i]?=some b/\d=.tup [a,b]:=by
 unfold fX at h
 rw[List.getElem?_map] at h
 cases e:(ds.zip es)[i]? with
 | none=>rw[e] at h;cases h
 | some p =>
   rw[e] at h
   obtain⟨h1,h2⟩:=List.getElem?_zip_eq_some.mp e
   simp at h
   exact⟨p.1,p.2,h1,h2,h.symm⟩
theorem BN(ds:List D):(fW ds).length=ds.length:=by simp[fW]
theorem BO(ds es:List D):(fX ds es).length=min ds.length es.length:=by simp[fX]
section
variable {X:Cx}{a b:Expr}{elts:List Expr}{ek:Nat}{ep pn pr:Pos}{fa fb:FE}{ea eb:List Es}
theorem BP(mr:X.mg "enumerate" = none)(h:VB X a fa ea)(hg:Gl X "enumerate")(hst:starEach [a] X.env=[(false,eval a X.env)]):VI X (.Tuple elts ek ep) (.Call (.Name "enumerate" pn) [a] [] pr) (jQ fa) ea :=
 lG (BI hg mr (cN h dG hst) hst) fun σ H R ⟨ρ,ds,hE,hf,hR⟩=>by
  obtain⟨d,h1,hf⟩:=bind_some hf
  obtain⟨es,h2,hf⟩:=bind_some hf
  cases hf
  obtain⟨ht,hi⟩:=jR h2
  refine⟨ρ,d,hE,h1,fun v H1 p=>?_⟩
  obtain⟨q,xs,rfl,hq,hx,hA⟩:=fm p.rep hi ht
  have len:=hx.length
  refine⟨q,xs,rfl,hq,hR _ _ ⟨p.same,fun i d' H' hd e=>?_,fun H' e=>⟨xs,e.seq hq,by rw[BN];omega⟩⟩⟩
  obtain⟨e',hd2,rfl⟩:=BL hd
  obtain⟨x,h3,h4⟩:=hx.get hd2
  refine⟨⟨xs,x,e.seq hq,h3⟩,fun y H'' ⟨T,y',hT,ey,eH,hy⟩=>?_⟩
  subst ey eH
  have e2:=hy xs (e.seq hq)
  rw[h3] at e2;cases e2
  have sn:=bG hT (.tup [.int (i:Nat),x])
  refine⟨sn,.tup br (.cons (.int _) (.cons (aH (e.trans sn) h4) .nil)),fun A hD hz=>?_⟩
  obtain⟨x',h5,h6⟩:=(hA A (p.av A hD hz)).get hd2
  rw[h3] at h5;cases h5
  refine .tup ?_ (.cons (.int _) (.cons (aH (bY (e.trans sn)) h6) .nil))
  rw[bC ((hD.mono (p.same.trans e)).not_new hT)]
  exact br
theorem BQ(mr:X.mg "zip" = none)(ha:VB X a fa ea)(hb:VB X b fb eb)(hg:Gl X "zip")(hst:starEach [a,b] X.env=[(false,eval a X.env),(false,eval b X.env)])(hst2:starEach [b] X.env=[(false,eval b X.env)]):
  VI X (.Tuple elts ek ep) (.Call (.Name "zip" pn) [a,b] [] pr) (iV fa fb) (ea++eb) :=
 lG (BK hg mr (cN ha (cN hb dG hst2) (by rw[hst,hst2])) hst hst2) fun σ H R ⟨ρ,ds,hE,hf,hR⟩=>by
  obtain⟨d,h1,hf⟩:=bind_some hf
  obtain⟨d2,h1',hf⟩:=bind_some hf
  obtain⟨es,h2,hf⟩:=bind_some hf
  obtain⟨es2,h2',hf⟩:=bind_some hf
  cases hf
  obtain⟨ht,hi⟩:=jR h2
  obtain⟨ht',hi'⟩:=jR h2'
  refine⟨ρ,d,hE,h1,fun v H1 p1=>⟨ρ,d2,hE.mono p1.same,h1',fun v2 H2 p2=>?_⟩⟩
  have p:=p1.up p2.same
  have p':=p2.down p1.same
  obtain⟨q,xs,rfl,hq,hx,hA⟩:=fm p.rep hi ht
  obtain⟨q',ys,rfl,hq',hy,hA'⟩:=fm p'.rep hi' ht'
  have len:=hx.length
  have len':=hy.length
  refine⟨q,q',xs,ys,rfl,hq,hq',hR _ _ ⟨p.same,fun i d' H' hd e=>?_,fun H' e=>⟨xs,ys,e.seq hq,e.seq hq',by rw[BO];omega⟩⟩⟩
  obtain⟨e1,e2,hd1,hd2,rfl⟩:=BM hd
  obtain⟨x,h3,h4⟩:=hx.get hd1
  obtain⟨y,h3',h4'⟩:=hy.get hd2
  refine⟨⟨xs,ys,x,y,e.seq hq,e.seq hq',h3,h3'⟩,fun w H'' ⟨T,x',y',hT,ey,eH,hxy⟩=>?_⟩
  subst ey eH
  obtain⟨g1,g2⟩:=hxy xs ys (e.seq hq) (e.seq hq')
  rw[h3] at g1;cases g1
  rw[h3'] at g2;cases g2
  have sn:=bG hT (.tup [x,y])
  refine⟨sn,.tup br (.cons (aH (e.trans sn) h4) (.cons (aH (e.trans sn) h4') .nil)),fun A hD hz=>?_⟩
  obtain⟨x'',h5,h6⟩:=(hA A (p.av A hD fun z hz'=>hz z (List.mem_append_left _ hz'))).get hd1
  rw[h3] at h5;cases h5
  obtain⟨y'',h5',h6'⟩:=(hA' A (p'.av A hD fun z hz'=>hz z (List.mem_append_right _ hz'))).get hd2
  rw[h3'] at h5';cases h5'
  refine .tup ?_ (.cons (aH (bY (e.trans sn)) h6) (.cons (aH (bY (e.trans sn)) h6') .nil))
  rw[bC ((hD.mono (p.same.trans e)).not_new hT)]
  exact br
end
end VL
namespace VL
open PySem PySem.Spec PyProof.Rows L2
theorem BS{K:W.Frag}{a:Addr}{xs:List V}{g:TG}{tb:TS}{D:Ends}{σ:St}{H:Hp}(Pv:Nat->St->Hp->Prop)(h0:Pv 0 σ H)(hl:∀ i σ H,i<=xs.length->Pv i σ H->SqL K H a xs)(hs:∀ i x σ H,xs.reverse[i]?=some x->Pv i σ H->g x σ H fun σ2 H2=>tb { D with nx:=Pv (i+1),ct:=Pv (i+1),bk:=D.nx } σ2 H2)(hd:∀ σ H,Pv xs.length σ H->D.nx σ H):
  ∃ W:Nat->Nat->St->Hp->Prop,(∃ m,W 0 m σ H)/\∀ i m σ H,W i m σ H ->
    ((Itv K a xs.length).stop i H/\D.nx σ H)\/((Itv K a xs.length).go i H/\∃ N:St->Hp->Prop,(∀ σ' H',N σ' H'->∃ m',m' < m/\W (i+1) m' σ' H')/\∀ x H',(Itv K a xs.length).yld i H x H'->g x σ H' fun σ2 H2=>tb { D with nx:=N,ct:=N,bk:=D.nx } σ2 H2):=by
 refine⟨fun i m σ H=>m=xs.length - i/\i<=xs.length/\Pv i σ H,⟨xs.length,by simp,Nat.zero_le _,h0⟩,?_⟩
 rintro i m σ H ⟨rfl,hi,p⟩
 have q:=hl i σ H hi p
 by_cases hlt:i < xs.length
 ·have hlt':xs.length - 1 - i < xs.length:=by omega
  refine .inr ⟨⟨xs,xs[xs.length - 1 - i],q,rfl,hlt,by simp[hlt']⟩,Pv (i+1),fun σ' H' p'=>⟨xs.length - (i+1),by omega,rfl,hlt,p'⟩,fun x H' y=>?_⟩
  obtain⟨e,y⟩:=y
  subst e
  exact hs i x σ _ (by rw[List.getElem?_reverse hlt];exact y xs q) p
 ·have e:i=xs.length:=by omega
  subst e
  exact .inl ⟨rfl,hd σ H p⟩
section
variable {X:Cx}{F:Fr0}{O O2 OL:List Nat}{fr:Bool}{a:Expr}{body:List Stmt}{fa:FE}{ea:List Es}{tb:FS}{p2 pos pn pr:Pos}
theorem BT(t:Nat){x:Str}(Ol:List Nat)(hN:X.N.Nodup)(hc:X.calm=true)(mr:X.mg "reversed" = none)(hi:VE X a fa ea)(hb:VSs X F Ol body tb O2 Ol fr)(h1:∀ i ∈ Ol,i ∈ cC O ea)(h2:∀ i ∈ Ol,i ∈ O2)(h3:t ∉ Ol)(hp:PassesOwn (model X.prog X.w) X.A X.env X.xe)(hg:Gl X "reversed")(hst:starEach [a] X.env=[(false,eval a X.env)])(hxN:X.N[t]?=some x)(hx:Loc X.env.scope x)(hfn:X.fn x=true\/X.env.scope.names.lookup x=some .local)(hs:∀ x,foldedSetIterable (.Call (.Name "reversed" pn) [a] [] pr) X.env x=pure x):VS X F O (.For (.Name x p2) (.Call (.Name "reversed" pn) [a] [] pr) body [] pos) (jO t fa tb) Ol OL fr:=fun J6=>by
 have hb':PSs X body (fun De σ H=>∃ p:Hd,ts X.K F (p::J6) Ol Ol Ol fr tb De σ H):=fun J0 s σ H De I ⟨p,h⟩=>iQ hb h2 (p::J6) J0 s σ H De I h
 refine bu (gu hp hc (BG hg mr (cN hi dG hst) hst) (bN hN hxN hx hfn) hb' hs) fun De σ H h=>?_
 obtain⟨ρ,o,hE,hf,hQ⟩:=h
 obtain⟨d,hd,hf⟩:=bind_some hf
 obtain⟨ds,hsq,hf⟩:=bind_some hf
 obtain⟨ht,hds⟩:=jR hsq
 refine⟨ρ,d,hE.envR,hd,fun v H1 p=>?_⟩
 obtain⟨hE1,hr⟩:=hE.eval p
 have hE2:=hE1.weaken h1
 have hr2:∀ A,F.PA A->Rep X.K (ay H1 (Off σ Ol A)) v d:=fun A hA=>aH (cO (fun _ _ q=>q) (lC h1)) (hr A hA)
 obtain⟨q,xs,rfl,hq⟩:=sx hr2 hds ht
 have len:xs.length=ds.length:=(hq _ F.none).2.length
 refine⟨q,xs,rfl,(bc _ _).seq (hq _ F.none).1,?_⟩
 refine BS (K:=X.K) (a:=q) (xs:=xs) (g:=cc t) (tb:=fun De σ H=>∃ p:Hd,ts X.K F (p::J6) Ol Ol Ol fr tb De σ H) (D:=De) (fun i σ' H'=>∃ ρ',EnvO X.K F (hdL X.K q xs ds::J6) Ol σ' ρ' H'/\bD (fun x ρ=>tb (ρ.set t (some x))) (ds.reverse.drop i) ρ'=some o) ⟨ρ,hE2.hold hq,by simpa using hf⟩ ?_ ?_ ?_
 ·rintro i σ' H' _ ⟨ρ',hE',_⟩
  exact (bc _ _).seq (hE'.hld _ List.mem_cons_self _ F.none).1
 ·rintro i y σ' H' hy ⟨ρ',hE',hf'⟩
  obtain⟨dy,h4,_⟩:=(hE'.hld _ List.mem_cons_self _ F.none).2.reverse.getV hy
  have h5:∀ A,F.PA A->Rep X.K (ay H' (Off σ' Ol A)) y dy:=fun A hA=>by
   obtain⟨dy',h6,h7⟩:=(hE'.hld _ List.mem_cons_self A hA).2.reverse.getV hy
   rw[h4] at h6;cases h6;exact h7
  have h4:ds.reverse[i]?=some dy:=h4
  have hi':i < ds.reverse.length:=(List.getElem?_eq_some_iff.mp h4).1
  have ed:ds.reverse.drop i=dy::ds.reverse.drop (i+1):=by
   rw[List.drop_eq_getElem_cons hi']
   have e2:ds.reverse[i]=dy:=(List.getElem?_eq_some_iff.mp h4).2
   rw[e2]
  rw[ed] at hf'
  have hf2:=hf'
  rw[jM] at hf2
  obtain⟨o1,h8,_⟩:=bind_some hf2
  refine⟨hdL X.K q xs ds,ρ'.set t (some dy),o1,hE'.set h3 h5,h8,?_⟩
  exact lF h8 hf' hQ (fun _ _ _ z=>z.unhold) fun σ'' H'' ρ'' hE'' hf''=>⟨ρ'',hE'',hf''⟩
 ·rintro σ' H' ⟨ρ',hE',hf'⟩
  rw[len,<- List.length_reverse,List.drop_length] at hf'
  cases hf'
  exact hQ σ' H' hE'.unhold
end
end VL
namespace VL
open PySem PySem.Spec PyProof.Rows L2
theorem BU:typeLookup (.type "list_reverseiterator") "__len__" = pure none:=by rw[typeLookup_type,builtinLookup_eq_fast];kernel_rfl
theorem BV:typeLookup (.type "list_reverseiterator") "__length_hint__" = pure (some (.builtin "list_reverseiterator.__length_hint__")):=by rw[typeLookup_type,builtinLookup_eq_fast];kernel_rfl
section
variable {prog:Program}{w:World}{A:Around}{s:Shared}{R:Result->Shared->Prop}
variable {I:Addr}{fp wr:List Addr}{G:Array GenState->Array GenState->Prop}{n:Nat}{P:Nat->Value->Prop}{St:Nat->Shared->Prop}
theorem BW(W:WalksS prog w A.in1 I fp wr G n P St)(hT:∀ i s,St i s->s.TypeIs (.ref I) "list_reverseiterator")(S:Addr)(res:Value)(c₀:Nat)(hst:St 0 s)(hSf:S ∉ fp)(hI:I ∈ fp)(hS:s.heap.get? S=some { cls:=.type "list",data:=.seq #[] c₀ })(hR:∀ s' acc' c',Moved (S::wr) G s s'->s'.heap.get? S=some { cls:=.type "list",dict:=none,data:=.seq acc' c',slots:=#[] }->ItemsOf P acc' n->R (.ok (.ret res)) s')(hn:n<=sizeLine):
  wpAny (model prog w) A.in1 (Builtin.List.listExtendWith (.ref S) (.ref I) res)
   (fun fin s'=>match fin with | .done f=>R (.ok f) s' | .again c'=>c'.quiet=true/\codeAny (model prog w) A c' R s') (fun e s'=>R (.error e) s') s:=by
 have hSI:S ≠ I:=fun e=>hSf (e ▸ hI)
 unfold Builtin.List.listExtendWith
 refine wpAny_bind (wpAny_typeOf (hT 0 _ hst) ?_)
 have h1:Builtin.List.listSameRef (.ref S) (.ref I)=false:=by simp[Builtin.List.listSameRef,hSI]
 rw[if_neg (by rw[h1];decide)]
 refine wpAny_bind (W.self 0 _ _ _ hst ?_)
 refine wpAny_bind (wpAny_holding ?_)
 unfold Builtin.List.listLengthHint
 refine wpAny_bind (wpAny_specialOf (hT 0 _ hst) BU ?_)
 show wpAny _ A.in1 (specialOf (Value.ref I) (Str.ofString "__length_hint__") >>= _) _ _ _
 refine wpAny_bind (wpAny_specialOf (hT 0 _ hst) BV ?_)
 (generalize hid:("list_reverseiterator.__length_hint__" : String)=id0;(fail_if_success (clear hid id0));wp_delta;rw[show splitId id0=some ("list_reverseiterator","__length_hint__") from by subst hid;decide +kernel];subst hid)
 refine wpAny_bind (wpAny_isInstance (b:=true) (hT 0 _ hst) (by rw[isSubtype_type];kernel_rfl) ?_)
 refine wpAny_pure ?_
 rw[if_neg (by decide)]
 exact wpAny_pure ⟨plainId_quiet F.plain_extend_loop _,codeAny_extend_loopS W hn _ hSf _ n 0 _ _ _ rfl (Nat.zero_le _) hst hS (ItemsOf.nil P) fun s' acc' c' hm hS' hacc=>hR s' acc' c' hm hS' hacc⟩
theorem BX(W:WalksS prog w A.in1 I fp wr G n P St)(hT:∀ i s,St i s->s.TypeIs (.ref I) "list_reverseiterator")(S:Addr)(hst:St 0 s)(hSf:S ∉ fp)(hI:I ∈ fp)(hS:s.heap.get? S=some { cls:=.type "list",data:=.seq #[] })(hR:∀ s' acc' c',Moved (S::wr) G s s'->s'.heap.get? S=some { cls:=.type "list",dict:=none,data:=.seq acc' c',slots:=#[] }->ItemsOf P acc' n->R (.ok (.ret .none)) s')(hn:n<=sizeLine):
  wpAny (model prog w) A.in1 (Builtin.«list.__init__» ⟨[.ref S,.ref I],[]⟩)
   (fun fin s'=>match fin with | .done f=>R (.ok f) s' | .again c'=>c'.quiet=true/\codeAny (model prog w) A c' R s') (fun e s'=>R (.error e) s') s:=by
 show wpAny _ A.in1 (do let old <- Builtin.List.listItems (.ref S);Builtin.List.listUpdate (.ref S) (fun _=>#[]);letGo old.toList.reverse;Builtin.List.listExtendWith (.ref S) (.ref I) .none) _ _ s
 refine wpAny_bind ?_
 unfold Builtin.List.listItems
 refine wpAny_bind (wpAny_seqItems hS rfl (wpAny_pure ?_))
 show wpAny _ A.in1 (updateSeq S (fun _=>#[]) >>= fun _=>letGo (#[]:Array Value).toList.reverse >>= fun _=>Builtin.List.listExtendWith (.ref S) (.ref I) .none) _ _ s
 refine wpAny_bind (wpAny_updateSeq hS rfl ?_)
 have hS₂:=Heap.get?_update_self (Obj.mapSeq (fun _=>(#[]:Array Value))) hS rfl
 have oth:∀ b o,b ≠ S->s.heap.get? b=some o->(s.heap.update S (Obj.mapSeq (fun _=>(#[]:Array Value)))).get? b=some o :=
  fun b o hb e=>(Heap.get?_update_other _ _ (Ne.symm hb)).trans e
 refine wpAny_bind (wpAny_letGo ?_)
 refine BW (hn:=hn) W hT S .none _ (W.frame 0 s _ s.toks hst (Nat.le_refl _) fun b hb o e=>oth b o (fun h=>hSf (h ▸ hb)) e) hSf hI hS₂ fun s' acc' c' hm hS' hacc=>?_
 exact hR s' acc' c' (Moved.trans W.gtrans ((Moved.refl W.grefl).then_heap (Nat.le_refl _) fun b o hb e=>oth b o (fun h=>hb (h ▸ List.mem_cons_self)) e) hm) hS' hacc
end
section
variable {prog:Program}{w:World}{A:Around}{E:Value->Shared->Prop}{s:Shared}
theorem BZ{it l:Addr}{items:Array Value}{Q:Value->Shared->Prop}(hh:A.handled=none)(hit:s.heap.IsRevIter it l ((items.size:Int) - 1))(hl:s.heap.IsList l items)(hne:l ≠ it)(hn:items.size<=sizeLine)(hQ:∀ (h':Heap) (tk:Nat) (acc':Array Value) (c':Nat),(∀ b o,b ≠ it->s.heap.get? b=some o->h'.get? b=some o) ->
   h'.get? s.heap.objs.size=some { cls:=.type "list",dict:=none,data:=.seq acc' c',slots:=#[] }->ItemsOf (fun i v=>items[items.size - 1 - i]?=some v) acc' items.size->Q (.ref s.heap.objs.size) { s with heap:=h',toks:=tk }):
  wpAny (model prog w) A (call (.type "list") [.ref it]) Q E s:=by
 refine callType_codes (Q₁:=fun obj s₁=>obj=.ref s.heap.objs.size/\s₁={ s with heap:=s.heap.push { cls:=.type "list",data:=.seq #[] } }) F.called_list (F.typeCall_list_1 _) F.entry_list_init
  (code_list_new _ ⟨rfl,rfl⟩) fun obj s₁ h₁=>?_
 obtain⟨rfl,rfl⟩:=h₁
 have hS:(s.heap.push { cls:=.type "list",data:=.seq #[] }).get? s.heap.objs.size=some { cls:=.type "list",data:=.seq #[] }:=Heap.get?_push_size _ rfl
 have lt1:it < s.heap.objs.size:=by obtain⟨o,e,_⟩:=hit;exact Heap.lt_size e
 have lt2:l < s.heap.objs.size:=by obtain⟨o,e,_⟩:=hl;exact Heap.lt_size e
 have W:=(Walks.listRev (prog:=prog) (w:=w) (A:=A.in1.in1) hh it l hne items).toS
 refine⟨⟨_,hS,rfl⟩,F.args_list_init_2 _ _,BX (A:=A.in1) W (fun i s st=>let ⟨o,ho,hc,_⟩:=st.2.1;⟨o,ho,hc⟩) _ ?_ ?_ (by simp) hS (fun s' acc' c' hm hS' hacc=>?_) hn⟩
 ·refine⟨Nat.zero_le _,?_,hl.at fun o e=>Heap.get?_push_of_some _ e⟩
  have:(items.size:Int) - 1 - ((0:Nat):Int)=(items.size:Int) - 1:=by omega
  rw[this]
  exact hit.at fun o e=>Heap.get?_push_of_some _ e
 ·intro hm
  have e:s.heap.objs.size=it\/s.heap.objs.size=l:=by simpa using hm
  rcases e with e | e
  ·exact absurd e (Nat.ne_of_gt lt1)
  ·exact absurd e (Nat.ne_of_gt lt2)
 ·rw[Moved.eq_with hm]
  refine⟨rfl,hQ s'.heap s'.toks acc' c' (fun b o hb e=>hm.heap b o (fun hmem=>?_) (Heap.get?_push_of_some _ e)) hS' hacc⟩
  have lt:=Heap.lt_size e
  have e':b=s.heap.objs.size\/b=it:=by simpa using hmem
  rcases e' with e' | e'
  ·exact absurd e' (Nat.ne_of_lt lt)
  ·exact hb e'
end
section
variable {X:Cx}{a b e:Expr}{fa:FE}{ea:List Es}{pos pos2 p p2:Pos}{ta:TA}
def C0(K:W.Frag)(ta:TA):TE:=fun σ H Q=>ta σ H fun vs H1=>∃ q xs,vs=[.ref q]/\SqL K H1 q xs/\∀ l,H1 l=none->Q (.ref l) (upd H1 l (.lst xs.reverse))
theorem C2(hc:X.calm=true)(hgl:Gl X "list")(ml:X.mg "list" = none)(hgr:Gl X "reversed")(mr:X.mg "reversed" = none)(ha:PA X [a] ta)(hs:starEach [a] X.env=[(false,eval a X.env)])(hs2:starEach [.Call (.Name "reversed" p2) [a] [] pos2] X.env=[(false,eval (.Call (.Name "reversed" p2) [a] [] pos2) X.env)]):
  PE X (.Call (.Name "list" p) [.Call (.Name "reversed" p2) [a] [] pos2] [] pos) (C0 X.K ta):=by
 intro J0 s σ H Q I h
 refine Call_ (dF I hgl ml PyProof.Rows.boot_list (PyProof.Rows.callWith_type1 ?_ hs2 rfl))
 rw[hs2]
 show wpAny _ _ (spliced ((false,eval (.Call (.Name "reversed" p2) [a] [] pos2) X.env)::backTo pos [])) _ _ s
 refine Calls.spliced_cons ?_
 refine Call_ (dF I hgr mr boot_reversed (PyProof.Rows.callWith_type1 (thn (ha pos2 J0 s σ H _ I h) fun us s1 ⟨vs,H1,I1,r1,q1⟩=>?_) hs rfl))
 obtain⟨q,xs,rfl,hq,hQ⟩:=q1
 obtain⟨u,rfl,ru⟩:=eF r1
 cases ru
 obtain⟨its,rv,pl,hz⟩:=I1.list hq
 have hl:=rv.length
 have lt:q < s1.heap.objs.size:=by obtain⟨o,e,_⟩:=pl.isList;exact Heap.lt_size e
 refine call_reversed_list pl.isList ?_
 refine Calls.spliced_nil ?_
 have e0:(s1.heap.push (revObj q ((its.toArray.size:Int) - 1))).get? s1.heap.objs.size=some (revObj q ((its.toArray.size:Int) - 1)):=Heap.get?_push_size _ rfl
 have I2:Inv X J0 σ H1 { s1 with heap:=s1.heap.push (revObj q ((its.toArray.size:Int) - 1)),toks:=s1.toks }:=I1.kept fun b o e=>Heap.get?_push_of_some _ e
 have fp:ce X J0 H1 s1.heap.objs.size:=I1.fpOk (Nat.le_refl _) (I1.hok.fresh (Nat.le_refl _))
 refine BZ (it:=s1.heap.objs.size) (l:=q) (items:=its.toArray) (I.ok.hd hc) ⟨_,e0,rfl,rfl⟩ (pl.isList.at fun o e=>Heap.get?_push_of_some _ e) (Nat.ne_of_lt lt) (by simpa using (show its.length<=sizeLine by omega)) fun h' tk acc c hk hS hacc=>?_
 have fS:ce X J0 H1 (s1.heap.push (revObj q ((its.toArray.size:Int) - 1))).objs.size:=lQ I2
 obtain⟨f0,f1,f2,f3,f4,f5⟩:=fp
 have I3:Inv X J0 σ H1 { s1 with heap:=h',toks:=tk }:=I2.turned (t':=tk) (fun b o hb e=>hk b o hb e) f0 f1 f3 f4 f5
 obtain⟨al,hal⟩:=hacc
 have hv:Vals xs.reverse acc.toList:=by
  have:acc.toList=its.reverse:=by
   refine List.ext_getElem (by simp[al]) fun i h1 h2=>?_
   have hi:i < its.toArray.size:=by simpa using h2
   have q1:=hal i (acc.toList[i]) (by simp)
   have hi2:its.length - 1 - i < its.length:=by simp at hi;omega
   rw[List.getElem_reverse]
   simp[hi2] at q1
   exact q1.symm
  rw[this]
  exact rv.reverse
 have I4:=lP (o:=.lst xs.reverse) I3 fS ⟨by rw[List.length_reverse];omega,acc.toList,c,hv,by simpa using hS⟩
 exact⟨.ref _,_,I4,rfl,hQ _ fS.1⟩
theorem C3(ml:X.mg "list" = none)(mr:X.mg "reversed" = none)(ha:VB X a fa ea)(hc:X.calm=true)(hgl:Gl X "list")(hgr:Gl X "reversed")(hs:starEach [a] X.env=[(false,eval a X.env)])(hs2:starEach [.Call (.Name "reversed" p2) [a] [] pos2] X.env=[(false,eval (.Call (.Name "reversed" p2) [a] [] pos2) X.env)]):
  VF X (.Call (.Name "list" p) [.Call (.Name "reversed" p2) [a] [] pos2] [] pos) (e1 jP fa) ea :=
 aM (C2 hc hgl ml hgr mr (cN ha dG hs) hs hs2) fun σ H Q ⟨ρ,d,hE,hf,hQ⟩=>by
  obtain⟨dx,h1,hf⟩:=bind_some hf
  obtain⟨ds,h2,hf⟩:=bind_some hf
  cases hf
  obtain⟨ht,hi⟩:=jR h2
  refine⟨ρ,dx,hE,h1,fun x H1 p1=>?_⟩
  obtain⟨p,xs,rfl,hp,hx,hA⟩:=fm p1.rep hi ht
  exact⟨p,xs,rfl,hp,fun l hl=>hQ _ _ (gy p1.same hl fun A hD hz=>(hA A (p1.av A hD hz)).reverse)⟩
end
def C4(sc:Scope)(names:List (Str × NameKind)):Bool:=names.all fun x=>!(x.2 == .free) || sc.names.lookup x.1 == some .cell || sc.names.lookup x.1 == some .free
theorem cD{X:Cx}{names:List (Str × NameKind)}(sc:Scope)(hs:X.env.scope=sc)(h:C4 sc names=true):∀ x ∈ names,x.2=.free->(X.env.kindOf x.1=some .cell\/X.env.kindOf x.1=some .free):=fun x hx hf=>by
 have:=List.all_eq_true.mp h x hx
 unfold PySem.Env.kindOf
 rw[hs]
 simp only[hf,beq_self_eq_true,Bool.not_true,Bool.false_or,Bool.or_eq_true,beq_iff_eq] at this
 exact this
end VL
namespace VL
open PySem PySem.Spec PyProof.Rows L2
def Itd(lo:Int)(n:Nat):It:=⟨fun i _=>i < n,fun i H x H'=>H'=H/\x=.int (lo - i),fun i _=>n<=i⟩
theorem C5{P:Program}{w:World}{K:W.Frag}{tg:Expr}(it:Addr)(lo:Int)(n:Nat):Turn P w K tg (Itd lo n) [it] it (fun i h=>IsRangeIter h it (lo+(i:Nat) * (-1)) ((n:Int) - (i:Nat)) (-1)) where
 mem:=by simp
 obj := fun i h st b hb=>by
  have e:b=it:=by simpa using hb
  subst e
  exact⟨_,st,fun v z=>by
   have z':Data.fields _=Data.cell v:=z
   cases z'⟩
 keep:=fun i h h' st k=>k it (by simp) _ st
 item:=by
  intro X hP hw hK hc i J0 s σ H E I hf st hg
  subst hP hw hK
  obtain⟨f0,f1,f2,f3,f4,f5⟩:=hf it (by simp)
  have W:=Walks.range (prog:=X.prog) (w:=X.w) (I.ok.hd hc) it lo (-1) n
  refine W.item i s _ _ hg st fun v h' tk hv st' kk=>?_
  obtain⟨t,rfl⟩:=hv
  have I1:Inv X J0 σ H { s with heap:=h',toks:=tk }:=I.turned (fun b o hb e=>kk b o (by simpa using hb) e) f0 f1 f3 f4 f5
  refine⟨_,rfl,kZ (s:={ s with heap:=h',toks:=tk }) (n:="range_iterator") st' rfl rfl (by decide) ⟨.int (lo - i),H,I1,⟨t,?_⟩,⟨rfl,rfl⟩,st',fun b hb=>(hf b hb).1⟩⟩
  congr 1;omega
 done:=by
  intro X hP hw hK hc i J0 s σ H E I hf st hg
  subst hP hw hK
  obtain⟨f0,f1,f2,f3,f4,f5⟩:=hf it (by simp)
  exact wpAny_pyNext_range_end (I.ok.hd hc) st (by have:n<=i:=hg;omega) fun h' eb=>⟨rfl,I.turned (t':=s.toks) (fun b o hb e=>eb b o hb e) f0 f1 f3 f4 f5⟩
 self:=fun _ _ _ _ _ st h=>wpAny_pyIter_rangeiter st h
theorem sT(a b:Int):Builtin.Range.rangeSize a b (-1)=if b < a then a - b else 0:=by
 unfold Builtin.Range.rangeSize
 rw[if_neg (by decide)]
 have:(-(-1):Int)=1:=by decide
 rw[this,Int.ediv_one]
 by_cases h:b < a
 ·rw[if_pos h,if_pos h];omega
 ·rw[if_neg h,if_neg h]
theorem C6{a b:Int}(ha:-(2 ^ 62)<=a)(ha':a < 2 ^ 62)(hb:-(2 ^ 62)<=b)(hb':b < 2 ^ 62):Builtin.Range.small a b (-1)=true:=by
 unfold Builtin.Range.small
 rw[sT]
 simp only[Builtin.Range.rangeFitsLong,Bool.and_eq_true,Bool.or_eq_true,decide_eq_true_eq,beq_iff_eq,show ¬ ((-1:Int) > 0) by decide,if_false]
 split <;> omega
section
variable {X:Cx}{tg:Expr}
theorem C7{J0:List (Addr × Obj)}{σ:St}{H:Hp}{s:Shared}{R:It->Hp->Prop}{E:Value->Shared->Prop}{lo hi:Int}{t u v:Tok}{tk:Nat}(I:Inv X J0 σ H s)(h1:-(2 ^ 62)<=lo)(h2:lo < 2 ^ 62)(h3:-(2 ^ 62)<=hi)(h4:hi < 2 ^ 62)(q:R (Itd lo (lo - hi).toNat) H):wpAny (model X.prog X.w) X.A (pyIter (.ref s.heap.objs.size)) (PIE X J0 σ tg R) E { s with heap:=s.heap.push { cls:=.type "range",data:=.fields #[.int lo t,.int hi u,.int (-1) v] },toks:=tk }:=by
 refine wpAny_pyIter_range (IsRange.new ..) (C6 h1 h2 h3 h4) ?_
 have I1:Inv X J0 σ H { s with heap:=s.heap.push { cls:=.type "range",data:=.fields #[.int lo t,.int hi u,.int (-1) v] },toks:=tk }:=I.kept fun b o e=>Heap.get?_push_of_some _ e
 refine⟨(s.heap.push { cls:=.type "range",data:=.fields #[.int lo t,.int hi u,.int (-1) v] }).objs.size,[(s.heap.push { cls:=.type "range",data:=.fields #[.int lo t,.int hi u,.int (-1) v] }).objs.size],_,_,H,rfl,
  I1.kept (t':=tk) fun b o e=>Heap.get?_push_of_some _ e,C5 _ lo (lo - hi).toNat,?_,fun b hb=>?_,q⟩
 ·have e1:lo+((0:Nat):Int) * (-1)=lo:=by omega
  have e2:(((lo - hi).toNat:Nat):Int) - ((0:Nat):Int)=Builtin.Range.rangeSize lo hi (-1):=by rw[sT];split <;> omega
  show IsRangeIter _ _ (lo+((0:Nat):Int) * (-1)) ((((lo - hi).toNat:Nat):Int) - ((0:Nat):Int)) (-1)
  rw[e1,e2]
  exact Heap.get?_push_size _ rfl
 ·have e:b=(s.heap.push { cls:=.type "range",data:=.fields #[.int lo t,.int hi u,.int (-1) v] }).objs.size:=by simpa using hb
  subst e
  exact I1.fpOk (Nat.le_refl _) (I1.hok.fresh (Nat.le_refl _))
def C8(ta:TA):TI:=fun σ H R=>ta σ H fun vs H1=>∃ i j:Int,vs=[.int i,.int j,.int (-1)]/\(-(2 ^ 62)<=i/\i < 2 ^ 62/\-(2 ^ 62)<=j/\j < 2 ^ 62)/\R (Itd i (i - j).toNat) H1
theorem C9{a b c:Expr}{ta:TA}{p pos:Pos}(hg:Gl X "range")(hm:X.mg "range" = none)(ha:PA X [a,b,c] ta)(hs:starEach [a,b,c] X.env=(false,eval a X.env)::starEach [b,c] X.env:=by rfl)(hpl:(backTo pos (starEach [b,c] X.env)).any (·.1)=false:=by rfl):
  PI X tg (.Call (.Name "range" p) [a,b,c] [] pos) (C8 ta):=by
 intro J0 s σ H R I h
 refine Call_ (dF I hg hm boot_range (PyProof.Rows.callWith_type1 (thn (ha pos J0 s σ H _ I h) fun us s1 ⟨vs,H1,I1,r1,q1⟩=>?_) hs hpl))
 obtain⟨i,j,e,⟨q1,q2,q3,q4⟩,q⟩:=q1
 subst e
 cases r1 with
 | cons r rr =>
   cases rr with
   | cons r' rr =>
     cases rr with
     | cons r'' rr =>
       cases rr
       obtain⟨t,rfl⟩:=r
       obtain⟨t',rfl⟩:=r'
       obtain⟨t'',rfl⟩:=r''
       exact call_range_3 (by decide) (C7 I1 q1 q2 q3 q4 q) (.inl (PyProof.noPylong_of_log2 (by decide +kernel)))
end
def fY(lo:Int)(n:Nat):List D:=(List.range n).map fun (k:Nat)=>.int (lo - k)
theorem Ca{lo:Int}{n i:Nat}(h:i < n):(fY lo n).drop i=.int (lo - i)::(fY lo n).drop (i+1):=by
 have hl:i < (fY lo n).length:=by simpa [fY] using h
 rw[List.drop_eq_getElem_cons hl]
 simp[fY]
theorem Cb{g:TG}{tb:TS}{D:Ends}{σ:St}{H:Hp}{lo:Int}{n:Nat}(Pv:Nat->St->Hp->Prop)(h0:Pv 0 σ H)(hs:∀ i σ H,i < n->Pv i σ H->g (.int (lo - (i:Nat))) σ H fun σ2 H2=>tb { D with nx:=Pv (i+1),ct:=Pv (i+1),bk:=D.nx } σ2 H2)(hd:∀ σ H,Pv n σ H->D.nx σ H):
  ∃ W:Nat->Nat->St->Hp->Prop,(∃ m,W 0 m σ H)/\∀ i m σ H,W i m σ H ->
    ((Itd lo n).stop i H/\D.nx σ H)\/((Itd lo n).go i H/\∃ N:St->Hp->Prop,(∀ σ' H',N σ' H'->∃ m',m' < m/\W (i+1) m' σ' H')/\∀ x H',(Itd lo n).yld i H x H'->g x σ H' fun σ2 H2=>tb { D with nx:=N,ct:=N,bk:=D.nx } σ2 H2):=by
 refine⟨fun i m σ H=>m=n - i/\i<=n/\Pv i σ H,⟨n,by simp,Nat.zero_le _,h0⟩,?_⟩
 rintro i m σ H ⟨rfl,hi,p⟩
 by_cases hlt:i < n
 ·refine .inr ⟨hlt,Pv (i+1),fun σ' H' p'=>⟨n - (i+1),by omega,rfl,hlt,p'⟩,fun x H' y=>?_⟩
  obtain⟨e,y⟩:=y
  subst e y
  exact hs i σ _ hlt p
 ·have e:i=n:=by omega
  subst e
  exact .inl ⟨Nat.le_refl _,hd σ H p⟩
def jS(t:Nat)(as:FEs)(tb:FS):FS:=fun ρ=>(as ρ).bind fun ds=>match ds with
 | [.int i,.int j,.int k]=>if okR i/\okR j/\k = -1 then bD (fun x ρ=>tb (ρ.set t (some x))) (fY i (i - j).toNat) ρ else none
 | _=>none
section
variable {X:Cx}{F:Fr0}{O O2 OL:List Nat}{fr:Bool}{a b c:Expr}{body:List Stmt}{as:FEs}{ei:List Es}{tb:FS}{p2 pos pn pr:Pos}
theorem Cc(t:Nat){x:Str}(Ol:List Nat)(hN:X.N.Nodup)(hc:X.calm=true)(mr:X.mg "range" = none)(hi:VA X [a,b,c] as ei)(hb:VSs X F Ol body tb O2 Ol fr)(h1:∀ i ∈ Ol,i ∈ O)(h2:∀ i ∈ Ol,i ∈ O2)(h3:t ∉ Ol)(hp:PassesOwn (model X.prog X.w) X.A X.env X.xe)(hg:Gl X "range")(hst:starEach [a,b,c] X.env=(false,eval a X.env)::starEach [b,c] X.env)(hpl:(backTo pr (starEach [b,c] X.env)).any (·.1)=false)(hxN:X.N[t]?=some x)(hx:Loc X.env.scope x)(hfn:X.fn x=true\/X.env.scope.names.lookup x=some .local)(hs:∀ x,foldedSetIterable (.Call (.Name "range" pn) [a,b,c] [] pr) X.env x=pure x):VS X F O (.For (.Name x p2) (.Call (.Name "range" pn) [a,b,c] [] pr) body [] pos) (jS t as tb) Ol OL fr:=fun J6=>by
 refine bu (gu hp hc (C9 hg mr hi hst hpl) (bN hN hxN hx hfn) (iQ hb h2 J6) hs) fun De σ H h=>?_
 obtain⟨ρ,o,hE,hf,hQ⟩:=h
 obtain⟨ds,hd,hf⟩:=bind_some hf
 refine⟨ρ,ds,hE.envR,hd,fun vs H1 p=>?_⟩
 have hE1:=(hE.evals p).weaken h1
 match ds,hf,p with
 | [.int i,.int j,.int k],hf,p =>
   by_cases hj:okR i/\okR j/\k = -1
   ·simp only[if_pos hj] at hf
    obtain⟨hj1,hj2,rfl⟩:=hj
    have hv:vs=[.int i,.int j,.int (-1)]:=by
     cases p.rep with
     | cons a t=>cases a;cases t with
       | cons a t=>cases a;cases t with
         | cons a t=>cases a;cases t;rfl
    refine⟨i,j,hv,⟨hj1.1,hj1.2,hj2.1,hj2.2⟩,?_⟩
    refine Cb (lo:=i) (n:=(i - j).toNat) (g:=cc t) (tb:=ts X.K F J6 Ol Ol Ol fr tb) (D:=De) (fun q σ' H'=>∃ ρ',EnvO X.K F J6 Ol σ' ρ' H'/\bD (fun x ρ=>tb (ρ.set t (some x))) ((fY i (i - j).toNat).drop q) ρ'=some o) ⟨ρ,hE1,by simpa using hf⟩ ?_ ?_
    ·rintro q σ' H' hq ⟨ρ',hE',hf'⟩
     rw[Ca hq] at hf'
     have hf2:=hf'
     rw[jM] at hf2
     obtain⟨o1,h8,_⟩:=bind_some hf2
     refine⟨ρ'.set t (some (.int (i - q))),o1,hE'.set h3 fun A hA=>.int _,h8,?_⟩
     exact lF h8 hf' hQ (fun _ _ _ z=>z) fun σ'' H'' ρ'' hE'' hf''=>⟨ρ'',hE'',hf''⟩
    ·rintro σ' H' ⟨ρ',hE',hf'⟩
     rw[List.drop_eq_nil_of_le (by simp[fY])] at hf'
     cases hf'
     exact hQ σ' H' hE'
   ·simp only[if_neg hj] at hf
    cases hf
end
section
variable {X:Cx}{a:Expr}{es:List Es}{as:FEs}{pos p:Pos}
def fq:D->Option D
 | .int i=>some (.int i)
 | .bl k=>some (.int (if k then 1 else 0))
 | _=>none
theorem Cd(mi:X.mg "int" = none)(ha:VA X [a] as es)(hg:Gl X "int")(he:starEach [a] X.env=(false,eval a X.env)::starEach [] X.env)(hpl:(backTo pos (starEach [] X.env)).any (·.1)=false):
  VE X (.Call (.Name "int" p) [a] [] pos) (eA (aI fq) as) [] :=
 aM (nv qX hg mi (by decide +kernel) ha (by decide) (by decide) he hpl) fun σ H Q ⟨ρ,d,hE,hf,hQ⟩=>by
  obtain⟨ds,h1,hf⟩:=bind_some hf
  refine⟨ρ,ds,hE,h1,fun vs H1 p=>?_⟩
  obtain⟨x,rfl,hg1⟩:=iP hf
  obtain⟨v,rfl,r1⟩:=e8 p.rep
  cases r1 <;> first | (cases hg1;done) | skip
  ·cases hg1
   exact .inr ⟨_,rfl,hQ _ _ ⟨p.same,.int _,fun A _ _=>.int _⟩⟩
  ·cases hg1
   exact .inl ⟨_,rfl,hQ _ _ ⟨p.same,.int _,fun A _ _=>.int _⟩⟩
end
end VL
namespace VL
open PySem PySem.Spec PyProof.Rows L2
abbrev AA(A:Addr->Prop)(a:Addr)(bs:List Addr):Addr->Prop:=fun b=>A b\/b=a\/b ∈ bs
def InR(K:W.Frag)(H:Hp)(A:Addr->Prop)(bs:List Addr)(dss:List (List D)):Prop :=
 bs.length=dss.length/\∀ (k:Nat) b ds,bs[k]?=some b->dss[k]?=some ds->∃ ys,H b=some (.lst ys)/\Reps K (ay H A) ys ds
section
variable {K:W.Frag}{H H':Hp}{A A':Addr->Prop}{bs:List Addr}{dss:List (List D)}
theorem InR.mono(e:Same H H')(h:InR K H A bs dss):InR K H' A bs dss:=⟨h.1,fun k b ds h1 h2=>by
 obtain⟨ys,h3,h4⟩:=h.2 k b ds h1 h2
 exact⟨ys,e _ _ h3,aU (bY e) h4⟩⟩
theorem InR.change(e:Same (ay H A) (ay H' A'))(h0:∀ b ∈ bs,H' b=H b)(h:InR K H A bs dss):InR K H' A' bs dss:=⟨h.1,fun k b ds h1 h2=>by
 obtain⟨ys,h3,h4⟩:=h.2 k b ds h1 h2
 exact⟨ys,by rw[h0 b (List.mem_of_getElem? h1)];exact h3,aU e h4⟩⟩
theorem InR.at(h:InR K H A bs dss){k:Nat}{b:Addr}(hb:bs[k]?=some b):∃ ds ys,dss[k]?=some ds/\H b=some (.lst ys)/\Reps K (ay H A) ys ds:=by
 have hk:k < dss.length:=by have:=(List.getElem?_eq_some_iff.mp hb).1;have:=h.1;omega
 obtain⟨ys,h3,h4⟩:=h.2 k b dss[k] hb (List.getElem?_eq_getElem hk)
 exact⟨_,ys,List.getElem?_eq_getElem hk,h3,h4⟩
theorem lS:∀ {vs:List V} {ds:List D},vs.length=ds.length->(∀ (k:Nat) v d,vs[k]?=some v->ds[k]?=some d->Rep K H v d)->Reps K H vs ds
 | [],[],_,_=>.nil
 | [],_::_,h,_=>by cases h
 | _::_,[],h,_=>by cases h
 | v::vs,d::ds,h,k=>.cons (k 0 v d rfl rfl) (lS (by simpa using h) fun m v' d' h1 h2=>k (m+1) v' d' (by simpa using h1) (by simpa using h2))
theorem InR.reps(h:InR K H A bs dss)(hA:∀ b,A' b->A b)(hb:∀ b ∈ bs,¬ A' b):Reps K (ay H A') (bs.map V.ref) (dss.map D.lst):=by
 refine lS (by simpa using h.1) fun k v d h1 h2=>?_
 rw[List.getElem?_map] at h1 h2
 cases e1:bs[k]? with
 | none=>rw[e1] at h1;cases h1
 | some b =>
   cases e2:dss[k]? with
   | none=>rw[e2] at h2;cases h2
   | some ds =>
     rw[e1] at h1;rw[e2] at h2
     cases h1;cases h2
     obtain⟨ys,h3,h4⟩:=h.2 k b ds e1 e2
     refine .lst (.inl ?_) (aU (cO (fun _ _ q=>q) hA) h4)
     rw[bC (hb b (List.mem_of_getElem? e1))]
     exact h3
theorem Ce{α:Type}{xs:List α}(h:xs.Nodup){i j:Nat}{x:α}(h1:xs[i]?=some x)(h2:xs[j]?=some x):i=j :=
 (List.getElem?_inj (List.getElem?_eq_some_iff.mp h1).1 h).mp (h1.trans h2.symm)
theorem InR.put(h:InR K H A bs dss)(hn:bs.Nodup){k:Nat}{b:Addr}(hb:bs[k]?=some b)(hA:A b){ys:List V}{ds:List D}(hr:Reps K (ay H A) ys ds):InR K (upd H b (.lst ys)) A bs (dss.set k ds):=by
 have up:Same (ay H A) (ay (upd H b (.lst ys)) A):=fun c o q=>by
  obtain⟨n,q⟩:=dJ q
  rw[bC n,aF (show c ≠ b from fun e=>n (by rw[e];exact hA))]
  exact q
 refine⟨by rw[List.length_set];exact h.1,fun m c es h1 h2=>?_⟩
 by_cases e:m=k
 ·subst e
  rw[hb] at h1;cases h1
  have hm:m < dss.length:=by have:=(List.getElem?_eq_some_iff.mp h2).1;simpa using this
  rw[List.getElem?_set_self hm] at h2;cases h2
  exact⟨ys,br,aU up hr⟩
 ·rw[List.getElem?_set_ne (Ne.symm e)] at h2
  obtain⟨zs,h3,h4⟩:=h.2 m c es h1 h2
  have ne:c ≠ b:=fun q=>e (Ce hn (q ▸ h1) hb)
  exact⟨zs,by rw[aF ne];exact h3,aU up h4⟩
theorem InR.snoc(h:InR K H A bs dss){b:Addr}{ys:List V}{ds:List D}(hb:H b=some (.lst ys))(hr:Reps K (ay H A) ys ds):InR K H A (bs++[b]) (dss++[ds]):=by
 refine⟨by simp[h.1],fun k c es h1 h2=>?_⟩
 by_cases e:k < bs.length
 ·rw[List.getElem?_append_left e] at h1
  rw[List.getElem?_append_left (by rw[<- h.1];exact e)] at h2
  exact h.2 k c es h1 h2
 ·have:k=bs.length:=by have:=(List.getElem?_eq_some_iff.mp h1).1;simp at this;omega
  subst this
  rw[List.getElem?_append_right (Nat.le_refl _),Nat.sub_self] at h1
  rw[h.1,List.getElem?_append_right (Nat.le_refl _),Nat.sub_self] at h2
  cases h1;cases h2
  exact⟨ys,hb,hr⟩
end
def lkD(ρ:am)(i r:Nat):Option D:=(aa r ρ).bind fun k=>(aa i ρ).bind fun x=>match k,x with
 | .int k,.lst ds=>ds[k.toNat]?
 | _,_=>none
def vw(i:Nat):Option Nat->am->am
 | none,ρ=>ρ
 | some r,ρ=>ρ.set r (lkD ρ i r)
structure EnvD (K:W.Frag) (F:Fr0) (J6:List Hd) (i:Nat) (al:Option Nat) (a:Addr) (bs:List Addr) (dss:List (List D)) (σ:St) (ρ:am) (H:Hp):Prop where
 same:Same F.H0 H
 lσ:σ.length=F.n
 lρ:ρ.length=F.n
 si:σ[i]?=some (some (V.ref a))
 ri:ρ[i]?=some (some (.lst (dss.map .lst)))
 ha:H a=some (.lst (bs.map V.ref))
 nd:(a::bs).Nodup
 new:∀ b,b=a\/b ∈ bs->F.H0 b=Option.none
 inn:∀ A,F.PA A->InR K H (AA A a bs) bs dss
 val:∀ j d,ρ[j]?=some (some d)->j ≠ i->al ≠ some j->∃ v,σ[j]?=some (some v)/\∀ A,F.PA A->Rep K (ay H (AA A a bs)) v d
 hld:∀ p ∈ J6,∀ A,F.PA A->HdOk K (ay H (AA A a bs)) p
 als:∀ r,al=some r->r ≠ i/\∃ (k:Nat) (b:Addr),ρ[r]?=some (some (.int (k:Nat)))/\bs[k]?=some b/\σ[r]?=some (some (V.ref b))
section
variable {K:W.Frag}{F:Fr0}{J6:List Hd}{i:Nat}{al:Option Nat}{a:Addr}{bs:List Addr}{dss:List (List D)}{σ:St}{ρ:am}{H H':Hp}
theorem EnvD.up(h:EnvD K F J6 i al a bs dss σ ρ H)(e:Same H H'):EnvD K F J6 i al a bs dss σ ρ H' :=
 ⟨h.same.trans e,h.lσ,h.lρ,h.si,h.ri,e _ _ h.ha,h.nd,h.new,fun A hA=>(h.inn A hA).mono e,fun j d q h1 h2=>let ⟨v,h3,h4⟩:=h.val j d q h1 h2;⟨v,h3,fun A hA=>aH (bY e) (h4 A hA)⟩,fun p hp A hA=>(h.hld p hp A hA).mono (bY e),h.als⟩
theorem EnvD.out(h:EnvD K F J6 i al a bs dss σ ρ H){A:Addr->Prop}(hA:F.PA A){b:Addr}(hb:b=a\/b ∈ bs):¬ A b:=fun q=>F.dom A hA b q (h.new b hb)
theorem EnvD.dom(h:EnvD K F J6 i al a bs dss σ ρ H){A:Addr->Prop}(hA:F.PA A):Dom H (AA A a bs):=fun b q=>by
 rcases q with q | rfl | q
 ·exact ((F.dom A hA).mono h.same) b q
 ·rw[h.ha];exact fun z=>nomatch z
 ·obtain⟨k,hk⟩:=List.getElem?_of_mem q
  obtain⟨_,ys,_,h2,_⟩:=(h.inn A hA).at hk
  rw[h2];exact fun z=>nomatch z
theorem EnvD.repI(h:EnvD K F J6 i al a bs dss σ ρ H){A:Addr->Prop}(hA:F.PA A):Rep K (ay H A) (V.ref a) (.lst (dss.map .lst)):=by
 refine .lst (.inl ?_) ((h.inn A hA).reps (fun b q=>.inl q) fun b hb=>h.out hA (.inr hb))
 rw[bC (h.out hA (.inl rfl))]
 exact h.ha
theorem Cf{k:Nat}{r:Nat}(hr:ρ[r]?=some (some (.int (k:Nat))))(hi:ρ[i]?=some (some (.lst (dss.map .lst)))):lkD ρ i r=(dss[k]?).map D.lst:=by
 unfold lkD aa
 rw[hr,hi]
 simp
theorem EnvD.envR(h:EnvD K F J6 i al a bs dss σ ρ H):EnvR K H σ (vw i al ρ):=fun j d e=>by
 have plain:ρ[j]?=some (some d)->al ≠ some j->∃ v,σ[j]?=some (some v)/\Rep K H v d:=fun e' hj=>by
  by_cases hi:j=i
  ·subst hi
   rw[h.ri] at e';cases e'
   exact⟨_,h.si,aH (bc _ _) (h.repI F.none)⟩
  ·obtain⟨v,h1,h2⟩:=h.val j d e' hi hj
   exact⟨v,h1,aH (bc _ _) (h2 _ F.none)⟩
 cases al with
 | none=>exact plain e fun z=>nomatch z
 | some r =>
   obtain⟨hri,k,b,h1,h2,h3⟩:=h.als r rfl
   by_cases hj:j=r
   ·subst hj
    have hl:j < ρ.length:=(List.getElem?_eq_some_iff.mp h1).1
    unfold vw at e
    rw[List.getElem?_set_self hl,Cf h1 h.ri] at e
    obtain⟨ds,ys,h4,h5,h6⟩:=(h.inn _ F.none).at h2
    rw[h4] at e;cases e
    exact⟨_,h3,.lst (.inl h5) (aU (bc _ _) h6)⟩
   ·unfold vw at e
    rw[List.getElem?_set_ne (Ne.symm hj)] at e
    exact plain e fun z=>hj (Option.some.inj z).symm
def apD(i:Nat)(al:Option Nat):Es->Bool
 | .full j=>j != i && al != some j
 | .el j=>j != i && al != some j
theorem Cg{j:Nat}(h:al ≠ some j):(vw i al ρ)[j]?=ρ[j]?:=by
 cases al with
 | none=>rfl
 | some r=>exact List.getElem?_set_ne (show r ≠ j from fun e=>h (by rw[e]))
theorem EnvD.av(h:EnvD K F J6 i al a bs dss σ ρ H){A:Addr->Prop}(hA:F.PA A){e:Es}(he:apD i al e=true):Av K H σ (vw i al ρ) (AA A a bs) e:=by
 have out:∀ (j:Nat) (v:V) (d:D),j ≠ i->al ≠ some j->σ[j]?=some (some v)->(vw i al ρ)[j]?=some (some d)->Rep K (ay H (AA A a bs)) v d:=fun j v d h1 h2 h3 h4=>by
  rw[Cg h2] at h4
  obtain⟨v',h5,h6⟩:=h.val j d h4 h1 h2
  rw[h3] at h5;cases h5
  exact h6 A hA
 cases e with
 | full j =>
   simp only[apD,Bool.and_eq_true,bne_iff_ne,ne_eq] at he
   exact fun v d h1 h2=>out j v d he.1 he.2 h1 h2
 | el j =>
   simp only[apD,Bool.and_eq_true,bne_iff_ne,ne_eq] at he
   exact fun v d h1 h2=>(out j v d he.1 he.2 h1 h2).el
theorem EnvD.eval(h:EnvD K F J6 i al a bs dss σ ρ H){es:List Es}{d:D}{v:V}(hes:es.all (apD i al)=true)(p:Post K σ (vw i al ρ) H es d v H'){A:Addr->Prop}(hA:F.PA A):Rep K (ay H' (AA A a bs)) v d :=
 p.av _ (h.dom hA) fun e he=>h.av hA (List.all_eq_true.mp hes e he)
theorem EnvD.set(h:EnvD K F J6 i al a bs dss σ ρ H){j:Nat}{v:V}{d:D}(hj:j ≠ i)(hal:al ≠ some j)(hv:∀ A,F.PA A->Rep K (ay H (AA A a bs)) v d):EnvD K F J6 i al a bs dss (σ.set j (some v)) (ρ.set j (some d)) H:=by
 refine⟨h.same,by rw[List.length_set];exact h.lσ,by rw[List.length_set];exact h.lρ,?_,?_,h.ha,h.nd,h.new,h.inn,fun m e q h1 h2=>?_,h.hld,fun r hr=>?_⟩
 ·rw[List.getElem?_set_ne hj];exact h.si
 ·rw[List.getElem?_set_ne hj];exact h.ri
 ·by_cases e1:m=j
  ·subst e1
   have l1:m < ρ.length:=by have:=(List.getElem?_eq_some_iff.mp q).1;simpa using this
   rw[List.getElem?_set_self l1] at q;cases q
   exact⟨v,List.getElem?_set_self (by rw[h.lσ,<- h.lρ];exact l1),hv⟩
  ·rw[List.getElem?_set_ne (Ne.symm e1)] at q ⊢
   exact h.val m e q h1 h2
 ·obtain⟨h1,k,b,h2,h3,h4⟩:=h.als r hr
  have ne:j ≠ r:=fun e=>hal (e ▸ hr)
  exact⟨h1,k,b,by rw[List.getElem?_set_ne ne];exact h2,h3,by rw[List.getElem?_set_ne ne];exact h4⟩
theorem EnvD.put(h:EnvD K F J6 i al a bs dss σ ρ H){k:Nat}{b:Addr}(hb:bs[k]?=some b){ys:List V}{ds:List D}(hr:∀ A,F.PA A->Reps K (ay H (AA A a bs)) ys ds):
  EnvD K F J6 i al a bs (dss.set k ds) σ (ρ.set i (some (.lst ((dss.set k ds).map .lst)))) (upd H b (.lst ys)):=by
 have hm:=List.mem_of_getElem? hb
 have up:∀ {A:Addr->Prop},Same (ay H (AA A a bs)) (ay (upd H b (.lst ys)) (AA A a bs)):=fun {A} c o q=>by
  obtain⟨n,q⟩:=dJ q
  rw[bC n,aF (show c ≠ b from fun e=>n (.inr (.inr (by rw[e];exact hm))))]
  exact q
 have nd:=List.nodup_cons.mp h.nd
 have hl:i < ρ.length:=(List.getElem?_eq_some_iff.mp h.ri).1
 refine⟨fun c o q=>?_,h.lσ,by rw[List.length_set];exact h.lρ,h.si,List.getElem?_set_self hl,?_,h.nd,h.new,fun A hA=>(h.inn A hA).put nd.2 hb (.inr (.inr hm)) (hr A hA),fun j e q h1 h2=>?_,fun p hp A hA=>(h.hld p hp A hA).mono up,fun r hr=>?_⟩
 ·rw[aF (show c ≠ b from fun e=>by subst e;rw[h.new c (.inr hm)] at q;cases q)]
  exact h.same c o q
 ·rw[aF (show a ≠ b from fun e=>nd.1 (by rw[e];exact hm))]
  exact h.ha
 ·rw[List.getElem?_set_ne (Ne.symm h1)] at q
  obtain⟨v,h3,h4⟩:=h.val j e q h1 h2
  exact⟨v,h3,fun A hA=>aH up (h4 A hA)⟩
 ·obtain⟨h1,m,c,h2,h3,h4⟩:=h.als r hr
  exact⟨h1,m,c,by rw[List.getElem?_set_ne (Ne.symm h1)];exact h2,h3,h4⟩
end
end VL
namespace VL
open PySem PySem.Spec PyProof.Rows L2
def Ch(K:W.Frag)(F:Fr0)(J6:List Hd)(i:Nat)(al':Option Nat)(fr:Bool)(De:Ends):Out->Prop
 | .nx ρ'=>∀ a bs dss σ' H',EnvD K F J6 i al' a bs dss σ' ρ' H'->De.nx σ' H'
 | .rt d=>∀ v H',Ret K F fr d v H'->De.rt v H'
 | .bk _=>True
 | .ct _=>True
def tsD(K:W.Frag)(F:Fr0)(J6:List Hd)(i:Nat)(al al':Option Nat)(fr:Bool)(f:FS):TS:=fun De σ H=>∃ a bs dss ρ o,EnvD K F J6 i al a bs dss σ ρ H/\f ρ=some o/\Ch K F J6 i al' fr De o
abbrev VD(X:Cx)(F:Fr0)(i:Nat)(al:Option Nat)(st:Stmt)(f:FS)(al':Option Nat)(fr:Bool):Prop:=∀ J6,PS X st (tsD X.K F J6 i al al' fr f)
abbrev VDs(X:Cx)(F:Fr0)(i:Nat)(al:Option Nat)(st:List Stmt)(f:FS)(al':Option Nat)(fr:Bool):Prop:=∀ J6,PSs X st (tsD X.K F J6 i al al' fr f)
section
theorem lT{K:W.Frag}{H H':Hp}:∀ {vs:List V} {ds:List D},ds.all bg=true->Reps K H vs ds->Reps K H' vs ds
 | [],_,_,h=>by cases h;exact .nil
 | _ :: _,_,s,h=>by
   cases h with
   | cons h1 h2 =>
     rw[List.all_cons,Bool.and_eq_true] at s
     exact .cons (nE s.1 h1) (lT s.2 h2)
end
end VL
namespace VL
open PySem PySem.Spec PyProof.Rows L2
structure PostD (K:W.Frag) (σ:St) (ρ:am) (H:Hp) (es:List Es) (d:D) (v:V) (H':Hp):Prop where
 same:Same H H'
 new:∃ l bs dss,v=V.ref l/\d=.lst (dss.map .lst)/\(l::bs).Nodup/\(∀ b,b=l\/b ∈ bs->H b=none)/\H' l=some (.lst (bs.map V.ref))/\∀ A,Dom H A->(∀ e ∈ es,Av K H σ ρ A e)->InR K H' (AA A l bs) bs dss
def Ci(K:W.Frag)(σ:St)(ρ:am)(H:Hp)(es:List Es)(ds:List D)(J:It)(H1:Hp):Prop:=∀ (i:Nat) (d:D) (H':Hp) x H'',ds[i]?=some d->Same H1 H'->J.yld i H' x H''->∀ A,Dom H A->(∀ e ∈ es,Av K H σ ρ A e)->Rep K (ay H1 A) x d
def Cj(K:W.Frag)(f:FEs)(es:List Es):TI:=fun σ H R=>∃ ρ ds,EnvR K H σ ρ/\f ρ=some ds/\∀ J H1,PostI K σ ρ H es ds J H1->Ci K σ ρ H es ds J H1->R J H1
abbrev VIL(X:Cx)(tg iter:Expr)(f:FEs)(es:List Es):Prop:=PI X tg iter (Cj X.K f es)
end VL
namespace VL
open PySem PySem.Spec PyProof.Rows L2
def Ck(K:W.Frag)(F:Fr0)(J6:List Hd)(i:Nat)(al':Option Nat)(a:Addr)(bs:List Addr)(fr:Bool)(De:Ends):Out->Prop
 | .nx ρ'=>∀ dss σ' H',EnvD K F J6 i al' a bs dss σ' ρ' H'->De.nx σ' H'
 | .rt d=>∀ v H',Ret K F fr d v H'->De.rt v H'
 | .bk _=>True
 | .ct _=>True
def tsK(K:W.Frag)(F:Fr0)(J6:List Hd)(i:Nat)(al al':Option Nat)(a:Addr)(bs:List Addr)(fr:Bool)(f:FS):TS:=fun De σ H=>∃ dss ρ o,EnvD K F J6 i al a bs dss σ ρ H/\f ρ=some o/\Ck K F J6 i al' a bs fr De o
abbrev VJ(X:Cx)(F:Fr0)(i:Nat)(al:Option Nat)(st:Stmt)(f:FS)(al':Option Nat)(fr:Bool):Prop:=∀ J6 a bs,PS X st (tsK X.K F J6 i al al' a bs fr f)
abbrev VJs(X:Cx)(F:Fr0)(i:Nat)(al:Option Nat)(st:List Stmt)(f:FS)(al':Option Nat)(fr:Bool):Prop:=∀ J6 a bs,PSs X st (tsK X.K F J6 i al al' a bs fr f)
end VL
namespace VL
open PySem PySem.Spec PyProof.Rows L2
structure RetX (K:W.Frag) (H0:Hp) (d:D) (v:V) (H':Hp):Prop where
 same:Same H0 H'
 new:∃ l bs dss,v=V.ref l/\d=.lst (dss.map .lst)/\(l::bs).Nodup/\(∀ b,b=l\/b ∈ bs->H0 b=none)/\H' l=some (.lst (bs.map V.ref))/\∀ A,InR K H' A bs dss
section
variable {K:W.Frag}{F:Fr0}{J6:List Hd}{i:Nat}{a:Addr}{bs:List Addr}{dss:List (List D)}{σ:St}{ρ:am}{H H':Hp}
theorem EnvD.push(h:EnvD K F J6 i none a bs dss σ ρ H)(e:Same H H'){l:Addr}(hl:H l=none){ys:List V}{ds:List D}(hl':H' l=some (.lst ys))(hr:∀ H'',Reps K H'' ys ds):
  EnvD K F J6 i none a (bs++[l]) (dss++[ds]) σ (ρ.set i (some (.lst ((dss++[ds]).map .lst)))) (upd H' a (.lst ((bs++[l]).map V.ref))):=by
 have hE:=h.up e
 have nd:=List.nodup_cons.mp h.nd
 have hla:l ≠ a:=fun q=>by subst q;rw[h.ha] at hl;cases hl
 have hlb:l ∉ bs:=fun q=>h.dom F.none l (.inr (.inr q)) hl
 have hpl:i < ρ.length:=(List.getElem?_eq_some_iff.mp h.ri).1
 have sub:∀ {c:Addr},c ∈ bs++[l]->c ∈ bs\/c=l:=fun {c} q=>(List.mem_append.mp q).imp id List.mem_singleton.mp
 have up:∀ {A:Addr->Prop},Same (ay H (AA A a bs)) (ay (upd H' a (.lst ((bs++[l]).map V.ref))) (AA A a (bs++[l]))):=fun {A} c o q=>by
  obtain⟨n,q⟩:=dJ q
  have ne:c ≠ a:=fun z=>n (.inr (.inl z))
  have nl:c ≠ l:=bM q hl
  rw[bC,aF ne]
  ·exact e c o q
  ·rintro (z | z | z)
   ·exact n (.inl z)
   ·exact ne z
   ·rcases sub z with z | z
    ·exact n (.inr (.inr z))
    ·exact nl z
 refine⟨fun c o q=>?_,h.lσ,by rw[List.length_set];exact h.lρ,h.si,List.getElem?_set_self hpl,br,?_,fun c hc=>?_,fun A hA=>InR.snoc ⟨(h.inn A hA).1,fun m c es h1 h2=>?_⟩ ?_ (hr _),fun j d q h1 h2=>?_,fun p hp A hA=>(h.hld p hp A hA).mono up,fun r hr=>nomatch hr⟩
 ·rw[aF (show c ≠ a from fun z=>by subst z;rw[h.new c (.inl rfl)] at q;cases q)]
  exact hE.same c o q
 ·refine List.nodup_cons.mpr ⟨fun z=>?_,?_⟩
  ·rcases sub z with z | z
   ·exact nd.1 z
   ·exact hla z.symm
  ·rw[List.nodup_append]
   exact⟨nd.2,by simp,fun x hx y hy=>by rw[List.mem_singleton] at hy;subst hy;exact fun q=>hlb (q ▸ hx)⟩
 ·rcases hc with rfl | hc
  ·exact h.new c (.inl rfl)
  ·rcases sub hc with hc | rfl
   ·exact h.new c (.inr hc)
   ·cases q:F.H0 c with
    | none=>rfl
    | some o=>rw[h.same c o q] at hl;cases hl
 ·obtain⟨zs,h3,h4⟩:=(h.inn A hA).2 m c es h1 h2
  have ne:c ≠ a:=fun z=>nd.1 (z ▸ List.mem_of_getElem? h1)
  exact⟨zs,by rw[aF ne];exact e _ _ h3,aU up h4⟩
 ·rw[aF hla];exact hl'
 ·rw[List.getElem?_set_ne (Ne.symm h1)] at q
  obtain⟨v,h3,h4⟩:=h.val j d q h1 h2
  exact⟨v,h3,fun A hA=>aH up (h4 A hA)⟩
end
def Cl(K:W.Frag)(F:Fr0)(J6:List Hd)(i:Nat)(De:Ends):Out->Prop
 | .nx ρ'=>∀ a bs dss σ' H',EnvD K F J6 i none a bs dss σ' ρ' H'->De.nx σ' H'
 | .rt d=>∀ v H',RetX K F.H0 d v H'->De.rt v H'
 | .bk _=>True
 | .ct _=>True
def tsX(K:W.Frag)(F:Fr0)(J6:List Hd)(i:Nat)(f:FS):TS:=fun De σ H=>∃ a bs dss ρ o,EnvD K F J6 i none a bs dss σ ρ H/\f ρ=some o/\Cl K F J6 i De o
abbrev VX(X:Cx)(F:Fr0)(i:Nat)(st:Stmt)(f:FS):Prop:=∀ J6,PS X st (tsX X.K F J6 i f)
abbrev VXs(X:Cx)(F:Fr0)(i:Nat)(st:List Stmt)(f:FS):Prop:=∀ J6,PSs X st (tsX X.K F J6 i f)
def Cm(K:W.Frag)(F:Fr0)(J6:List Hd)(O':List Nat)(De:Ends):Out->Prop
 | .nx ρ'=>∀ σ' H',EnvO K F J6 O' σ' ρ' H'->De.nx σ' H'
 | .rt d=>∀ v H',RetX K F.H0 d v H'->De.rt v H'
 | .bk _=>True
 | .ct _=>True
def tsR(K:W.Frag)(F:Fr0)(J6:List Hd)(O O':List Nat)(f:FS):TS:=fun De σ H=>∃ ρ o,EnvO K F J6 O σ ρ H/\f ρ=some o/\Cm K F J6 O' De o
abbrev VRs(X:Cx)(F:Fr0)(O:List Nat)(st:List Stmt)(f:FS)(O':List Nat):Prop:=∀ J6,PSs X st (tsR X.K F J6 O O' f)
def spX(K:W.Frag)(G:List D->Option D):Sp:=fun vs H Q _=>∃ ds d,Reps K H vs ds/\G ds=some d/\∀ v H',RetX K H d v H'->Q v H'
theorem RetX.retC{K:W.Frag}{H:Hp}{vs:List V}{ds:List D}{d:D}{v:V}{H':Hp}(h:RetX K H d v H'):RetC K H vs ds true d v H':=by
 obtain⟨l,bs,dss,rfl,rfl,hnd,hnew,hl,hin⟩:=h.new
 have out:∀ {A:Addr->Prop},Dom H A->∀ b,b=l\/b ∈ bs->¬ A b:=fun {A} hA b hb q=>hA b q (hnew b hb)
 refine⟨h.same,fun A hA _=>.lst (.inl ?_) ((hin A).reps (fun _ q=>q) fun b hb=>out hA b (.inr hb)),fun _=>⟨l,_,_,rfl,rfl,hnew l (.inl rfl),hl,fun A hA _=>?_⟩⟩
 ·rw[bC (out hA l (.inl rfl))];exact hl
 ·refine (hin fun b=>A b\/b=l).reps (fun _ q=>q) fun b hb q=>?_
  rcases q with q | q
  ·exact out hA b (.inr hb) q
  ·exact (List.nodup_cons.mp hnd).1 (q ▸ hb)
def DefX(P:Program)(w:World)(K:W.Frag)(mg:Str->Option Value)(base:Heap)(x:Str)(k:Nat)(ps:List Str)(G:List D->Option D):Prop :=
 ∃ f fd,FnOk P w K mg base CX0 k f fd ps (spX K G)/\mg x=some (.ref f)/\W.keepIn K (.ref f)=true/\Binds K fd ps []
section
variable {P:Program}{w:World}{K:W.Frag}{mg:Str->Option Value}{base:Heap}{x:Str}{j k:Nat}{ps:List Str}{G:List D->Option D}
theorem DefX.mono(h:DefX P w K mg base x j ps G)(hk:j<=k:=by decide):DefX P w K mg base x k ps G :=
 let ⟨f,fd,F,m,kp,b⟩:=h
 ⟨f,fd,F.mono hk,m,kp,b⟩
theorem DefX.d(h:DefX P w K mg base x k ps G):Def P w K mg base x k ps G true :=
 let ⟨f,fd,F,m,kp,b⟩:=h
 ⟨f,fd,F.imp fun vs H Q E ⟨ds,d,r,hg,q⟩=>⟨ds,d,r,hg,fun v H' rx=>q v H' rx.retC⟩,m,kp,b⟩
end
end VL
namespace VL
open PySem PySem.Spec PyProof.Rows L2
def All3(P:V->D->List Addr->Prop):List V->List D->List (List Addr)->Prop
 | [],[],[]=>True
 | v::vs,d::ds,S::Ss=>P v d S/\All3 P vs ds Ss
 | _,_,_=>False
section
variable {P Q:V->D->List Addr->Prop}
theorem All3.imp:∀ {vs:List V} {ds:List D} {Ss:List (List Addr)},(∀ v d S,S ∈ Ss->P v d S->Q v d S)->All3 P vs ds Ss->All3 Q vs ds Ss
 | [],[],[],_,_=>trivial
 | v::vs,d::ds,S::Ss,h,p=>⟨h v d S List.mem_cons_self p.1,All3.imp (fun v d S' hS=>h v d S' (List.mem_cons_of_mem _ hS)) p.2⟩
 | [],[],_::_,_,p=>p.elim
 | [],_::_,_,_,p=>p.elim
 | _::_,[],_,_,p=>p.elim
 | _::_,_::_,[],_,p=>p.elim
theorem All3.len:∀ {vs:List V} {ds:List D} {Ss:List (List Addr)},All3 P vs ds Ss->vs.length=ds.length/\Ss.length=ds.length
 | [],[],[],_=>⟨rfl,rfl⟩
 | v::vs,d::ds,S::Ss,p=>by have:=All3.len p.2;simp[this]
 | [],[],_::_,p=>p.elim
 | [],_::_,_,p=>p.elim
 | _::_,[],_,p=>p.elim
 | _::_,_::_,[],p=>p.elim
theorem All3.get:∀ {vs:List V} {ds:List D} {Ss:List (List Addr)} {k:Nat} {v:V},All3 P vs ds Ss->vs[k]?=some v->∃ d S,ds[k]?=some d/\Ss[k]?=some S/\P v d S
 | v::vs,d::ds,S::Ss,0,_,p,e=>by simp at e;subst e;exact⟨d,S,rfl,rfl,p.1⟩
 | v::vs,d::ds,S::Ss,k+1,_,p,e=>by
   obtain⟨d',S',h1,h2,h3⟩:=All3.get (k:=k) p.2 (by simpa using e)
   exact⟨d',S',by simpa using h1,by simpa using h2,h3⟩
 | [],_,_,_,_,_,e=>by simp at e
 | _::_,[],_,_,_,p,_=>p.elim
 | _::_,_::_,[],_,_,p,_=>p.elim
theorem All3.snoc{v:V}{d:D}{S:List Addr}:∀ {vs:List V} {ds:List D} {Ss:List (List Addr)},All3 P vs ds Ss->P v d S->All3 P (vs++[v]) (ds++[d]) (Ss++[S])
 | [],[],[],_,h=>⟨h,trivial⟩
 | v::vs,d::ds,S::Ss,p,h=>⟨p.1,All3.snoc p.2 h⟩
 | [],[],_::_,p,_=>p.elim
 | [],_::_,_,p,_=>p.elim
 | _::_,[],_,p,_=>p.elim
 | _::_,_::_,[],p,_=>p.elim
theorem All3.put{d':D}:∀ {vs:List V} {ds:List D} {Ss:List (List Addr)} {k:Nat} {v:V} {S:List Addr},All3 P vs ds Ss->vs[k]?=some v->Ss[k]?=some S->Q v d' S->(∀ j v d S',j ≠ k->Ss[j]?=some S'->P v d S'->Q v d S')->All3 Q vs (ds.set k d') Ss
 | v :: vs,d::ds,S::Ss,0,_,_,p,e1,e2,q,h=>by
   simp at e1 e2
   subst e1 e2
   refine⟨q,?_⟩
   have key:∀ {vs:List V} {ds:List D} {Ss':List (List Addr)} (off:Nat),0 < off->(∀ j,Ss'[j]?=(S::Ss)[j+off]?)->All3 P vs ds Ss'->All3 Q vs ds Ss':=by
    intro vs ds Ss'
    induction Ss' generalizing vs ds with
    | nil =>
      intro off _ _ p
      cases vs with
      | nil=>cases ds with
        | nil=>exact trivial
        | cons _ _=>exact p.elim
      | cons _ _=>cases ds with
        | nil=>exact p.elim
        | cons _ _=>exact p.elim
    | cons T Ts ih =>
      intro off ho he p
      cases vs with
      | nil=>cases ds <;> exact p.elim
      | cons v vs=>cases ds with
        | nil=>exact p.elim
        | cons d ds =>
        refine⟨h off v d T (by omega) (by have:=he 0;simpa using this.symm) p.1,ih (off+1) (by omega) (fun j=>?_) p.2⟩
        have:=he (j+1)
        rw[List.getElem?_cons_succ] at this
        rw[this];congr 1;omega
   exact key 1 (by omega) (fun j=>by simp) p.2
 | v::vs,d::ds,S::Ss,k+1,w,S',p,e1,e2,q,h=>by
   refine⟨h 0 v d S (by omega) rfl p.1,?_⟩
   exact All3.put (k:=k) p.2 (by simpa using e1) (by simpa using e2) q fun j v d T hj hT hp=>h (j+1) v d T (by omega) (by simpa using hT) hp
 | [],_,_,_,_,_,_,e,_,_,_=>by simp at e
 | _::_,[],_,_,_,_,p,_,_,_,_=>p.elim
 | _::_,_::_,[],_,_,_,p,_,_,_,_=>p.elim
end
def OwnN(K:W.Frag)(H:Hp):Nat->V->D->List Addr->Prop
 | 0,v,d,S=>∃ c ys ds,v=V.ref c/\d=.lst ds/\S=[c]/\H c=some (.lst ys)/\ds.all bg=true/\Reps K H ys ds
 | n+1,v,d,S=>∃ b vs dl Ss,v=V.ref b/\d=.lst dl/\S=b::Ss.flatten/\H b=some (.lst vs)/\All3 (OwnN K H n) vs dl Ss
section
variable {K:W.Frag}{H H':Hp}
theorem OwnN.frame:∀ {n:Nat} {v:V} {d:D} {S:List Addr},(∀ b ∈ S,∀ o,H b=some o->H' b=some o)->OwnN K H n v d S->OwnN K H' n v d S
 | 0,_,_,_,h,⟨c,ys,ds,e1,e2,e3,e4,e5,e6⟩=>⟨c,ys,ds,e1,e2,e3,h c (by rw[e3];exact List.mem_cons_self) _ e4,e5,lT e5 e6⟩
 | n+1,_,_,_,h,⟨b,vs,dl,Ss,e1,e2,e3,e4,e5⟩=>⟨b,vs,dl,Ss,e1,e2,e3,h b (by rw[e3];exact List.mem_cons_self) _ e4,All3.imp (fun v d S hS p=>OwnN.frame (n:=n) (fun b hb o=>h b (by rw[e3];exact List.mem_cons_of_mem _ (List.mem_flatten.mpr ⟨S,hS,hb⟩)) o) p) e5⟩
theorem OwnN.mono{n:Nat}{v:V}{d:D}{S:List Addr}(e:Same H H')(h:OwnN K H n v d S):OwnN K H' n v d S:=h.frame fun b _ o q=>e b o q
theorem OwnN.dom:∀ {n:Nat} {v:V} {d:D} {S:List Addr},OwnN K H n v d S->∀ b ∈ S,H b ≠ none
 | 0,_,_,_,⟨c,ys,ds,e1,e2,e3,e4,e5,e6⟩,b,hb=>by
   rw[e3,List.mem_singleton] at hb
   rw[hb,e4];exact fun z=>nomatch z
 | n + 1,_,_,_,⟨c,vs,dl,Ss,e1,e2,e3,e4,e5⟩,b,hb=>by
   rw[e3] at hb
   rcases List.mem_cons.mp hb with rfl | hb
   ·rw[e4];exact fun z=>nomatch z
   ·obtain⟨S,hS,hb⟩:=List.mem_flatten.mp hb
    obtain⟨k,hk⟩:=List.getElem?_of_mem hS
    have hl:=e5.len
    have hkv:k < vs.length:=by have:=(List.getElem?_eq_some_iff.mp hk).1;omega
    obtain⟨d,S',_,h2,h3⟩:=e5.get (List.getElem?_eq_getElem hkv)
    rw[hk] at h2;cases h2
    exact OwnN.dom h3 b hb
theorem OwnN.rep:∀ {n:Nat} {v:V} {d:D} {S:List Addr} {A:Addr->Prop},OwnN K H n v d S->(∀ b ∈ S,¬ A b)->Rep K (ay H A) v d
 | 0,_,_,_,A,⟨c,ys,ds,e1,e2,e3,e4,e5,e6⟩,h=>by
   subst e1 e2
   refine .lst (.inl ?_) (lT e5 e6)
   rw[bC (h c (by rw[e3];exact List.mem_cons_self))]
   exact e4
 | n + 1,_,_,_,A,⟨b,vs,dl,Ss,e1,e2,e3,e4,e5⟩,h=>by
   subst e1 e2
   refine .lst (.inl ?_) (lS e5.len.1 fun k v d h1 h2=>?_)
   ·rw[bC (h b (by rw[e3];exact List.mem_cons_self))]
    exact e4
   ·obtain⟨d',S,q1,q2,q3⟩:=e5.get h1
    rw[h2] at q1;cases q1
    exact OwnN.rep q3 fun c hc=>h c (by rw[e3];exact List.mem_cons_of_mem _ (List.mem_flatten.mpr ⟨S,List.mem_of_getElem? q2,hc⟩))
end
structure RetO (K:W.Frag) (H0:Hp) (n:Nat) (d:D) (v:V) (H':Hp):Prop where
 same:Same H0 H'
 new:∃ S,OwnN K H' n v d S/\S.Nodup/\∀ b ∈ S,H0 b=none
def tvG(K:W.Frag)(n:Nat)(f:FE):TE:=fun σ H Q=>∃ ρ d,EnvR K H σ ρ/\f ρ=some d/\∀ v H',RetO K H n d v H'->Q v H'
end VL
namespace VL
open PySem PySem.Spec PyProof.Rows L2
def Cn(K:W.Frag)(F:Fr0)(J6:List Hd)(n:Nat)(O':List Nat)(De:Ends):Out->Prop
 | .nx ρ'=>∀ σ' H',EnvO K F J6 O' σ' ρ' H'->De.nx σ' H'
 | .rt d=>∀ v H',RetO K F.H0 n d v H'->De.rt v H'
 | .bk _=>True
 | .ct _=>True
def tsQ(K:W.Frag)(F:Fr0)(J6:List Hd)(n:Nat)(O O':List Nat)(f:FS):TS:=fun De σ H=>∃ ρ o,EnvO K F J6 O σ ρ H/\f ρ=some o/\Cn K F J6 n O' De o
abbrev VQs(X:Cx)(F:Fr0)(n:Nat)(O:List Nat)(st:List Stmt)(f:FS)(O':List Nat):Prop:=∀ J6,PSs X st (tsQ X.K F J6 n O O' f)
def spG(K:W.Frag)(n:Nat)(G:List D->Option D):Sp:=fun vs H Q _=>∃ ds d,Reps K H vs ds/\G ds=some d/\∀ v H',RetO K H n d v H'->Q v H'
theorem RetO.retC{K:W.Frag}{H:Hp}{n:Nat}{vs:List V}{ds:List D}{d:D}{v:V}{H':Hp}(h:RetO K H n d v H'):RetC K H vs ds true d v H':=by
 obtain⟨S,s1,s2,s3⟩:=h.new
 have out:∀ {A:Addr->Prop},Dom H A->∀ b ∈ S,¬ A b:=fun {A} hA b hb q=>hA b q (s3 b hb)
 refine⟨h.same,fun A hA _=>s1.rep (out hA),fun _=>?_⟩
 cases n with
 | zero =>
   obtain⟨c,ys,ds',rfl,rfl,rfl,e4,e5,e6⟩:=s1
   exact⟨c,ys,ds',rfl,rfl,s3 c List.mem_cons_self,e4,fun A hA _=>lT e5 e6⟩
 | succ n =>
   obtain⟨b,vs',dl,Ss,rfl,rfl,rfl,e4,e5⟩:=s1
   refine⟨b,vs',dl,rfl,rfl,s3 b List.mem_cons_self,e4,fun A hA _=>lS e5.len.1 fun k v d h1 h2=>?_⟩
   obtain⟨d',S,q1,q2,q3⟩:=e5.get h1
   rw[h2] at q1;cases q1
   have hm:∀ c ∈ S,c ∈ Ss.flatten:=fun c hc=>List.mem_flatten.mpr ⟨S,List.mem_of_getElem? q2,hc⟩
   refine q3.rep fun c hc q=>?_
   rcases q with q | q
   ·exact out hA c (List.mem_cons_of_mem _ (hm c hc)) q
   ·exact (List.nodup_cons.mp s2).1 (q ▸ hm c hc)
def DefG(P:Program)(w:World)(K:W.Frag)(mg:Str->Option Value)(base:Heap)(x:Str)(k:Nat)(ps:List Str)(n:Nat)(G:List D->Option D):Prop :=
 ∃ f fd,FnOk P w K mg base CX0 k f fd ps (spG K n G)/\mg x=some (.ref f)/\W.keepIn K (.ref f)=true/\Binds K fd ps []
section
variable {P:Program}{w:World}{K:W.Frag}{mg:Str->Option Value}{base:Heap}{x:Str}{j k n:Nat}{ps:List Str}{G:List D->Option D}
theorem DefG.mono(h:DefG P w K mg base x j ps n G)(hk:j<=k:=by decide):DefG P w K mg base x k ps n G :=
 let ⟨f,fd,F,m,kp,b⟩:=h
 ⟨f,fd,F.mono hk,m,kp,b⟩
theorem DefG.d(h:DefG P w K mg base x k ps n G):Def P w K mg base x k ps G true :=
 let ⟨f,fd,F,m,kp,b⟩:=h
 ⟨f,fd,F.imp fun vs H Q E ⟨ds,d,r,hg,q⟩=>⟨ds,d,r,hg,fun v H' rx=>q v H' rx.retC⟩,m,kp,b⟩
end
end VL
namespace VL
open PySem PySem.Spec PyProof.Rows L2
abbrev AS(A:Addr->Prop)(S:List Addr):Addr->Prop:=fun b=>A b\/b ∈ S
structure EnvW (K:W.Frag) (F:Fr0) (J6:List Hd) (i n:Nat) (S:List Addr) (v0:V) (d0:D) (σ:St) (ρ:am) (H:Hp):Prop where
 same:Same F.H0 H
 lσ:σ.length=F.n
 lρ:ρ.length=F.n
 si:σ[i]?=some (some v0)
 ri:ρ[i]?=some (some d0)
 own:OwnN K H n v0 d0 S
 nd:S.Nodup
 new:∀ b ∈ S,F.H0 b=Option.none
 val:∀ j d,ρ[j]?=some (some d)->j ≠ i->∃ v,σ[j]?=some (some v)/\∀ A,F.PA A->Rep K (ay H (AS A S)) v d
 hld:∀ p ∈ J6,∀ A,F.PA A->HdOk K (ay H (AS A S)) p
section
variable {K:W.Frag}{F:Fr0}{J6:List Hd}{i n:Nat}{S:List Addr}{v0:V}{d0:D}{σ:St}{ρ:am}{H H':Hp}
theorem EnvW.up(h:EnvW K F J6 i n S v0 d0 σ ρ H)(e:Same H H'):EnvW K F J6 i n S v0 d0 σ ρ H' :=
 ⟨h.same.trans e,h.lσ,h.lρ,h.si,h.ri,h.own.mono e,h.nd,h.new,fun j d q h1=>let ⟨v,h3,h4⟩:=h.val j d q h1;⟨v,h3,fun A hA=>aH (bY e) (h4 A hA)⟩,fun p hp A hA=>(h.hld p hp A hA).mono (bY e)⟩
theorem EnvW.envR(h:EnvW K F J6 i n S v0 d0 σ ρ H):EnvR K H σ ρ:=fun j d e=>by
 by_cases hi:j=i
 ·subst hi
  rw[h.ri] at e;cases e
  exact⟨_,h.si,aH (bc H fh) (h.own.rep fun _ _ q=>q)⟩
 ·obtain⟨v,h1,h2⟩:=h.val j d e hi
  exact⟨v,h1,aH (bc _ _) (h2 _ F.none)⟩
theorem EnvW.dom(h:EnvW K F J6 i n S v0 d0 σ ρ H){A:Addr->Prop}(hA:F.PA A):Dom H (AS A S):=fun b q=>by
 rcases q with q | q
 ·exact ((F.dom A hA).mono h.same) b q
 ·exact h.own.dom b q
theorem EnvW.eval(h:EnvW K F J6 i n S v0 d0 σ ρ H){es:List Es}{d:D}{v:V}(hes:es.all (apD i none)=true)(p:Post K σ ρ H es d v H'){A:Addr->Prop}(hA:F.PA A):Rep K (ay H' (AS A S)) v d:=by
 refine p.av _ (h.dom hA) fun e he=>?_
 have hj:=List.all_eq_true.mp hes e he
 have out:∀ (j:Nat) (v:V) (d:D),j ≠ i->σ[j]?=some (some v)->ρ[j]?=some (some d)->Rep K (ay H (AS A S)) v d:=fun j v d h1 h3 h4=>by
  obtain⟨v',h5,h6⟩:=h.val j d h4 h1
  rw[h3] at h5;cases h5
  exact h6 A hA
 cases e with
 | full j =>
   simp only[apD,Bool.and_eq_true,bne_iff_ne,ne_eq] at hj
   exact fun v d h1 h2=>out j v d hj.1 h1 h2
 | el j =>
   simp only[apD,Bool.and_eq_true,bne_iff_ne,ne_eq] at hj
   exact fun v d h1 h2=>(out j v d hj.1 h1 h2).el
end
def Co(K:W.Frag)(F:Fr0)(J6:List Hd)(i n:Nat)(fr:Bool)(De:Ends):Out->Prop
 | .nx ρ'=>∀ S v0 d0 σ' H',EnvW K F J6 i n S v0 d0 σ' ρ' H'->De.nx σ' H'
 | .rt d=>∀ v H',Ret K F fr d v H'->De.rt v H'
 | .bk _=>True
 | .ct _=>True
def tsG(K:W.Frag)(F:Fr0)(J6:List Hd)(i n:Nat)(fr:Bool)(f:FS):TS:=fun De σ H=>∃ S v0 d0 ρ o,EnvW K F J6 i n S v0 d0 σ ρ H/\f ρ=some o/\Co K F J6 i n fr De o
abbrev VG(X:Cx)(F:Fr0)(i n:Nat)(st:Stmt)(f:FS)(fr:Bool):Prop:=∀ J6,PS X st (tsG X.K F J6 i n fr f)
abbrev VGs(X:Cx)(F:Fr0)(i n:Nat)(st:List Stmt)(f:FS)(fr:Bool):Prop:=∀ J6,PSs X st (tsG X.K F J6 i n fr f)
def Ext(S:List Addr)(H H':Hp):Prop:=∀ b o,H b=some o->b ∉ S->H' b=some o
theorem Ext.trans{S:List Addr}{H H1 H2:Hp}(h1:Ext S H H1)(h2:Ext S H1 H2):Ext S H H2:=fun b o q n=>h2 b o (h1 b o q n) n
theorem Ext.sub{S T:List Addr}{H H1:Hp}(h:Ext S H H1)(hs:∀ b ∈ S,b ∈ T):Ext T H H1:=fun b o q n=>h b o q fun z=>n (hs b z)
theorem Ext.refl(S:List Addr)(H:Hp):Ext S H H:=fun _ _ q _=>q
theorem qY{α:Type}(f:α->α){l:List α}{k:Nat}{x:α}(h:l[k]?=some x):((l.take k).map f++l.drop k).set k (f x)=(l.take (k+1)).map f++l.drop (k+1):=by
 obtain⟨hk,hx⟩:=List.getElem?_eq_some_iff.mp h
 rw[List.set_append_right _ _ (by simp;omega)]
 rw[List.length_map,List.length_take,Nat.min_eq_left (by omega),Nat.sub_self,List.drop_eq_getElem_cons hk,List.set_cons_zero,List.take_succ_eq_append_getElem hk,List.map_append,List.append_assoc,hx]
 rfl
section
variable {F:Fr0}{i r1 r2:Nat}{d:D}
theorem EnvW.ext{K:W.Frag}{J6:List Hd}{n:Nat}{S:List Addr}{v0:V}{d0 d1:D}{σ σ':St}{ρ:am}{H H':Hp}(h:EnvW K F J6 i n S v0 d0 σ ρ H)(h1:i ≠ r1)(h2:i ≠ r2)(hσ:∀ j,j ≠ r1->j ≠ r2->σ'[j]?=σ[j]?)(hl:σ'.length=σ.length)(hx:Ext S H H')(ho:OwnN K H' n v0 d1 S):
  EnvW K F J6 i n S v0 d1 σ' (((ρ.set i (some d1)).set r1 none).set r2 none) H':=by
 have up:∀ {A:Addr->Prop},Same (ay H (AS A S)) (ay H' (AS A S)):=fun {A} b o q=>by
  obtain⟨n,q⟩:=dJ q
  rw[bC n]
  exact hx b o q fun z=>n (.inr z)
 have hpl:i < ρ.length:=(List.getElem?_eq_some_iff.mp h.ri).1
 have get:∀ j d,(((ρ.set i (some d1)).set r1 none).set r2 none)[j]?=some (some d)->j ≠ i->j ≠ r1/\j ≠ r2/\ρ[j]?=some (some d):=fun j d q hj=>by
  by_cases e2:r2=j
  ·subst e2
   have l1:r2 < ((ρ.set i (some d1)).set r1 none).length:=by have:=(List.getElem?_eq_some_iff.mp q).1;simpa using this
   rw[List.getElem?_set_self l1] at q;cases q
  ·rw[List.getElem?_set_ne e2] at q
   by_cases e1:r1=j
   ·subst e1
    have l1:r1 < (ρ.set i (some d1)).length:=by have:=(List.getElem?_eq_some_iff.mp q).1;simpa using this
    rw[List.getElem?_set_self l1] at q;cases q
   ·rw[List.getElem?_set_ne e1,List.getElem?_set_ne (Ne.symm hj)] at q
    exact⟨Ne.symm e1,Ne.symm e2,q⟩
 refine⟨fun b o q=>hx b o (h.same b o q) fun z=>(by rw[h.new b z] at q;cases q),by rw[hl];exact h.lσ,by simp only[List.length_set];exact h.lρ,by rw[hσ i h1 h2];exact h.si,?_,ho,h.nd,h.new,fun j d q hj=>?_,fun p hp A hA=>(h.hld p hp A hA).mono up⟩
 ·rw[List.getElem?_set_ne (Ne.symm h2),List.getElem?_set_ne (Ne.symm h1),List.getElem?_set_self hpl]
 ·obtain⟨g1,g2,g3⟩:=get j d q hj
  obtain⟨v,k1,k2⟩:=h.val j d g3 hj
  exact⟨v,by rw[hσ j g1 g2];exact k1,fun A hA=>aH up (k2 A hA)⟩
end
end VL
namespace VL
open PySem PySem.Spec PyProof.Rows L2
abbrev VY(X:Cx)(e:Expr)(n:Nat)(fe:FE):Prop:=PE X e (tvG X.K n fe)
end VL
namespace VL
open PySem PySem.Spec PyProof.Rows L2
section
variable {a b c:Expr}
def e3(g:D->D->D->Option D)(a b c:FE):FE:=fun ρ=>(a ρ).bind fun x=>(b ρ).bind fun y=>(c ρ).bind fun z=>g x y z
end
end VL
namespace VL
open PySem PySem.Spec PyProof.Rows L2
def Cp(ta:TA):TE:=fun σ H Q=>ta σ H fun vs H1=>∃ j:Int,vs=[.int j]/\-100000<=j/\j<=100000/\∀ l,H1 l=none->Q (.ref l) (upd H1 l (.lst ((List.range j.toNat).map fun k=>V.int (k:Nat))))
section
variable {X:Cx}{a:Expr}{as:FEs}{es:List Es}{pos pos2 p p2:Pos}{ta:TA}
theorem sU(hc:X.calm=true)(hgl:Gl X "list")(ml:X.mg "list" = none)(hgr:Gl X "range")(mr:X.mg "range" = none)(ha:PA X [a] ta)(hs:starEach [a] X.env=[(false,eval a X.env)])(hs2:starEach [.Call (.Name "range" p2) [a] [] pos2] X.env=[(false,eval (.Call (.Name "range" p2) [a] [] pos2) X.env)]):
  PE X (.Call (.Name "list" p) [.Call (.Name "range" p2) [a] [] pos2] [] pos) (Cp ta):=by
 intro J0 s σ H Q I h
 refine Call_ (dF I hgl ml PyProof.Rows.boot_list (PyProof.Rows.callWith_type1 ?_ hs2 rfl))
 rw[hs2]
 show wpAny _ _ (spliced ((false,eval (.Call (.Name "range" p2) [a] [] pos2) X.env)::backTo pos [])) _ _ s
 refine Calls.spliced_cons ?_
 refine Call_ (dF I hgr mr boot_range (PyProof.Rows.callWith_type1 (thn (ha pos2 J0 s σ H _ I h) fun us s1 ⟨vs,H1,I1,r1,q1⟩=>?_) hs rfl))
 obtain⟨j,rfl,hj1,hj2,hQ⟩:=q1
 obtain⟨u,rfl,ru⟩:=eF r1
 obtain⟨t,rfl⟩:=ru
 refine call_range_1 ?_
 refine Calls.spliced_nil ?_
 have I2:Inv X J0 σ H1 { s1 with heap:=s1.heap.push { cls:=.type "range",data:=.fields #[.int 0 s1.toks,.int j t,.int 1 (s1.toks+1)] },toks:=s1.toks+1+1 }:=I1.kept fun b o e=>Heap.get?_push_of_some _ e
 have hsz:Builtin.Range.rangeSize 0 j 1=(j.toNat:Int):=by rw[rangeSize_one];split <;> omega
 refine call_list_range (I.ok.hd hc) (IsRange.new ..) (small_one (by omega) (by omega) (by omega) (by omega)) hsz (by omega) fun h' tk acc c hk hS hacc=>?_
 have fS:=lQ I2
 have I3:Inv X J0 σ H1 { s1 with heap:=h',toks:=tk }:=I2.kept (t':=tk) hk
 obtain⟨al,hal⟩:=hacc
 have hv : Vals ((List.range j.toNat).map fun k=>V.int (k:Nat)) acc.toList:=by
  have gen:∀ (l:List Value) (n m:Nat),l.length=m->(∀ i v,l[i]?=some v->∃ t,v=Value.int ((n+i:Nat):Int) t)->Vals ((List.range' n m).map fun k=>V.int (k:Nat)) l:=by
   intro l
   induction l with
   | nil=>intro n m hm _;subst hm;exact .nil
   | cons v r ih =>
     intro n m hm hh
     subst hm
     rw[List.length_cons,List.range'_succ,List.map_cons]
     refine .cons ?_ (ih (n+1) r.length rfl fun i v' hv'=>?_)
     ·obtain⟨t,e⟩:=hh 0 v rfl
      exact⟨t,by simpa using e⟩
     ·obtain⟨t,e⟩:=hh (i+1) v' (by simpa using hv')
      exact⟨t,by rw[e];congr 1;omega⟩
  rw[List.range_eq_range']
  refine gen acc.toList 0 j.toNat (by simp[al]) fun i v hv=>?_
  obtain⟨t,e⟩:=hal i v (by simpa using hv)
  exact⟨t,by rw[e];congr 1;omega⟩
 have I4:=lP (o:=.lst ((List.range j.toNat).map fun k=>V.int (k:Nat))) I3 fS ⟨by rw[List.length_map,List.length_range,sizeLine_eq];omega,acc.toList,c,hv,by simpa using hS⟩
 exact⟨.ref _,_,I4,rfl,hQ _ fS.1⟩
def fZ:List D->Option D
 | [.int j]=>if -100000<=j/\j<=100000 then some (.lst ((List.range j.toNat).map fun k=>.int (k:Nat))) else none
 | _=>none
theorem Cq(ml:X.mg "list" = none)(mr:X.mg "range" = none)(ha:VA X [a] as es)(hc:X.calm=true)(hgl:Gl X "list")(hgr:Gl X "range")(hs:starEach [a] X.env=[(false,eval a X.env)])(hs2:starEach [.Call (.Name "range" p2) [a] [] pos2] X.env=[(false,eval (.Call (.Name "range" p2) [a] [] pos2) X.env)]):
  VF X (.Call (.Name "list" p) [.Call (.Name "range" p2) [a] [] pos2] [] pos) (eA fZ as) [] :=
 aM (sU hc hgl ml hgr mr ha hs hs2) fun σ H Q ⟨ρ,d,hE,hf,hQ⟩=>by
  obtain⟨ds,h1,hf⟩:=bind_some hf
  refine⟨ρ,ds,hE,h1,fun vs H1 p=>?_⟩
  match ds,hf,p with
  | [.int j],hf,p =>
    obtain⟨hj,rfl⟩:=de hf
    obtain⟨v,rfl,r⟩:=e8 p.rep
    cases r
    refine⟨j,rfl,hj.1,hj.2,fun l hl=>hQ _ _ (gy p.same hl fun A hD hz=>?_)⟩
    have:=Reps.ints (K:=X.K) (H:=ay H1 A) ((List.range j.toNat).map fun (k:Nat)=>(k:Int))
    rw[List.map_map,List.map_map] at this
    exact this
end
end VL
namespace VL
open PySem PySem.Spec PyProof.Rows L2
abbrev Cod:=Value->Int
def cat(c:Cod)(z:Array Keyed)(i:Nat):Int:=(z[i]?.map fun q=>c q.1).getD 0
def Ris(c:Cod)(z:Array Keyed)(n:Nat):Prop:=∀ u v,u<=v->v < n->cat c z u<=cat c z v
structure Srt (kd:SortKind) (z:Array Keyed) (st:SortSt):Prop where
 pm:(arrOf st).Perm z
 kd:kindOf st=kd
 fl:failedOf st=none
 pe:pendingOf st = #[]
theorem Srt.sz{kd:SortKind}{z:Array Keyed}{st:SortSt}(h:Srt kd z st):(arrOf st).size=z.size:=Array.Perm.size_eq h.pm
section
variable {z:Array Keyed}{c:Cod}{kd:SortKind}{st:SortSt}
def Cr(c:Cod)(z:Array Keyed)(t:SortSt):Prop:=(arrOf t).Perm z/\failedOf t=none/\pendingOf t = #[(0,z.size,0)]/\Ris c (arrOf t) z.size
theorem Srt.end(hS:Srt kd z st)(hr:Ris c (arrOf st) z.size):Cr c z (setPending st ((pendingOf st).push (0,z.size,0))):=by
 refine⟨hS.pm,hS.fl,?_,hr⟩
 show (pendingOf st).push _=_
 rw[hS.pe];rfl
end
def PairAt(h:Heap)(v:Value)(a b:Int):Prop:=∃ q t u,v=.ref q/\IsTup h q #[.int a t,.int b u]
theorem PairAt.one{h:Heap}{v:Value}{a b a' b':Int}(x:PairAt h v a b)(y:PairAt h v a' b'):a=a'/\b=b':=by
 obtain⟨q,t,u,rfl,o,h1,h2,n,h3⟩:=x
 obtain⟨q',t',u',e,o',k1,k2,n',k3⟩:=y
 cases e
 rw[h1] at k1;cases k1
 rw[h3] at k3
 cases k3
 exact⟨rfl,rfl⟩
theorem PairAt.up{h h':Heap}{v:Value}{a b:Int}(x:PairAt h v a b)(k:∀ q o,h.get? q=some o->(∃ xs n,o.data=.seq xs n/\o.cls=.type "tuple")->h'.get? q=some o):PairAt h' v a b:=by
 obtain⟨q,t,u,rfl,o,h1,h2,n,h3⟩:=x
 exact⟨q,t,u,rfl,o,k q o h1 ⟨_,n,h3,h2⟩,h2,n,h3⟩
def PTq(K:W.Frag)(H:Hp)(v:V)(p:Int × Int):Prop:=∃ q,v=.ref q/\SqT K H q [.int p.1,.int p.2]
def gV:Value->V
 | .ref p=>.ref p
 | _=>.non
section
theorem PTq.one{K:W.Frag}{H:Hp}{v:V}{x y:Int × Int}(h1:∃ q,v=.ref q/\Rd H q (.tup [.int x.1,.int x.2]))(h2:∃ q,v=.ref q/\Rd H q (.tup [.int y.1,.int y.2])):x=y:=by
 obtain⟨q,rfl,r1⟩:=h1
 obtain⟨q',e,r2⟩:=h2
 cases e
 have:=jA r1 r2
 simp at this
 exact Prod.ext this.1 this.2
end
end VL
namespace VL
open PySem PySem.Spec PyProof.Rows L2
structure JE (X:Cx) (e:Expr) (f:FE) (es:List Es):Prop where
 h:VE X e f es
structure JF (X:Cx) (e:Expr) (f:FE) (es:List Es):Prop where
 h:VF X e f es
structure JB (X:Cx) (e:Expr) (f:FE) (es:List Es):Prop where
 h:VB X e f es
structure JT (X:Cx) (e:Expr) (f:am->Option Bool):Prop where
 h:VT X e f
structure JW (X:Cx) (e:Expr) (f:am->Option Bool):Prop where
 h:VW X e f
structure JA (X:Cx) (e:List Expr) (f:FEs) (es:List Es):Prop where
 h:VA X e f es
structure JO (X:Cx) (e:Option Expr) (f:FO):Prop where
 h:VO X e f
structure JI (X:Cx) (tg iter:Expr) (f:FEs) (es:List Es):Prop where
 h:VI X tg iter f es
structure JS (X:Cx) (F:Fr0) (O:List Nat) (st:Stmt) (f:FS) (O' OL:List Nat) (fr:Bool):Prop where
 h:VS X F O st f O' OL fr
structure JSs (X:Cx) (F:Fr0) (O:List Nat) (st:List Stmt) (f:FS) (O' OL:List Nat) (fr:Bool):Prop where
 h:VSs X F O st f O' OL fr
structure JIL (X:Cx) (tg iter:Expr) (f:FEs) (es:List Es):Prop where
 h:VIL X tg iter f es
structure JD (X:Cx) (F:Fr0) (i:Nat) (al:Option Nat) (st:Stmt) (f:FS) (al':Option Nat) (fr:Bool):Prop where
 h:VD X F i al st f al' fr
structure JDs (X:Cx) (F:Fr0) (i:Nat) (al:Option Nat) (st:List Stmt) (f:FS) (al':Option Nat) (fr:Bool):Prop where
 h:VDs X F i al st f al' fr
structure JK (X:Cx) (F:Fr0) (i:Nat) (al:Option Nat) (st:Stmt) (f:FS) (al':Option Nat) (fr:Bool):Prop where
 h:VJ X F i al st f al' fr
structure JKs (X:Cx) (F:Fr0) (i:Nat) (al:Option Nat) (st:List Stmt) (f:FS) (al':Option Nat) (fr:Bool):Prop where
 h:VJs X F i al st f al' fr
structure JX (X:Cx) (F:Fr0) (i:Nat) (st:Stmt) (f:FS):Prop where
 h:VX X F i st f
structure JXs (X:Cx) (F:Fr0) (i:Nat) (st:List Stmt) (f:FS):Prop where
 h:VXs X F i st f
structure JRs (X:Cx) (F:Fr0) (O:List Nat) (st:List Stmt) (f:FS) (O':List Nat):Prop where
 h:VRs X F O st f O'
structure JG (X:Cx) (F:Fr0) (i n:Nat) (st:Stmt) (f:FS) (fr:Bool):Prop where
 h:VG X F i n st f fr
structure JGs (X:Cx) (F:Fr0) (i n:Nat) (st:List Stmt) (f:FS) (fr:Bool):Prop where
 h:VGs X F i n st f fr
structure JQs (X:Cx) (F:Fr0) (n:Nat) (O:List Nat) (st:List Stmt) (f:FS) (O':List Nat):Prop where
 h:VQs X F n O st f O'
structure JY (X:Cx) (e:Expr) (n:Nat) (fe:FE):Prop where
 h:VY X e n fe
section
variable {X:Cx}{a b c:Expr}{es ea eb ec:List Es}{fa fb fc:FE}{pos:Pos}
theorem aA{f:FE}(h:JF X a f es):JE X a f es:=⟨VF.ve h.h⟩
theorem ad(i:Nat){x:Str}{pos:Pos}(hN:X.N[i]?=some x:=by rfl)(hv:Vis X.env.scope x:=by first | exact Or.inl rfl | exact Or.inr (Or.inl rfl) | exact Or.inr (Or.inr rfl))(hd:(x == ("__debug__" : Str))=false:=by decide)(hcd:(x == ("__classdict__" : Str))=false:=by decide):JE X (.Name x pos) (aa i) [.full i]:=⟨zC i hN hv hd hcd⟩
theorem ai{i j pos}:JE X (.Constant (.int i) j pos) (eC (.int i)) []:=⟨zD ⟩
theorem eG{i j pos}:JE X (.Constant (.bool i) j pos) (eC (.bl i)) []:=⟨zE ⟩
theorem ft{j pos}:JE X (.Constant .none j pos) (eC .non) []:=⟨iJ ⟩
theorem bA{x j pos}:JE X (.Constant (.str x) j pos) (eC (.str x)) []:=⟨zF ⟩
theorem g4{x:Str}{i:Int}{t:Tok}{pos:Pos}(hm:X.mg x=some (.int i t))(hg:Gl X x:=by rfl)(hd:(x == ("__debug__" : Str))=false:=by decide):JE X (.Name x pos) (eC (.int i)) []:=⟨zG hm hg hd⟩
theorem bB(ha:JE X a fa ea)(hb:JE X b fb eb):JE X (.BinOp a .Add b pos) (e2 aV fa fb) []:=⟨zM ha.h hb.h⟩
theorem dg(ha:JE X a fa ea)(hb:JE X b fb eb):JE X (.BinOp a .Sub b pos) (e2 bH fa fb) []:=⟨zN ha.h hb.h⟩
theorem eh(ha:JE X a fa ea)(hb:JE X b fb eb):JE X (.BinOp a .Mult b pos) (e2 cH fa fb) []:=⟨zO ha.h hb.h⟩
theorem o9(ha:JE X a fa ea)(hb:JE X b fb eb):JE X (.BinOp a .FloorDiv b pos) (e2 iL fa fb) []:=⟨zP ha.h hb.h⟩
theorem gF(ha:JE X a fa ea)(hb:JE X b fb eb):JE X (.BinOp a .Mod b pos) (e2 e7 fa fb) []:=⟨zQ ha.h hb.h⟩
theorem iW(ha:JE X a fa ea)(hb:JE X b fb eb):JE X (.BinOp a .Pow b pos) (e2 fj fa fb) []:=⟨zR ha.h hb.h⟩
theorem dh(ha:JE X a fa ea):JE X (.UnaryOp .USub a pos) (e1 cj fa) []:=⟨zT ha.h⟩
theorem sV(ha:JE X a fa ea)(hb:JE X b fb eb):JE X (.Compare a [.Lt] [b] pos) (e2 ltI fa fb) []:=⟨zU ha.h hb.h⟩
theorem Cs(ha:JE X a fa ea)(hb:JE X b fb eb):JE X (.Compare a [.LtE] [b] pos) (e2 leI fa fb) []:=⟨zV ha.h hb.h⟩
theorem sW(ha:JE X a fa ea)(hb:JE X b fb eb):JE X (.Compare a [.Gt] [b] pos) (e2 gtI fa fb) []:=⟨zW ha.h hb.h⟩
theorem sX(ha:JE X a fa ea)(hb:JE X b fb eb):JE X (.Compare a [.GtE] [b] pos) (e2 geI fa fb) []:=⟨zX ha.h hb.h⟩
theorem Ct(ha:JE X a fa ea)(hb:JE X b fb eb):JT X (.Compare a [.Lt] [b] pos) (eT (e2 ltI fa fb)):=⟨zY ha.h hb.h⟩
theorem sY(ha:JE X a fa ea)(hb:JE X b fb eb)(hc:JE X c fc ec)(hm:lastMarks [.LtE,.LtE] [b,c]=false:=by with_unfolding_all rfl):JE X (.Compare a [.LtE,.LtE] [b,c] pos) (e3c leI leI fa fb fc) []:=⟨A9 ha.h hb.h hc.h hm⟩
theorem jT{f:FE}(h:JE X a f es)(he:∀ whole,isTrue a X.env whole=(do let v <- whole;standAt a.pos;holding [v] (truthy v)):=by intro _;rfl):JT X a (fk f):=⟨Aa h.h he⟩
variable {ta tb:am->Option Bool}{az:List Expr}
theorem Cu(ha:JT X a ta):JW X (.BoolOp .Or [a] pos) ta:=⟨Ab ha.h⟩
theorem Cv(ha:JT X a ta)(hb:JW X (.BoolOp .Or (b::az) pos) tb):JW X (.BoolOp .Or (a::b::az) pos) (bOr ta tb):=⟨Ac ha.h hb.h⟩
theorem Cw(h:JW X a ta):JT X a ta:=⟨Ad h.h⟩
theorem oa(ha:JT X a ta):JT X (.UnaryOp .Not a pos) (fQ ta):=⟨Ae ha.h⟩
theorem dW{op}{f:FE}(h:JE X a f es):JE X (.BoolOp op [a] pos) f es:=⟨Af h.h⟩
theorem dN(ha:JE X a fa ea)(hb:JE X (.BoolOp .And (b::az) pos) fb eb):JE X (.BoolOp .And (a::b::az) pos) (cI fa fb) eb:=⟨Ag ha.h hb.h⟩
theorem sZ(ha:JE X a fa ea)(hb:JE X (.BoolOp .Or (b::az) pos) fb eb):JE X (.BoolOp .Or (a::b::az) pos) (eOr fa fb) eb:=⟨Ah ha.h hb.h⟩
theorem Cy(ha:JE X a fa ea):JE X (.UnaryOp .Not a pos) (jH fa) []:=⟨Ai ha.h⟩
theorem ar: JA X [] aq []:=⟨Aj ⟩
theorem ah{xs:List Expr}{fs:FEs}(ha:JE X a fa ea)(hr:JA X xs fs eb)(hs:starEach (a::xs) X.env=(false,eval a X.env)::starEach xs X.env:=by rfl):JA X (a::xs) (ag fa fs) (ea++eb):=⟨Ak ha.h hr.h hs⟩
theorem bf{xs:List Expr}{fs:FEs}(h:JA X xs fs es):JF X (.List xs pos) (b8 fs) es:=⟨Al h.h⟩
theorem cz{xs:List Expr}{fs:FEs}{x1}(h:JA X xs fs es):JE X (.Tuple xs x1 pos) (bO fs) es:=⟨Am h.h⟩
end
section
variable {X:Cx}{a b:Expr}{es ea eb:List Es}{fa fb:FE}{pos p2:Pos}
theorem aW(h:JE X a fa es):JB X a fa es:=⟨VE.vb h.h⟩
theorem aC(i:Nat){x:Str}{pos:Pos}(hN:X.N[i]?=some x:=by rfl)(hv:Vis X.env.scope x:=by first | exact Or.inl rfl | exact Or.inr (Or.inl rfl) | exact Or.inr (Or.inr rfl))(hd:(x == ("__debug__" : Str))=false:=by decide)(hcd:(x == ("__classdict__" : Str))=false:=by decide):JB X (.Name x pos) (aa i) [.el i]:=⟨An i hN hv hd hcd⟩
theorem b0(ha:JB X a fa ea)(hb:JE X b fb eb)(hs:jx b):JE X (.Subscript a b pos) (e2 ixD fa fb) ea:=⟨Ao ha.h hb.h hs⟩
theorem cS: JO X none cy:=⟨Aq ⟩
theorem cE(h:JE X a fa ea):JO X (some a) (bU fa):=⟨Ar h.h⟩
theorem cJ{lo hi:Option Expr}{flo fhi:FO}(ha:JB X a fa ea)(hl:JO X lo flo)(hh:JO X hi fhi):JF X (.Subscript a (.Slice lo hi none p2) pos) (eSl fa flo fhi) ea:=⟨As ha.h hl.h hh.h⟩
theorem cA(ha:JB X a fa ea)(hb:JB X b fb eb):JF X (.BinOp a .Add b pos) (e2 bh fa fb) (ea++eb):=⟨At ha.h hb.h⟩
theorem iX(ha:JF X a fa ea)(hb:JE X b fb eb):JF X (.BinOp a .Mult b pos) (e2 dS fa fb) ea:=⟨Au ha.h hb.h⟩
theorem bZ{p:Pos}{as:FEs}(ml:X.mg "len" = none)(ha:JA X [a] as es)(hg:Gl X "len":=by rfl)(he:starEach [a] X.env=(false,eval a X.env)::starEach [] X.env:=by rfl)(hpl:(backTo pos (starEach [] X.env)).any (·.1)=false:=by rfl):JE X (.Call (.Name "len" p) [a] [] pos) (eA (aI bi) as) []:=⟨Aw ml ha.h hg he hpl⟩
theorem g5{p:Pos}(ml:X.mg "list" = none)(ha:JB X a fa ea)(hg:Gl X "list":=by rfl)(he:starEach [a] X.env=(false,eval a X.env)::starEach [] X.env:=by rfl)(hpl:(backTo pos (starEach [] X.env)).any (·.1)=false:=by rfl):JF X (.Call (.Name "list" p) [a] [] pos) (e1 e9 fa) ea:=⟨Ax ml ha.h hg he hpl⟩
theorem oe{p:Pos}{as:FEs}(hc:X.calm=true)(ml:X.mg "sum" = none)(ha:JA X [a] as es)(hg:Gl X "sum":=by rfl)(he:starEach [a] X.env=(false,eval a X.env)::starEach [] X.env:=by rfl)(hpl:(backTo pos (starEach [] X.env)).any (·.1)=false:=by rfl):JE X (.Call (.Name "sum" p) [a] [] pos) (eA (aI dL) as) []:=⟨Ay hc ml ha.h hg he hpl⟩
theorem t0{p:Pos}{as:FEs}(hc:X.calm=true)(ml:X.mg "max" = none)(ha:JA X [a,b] as es)(hg:Gl X "max":=by rfl)(he:starEach [a,b] X.env=(false,eval a X.env)::starEach [b] X.env:=by rfl)(hpl:(backTo pos (starEach [b] X.env)).any (·.1)=false:=by rfl):JE X (.Call (.Name "max" p) [a,b] [] pos) (eA (cP dU) as) []:=⟨AB hc ml ha.h hg he hpl⟩
theorem t3{p:Pos}{as:FEs}(hc:X.calm=true)(ml:X.mg "min" = none)(ha:JA X [a,b] as es)(hg:Gl X "min":=by rfl)(he:starEach [a,b] X.env=(false,eval a X.env)::starEach [b] X.env:=by rfl)(hpl:(backTo pos (starEach [b] X.env)).any (·.1)=false:=by rfl):JE X (.Call (.Name "min" p) [a,b] [] pos) (eA (cP gB) as) []:=⟨AC hc ml ha.h hg he hpl⟩
end
section
variable {X:Cx}{F:Fr0}{O O1 O2 O' OL:List Nat}{fr:Bool}{f g:FS}{st:Stmt}{az:List Stmt}{pos:Pos}{e:Expr}{fe:FE}{es:List Es}
theorem t4: JSs X F O [] jK O OL fr:=⟨AF ⟩
theorem ca(h1:JS X F O st f O1 OL fr)(h2:JSs X F O1 az g O2 OL fr):JSs X F O (st::az) (bz f g) O2 OL fr:=⟨AG h1.h h2.h⟩
theorem bt(h1:JS X F O st f O1 OL fr):JSs X F O [st] f O1 OL fr:=⟨AH h1.h⟩
theorem t5{c:Expr}{tc:am->Option Bool}{a b:List Stmt}(hc:JT X c tc)(ha:JSs X F O a f O1 OL fr)(hb:JSs X F O b g O2 OL fr)(h1:∀ i ∈ O',i ∈ O1:=by decide)(h2:∀ i ∈ O',i ∈ O2:=by decide):JS X F O (.If c a b pos) (sIf tc f g) O' OL fr:=⟨AI hc.h ha.h hb.h h1 h2⟩
theorem cm(he:JE X e fe es):JS X F O (.Return (some e) pos) (ba fe) O' OL false:=⟨AJ he.h⟩
theorem jU(he:JF X e fe es):JS X F O (.Return (some e) pos) (ba fe) O' OL fr:=⟨AK he.h⟩
theorem Cz(i:Nat){x:Str}{p2:Pos}(hi:i ∈ O:=by decide)(hN:X.N[i]?=some x:=by rfl)(hv:Vis X.env.scope x:=by first | exact Or.inl rfl | exact Or.inr (Or.inl rfl) | exact Or.inr (Or.inr rfl))(hd:(x == ("__debug__" : Str))=false:=by decide)(hcd:(x == ("__classdict__" : Str))=false:=by decide):JS X F O (.Return (some (.Name x p2)) pos) (ba (eL (aa i))) O' OL fr:=⟨AM i hi hN hv hd hcd⟩
theorem fu(i:Nat){x:Str}{p2:Pos}(hN:X.N.Nodup)(he:JE X e fe es)(hi:X.N[i]?=some x:=by rfl)(hx:Loc X.env.scope x:=by first | exact Or.inl rfl | exact Or.inr rfl)(hs:swapsWith e (some (.Name x p2)) pos.line X.env=pure false:=by rfl)(hfn:X.fn x=true\/X.env.scope.names.lookup x=some .local:=by first | exact .inl rfl | exact .inr rfl):JS X F O (.Assign [.Name x p2] e pos) (bK i fe) (iR (cC O es) i) OL fr:=⟨AN i hN he.h hi hx hs hfn⟩
theorem g6(i:Nat){x:Str}{p2:Pos}(hN:X.N.Nodup)(he:JF X e fe es)(hn:i < F.n)(hi:X.N[i]?=some x:=by rfl)(hx:Loc X.env.scope x:=by first | exact Or.inl rfl | exact Or.inr rfl)(hs:swapsWith e (some (.Name x p2)) pos.line X.env=pure false:=by rfl)(hfn:X.fn x=true\/X.env.scope.names.lookup x=some .local:=by first | exact .inl rfl | exact .inr rfl):JS X F O (.Assign [.Name x p2] e pos) (bK i fe) (i::iR (cC O es) i) OL fr:=⟨AO i hN he.h hn hi hx hs hfn⟩
end
section
variable {X:Cx}{F:Fr0}{O O2 OL:List Nat}{fr:Bool}{pos p2:Pos}{e a:Expr}{fe:FE}{es:List Es}
theorem t6(i:Nat){x:Str}{ap cp:Pos}(he:JE X e fe es)(hi:i ∈ cC O es:=by decide)(hN:X.N[i]?=some x:=by rfl)(hv:Vis X.env.scope x:=by first | exact Or.inl rfl | exact Or.inr (Or.inl rfl) | exact Or.inr (Or.inr rfl))(hd:(x == ("__debug__" : Str))=false:=by decide)(hcd:(x == ("__classdict__" : Str))=false:=by decide)(hbase:attributeBase (.Name x p2) "append" X.env (eval (.Name x p2) X.env)=eval (.Name x p2) X.env:=by rfl)(hfew:((backTo cp (starEach [e] X.env)).all (fun x=>!x.1) && (backToKw cp (keywordEach [] X.env)).all (fun x=>x.1.isSome)
   && decide (([e]:List Expr).length+([]:List Keyword).length+(if ([]:List Keyword).isEmpty then 0 else 1) < 30))=true:=by rfl)(hline:(ap.endLine == cp.line)=true:=by rfl)(hs:starEach [e] X.env=(false,eval e X.env)::starEach [] X.env:=by rfl)(hplain:(backTo cp (starEach [] X.env)).any (·.1)=false:=by rfl)(hsw:swapsWith (.Call (.Attribute (.Name x p2) "append" ap) [e] [] cp) none pos.line X.env=pure false:=by rfl):JS X F O (.Expr (.Call (.Attribute (.Name x p2) "append" ap) [e] [] cp) pos) (iS i fe) (cC O es) OL fr:=⟨AQ i he.h hi hN hv hd hcd hbase hfew hline hs hplain hsw⟩
theorem CA(t:Nat){x:Str}{iter:Expr}{body:List Stmt}{fi:FE}{ei:List Es}{tb:FS}(Ol:List Nat)(hN:X.N.Nodup)(hc:X.calm=true)(hi:JE X iter fi ei)(hb:JSs X F Ol body tb O2 Ol fr)(h1:∀ i ∈ Ol,i ∈ cC O ei:=by decide)(h2:∀ i ∈ Ol,i ∈ O2:=by decide)(h3:t ∉ Ol:=by decide)(hp:PassesOwn (model X.prog X.w) X.A X.env X.xe:=by exact PassesOwn.never)(hxN:X.N[t]?=some x:=by rfl)(hx:Loc X.env.scope x:=by first | exact Or.inl rfl | exact Or.inr rfl)(hfn:X.fn x=true\/X.env.scope.names.lookup x=some .local:=by first | exact .inl rfl | exact .inr rfl)(hs:∀ x,foldedSetIterable iter X.env x=pure x:=by intro _;rfl):JS X F O (.For (.Name x p2) iter body [] pos) (jN t fi tb) Ol OL fr:=⟨AT t Ol hN hc hi.h hb.h h1 h2 h3 hp hxN hx hfn hs⟩
theorem t7(t:Nat){x:Str}{a:Expr}{body:List Stmt}{as:FEs}{ei:List Es}{tb:FS}{pr pn:Pos}(Ol:List Nat)(hN:X.N.Nodup)(hc:X.calm=true)(mr:X.mg "range" = none)(hi:JA X [a] as ei)(hb:JSs X F Ol body tb O2 Ol fr)(h1:∀ i ∈ Ol,i ∈ O:=by decide)(h2:∀ i ∈ Ol,i ∈ O2:=by decide)(h3:t ∉ Ol:=by decide)(hp:PassesOwn (model X.prog X.w) X.A X.env X.xe:=by exact PassesOwn.never)(hg:Gl X "range":=by rfl)(hst:starEach [a] X.env=[(false,eval a X.env)]:=by rfl)(hxN:X.N[t]?=some x:=by rfl)(hx:Loc X.env.scope x:=by first | exact Or.inl rfl | exact Or.inr rfl)(hfn:X.fn x=true\/X.env.scope.names.lookup x=some .local:=by first | exact .inl rfl | exact .inr rfl)(hs:∀ x,foldedSetIterable (.Call (.Name "range" pn) [a] [] pr) X.env x=pure x:=by intro _;rfl):JS X F O (.For (.Name x p2) (.Call (.Name "range" pn) [a] [] pr) body [] pos) (iT t as tb) Ol OL fr:=⟨AW t Ol hN hc mr hi.h hb.h h1 h2 h3 hp hg hst hxN hx hfn hs⟩
end
section
variable {X:Cx}{tg iter a:Expr}{fi:FE}{as:FEs}{ei:List Es}{pr pn:Pos}
theorem eI(h:JB X iter fi ei):JI X tg iter (dt fi) ei:=⟨Bb h.h⟩
theorem og(mr:X.mg "range" = none)(hi:JA X [a] as ei)(hg:Gl X "range":=by rfl)(hst:starEach [a] X.env=[(false,eval a X.env)]:=by rfl):JI X tg (.Call (.Name "range" pn) [a] [] pr) (iR1 as) []:=⟨Bd mr hi.h hg hst⟩
end
section
variable {X:Cx}{a b:Expr}{es ea eb:List Es}{fa fb:FE}{pos p p2:Pos}{k:Nat}
theorem gG(hr:Room k X.A)(ha:JE X a fa ea)(hb:JE X b fb eb):JE X (.Compare a [.Eq] [b] pos) (e2 eqD fa fb) []:=⟨Bg hr ha.h hb.h⟩
theorem eo(hr:Room k X.A)(ha:JE X a fa ea)(hb:JE X b fb eb):JT X (.Compare a [.Eq] [b] pos) (eT (e2 eqD fa fb)):=⟨Bh hr ha.h hb.h⟩
theorem lU(hr:Room k X.A)(ha:JE X a fa ea)(hb:JE X b fb eb):JT X (.Compare a [.NotEq] [b] pos) (eT (e2 neD fa fb)):=⟨Bi hr ha.h hb.h⟩
theorem t8{T:Str}{TS:String}(hk:∀ K d,W.kitOne K (.type (tyD d)) (.type TS)=some (fR TS (tyD d)))(hT:bootBuiltins T=some (.type TS))(mi:X.mg "isinstance" = none)(mt:X.mg T=none)(ha:JE X a fa ea)(hg:Gl X "isinstance":=by rfl)(hgT:Gl X T:=by rfl)(hn:T ≠ "__name__":=by decide)(hd:(T == ("__debug__" : Str))=false:=by decide)(hs:starEach [a,.Name T p2] X.env=(false,eval a X.env)::starEach [.Name T p2] X.env:=by rfl)(hs2:starEach [.Name T p2] X.env=(false,eval (.Name T p2) X.env)::starEach [] X.env:=by rfl)(hpl:(backTo pos (starEach [.Name T p2] X.env)).any (·.1)=false:=by rfl):JE X (.Call (.Name "isinstance" p) [a,.Name T p2] [] pos) (e1 (fU TS) fa) []:=⟨Bm hk hT mi mt ha.h hg hgT hn hd hs hs2 hpl⟩
theorem oh{as:FEs}(hc:X.calm=true)(ml:X.mg "all" = none)(ha:JA X [a] as es)(hg:Gl X "all":=by rfl)(he:starEach [a] X.env=(false,eval a X.env)::starEach [] X.env:=by rfl)(hpl:(backTo pos (starEach [] X.env)).any (·.1)=false:=by rfl):JE X (.Call (.Name "all" p) [a] [] pos) (eA (aI (fV fun bs=>bs.all id)) as) []:=⟨Br hc ml ha.h hg he hpl⟩
end
section
variable {X:Cx}{elt tg iter:Expr}{ifs:List Expr}{scope:Scope}{own cn:List Str}{J7 is:List Nat}{g:TG}{un:D->Option (List D)}{fi:FEs}{ei ee:List Es}{c:am->Option Bool}{fe:FE}{pos:Pos}
theorem d9(B:BlkOk X scope own J7 cn)(hc:X.calm=true)(hi:JI X tg iter fi ei)(hg:∀ s H cl ex,PG (blk X (own++cn) s H scope cl ex) tg g)(hgv:TgV X.K g is un)(his:∀ i ∈ is,i < own.length)(ht:∀ s H cl ex,PTs (blk X (own++cn) s H scope cl ex) ifs (tvT X.K c))(he:∀ s H cl ex,JE (blk X (own++cn) s H scope cl ex) elt fe ee)(hs:∀ x,foldedSetIterable iter X.env x=pure x:=by intro _;rfl):JF X (.ListComp elt [⟨tg,iter,ifs,0⟩] scope pos) (bP own.length J7 is un fi c fe) (esC own.length J7 ei ee):=⟨Bs B hc hi.h hg hgv his ht (fun s H cl ex=>(he s H cl ex).h) hs⟩
end
section
variable {X:Cx}{k:Nat}{ps:List Str}{G:List D->Option D}{fr:Bool}{x:Str}{p pos:Pos}{e:Expr}{es':List Expr}{as:FEs}{es:List Es}
theorem gH(d:Def X.prog X.w X.K X.mg X.base x k ps G true)(hr:Room k X.A)(ha:JA X (e::es') as es)(hg:Gl X x:=by rfl)(hdb:(x == ("__debug__" : Str))=false:=by decide)(he:starEach (e::es') X.env=(false,eval e X.env)::starEach es' X.env:=by rfl)(hpl:(backTo pos (starEach es' X.env)).any (·.1)=false:=by rfl):JF X (.Call (.Name x p) (e::es') [] pos) (eA G as) es:=⟨Bv d hr ha.h hg hdb he hpl⟩
theorem bI(d:Def X.prog X.w X.K X.mg X.base x k ps (scF G) fr)(hr:Room k X.A)(ha:JA X (e::es') as es)(hg:Gl X x:=by rfl)(hdb:(x == ("__debug__" : Str))=false:=by decide)(he:starEach (e::es') X.env=(false,eval e X.env)::starEach es' X.env:=by rfl)(hpl:(backTo pos (starEach es' X.env)).any (·.1)=false:=by rfl):JE X (.Call (.Name x p) (e::es') [] pos) (eA (scF G) as) []:=⟨Bw d hr ha.h hg hdb he hpl⟩
end
section
variable {X:Cx}{a:Expr}{fa:FE}{ea:List Es}{pos p2:Pos}
theorem t9{j}(ha:JE X a fa ea):JT X (.Compare a [.Is] [.Constant .none j p2] pos) (eT (e1 df fa)):=⟨Bz ha.h⟩
theorem tf{j}(ha:JE X a fa ea):JE X (.Compare a [.IsNot] [.Constant .none j p2] pos) (e1 cZ fa) []:=⟨BA ha.h⟩
theorem CB{j}(ha:JE X a fa ea):JT X (.Compare a [.IsNot] [.Constant .none j p2] pos) (eT (e1 cZ fa)):=⟨BB ha.h⟩
end
section
variable {X:Cx}{a b:Expr}{elts:List Expr}{ek:Nat}{ep pn pr:Pos}{fa fb:FE}{ea eb:List Es}
theorem CC(mr:X.mg "enumerate" = none)(h:JB X a fa ea)(hg:Gl X "enumerate":=by rfl)(hst:starEach [a] X.env=[(false,eval a X.env)]:=by rfl):JI X (.Tuple elts ek ep) (.Call (.Name "enumerate" pn) [a] [] pr) (jQ fa) ea:=⟨BP mr h.h hg hst⟩
theorem tj(mr:X.mg "zip" = none)(ha:JB X a fa ea)(hb:JB X b fb eb)(hg:Gl X "zip":=by rfl)(hst:starEach [a,b] X.env=[(false,eval a X.env),(false,eval b X.env)]:=by rfl)(hst2:starEach [b] X.env=[(false,eval b X.env)]:=by rfl):JI X (.Tuple elts ek ep) (.Call (.Name "zip" pn) [a,b] [] pr) (iV fa fb) (ea++eb):=⟨BQ mr ha.h hb.h hg hst hst2⟩
end
section
variable {X:Cx}{F:Fr0}{O O2 OL:List Nat}{fr:Bool}{a:Expr}{body:List Stmt}{fa:FE}{ea:List Es}{tb:FS}{p2 pos pn pr:Pos}
theorem CD(t:Nat){x:Str}(Ol:List Nat)(hN:X.N.Nodup)(hc:X.calm=true)(mr:X.mg "reversed" = none)(hi:JE X a fa ea)(hb:JSs X F Ol body tb O2 Ol fr)(h1:∀ i ∈ Ol,i ∈ cC O ea:=by decide)(h2:∀ i ∈ Ol,i ∈ O2:=by decide)(h3:t ∉ Ol:=by decide)(hp:PassesOwn (model X.prog X.w) X.A X.env X.xe:=by exact PassesOwn.never)(hg:Gl X "reversed":=by rfl)(hst:starEach [a] X.env=[(false,eval a X.env)]:=by rfl)(hxN:X.N[t]?=some x:=by rfl)(hx:Loc X.env.scope x:=by first | exact Or.inl rfl | exact Or.inr rfl)(hfn:X.fn x=true\/X.env.scope.names.lookup x=some .local:=by first | exact .inl rfl | exact .inr rfl)(hs:∀ x,foldedSetIterable (.Call (.Name "reversed" pn) [a] [] pr) X.env x=pure x:=by intro _;rfl):JS X F O (.For (.Name x p2) (.Call (.Name "reversed" pn) [a] [] pr) body [] pos) (jO t fa tb) Ol OL fr:=⟨BT t Ol hN hc mr hi.h hb.h h1 h2 h3 hp hg hst hxN hx hfn hs⟩
end
section
variable {X:Cx}{a:Expr}{fa:FE}{ea:List Es}{pos pos2 p p2:Pos}
theorem tm(ml:X.mg "list" = none)(mr:X.mg "reversed" = none)(ha:JB X a fa ea)(hc:X.calm=true:=by rfl)(hgl:Gl X "list":=by rfl)(hgr:Gl X "reversed":=by rfl)(hs:starEach [a] X.env=[(false,eval a X.env)]:=by rfl)(hs2:starEach [.Call (.Name "reversed" p2) [a] [] pos2] X.env=[(false,eval (.Call (.Name "reversed" p2) [a] [] pos2) X.env)]:=by rfl):JF X (.Call (.Name "list" p) [.Call (.Name "reversed" p2) [a] [] pos2] [] pos) (e1 jP fa) ea:=⟨C3 ml mr ha.h hc hgl hgr hs hs2⟩
end
section
variable {X:Cx}{F:Fr0}{O O2 OL:List Nat}{fr:Bool}{a b c:Expr}{body:List Stmt}{as:FEs}{ei:List Es}{tb:FS}{p2 pos pn pr:Pos}
theorem CF(t:Nat){x:Str}(Ol:List Nat)(hN:X.N.Nodup)(hc:X.calm=true)(mr:X.mg "range" = none)(hi:JA X [a,b,c] as ei)(hb:JSs X F Ol body tb O2 Ol fr)(h1:∀ i ∈ Ol,i ∈ O:=by decide)(h2:∀ i ∈ Ol,i ∈ O2:=by decide)(h3:t ∉ Ol:=by decide)(hp:PassesOwn (model X.prog X.w) X.A X.env X.xe:=by exact PassesOwn.never)(hg:Gl X "range":=by rfl)(hst:starEach [a,b,c] X.env=(false,eval a X.env)::starEach [b,c] X.env:=by rfl)(hpl:(backTo pr (starEach [b,c] X.env)).any (·.1)=false:=by rfl)(hxN:X.N[t]?=some x:=by rfl)(hx:Loc X.env.scope x:=by first | exact Or.inl rfl | exact Or.inr rfl)(hfn:X.fn x=true\/X.env.scope.names.lookup x=some .local:=by first | exact .inl rfl | exact .inr rfl)(hs:∀ x,foldedSetIterable (.Call (.Name "range" pn) [a,b,c] [] pr) X.env x=pure x:=by intro _;rfl):JS X F O (.For (.Name x p2) (.Call (.Name "range" pn) [a,b,c] [] pr) body [] pos) (jS t as tb) Ol OL fr:=⟨Cc t Ol hN hc mr hi.h hb.h h1 h2 h3 hp hg hst hpl hxN hx hfn hs⟩
end
section
variable {X:Cx}{a:Expr}{es:List Es}{as:FEs}{pos p:Pos}
theorem tq(mi:X.mg "int" = none)(ha:JA X [a] as es)(hg:Gl X "int":=by rfl)(he:starEach [a] X.env=(false,eval a X.env)::starEach [] X.env:=by rfl)(hpl:(backTo pos (starEach [] X.env)).any (·.1)=false:=by rfl):JE X (.Call (.Name "int" p) [a] [] pos) (eA (aI fq) as) []:=⟨Cd mi ha.h hg he hpl⟩
end
section
variable {X:Cx}{a:Expr}{as:FEs}{es:List Es}{pos pos2 p p2:Pos}
theorem CG(ml:X.mg "list" = none)(mr:X.mg "range" = none)(ha:JA X [a] as es)(hc:X.calm=true:=by rfl)(hgl:Gl X "list":=by rfl)(hgr:Gl X "range":=by rfl)(hs:starEach [a] X.env=[(false,eval a X.env)]:=by rfl)(hs2:starEach [.Call (.Name "range" p2) [a] [] pos2] X.env=[(false,eval (.Call (.Name "range" p2) [a] [] pos2) X.env)]:=by rfl):JF X (.Call (.Name "list" p) [.Call (.Name "range" p2) [a] [] pos2] [] pos) (eA fZ as) []:=⟨Cq ml mr ha.h hc hgl hgr hs hs2⟩
end
section
variable {P:Program}{w:World}{K:W.Frag}{mg:Str->Option Value}{base:Heap}{x:Str}{k:Nat}{ps:List Str}{G:List D->Option D}{fr:Bool}
theorem bR{np n:Nat}{qual:Str}{st:Stmt}{f:Addr}{fd:FuncData}{N:List Str}{body:FS}(O' OL:List Nat)(h1:ps.length=np)(h2:N.length=n)(h3:G=mkF fr np n body)(Fn:Fun K x qual st f fd)(S:FnScope N ps (ao st))(h:∀ (cdv:Value) (A:Around) (outer:List PySem.Env) (s:Shared) (H:Hp) (E:XK) (F:Fr0),F.n=n->Room k (A.deeper (envOfC qual (ao st) s.heap.objs.size f cdv)) ->
   JSs (cG CX0 P w K mg base N qual (ao st) f cdv A outer s H E).nox F [] (aG st) body O' OL fr):
  FnOk P w K mg base CX0 (k+1) f fd ps (spF K G fr):=Bt O' OL h1 h2 h3 Fn S fun cdv A outer s H E F hn hr=>(h cdv A outer s H E F hn hr).h
end
end VL
namespace VL
open PySem (Str)
open L2 (atI ixN)
theorem jV{d:D}{ds:List D}(h:ck d=some ds):cX d=false/\items d=some ds:=by
 unfold ck at h
 cases e:cX d <;> rw[e] at h
 ·exact⟨rfl,by simpa using h⟩
 ·cases h
def WE(e:FE)(ρ:am)(K:D->Prop):Prop:=∃ d,e ρ=some d/\K d
def WB(e:am->Option Bool)(ρ:am)(K:Bool->Prop):Prop:=∃ d,e ρ=some d/\K d
def WA(e:FEs)(ρ:am)(K:List D->Prop):Prop:=∃ d,e ρ=some d/\K d
def WO(e:FO)(ρ:am)(K:Option Int->Prop):Prop:=∃ d,e ρ=some d/\K d
def WS(e:FS)(ρ:am)(K:Out->Prop):Prop:=∃ d,e ρ=some d/\K d
def W2(g:D->D->Option D)(x y:D)(K:D->Prop):Prop:=∃ d,g x y=some d/\K d
def W1(g:D->Option D)(x:D)(K:D->Prop):Prop:=∃ d,g x=some d/\K d
def WF(F:List D->Option D)(ds:List D)(K:D->Prop):Prop:=∃ d,F ds=some d/\K d
def kT(K:Bool->Prop):D->Prop
 | .bl b=>K b
 | _=>False
def oi(g:FS)(Q:Out->Prop):Out->Prop
 | .nx ρ=>WS g ρ Q
 | o=>Q o
def tu(K:D->Prop):Out->Prop
 | .rt d=>K d
 | _=>False
def kIf(b:Bool)(A B:Prop):Prop:=(b=true->A)/\(b=false->B)
section
variable {ρ:am}{K:D->Prop}{KB:Bool->Prop}{KL:List D->Prop}{KO:Option Int->Prop}{Q:Out->Prop}{a b c:FE}{f g:FS}{t t':am->Option Bool}
theorem CH{Q':Out->Prop}(h:WS f ρ Q)(i:∀ d,Q d->Q' d):WS f ρ Q':=let ⟨d,e,k⟩:=h;⟨d,e,i d k⟩
theorem iY{F:List D->Option D}{ds:List D}{K':D->Prop}(h:WF F ds K)(i:∀ d,K d->K' d):WF F ds K':=let ⟨d,e,k⟩:=h;⟨d,e,i d k⟩
theorem bL{F:List D->Option D}{ds:List D}{d:D}(h:F ds=some d)(k:K d):WF F ds K:=⟨d,h,k⟩
theorem cF{F:List D->Option D}{ds:List D}{d:D}(h:WF F ds (fun x=>x=d)):F ds=some d:=by obtain⟨_,e,rfl⟩:=h;exact e
theorem CI{i:Nat}{d:D}(h:aa i ρ=some d)(k:K d):WE (aa i) ρ K:=⟨d,h,k⟩
theorem CJ{d:D}(k:K d):WE (eC d) ρ K:=⟨d,rfl,k⟩
theorem CK{g:D->D->Option D}(h:WE a ρ fun x=>WE b ρ fun y=>W2 g x y K):WE (e2 g a b) ρ K:=by
 obtain⟨x,e1,y,e2,d,e3,k⟩:=h
 exact⟨d,by simp only[VL.e2,e1,e2,Option.bind_some,e3],k⟩
theorem CL{g:D->Option D}(h:WE a ρ fun x=>W1 g x K):WE (e1 g a) ρ K:=by
 obtain⟨x,e1,d,e3,k⟩:=h
 exact⟨d,by simp only[VL.e1,e1,Option.bind_some,e3],k⟩
theorem eJ{C:Int->Int->Prop}[∀ i j,Decidable (C i j)]{k:Int->Int->D}{i j:Int}(hc:C i j)(h:K (k i j)):W2 (gI C k) (.int i) (.int j) K:=⟨_,by simp only[gI,if_pos hc],h⟩
theorem CM{i j:Int}(h:K (.int (i+j))):W2 aV (.int i) (.int j) K:=eJ trivial h
theorem CN{i j:Int}(h:K (.int (i - j))):W2 bH (.int i) (.int j) K:=eJ trivial h
theorem CO{i j:Int}(hc:okMul i j)(h:K (.int (i * j))):W2 cH (.int i) (.int j) K:=eJ hc h
theorem CP{i j:Int}(hc:jE i j)(h:K (.int (i / j))):W2 iL (.int i) (.int j) K:=eJ hc h
theorem CQ{i j:Int}(hc:lw i j)(h:K (.int (i % j))):W2 e7 (.int i) (.int j) K:=eJ hc h
theorem CS{i j:Int}(hc:jF i j)(h:∀ v,v=i ^ j.toNat->K (.int v)):W2 fj (.int i) (.int j) K:=eJ hc (h _ rfl)
theorem CT{i j:Int}(h:K (.bl (decide (i < j)))):W2 ltI (.int i) (.int j) K:=eJ trivial h
theorem CU{i j:Int}(h:K (.bl (decide (i<=j)))):W2 leI (.int i) (.int j) K:=eJ trivial h
theorem CV{i j:Int}(h:K (.bl (decide (j < i)))):W2 gtI (.int i) (.int j) K:=eJ trivial h
theorem CW{i j:Int}(h:K (.bl (decide (j<=i)))):W2 geI (.int i) (.int j) K:=eJ trivial h
theorem CY{i:Int}(h:K (.int (-i))):W1 cj (.int i) K:=⟨_,rfl,h⟩
theorem CZ{i j:Int}(h:K (.bl (decide (i=j)))):W2 eqD (.int i) (.int j) K:=⟨_,rfl,h⟩
theorem D7{i j:Int}(h:K (.bl (!decide (i=j)))):W2 neD (.int i) (.int j) K:=⟨_,rfl,h⟩
theorem D8{x d:D}{i:Int}(e:ixD x (.int i)=some d)(h:K d):W2 ixD x (.int i) K:=⟨_,e,h⟩
theorem D9(h:WE a ρ (kT KB)):WB (eT a) ρ KB:=by
 obtain⟨d,e,k⟩:=h
 cases d <;> first | exact k.elim | exact⟨_,by simp only[eT,e,Option.bind_some],k⟩
theorem Da(h:WE a ρ (kT KB)):WB (fk a) ρ KB:=by
 obtain⟨d,e,k⟩:=h
 cases d <;> first | exact k.elim | exact⟨_,by simp only[fk,e,Option.bind_some,tru],k⟩
theorem Db{b:Bool}(h:KB b):kT KB (.bl b):=h
theorem Dc(h:WS g ρ Q):oi g Q (.nx ρ):=h
theorem Dd{d:D}(h:Q (.rt d)):oi g Q (.rt d):=h
theorem Df{d:D}(h:K d):tu K (.rt d):=h
theorem Dg(h:WB t ρ fun b=>kIf b (KB true) (WB t' ρ KB)):WB (bOr t t') ρ KB:=by
 obtain⟨b,e,k1,k2⟩:=h
 cases b with
 | true=>exact⟨true,by simp only[bOr,e,Option.bind_some,if_pos],k1 rfl⟩
 | false=>obtain⟨b',e',k'⟩:=k2 rfl;exact⟨b',by simp[bOr,e,e'],k'⟩
theorem Dh(h:WB t ρ fun b=>KB (!b)):WB (fQ t) ρ KB:=by
 obtain⟨b,e,k⟩:=h
 exact⟨!b,by simp only[fQ,e,Option.map_some],k⟩
theorem Di(h:WE a ρ (kT fun x=>kIf x (WE b ρ K) (K (.bl false)))):WE (cI a b) ρ K:=by
 obtain⟨d,e,k⟩:=h
 cases d with
 | bl x =>
   cases x with
   | true=>obtain⟨y,e',k'⟩:=k.1 rfl;exact⟨y,by simp only[cI,e,Option.bind_some,e'],k'⟩
   | false=>exact⟨.bl false,by simp only[cI,e,Option.bind_some],k.2 rfl⟩
 | _=>exact k.elim
theorem Dj(h:WE a ρ (kT fun x=>kIf x (K (.bl true)) (WE b ρ K))):WE (eOr a b) ρ K:=by
 obtain⟨d,e,k⟩:=h
 cases d with
 | bl x =>
   cases x with
   | false=>obtain⟨y,e',k'⟩:=k.2 rfl;exact⟨y,by simp only[eOr,e,Option.bind_some,e'],k'⟩
   | true=>exact⟨.bl true,by simp only[eOr,e,Option.bind_some],k.1 rfl⟩
 | _=>exact k.elim
theorem Dk(h:WE a ρ (kT fun x=>K (.bl (!x)))):WE (jH a) ρ K:=by
 obtain⟨d,e,k⟩:=h
 cases d <;> first | exact k.elim | exact⟨_,by simp only[jH,e,Option.bind_some],k⟩
theorem cq{P:Prop}[Decidable P]{A B:Prop}(h1:P->A)(h2:¬ P->B):kIf (decide P) A B:=⟨fun e=>h1 (of_decide_eq_true e),fun e=>h2 (of_decide_eq_false e)⟩
theorem jW{P:Prop}[Decidable P]{A B:Prop}(h1:¬ P->A)(h2:P->B):kIf (!decide P) A B:=⟨fun e=>h1 (by simpa using e),fun e=>h2 (by simpa using e)⟩
theorem tz{A B:Prop}(h:A):kIf true A B:=⟨fun _=>h,fun e=>nomatch e⟩
theorem tB{A B:Prop}(h:B):kIf false A B:=⟨fun e=>(nomatch e),fun _=>h⟩
theorem Dl{A B:Prop}(h:A):kIf (!false) A B:=tz h
theorem Dm{A B:Prop}(h:B):kIf (!true) A B:=tB h
theorem Dn(h:KL []):WA aq ρ KL:=⟨[],rfl,h⟩
theorem Do{r:FEs}(h:WE a ρ fun d=>WA r ρ fun ds=>KL (d::ds)):WA (ag a r) ρ KL:=by
 obtain⟨d,e,ds,e',k⟩:=h
 exact⟨_,by simp only[ag,e,e',Option.bind_some],k⟩
theorem Dp{r:FEs}(h:WA r ρ fun ds=>ds.length<=1000/\K (.lst ds)):WE (b8 r) ρ K:=by
 obtain⟨ds,e,l,k⟩:=h
 exact⟨_,by simp only[b8,e,Option.bind_some,if_pos l],k⟩
theorem Dq{r:FEs}(h:WA r ρ fun ds=>ds.length<=1000/\K (.tup ds)):WE (bO r) ρ K:=by
 obtain⟨ds,e,l,k⟩:=h
 exact⟨_,by simp only[bO,e,Option.bind_some,if_pos l],k⟩
theorem Dr{F:List D->Option D}{r:FEs}(h:WA r ρ fun ds=>WF F ds K):WE (eA F r) ρ K:=by
 obtain⟨ds,e,d,e',k⟩:=h
 exact⟨d,by simp only[eA,e,Option.bind_some,e'],k⟩
theorem Ds{g g':D->D->Option D}(h:WE a ρ fun x=>WE b ρ fun y=>W2 g x y (kT fun z=>kIf z (WE c ρ fun w=>W2 g' y w K) (K (.bl false)))):WE (e3c g g' a b c) ρ K:=by
 obtain⟨x,e1,y,e2,d,e3,k⟩:=h
 cases d with
 | bl z =>
   cases z with
   | true=>obtain⟨w,e4,d,e5,k⟩:=k.1 rfl;exact⟨d,by simp only[e3c,e1,e2,e3,e4,e5,Option.bind_some],k⟩
   | false=>exact⟨.bl false,by simp only[e3c,e1,e2,e3,Option.bind_some],k.2 rfl⟩
 | _=>exact k.elim
theorem Dt(h:Q (.nx ρ)):WS jK ρ Q:=⟨_,rfl,h⟩
theorem Du(h:WS f ρ (oi g Q)):WS (bz f g) ρ Q:=by
 obtain⟨o,e,k⟩:=h
 cases o with
 | nx ρ'=>obtain⟨o',e',k'⟩:=k;exact⟨o',by simp only[bz,e,Option.bind_some,e'],k'⟩
 | rt d=>exact⟨_,by simp only[bz,e,Option.bind_some],k⟩
 | bk d=>exact⟨_,by simp only[bz,e,Option.bind_some],k⟩
 | ct d=>exact⟨_,by simp only[bz,e,Option.bind_some],k⟩
theorem Dv(h:WB t ρ fun x=>kIf x (WS f ρ Q) (WS g ρ Q)):WS (sIf t f g) ρ Q:=by
 obtain⟨x,e,k1,k2⟩:=h
 cases x with
 | true=>obtain⟨d,e',k⟩:=k1 rfl;exact⟨d,by simp only[sIf,e,Option.bind_some,if_pos,e'],k⟩
 | false=>obtain⟨d,e',k⟩:=k2 rfl;exact⟨d,by simp[sIf,e,e'],k⟩
theorem Dw(h:WE a ρ fun d=>Q (.rt d)):WS (ba a) ρ Q:=by
 obtain⟨d,e,k⟩:=h
 exact⟨_,by simp only[ba,e,Option.map_some],k⟩
theorem Dx{i:Nat}(h:WE a ρ fun d=>Q (.nx (ρ.set i (some d)))):WS (bK i a) ρ Q:=by
 obtain⟨d,e,k⟩:=h
 exact⟨_,by simp only[bK,e,Option.map_some],k⟩
theorem tD{i:Nat}{ds:List D}(hv:aa i ρ=some (.lst ds))(hl:ds.length < 100000)(h:WE a ρ fun d=>Q (.nx (ρ.set i (some (.lst (ds++[d])))))):WS (iS i a) ρ Q:=by
 obtain⟨d,e,k⟩:=h
 exact⟨_,by simp only[iS,hv,e,Option.bind_some,if_pos hl],k⟩
theorem Dy(h:KO none):WO cy ρ KO:=⟨_,rfl,h⟩
theorem Dz(h:WE a ρ fun d=>∃ i,d=.int i/\KO (some i)):WO (bU a) ρ KO:=by
 obtain⟨d,e,i,rfl,k⟩:=h
 exact⟨_,by simp only[bU,e,Option.bind_some],k⟩
theorem DA{lo hi:FO}(h:WE a ρ fun x=>WO lo ρ fun l=>WO hi ρ fun u=>∃ ds,ck x=some ds/\K (.lst (cB ds l u))):WE (eSl a lo hi) ρ K:=by
 obtain⟨x,e,l,e1,u,e2,ds,h1,k⟩:=h
 obtain⟨h1,h2⟩:=jV h1
 exact⟨_,by simp[eSl,e,e1,e2,h1,h2],k⟩
theorem bS{fr:Bool}{np n:Nat}{body:FS}{ds:List D}(hl:ds.length=np)(h:WS body (ds.map some++List.replicate (n - np) none) (tu K)):WF (mkF fr np n body) ds K:=by
 obtain⟨o,e,k⟩:=h
 cases o with
 | rt d=>exact⟨d,by simp only[mkF,if_pos hl,e,Option.bind_some],k⟩
 | _=>exact k.elim
theorem cK{F:List D->Option D}{ds:List D}(h:WF F ds fun d=>bg d=true/\K d):WF (scF F) ds K:=by
 obtain⟨d,e,s,k⟩:=h
 exact⟨d,by simp only[scF,e,Option.bind_some,if_pos s],k⟩
end
def lV(go:am->Prop)(Q:Out->Prop):Out->Prop
 | .nx ρ=>go ρ
 | .ct ρ=>go ρ
 | .bk ρ=>Q (.nx ρ)
 | .rt d=>Q (.rt d)
theorem oj{body:D->FS}{Q:Out->Prop}(I:List D->am->Prop)(he:∀ ρ,I [] ρ->Q (.nx ρ))(hs:∀ x r ρ,I (x::r) ρ->WS (body x) ρ (lV (I r) Q)):
  ∀ (ds:List D) (ρ:am),I ds ρ->WS (bD body ds) ρ Q
 | [],ρ,h=>⟨_,rfl,he ρ h⟩
 | x::r,ρ,h=>by
   obtain⟨o,e,k⟩:=hs x r ρ h
   cases o with
   | nx ρ'=>obtain⟨o',e',k'⟩:=oj I he hs r ρ' k;exact⟨o',by simp only[bD,e,Option.bind_some,e'],k'⟩
   | ct ρ'=>obtain⟨o',e',k'⟩:=oj I he hs r ρ' k;exact⟨o',by simp only[bD,e,Option.bind_some,e'],k'⟩
   | bk ρ'=>exact⟨_,by simp only[bD,e,Option.bind_some],k⟩
   | rt d=>exact⟨_,by simp only[bD,e,Option.bind_some],k⟩
theorem DB{α:Type}{body:D->FS}{Q:Out->Prop}{ρ:am}(enc:α->D)(xs:List α)(I:Nat->am->Prop)(h0:I 0 ρ)(he:∀ ρ,I xs.length ρ->Q (.nx ρ))(hs:∀ (k:Nat) (h:k < xs.length) (ρ:am),I k ρ->WS (body (enc xs[k])) ρ (lV (I (k+1)) Q)):WS (bD body (xs.map enc)) ρ Q:=by
 refine oj (fun r ρ=>∃ k,k<=xs.length/\r=(xs.drop k).map enc/\I k ρ) ?_ ?_ _ ρ ⟨0,Nat.zero_le _,by simp,h0⟩
 ·rintro ρ ⟨k,hk,e,i⟩
  have:k=xs.length:=by
   have:=congrArg List.length e
   simp at this;omega
  subst this
  exact he ρ i
 ·rintro x r ρ ⟨k,hk,e,i⟩
  have hk':k < xs.length:=by
   have:=congrArg List.length e
   simp at this;omega
  rw[List.drop_eq_getElem_cons hk',List.map_cons] at e
  injection e with e1 e2
  subst e1
  refine CH (hs k hk' ρ i) fun o=>?_
  cases o with
  | nx ρ'=>exact fun h=>⟨k+1,hk',e2,h⟩
  | ct ρ'=>exact fun h=>⟨k+1,hk',e2,h⟩
  | bk ρ'=>exact fun h=>h
  | rt d=>exact fun h=>h
theorem lW{α:Type}{t:Nat}{tb:FS}{Q:Out->Prop}{ρ:am}(enc:α->D)(xs:List α)(I:Nat->am->Prop)(h0:I 0 ρ)(he:∀ ρ,I xs.length ρ->Q (.nx ρ))(hs:∀ (k:Nat) (h:k < xs.length) (ρ:am),I k ρ->WS tb (ρ.set t (some (enc xs[k]))) (lV (I (k+1)) Q)):WS (bD (fun x ρ=>tb (ρ.set t (some x))) (xs.map enc)) ρ Q :=
 DB enc xs I h0 he hs
theorem DC{go:am->Prop}{Q:Out->Prop}{ρ:am}(h:go ρ):lV go Q (.nx ρ):=h
theorem DD{t:Nat}{it:FE}{tb:FS}{ρ:am}{Q:Out->Prop}(h:WE it ρ fun d=>∃ ds,ck d=some ds/\WS (bD (fun x ρ=>tb (ρ.set t (some x))) ds) ρ Q):WS (jN t it tb) ρ Q:=by
 obtain⟨d,e,ds,h1,o,e',k⟩:=h
 obtain⟨h1,h2⟩:=jV h1
 exact⟨o,by simp[jN,e,h1,h2,e'],k⟩
def tE(n:Nat):List D:=(List.range n).map fun k=>.int (k:Nat)
theorem tF(n:Nat):cQ 0 n=tE n:=by
 unfold cQ tE
 congr 1;funext k;rw[Int.zero_add]
theorem DE{t:Nat}{as:FEs}{tb:FS}{ρ:am}{Q:Out->Prop}(h:WA as ρ fun ds=>∃ j,ds=[.int j]/\okR j/\WS (bD (fun x ρ=>tb (ρ.set t (some x))) ((List.range j.toNat).map fun k=>.int (k:Nat))) ρ Q):WS (iT t as tb) ρ Q:=by
 obtain⟨ds,e,j,rfl,h1,o,e',k⟩:=h
 exact⟨o,by simp only[iT,e,Option.bind_some,if_pos h1,tF];exact e',k⟩
theorem DF{t:Nat}{it:FE}{tb:FS}{ρ:am}{Q:Out->Prop}(h:WE it ρ fun d=>∃ ds,ck d=some ds/\WS (bD (fun x ρ=>tb (ρ.set t (some x))) ds.reverse) ρ Q):WS (jO t it tb) ρ Q:=by
 obtain⟨d,e,ds,h1,o,e',k⟩:=h
 exact⟨o,by simp[jO,e,h1,e'],k⟩
def WI(f:FEs)(ρ:am)(K:List D->Prop):Prop:=∃ d,f ρ=some d/\K d
theorem DG{a:FE}{ρ:am}{K:List D->Prop}(h:WE a ρ fun d=>∃ ds,ck d=some ds/\K ds):WI (dt a) ρ K:=by
 obtain⟨d,e,ds,h1,k⟩:=h
 obtain⟨h1,h2⟩:=jV h1
 exact⟨ds,by simp[dt,e,h1,h2],k⟩
theorem DH{as:FEs}{ρ:am}{K:List D->Prop}(h:WA as ρ fun ds=>∃ j,ds=[.int j]/\okR j/\K ((List.range j.toNat).map fun k=>.int (k:Nat))):WI (iR1 as) ρ K:=by
 obtain⟨ds,e,j,rfl,h1,k⟩:=h
 exact⟨_,by simp only[iR1,e,Option.bind_some,if_pos h1,tF];rfl,k⟩
theorem DJ{a:FE}{ρ:am}{K:List D->Prop}(h:WE a ρ fun d=>∃ ds,ck d=some ds/\K (fW ds)):WI (jQ a) ρ K:=by
 obtain⟨d,e,ds,h1,k⟩:=h
 exact⟨_,by simp only[jQ,e,h1,Option.bind_some],k⟩
theorem DK{a b:FE}{ρ:am}{K:List D->Prop}(h:WE a ρ fun d=>WE b ρ fun e=>∃ ds,ck d=some ds/\∃ es,ck e=some es/\K (fX ds es)):WI (iV a b) ρ K:=by
 obtain⟨d,e,d',e',ds,h1,es,h2,k⟩:=h
 exact⟨_,by simp only[iV,e,e',h1,h2,Option.bind_some],k⟩
theorem tG{α:Type}{g:D->Option (Option D)}(enc:α->D)(f:α->D):∀ (xs:List α),(∀ x ∈ xs,g (enc x)=some (some (f x)))->fo g (xs.map enc)=some (xs.map f)
 | [],_=>rfl
 | x::r,h=>by
   have h1:=h x (List.mem_cons_self ..)
   have h2:=tG enc f r fun y hy=>h y (List.mem_cons_of_mem _ hy)
   simp only[List.map_cons,fo,h1,h2,Option.bind_some]
theorem er{α:Type}{nown:Nat}{J7 is:List Nat}{un:D->Option (List D)}{fi:FEs}{fe:FE}{ρ:am}{K:D->Prop}(h:WI fi ρ fun ds=>∃ (enc:α->D) (f:α->D) (xs:List α),ds=xs.map enc/\xs.length < 100000/\(∀ x ∈ xs,∃ us,un (enc x)=some us/\WE fe (bj (bn nown J7 ρ) is us) fun d=>d=f x)/\K (.lst (xs.map f))):
  WE (bP nown J7 is un fi bQ fe) ρ K:=by
 obtain⟨ds,e,enc,f,xs,rfl,hl,ht,k⟩:=h
 refine⟨_,?_,k⟩
 have:fo (gD is un bQ fe (bn nown J7 ρ)) (xs.map enc)=some (xs.map f):=tG enc f xs fun x hx=>by
  obtain⟨us,h1,d,h2,rfl⟩:=ht x hx
  simp[gD,h1,bQ,h2]
 simp only[bP,e,Option.bind_some,List.length_map,if_pos hl,this,Option.map_some]
theorem jX{i:Int}(h1:-(2 ^ 1000:Int) < i)(h2:i < 2 ^ 1000):mid i:=by
 unfold mid
 have:i.natAbs < 2 ^ 1000:=by omega
 by_cases z:i.natAbs=0
 ·rw[z];decide
 ·exact Nat.lt_trans ((Nat.log2_lt z).mpr this) (by decide)
theorem ol{i j:Int}(h1:-18446744073709551616 < i)(h2:i < 18446744073709551616):okMul i j:=.inl ⟨h1,h2⟩
theorem DL{i j:Int}(h1:-18446744073709551616 < j)(h2:j < 18446744073709551616):okMul i j:=.inr (.inl ⟨h1,h2⟩)
theorem tH{i j:Int}(h1:mid i)(h2:mid j):okMul i j:=.inr (.inr ⟨h1,h2⟩)
theorem DM{i j:Int}(h1:0 < j)(h2:mid j):jE i j:=⟨h1,h2⟩
theorem DN{i j:Int}(h1:0 < j):lw i j:=h1
theorem DO{i j:Int}(h1:0<=j)(h2:j<=1000000)(h3:-18446744073709551616 < i)(h4:i < 18446744073709551616):jF i j:=⟨⟨h1,h2⟩,h3,h4⟩
section
variable {K:D->Prop}
theorem om{xs:List D}{i:Int}(h0:0<=i)(h1:i < xs.length):ixD (.lst xs) (.int i)=some (xs[i.toNat]'(by omega)):=by
 simp only[ixD,items,Option.bind_some,atI,ixN,if_pos h0,if_pos h1]
 exact List.getElem?_eq_getElem (by omega)
theorem lY{xs:List D}{i:Int}{P:D->Prop}(h0:0<=i)(h1:i < xs.length)(hP:∀ v ∈ xs,P v)(h:∀ v,P v->K v):W2 ixD (.lst xs) (.int i) K :=
 ⟨_,om h0 h1,h _ (hP _ (List.getElem_mem _))⟩
def AllI(lo hi:Int):List D->Prop
 | []=>True
 | .int i::r=>(lo<=i/\i<=hi)/\AllI lo hi r
 | _::_=>False
theorem AllI.mem{lo hi:Int}:∀ {xs:List D},AllI lo hi xs->∀ v ∈ xs,∃ i,v=.int i/\lo<=i/\i<=hi
 | [],_,_,h=>nomatch h
 | x::r,h,v,hv=>by
   cases x <;> first | exact h.elim | skip
   rename_i i
   rcases List.mem_cons.mp hv with rfl | hv
   ·exact⟨i,rfl,h.1⟩
   ·exact AllI.mem h.2 v hv
theorem tI(lo hi:Int){xs:List D}{i:Int}(h0:0<=i)(h1:i < xs.length)(hP:AllI lo hi xs)(h:∀ v:Int,lo<=v->v<=hi->K (.int v)):W2 ixD (.lst xs) (.int i) K :=
 lY (P:=fun v=>∃ i,v=.int i/\lo<=i/\i<=hi) h0 h1 hP.mem fun v ⟨i,e,a,b⟩=>e ▸ h i a b
def AllZ:List D->Prop
 | []=>True
 | .int _::r=>AllZ r
 | _::_=>False
theorem AllZ.mem:∀ {xs:List D},AllZ xs->∀ v ∈ xs,∃ i,v=.int i
 | [],_,_,h=>nomatch h
 | x::r,h,v,hv=>by
   cases x <;> first | exact h.elim | skip
   rename_i i
   rcases List.mem_cons.mp hv with rfl | hv
   ·exact⟨i,rfl⟩
   ·exact AllZ.mem (show AllZ r from h) v hv
theorem iZ{xs ys:List D}(hl:xs.length+ys.length<=100000)(h:K (.lst (xs++ys))):W2 bh (.lst xs) (.lst ys) K:=⟨_,by simp only[bh,if_pos hl],h⟩
theorem DP{i:Int}(h:K (.bl true)):W1 (fU "int") (.int i) K:=⟨_,rfl,h⟩
theorem DQ{i:Int}(h:K (.bl false)):W1 (fU "bool") (.int i) K:=⟨_,rfl,h⟩
theorem tJ(n d k:Nat):HT.sIx n d (some (k:Int))=min k n:=by
 show (if (k:Int) < 0 then ((k:Int)+(n:Int)).toNat else min ((k:Int)).toNat n)=_
 rw[if_neg (by omega)];rfl
theorem tK(n d:Nat):HT.sIx n d none=d:=rfl
theorem tL{α:Type}(xs:List α)(n:Nat):cB xs none (some (n:Int))=xs.take n:=by
 unfold cB
 rw[tJ,tK,List.drop_zero,Nat.sub_zero,List.take_eq_take_iff];omega
theorem DR{α:Type}(xs:List α)(n:Nat):cB xs (some (n:Int)) none=xs.drop n:=by
 unfold cB
 rw[tJ,tK]
 by_cases h:n<=xs.length
 ·rw[Nat.min_eq_left h,List.take_of_length_le];simp
 ·rw[Nat.min_eq_right (by omega),List.drop_eq_nil_of_le (Nat.le_refl _),List.drop_eq_nil_of_le (by omega)];simp
theorem gJ{α:Type}(xs:List α)(n:Nat)(d:α)(h:n < xs.length):xs.getD n d=xs[n]:=by
 rw[List.getD_eq_getElem?_getD,List.getElem?_eq_getElem h];rfl
abbrev DI(xs:List Int):D:=.lst (xs.map .int)
abbrev DII(xs:List (List Int)):D:=.lst (xs.map DI)
theorem DS(ns:List Int):gA (ns.map D.int)=some ns:=by
 induction ns with
 | nil=>rfl
 | cons n r ih=>simp only[List.map_cons,gA,ih,Option.map_some]
theorem DT{xs:List Int}(h:K (.int xs.sum)):WF (aI dL) [DI xs] K:=⟨_,by simp[aI,dL,cX,items,DS],h⟩
theorem DU{xs:List D}(h:K (.int (xs.length:Nat))):WF (aI bi) [.lst xs] K:=⟨_,rfl,h⟩
theorem DV{xs:List Int}(h:K (.int (xs.length:Nat))):WF (aI bi) [.scr xs] K:=⟨_,by simp[aI,bi,items],h⟩
theorem DW{i j:Int}(h:K (.int (max i j))):WF (cP dU) [.int i,.int j] K:=by
 refine⟨_,rfl,?_⟩
 have:(if j > i then j else i)=max i j:=by omega
 rw[this];exact h
theorem DX{i j:Int}(h:K (.int (min i j))):WF (cP gB) [.int i,.int j] K:=by
 refine⟨_,rfl,?_⟩
 have:(if j < i then j else i)=min i j:=by omega
 rw[this];exact h
theorem DY{xs:List D}(h:K (.lst xs)):W1 e9 (.lst xs) K:=⟨_,rfl,h⟩
theorem DZ{xs:List D}(h:K (.lst xs.reverse)):W1 jP (.lst xs) K:=⟨_,rfl,h⟩
theorem et{xs:List Int}{i:Int}(h0:0<=i)(h1:i < xs.length)(h:K (.int (xs.getD i.toNat 0))):W2 ixD (DI xs) (.int i) K:=by
 refine⟨_,om h0 (by simpa using h1),?_⟩
 rw[gJ _ _ _ (by omega)] at h
 simpa using h
theorem on{xs:List (List Int)}{i:Int}(h0:0<=i)(h1:i < xs.length)(h:K (DI (xs.getD i.toNat []))):W2 ixD (DII xs) (.int i) K:=by
 refine⟨_,om h0 (by simpa using h1),?_⟩
 rw[gJ _ _ _ (by omega)] at h
 simpa using h
theorem tM{xs:List D}{k:Nat}(h0:0 < k)(h1:k<=xs.length):ixD (.lst xs) (.int (-(k:Int)))=some (xs[xs.length - k]'(by omega)):=by
 simp only[ixD,items,Option.bind_some,atI,ixN,if_neg (show ¬ (0:Int)<=-(k:Int) by omega),if_pos (show -(xs.length:Int)<=-(k:Int) by omega)]
 rw[show (-(k:Int)+xs.length).toNat=xs.length - k by omega]
 exact List.getElem?_eq_getElem (by omega)
theorem E3{xs:List Int}(h1:xs ≠ [])(h:K (.int (xs.getLast h1))):W2 ixD (DI xs) (.int (-1)) K:=by
 have hl:1<=(xs.map D.int).length:=by cases xs <;> simp at h1 ⊢
 refine⟨_,tM (k:=1) (by omega) hl,?_⟩
 rw[List.getLast_eq_getElem] at h
 simpa using h
theorem tN(k:Nat)(xs:List Int):aN (k+1) (DI xs)=true:=by
 simp only[aN,List.all_map,List.all_eq_true]
 intro x _
 cases k <;> rfl
theorem E4(k:Nat)(xs:List (List Int)):aN (k+2) (DII xs)=true:=by
 simp only[aN,List.all_map,List.all_eq_true]
 intro x _
 exact tN k x
theorem oo{α:Type}(f:α->D)(xs:List α)(n:Nat):cB (xs.map f) none (some (n:Int))=(xs.take n).map f:=by rw[tL,List.map_take]
theorem oq{α:Type}(f:α->D)(xs:List α)(n:Nat):cB (xs.map f) (some (n:Int)) none=(xs.drop n).map f:=by rw[DR,List.map_drop]
end
theorem lZ:∀ {l:List Int},(∀ x ∈ l,0<=x)->0<=l.sum
 | [],_=>by simp
 | x::l,h=>by
   have h1:=h x (List.mem_cons_self ..)
   have h2:=lZ fun y hy=>h y (List.mem_cons_of_mem x hy)
   rw[List.sum_cons];omega
theorem tO{b:Int}:∀ {l:List Int},(∀ x ∈ l,x<=b)->l.sum<=l.length * b
 | [],_=>by simp
 | x::l,h=>by
   have h1:=h x (List.mem_cons_self ..)
   have h2:=tO fun y hy=>h y (List.mem_cons_of_mem x hy)
   rw[List.sum_cons,List.length_cons]
   have:((l.length+1:Nat):Int) * b=l.length * b+b:=by rw[Int.natCast_add,Int.add_mul];omega
   omega
theorem E5(xs:List Int)(x:Int):D.lst (xs.map .int++[.int x])=DI (xs++[x]):=by simp[DI]
theorem E6(xs:List (List Int))(x:List Int):D.lst (xs.map DI++[DI x])=DII (xs++[x]):=by simp[DII]
theorem E7{α:Type}(enc:α->D)(xs:List α):fW (xs.map enc)=xs.zipIdx.map fun p=>.tup [.int (p.2:Nat),enc p.1]:=by
 unfold fW
 rw[List.zipIdx_map,List.map_map]
 rfl
theorem tP{α β:Type}(enc:α->D)(enc':β->D)(xs:List α)(ys:List β):fX (xs.map enc) (ys.map enc')=(xs.zip ys).map fun p=>.tup [enc p.1,enc' p.2]:=by
 unfold fX
 rw[List.zip_map,List.map_map]
 rfl
theorem ot{x:Int}(h:0<=x)(n:Nat):0<=x ^ n:=by
 induction n with
 | zero=>rw[Int.pow_zero];omega
 | succ n ih=>rw[Int.pow_succ];exact Int.mul_nonneg ih h
theorem m6{x B:Int}{n:Nat}(N:Nat)(h0:0<=x)(h1:x<=B)(hB:1<=B)(hn:n<=N):x ^ n<=B ^ N:=by
 induction N generalizing n with
 | zero => have:n=0:=by omega
           subst this;rw[Int.pow_zero,Int.pow_zero];omega
 | succ N ih =>
   have hp:=ot (x:=B) (by omega) N
   cases n with
   | zero =>
     have:=ih (n:=0) (by omega)
     rw[Int.pow_zero] at this ⊢
     rw[Int.pow_succ]
     calc (1:Int)<=B ^ N:=this
      _=B ^ N * 1:=by omega
      _<=B ^ N * B:=Int.mul_le_mul_of_nonneg_left hB hp
   | succ n =>
     rw[Int.pow_succ,Int.pow_succ]
     exact Int.mul_le_mul (ih (by omega)) h1 h0 hp
theorem ou{α:Type}{nown:Nat}{J7 is:List Nat}{un:D->Option (List D)}{fi:FEs}{fe:FE}{ρ:am}{K:D->Prop}(h:WI fi ρ fun ds=>∃ (enc:α->D) (f:α->Int) (xs:List α),ds=xs.map enc/\xs.length < 100000/\(∀ x ∈ xs,∃ us,un (enc x)=some us/\WE fe (bj (bn nown J7 ρ) is us) fun d=>d=.int (f x))/\K (DI (xs.map f))):
  WE (bP nown J7 is un fi bQ fe) ρ K:=by
 obtain⟨ds,e,enc,f,xs,h1,h2,h3,k⟩:=h
 refine er (α:=α) ⟨ds,e,enc,fun x=>.int (f x),xs,h1,h2,h3,?_⟩
 rwa [DI,List.map_map] at k
theorem tQ{α:Type}{g:D->Option (Option D)}(enc:α->D)(P:α->Prop):∀ (xs:List α),(∀ x ∈ xs,∃ b,g (enc x)=some (some (.bl b))/\(b=true ↔ P x))->∃ bs:List Bool,fo g (xs.map enc)=some (bs.map .bl)/\(bs.all id=true ↔ ∀ x ∈ xs,P x)
 | [],_=>⟨[],rfl,by simp⟩
 | x::r,h=>by
   obtain⟨b,h1,h3⟩:=h x (List.mem_cons_self ..)
   obtain⟨bs,h2,hb⟩:=tQ enc P r fun y hy=>h y (List.mem_cons_of_mem _ hy)
   refine⟨b::bs,by simp only[List.map_cons,fo,h1,h2,Option.bind_some],?_⟩
   rw[List.all_cons,Bool.and_eq_true,hb,List.forall_mem_cons]
   exact and_congr h3 Iff.rfl
theorem E8(bs:List Bool):gE (bs.map D.bl)=some bs:=by
 induction bs with
 | nil=>rfl
 | cons n r ih=>simp only[List.map_cons,gE,ih,Option.map_some]
theorem ow{α:Type}(P:α->Prop){nown:Nat}{J7 is:List Nat}{un:D->Option (List D)}{fi:FEs}{fe:FE}{ρ:am}{K:D->Prop}(h:WI fi ρ fun ds=>∃ (enc:α->D) (xs:List α),ds=xs.map enc/\xs.length < 100000/\(∀ x ∈ xs,∃ us,un (enc x)=some us/\WE fe (bj (bn nown J7 ρ) is us) fun d=>∃ b,d=.bl b/\(b=true ↔ P x))/\∀ bs:List Bool,(bs.all id=true ↔ ∀ x ∈ xs,P x)->K (.lst (bs.map .bl))):
  WE (bP nown J7 is un fi bQ fe) ρ K:=by
 obtain⟨ds,e,enc,xs,rfl,hl,ht,k⟩:=h
 obtain⟨bs,h1,h2⟩:=tQ (g:=gD is un bQ fe (bn nown J7 ρ)) enc P xs fun x hx=>by
  obtain⟨us,h1,d,h2,b,rfl,h3⟩:=ht x hx
  exact⟨b,by simp[gD,h1,bQ,h2],h3⟩
 exact⟨_,by simp only[bP,e,Option.bind_some,List.length_map,if_pos hl,h1,Option.map_some],k bs h2⟩
theorem E9{bs:List Bool}{K:D->Prop}(h:K (.bl (bs.all id))):WF (aI (fV fun bs=>bs.all id)) [.lst (bs.map .bl)] K:=⟨_,by simp only[aI,fV,E8,Option.bind_some],h⟩
theorem Ea{α:Type}(a:α)(n:Nat):(List.replicate n [a]).flatten=List.replicate n a:=by
 induction n with
 | zero=>rfl
 | succ n ih=>rw[List.replicate_succ,List.flatten_cons,ih,List.replicate_succ];rfl
theorem tR{a n:Int}{K:D->Prop}(h0:0<=n)(h1:n < 100000)(h:K (DI (List.replicate n.toNat a))):W2 dS (.lst [.int a]) (.int n) K:=by
 refine⟨_,by simp only[dS];rw[if_pos ⟨by simp;omega,by omega,by omega⟩],?_⟩
 rw[Ea]
 rwa [DI,List.map_replicate] at h
theorem tS{P:Prop}{b:Bool}(e:b=true ↔ P){A B:Prop}(h1:P->A)(h2:¬ P->B):kIf b A B:=⟨fun h=>h1 (e.mp h),fun h=>h2 fun p=>by rw[e.mpr p] at h;cases h⟩
theorem Eb(xs:List Int)(x:Int):xs.map D.int++[.int x]=(xs++[x]).map D.int:=by simp
theorem Ec{t:Nat}{as:FEs}{tb:FS}{ρ:am}{Q:Out->Prop}(h:WA as ρ fun ds=>∃ i j,ds=[.int i,.int j,.int (-1)]/\okR i/\okR j/\WS (bD (fun x ρ=>tb (ρ.set t (some x))) ((List.range (i - j).toNat).map fun k=>.int (i - (k:Nat)))) ρ Q):WS (jS t as tb) ρ Q:=by
 obtain⟨ds,e,i,j,rfl,h1,h2,o,e',k⟩:=h
 refine⟨o,?_,k⟩
 unfold jS
 rw[e]
 show (if okR i/\okR j/\(-1:Int) = -1 then _ else none)=_
 rw[if_pos ⟨h1,h2,rfl⟩]
 exact e'
theorem Ed{xs:List (List Int)}{K:D->Prop}(h1:xs ≠ [])(h:K (DI (xs.getLast h1))):W2 ixD (DII xs) (.int (-1)) K:=by
 have hl:1<=(xs.map DI).length:=by cases xs <;> simp at h1 ⊢
 refine⟨_,tM (k:=1) (by omega) hl,?_⟩
 rw[List.getLast_eq_getElem] at h
 simpa using h
theorem ox(k:Nat):∀ xs:List D,(∀ x ∈ xs,aZ k x x=true)->((xs.zip xs).all fun p=>aZ k p.1 p.2)=true
 | [],_=>rfl
 | x::xs,h=>by
   rw[List.zip_cons_cons,List.all_cons,h x List.mem_cons_self,ox k xs fun y hy=>h y (List.mem_cons_of_mem _ hy)];rfl
theorem jY:∀ (k:Nat) (d:D),aN k d=true->aZ k d d=true
 | k,.non,_=>by cases k <;> rfl
 | k,.bl b,_=>by cases k <;> cases b <;> rfl
 | k,.int i,_=>by cases k <;> simp[aZ,eg]
 | k,.str x,_=>by cases k <;> simp[aZ,eg]
 | 0,.lst _,h=>by simp[aN] at h
 | 0,.tup _,h=>by simp[aN] at h
 | k,.scr _,h=>by cases k <;> simp[aN] at h
 | k,.dct _ _,h=>by cases k <;> simp[aN] at h
 | k,.ptr _,h=>by cases k <;> simp[aN] at h
 | k+1,.lst xs,h=>by
   rw[aN,List.all_eq_true] at h
   rw[aZ,ox k xs fun x hx=>jY k x (h x hx)];simp
 | k+1,.tup xs,h=>by
   rw[aN,List.all_eq_true] at h
   rw[aZ,ox k xs fun x hx=>jY k x (h x hx)];simp
theorem tT{d:D}{K:D->Prop}(hf:aN 4 d=true)(h:K (.bl false)):W2 neD d d K:=⟨_,by rw[neD,if_pos ⟨hf,hf⟩,jY 4 d hf];rfl,h⟩
theorem jZ{d:D}{K:D->Prop}(hf:aN 4 d=true)(h:K (.bl true)):W2 eqD d d K:=⟨_,by rw[eqD,if_pos ⟨hf,hf⟩,jY 4 d hf],h⟩
section
variable {ρ:am}{K:D->Prop}{a:FE}
theorem Ee{ds:List D}(h:a ρ=some (.lst ds))(k:K (.lst ds)):WE (eL a) ρ K:=⟨_,by simp only[eL,h,Option.bind_some],k⟩
theorem Ef{i:Nat}{ds:List D}(h:aa i ρ=some (.lst ds))(k:K (.lst ds)):WE (eL (aa i)) ρ K:=Ee h k
end
end VL
namespace VL
open PySem (Str)
open L2 (atI ixN)
inductive Cell where
 | lst (ds:List D)
 | dic (ns:List Str) (ds:List D)
 | ins (C:Nat) (ns:List Str) (ds:List D)
 | dcT (fz:Bool) (ps:List ((Int × Int) × Int))
 | dcL (fz:Bool) (ps:List (List Int × Int))
 | exn (a:Nat) (x:Str)
abbrev Sto:=Nat->Option Cell
def aP(M:Sto)(a:Nat)(c:Cell):Sto:=fun b=>if b=a then some c else M b
def di(M:Sto)(a:Nat):Sto:=fun b=>if b=a then none else M b
theorem aK{M:Sto}{a:Nat}{c:Cell}:aP M a c a=some c:=by simp[aP]
theorem bo{M:Sto}{a b:Nat}{c:Cell}(h:b ≠ a):aP M a c b=M b:=by simp[aP,h]
theorem dj{M:Sto}{a:Nat}{c c':Cell}:aP (aP M a c) a c'=aP M a c':=by funext b;unfold aP;split <;> rfl
theorem Eg{M:Sto}{a:Nat}{c:Cell}(h:M a=some c):aP M a c=M:=by
 funext b
 by_cases e:b=a
 ·subst e;rw[aK,h]
 ·rw[bo e]
theorem m7{M:Sto}{a:Nat}:di M a a=none:=by simp[di]
theorem m8{M:Sto}{a b:Nat}(h:b ≠ a):di M a b=M b:=by simp[di,h]
abbrev QE:=D->Sto->Prop
abbrev NTE:=am->Sto->QE->Prop
abbrev NTB:=am->Sto->(Bool->Sto->Prop)->Prop
abbrev NTA:=am->Sto->(List D->Sto->Prop)->Prop
abbrev NTF:=List D->Sto->QE->Prop
structure EndN where
 nx:am->Sto->Prop
 rt:D->Sto->Prop
 bk:am->Sto->Prop:=fun _ _=>False
 ct:am->Sto->Prop:=fun _ _=>False
 ex:Str->Sto->Prop:=fun _ _=>False
abbrev NTS:=EndN->am->Sto->Prop
def nP(f:FE):NTE:=fun ρ M Q=>WE f ρ fun d=>Q d M
def nPB(f:am->Option Bool):NTB:=fun ρ M Q=>WB f ρ fun b=>Q b M
def n2(g:D->D->Option D)(ta tb:NTE):NTE:=fun ρ M Q=>ta ρ M fun x M1=>tb ρ M1 fun y M2=>W2 g x y fun d=>Q d M2
def n1(g:D->Option D)(ta:NTE):NTE:=fun ρ M Q=>ta ρ M fun x M1=>W1 g x fun d=>Q d M1
def cT(ta:NTE):NTB:=fun ρ M Q=>ta ρ M fun x M1=>kT (fun b=>Q b M1) x
def du(ta:NTE):NTB:=fun ρ M Q=>ta ρ M fun x M1=>∃ b,tru x=some b/\Q b M1
def j1(ta tb:NTB):NTB:=fun ρ M Q=>ta ρ M fun b M1=>kIf b (tb ρ M1 Q) (Q false M1)
def nOr(ta tb:NTB):NTB:=fun ρ M Q=>ta ρ M fun b M1=>kIf b (Q true M1) (tb ρ M1 Q)
def eu(ta:NTB):NTB:=fun ρ M Q=>ta ρ M fun b M1=>Q (!b) M1
def nIf(tc:NTB)(ta tb:NTE):NTE:=fun ρ M Q=>tc ρ M fun b M1=>kIf b (ta ρ M1 Q) (tb ρ M1 Q)
def kc(ta tb:NTE):NTE:=fun ρ M Q=>ta ρ M fun x M1=>kT (fun b=>kIf b (tb ρ M1 Q) (Q (.bl false) M1)) x
def m9(ta tb:NTE):NTE:=fun ρ M Q=>ta ρ M fun x M1=>kT (fun b=>kIf b (Q (.bl true) M1) (tb ρ M1 Q)) x
def aw:NTA:=fun _ M Q=>Q [] M
def aj(ta:NTE)(tr:NTA):NTA:=fun ρ M Q=>ta ρ M fun x M1=>tr ρ M1 fun xs M2=>Q (x::xs) M2
def dk(ta:NTA):NTE:=fun ρ M Q=>ta ρ M fun ds M1=>ds.length<=1000/\Q (.lst ds) M1
def g7(ta:NTA):NTE:=fun ρ M Q=>ta ρ M fun ds M1=>ds.length<=1000/\Q (.tup ds) M1
def kf(f:FE):NTE:=fun ρ M Q=>WE f ρ fun d=>∃ ds,d=.lst ds/\∀ a,M a=none->Q (.ptr a) (aP M a (.lst ds))
def kg(ns:List Str)(as:FEs):NTE:=fun ρ M Q=>WA as ρ fun ds=>ds.length=ns.length/\∀ a,M a=none->Q (.ptr a) (aP M a (.dic ns ds))
def nDg(ns:List Str)(i:Nat)(ta:NTE):NTE:=fun ρ M Q=>ta ρ M fun x M1=>∃ a ds d,x=.ptr a/\M1 a=some (.dic ns ds)/\ds[i]?=some d/\Q d M1
def bv(C:Nat)(ns:List Str)(i:Nat)(ta:NTE):NTE:=fun ρ M Q=>ta ρ M fun x M1=>∃ a ds d,x=.ptr a/\M1 a=some (.ins C ns ds)/\ds[i]?=some d/\Q d M1
def aO(T:NTF)(ta:NTA):NTE:=fun ρ M Q=>ta ρ M fun ds M1=>T ds M1 Q
def vw1(M:Sto):D->D
 | .ptr a=>match M a with
   | some (.lst ds)=>.lst ds
   | _=>.ptr a
 | d=>d
def da(G:List D->Option D)(ta:NTA):NTE:=fun ρ M Q=>ta ρ M fun ds M1=>WF G (ds.map (vw1 M1)) fun d=>bg d=true/\Q d M1
def eK(G:List D->Option D)(ta:NTA):NTE:=fun ρ M Q=>ta ρ M fun ds M1=>WF G ds fun d=>Q d M1
def bJ(C:Nat)(ns:List Str)(T:NTF)(ta:NTE)(tas:NTA):NTE:=fun ρ M Q=>ta ρ M fun x M1=>∃ a ds0,x=.ptr a/\M1 a=some (.ins C ns ds0)/\tas ρ M1 fun ds M2=>T (x::ds) M2 Q
def kh(C:Nat)(T:NTF)(tas:NTA):NTE:=fun ρ M Q=>tas ρ M fun ds M1=>∀ a,M1 a=none->T (.ptr a::ds) (aP M1 a (.ins C [] [])) fun d M2=>d=.non/\Q (.ptr a) M2
def sN:NTS:=fun E ρ M=>E.nx ρ M
def au(t u:NTS):NTS:=fun E ρ M=>t { E with nx:=fun ρ M=>u E ρ M } ρ M
def b7(tc:NTB)(t u:NTS):NTS:=fun E ρ M=>tc ρ M fun b M1=>kIf b (t E ρ M1) (u E ρ M1)
def aS(ta:NTE):NTS:=fun E ρ M=>ta ρ M E.rt
def ma(i:Nat):NTS:=fun E ρ M=>∃ a ds,aa i ρ=some (.ptr a)/\M a=some (.lst ds)/\E.rt (.lst ds) (di M a)
def aL(i:Nat)(ta:NTE):NTS:=fun E ρ M=>ta ρ M fun d M1=>E.nx (ρ.set i (some d)) M1
def gK(is:List Nat)(ta:NTE):NTS:=fun E ρ M=>ta ρ M fun d M1=>∃ ds,d=.tup ds/\ds.length=is.length/\E.nx ((is.zip ds).foldl (fun r p=>r.set p.1 (some p.2)) ρ) M1
def fv(ns:List Str)(i:Nat)(ta tv:NTE):NTS:=fun E ρ M=>tv ρ M fun v M1=>ta ρ M1 fun x M2=>∃ a ds,x=.ptr a/\M2 a=some (.dic ns ds)/\E.nx ρ (aP M2 a (.dic ns (ds.set i v)))
def g8(C:Nat)(ns:List Str)(i:Nat)(ta tv:NTE):NTS:=fun E ρ M=>tv ρ M fun v M1=>ta ρ M1 fun x M2=>∃ a ds,x=.ptr a/\M2 a=some (.ins C ns ds)/\E.nx ρ (aP M2 a (.ins C ns (ds.set i v)))
def dO(C:Nat)(ns:List Str)(f:Str)(ta tv:NTE):NTS:=fun E ρ M=>tv ρ M fun v M1=>ta ρ M1 fun x M2=>∃ a ds,x=.ptr a/\M2 a=some (.ins C ns ds)/\E.nx ρ (aP M2 a (.ins C (ns++[f]) (ds++[v])))
def eM(ta tv:NTE):NTS:=fun E ρ M=>ta ρ M fun x M1=>∃ a ds0,x=.ptr a/\M1 a=some (.lst ds0)/\tv ρ M1 fun v M2=>∃ ds,M2 a=some (.lst ds)/\ds.length < 100000/\E.nx ρ (aP M2 a (.lst (ds++[v])))
def md(ta ti tv:NTE):NTS:=fun E ρ M=>tv ρ M fun v M1=>ta ρ M1 fun x M2=>ti ρ M2 fun y M3=>∃ a ds k j,x=.ptr a/\M3 a=some (.lst ds)/\y=.int k/\ixN ds.length k=some j/\E.nx ρ (aP M3 a (.lst (ds.set j v)))
def db(body:D->NTS):List D->NTS
 | [],E,ρ,M=>E.nx ρ M
 | x::r,E,ρ,M=>body x { E with nx:=fun ρ M=>db body r E ρ M,ct:=fun ρ M=>db body r E ρ M,bk:=E.nx } ρ M
def ki(t:Nat)(it:NTE)(tb:NTS):NTS:=fun E ρ M=>it ρ M fun d M1=>∃ ds,ck d=some ds/\db (fun x E ρ M=>tb E (ρ.set t (some x)) M) ds E ρ M1
def me(t:Nat)(ta:NTA)(tb:NTS):NTS:=fun E ρ M=>ta ρ M fun ds M1=>∃ j,ds=[.int j]/\okR j/\db (fun x E ρ M=>tb E (ρ.set t (some x)) M) ((List.range j.toNat).map fun k=>.int (k:Nat)) E ρ M1
def mf(t:Nat)(ta:NTA)(tb:NTS):NTS:=fun E ρ M=>ta ρ M fun ds M1=>∃ i j,ds=[.int i,.int j]/\okR i/\okR j/\db (fun x E ρ M=>tb E (ρ.set t (some x)) M) ((List.range (j - i).toNat).map fun k=>.int (i+(k:Nat))) E ρ M1
def mkN(np n:Nat)(t:NTS):NTF:=fun ds M Q=>ds.length=np/\t { nx:=fun _ M'=>Q .non M',rt:=Q } (ds.map some++List.replicate (n - np) none) M
def dA(nown:Nat)(te:NTE)(ρb:am):List D->List D->Sto->(List D->Sto->Prop)->Prop
 | [],done,M,Q=>Q done M
 | x::r,done,M,Q=>te (ρb.set 0 (some x)) M fun d M1=>dA nown te ρb r (done++[d]) M1 Q
def j2(J7:List Nat)(ti:NTA)(te:NTE):NTE:=fun ρ M Q=>ti ρ M fun ds M1=>∃ j,ds=[.int j]/\okR j/\j < 1000/\dA 1 te (bn 1 J7 ρ) ((List.range j.toNat).map fun k=>.int (k:Nat)) [] M1 fun ds M2=>Q (.lst ds) M2
def mh(J7:List Nat)(ti te:NTE):NTE:=fun ρ M Q=>ti ρ M fun d M1=>∃ ds,ck d=some ds/\ds.length<=1000/\dA 1 te (bn 1 J7 ρ) ds [] M1 fun ds M2=>Q (.lst ds) M2
def nFz(i:Nat):NTS:=fun E ρ M=>∃ a ds,aa i ρ=some (.ptr a)/\M a=some (.lst ds)/\E.nx (ρ.set i (some (.lst ds))) (di M a)
def XS:List Str:=["NoSale","NoClass","Over","Early","Done","TooMany","Twice","NoTurn","Full","NoRow"]
abbrev QX:=Str->Sto->Prop
abbrev NTX:=List D->Sto->QE->QX->Prop
abbrev NEX:=am->Sto->QE->QX->Prop
def mkX(np n:Nat)(t:NTS):NTX:=fun ds M Q EX=>ds.length=np/\t { nx:=fun _ M'=>Q .non M',rt:=Q,ex:=EX } (ds.map some++List.replicate (n - np) none) M
def qtX(T:NTX):NTF:=fun ds M Q=>T ds M Q fun _ _=>False
def mj(T:NTX)(ta:NTA):NEX:=fun ρ M Q EX=>ta ρ M fun ds M1=>T ds M1 Q EX
def fw(C:Nat)(ns:List Str)(T:NTX)(ta:NTE)(tas:NTA):NEX:=fun ρ M Q EX=>ta ρ M fun x M1=>∃ a ds0,x=.ptr a/\M1 a=some (.ins C ns ds0)/\tas ρ M1 fun ds M2=>T (x::ds) M2 Q EX
def mm(C:Nat)(T:NTX)(tas:NTA):NEX:=fun ρ M Q EX=>tas ρ M fun ds M1=>∀ a,M1 a=none->T (.ptr a::ds) (aP M1 a (.ins C [] [])) (fun d M2=>d=.non/\Q (.ptr a) M2) EX
def eN(x:Str):NTS:=fun E _ M=>x ∈ XS/\E.ex x M
def gL(i:Nat)(te:NEX):NTS:=fun E ρ M=>te ρ M (fun d M1=>E.nx (ρ.set i (some d)) M1) E.ex
def j3(te:NEX):NTS:=fun E ρ M=>te ρ M E.rt E.ex
def mn(te:NEX):NTS:=fun E ρ M=>te ρ M (fun _ M1=>E.nx ρ M1) E.ex
def gM(i j:Nat)(t:NTS):NTS:=fun E ρ M=>t { E with ex:=fun x M1=>∀ a,M1 a=none->E.nx ((ρ.set j none).set i (some (.ptr a))) (aP M1 a (.exn a x)) } ρ M
def dP(y:Str)(ta:NTE):NTE:=fun ρ M Q=>ta ρ M fun d M1=>∃ a x,d=.ptr a/\M1 a=some (.exn a x)/\x ∈ XS/\Q (.bl (decide (x=y))) M1
def mo(ta:NTE):NTE:=fun ρ M Q=>ta ρ M fun d M1=>∃ a x,d=.ptr a/\M1 a=some (.exn a x)/\x ∈ XS/\Q (.bl true) M1
def kl(ns:List Str)(f:Str)(ta tv:NTE):NTS:=fun E ρ M=>tv ρ M fun v M1=>ta ρ M1 fun x M2=>∃ a ds,x=.ptr a/\M2 a=some (.dic ns ds)/\E.nx ρ (aP M2 a (.dic (ns++[f]) (ds++[v])))
end VL
namespace VL
open PySem PySem.Spec PyProof.Rows L2
def tU:Option Cell->Bool
 | some (.dcT true _)=>true
 | some (.dcL true _)=>true
 | _=>false
def inM(M:Sto):Addr->Prop:=fun a=>M a ≠ none/\tU (M a)=false
theorem mq{M M':Sto}{b:Addr}(e:M' b=M b):inM M' b ↔ inM M b:=by unfold inM;rw[e]
noncomputable abbrev PH(H:Hp)(M:Sto):Hp:=ay H (inM M)
def aT(ns:List Str)(vs:List V):List (Key × V):=(ns.zip vs).map fun p=>(Sum.inr p.1,p.2)
def tV(ps:List ((Int × Int) × Int)):List (List Key × V):=ps.map fun p=>([Sum.inl p.1.1,Sum.inl p.1.2],V.int p.2)
def tW(ps:List (List Int × Int)):List (List Key × V):=ps.map fun p=>(p.1.map Sum.inl,V.int p.2)
def tX(x C:Addr):Heap->Prop:=fun h=>∃ o,h.get? x=some o/\o.cls=.ref C
def CellOk(K:W.Frag)(H:Hp):HO->Cell->Prop
 | .lst xs,.lst ds=>Reps K H xs ds
 | .dK kvs,.dic ns ds=>∃ vs,kvs=aT ns vs/\vs.length=ns.length/\Reps K H vs ds
 | .ins C dx fs,.ins C' ns ds=>C=C'/\∃ vs,fs=ns.zip vs/\vs.length=ns.length/\Reps K H vs ds
 | o,.dcT fz ps=>(fz=false/\o=.dT (tV ps))\/(fz=true/\∃ ob,o=.frz ob (.dT (tV ps)))
 | o,.dcL fz ps=>(fz=false/\o=.dT (tW ps))\/(fz=true/\∃ ob,o=.frz ob (.dT (tW ps)))
 | .ext φ,.exn a x=>∃ C,φ=tX a C/\W.nsIn K mainGlobals x=some (some (.ref C))
 | _,_=>False
theorem CellOk.mono{K:W.Frag}{H H':Hp}(e:Same H H'):∀ {o:HO} {c:Cell},CellOk K H o c->CellOk K H' o c:=fun {o c} h=>by
 unfold CellOk at h ⊢
 split at h
 ·exact aU e h
 ·obtain⟨vs,h1,h2,h3⟩:=h;exact⟨vs,h1,h2,aU e h3⟩
 ·obtain⟨h0,vs,h1,h2,h3⟩:=h;exact⟨h0,vs,h1,h2,aU e h3⟩
 ·exact h
 ·exact h
 ·exact h
 ·exact h.elim
def MOk(K:W.Frag)(H:Hp)(M:Sto):Prop:=∀ a c,M a=some c->∃ o,H a=some o/\CellOk K (PH H M) o c
theorem MOk.dom{K:W.Frag}{H:Hp}{M:Sto}(h:MOk K H M):Dom H (inM M):=fun b hb n=>by
 cases e:M b with
 | none=>exact hb.1 e
 | some c=>obtain⟨o,h1,_⟩:=h b c e;rw[n] at h1;cases h1
theorem MOk.fresh{K:W.Frag}{H:Hp}{M:Sto}(h:MOk K H M){p:Addr}(hp:H p=none):M p=none:=by
 cases e:M p with
 | none=>rfl
 | some c=>obtain⟨o,h1,_⟩:=h p c e;rw[hp] at h1;cases h1
theorem PH.up{H H':Hp}{M:Sto}(e:Same H H'):Same (PH H M) (PH H' M):=bY e
theorem MOk.up{K:W.Frag}{H H':Hp}{M:Sto}(h:MOk K H M)(e:Same H H'):MOk K H' M:=fun a c hc=>by
 obtain⟨o,h1,h2⟩:=h a c hc
 exact⟨o,e _ _ h1,h2.mono (PH.up e)⟩
theorem PH.at{H:Hp}{M:Sto}{b:Addr}{o:HO}(h:PH H M b=some o):¬ inM M b/\H b=some o:=dJ h
theorem PH.of{H:Hp}{M:Sto}{b:Addr}(h:M b=none):PH H M b=H b:=bC fun n=>n.1 h
theorem PH.out{H:Hp}{M:Sto}{b:Addr}(h:¬ inM M b):PH H M b=H b:=bC h
theorem km{K:W.Frag}{H H':Hp}{M:Sto}{p:Addr}{o:HO}{c:Cell}(h:MOk K H M)(hp:H p=none)(hs:Same H H')(ho:H' p=some o)(hc:CellOk K (ay H' fun b=>inM M b\/b=p) o c):
  Same (PH H M) (PH H' (aP M p c))/\MOk K H' (aP M p c):=by
 have e:Same (PH H M) (PH H' (aP M p c)):=fun b u q=>by
  obtain⟨h1,h2⟩:=PH.at q
  have ne:b ≠ p:=bM h2 hp
  rw[PH.out (mt (mq (bo ne)).mp h1)]
  exact hs _ _ h2
 refine⟨e,fun a c' hc'=>?_⟩
 by_cases q:a=p
 ·subst q
  rw[aK] at hc';cases hc'
  refine⟨o,ho,hc.mono (cO (fun _ _ z=>z) fun b z=>?_)⟩
  by_cases hb:b=a
  ·exact .inr hb
  ·exact .inl ((mq (bo hb)).mp z)
 ·rw[bo q] at hc'
  obtain⟨o',h1,h2⟩:=h a c' hc'
  exact⟨o',hs _ _ h1,h2.mono e⟩
theorem j4{K:W.Frag}{H:Hp}{M:Sto}{a:Addr}{o:HO}{c c0:Cell}(h:MOk K H M)(ha:M a=some c0)(hc:CellOk K (PH H M) o c)(hf:tU (some c0)=false:=by rfl):
  Same (PH H M) (PH (upd H a o) (aP M a c))/\MOk K (upd H a o) (aP M a c):=by
 have e:Same (PH H M) (PH (upd H a o) (aP M a c)):=fun b u q=>by
  obtain⟨h1,h2⟩:=PH.at q
  have ne:b ≠ a:=fun z=>h1 (by subst z;refine⟨fun n=>?_,?_⟩ <;> rw[ha] at *;cases n;exact hf)
  rw[PH.out (mt (mq (bo ne)).mp h1),aF ne]
  exact h2
 refine⟨e,fun b c' hc'=>?_⟩
 by_cases q:b=a
 ·subst q
  rw[aK] at hc';cases hc'
  exact⟨o,br,hc.mono e⟩
 ·rw[bo q] at hc'
  obtain⟨o',h1,h2⟩:=h b c' hc'
  exact⟨o',by rw[aF q];exact h1,h2.mono e⟩
theorem tY{K:W.Frag}{H:Hp}{M:Sto}{a:Addr}(h:MOk K H M):Same (PH H M) (PH H (di M a))/\MOk K H (di M a):=by
 have e:Same (PH H M) (PH H (di M a)):=cO (fun _ _ z=>z) fun b z=>by
  by_cases hb:b=a
  ·subst hb;exact absurd m7 z.1
  ·exact (mq (m8 hb)).mp z
 refine⟨e,fun b c hc=>?_⟩
 by_cases q:b=a
 ·subst q;rw[m7] at hc;cases hc
 ·rw[m8 q] at hc
  obtain⟨o,h1,h2⟩:=h b c hc
  exact⟨o,h1,h2.mono e⟩
structure EnvQ (K:W.Frag) (σ:St) (ρ:am) (H:Hp) (M:Sto):Prop where
 env:EnvR K (PH H M) σ ρ
 ok:MOk K H M
structure PostT (K:W.Frag) (H:Hp) (M:Sto) (H':Hp) (M':Sto):Prop where
 same:Same (PH H M) (PH H' M')
 ok:MOk K H' M'
structure PostW (K:W.Frag) (H:Hp) (M:Sto) (d:D) (v:V) (H':Hp) (M':Sto):Prop extends PostT K H M H' M' where
 rep:Rep K (PH H' M') v d
structure PostWs (K:W.Frag) (H:Hp) (M:Sto) (ds:List D) (vs:List V) (H':Hp) (M':Sto):Prop extends PostT K H M H' M' where
 rep:Reps K (PH H' M') vs ds
theorem EnvQ.next{K:W.Frag}{σ:St}{ρ:am}{H H':Hp}{M M':Sto}(h:EnvQ K σ ρ H M)(p:PostT K H M H' M'):EnvQ K σ ρ H' M':=⟨h.env.mono p.same,p.ok⟩
theorem PostT.refl{K:W.Frag}{H:Hp}{M:Sto}(h:MOk K H M):PostT K H M H M:=⟨Same.refl _,h⟩
theorem PostT.trans{K:W.Frag}{H H1 H2:Hp}{M M1 M2:Sto}(a:PostT K H M H1 M1)(b:PostT K H1 M1 H2 M2):PostT K H M H2 M2:=⟨a.same.trans b.same,b.ok⟩
theorem PostT.of{K:W.Frag}{H H':Hp}{M:Sto}(h:MOk K H M)(e:Same H H'):PostT K H M H' M:=⟨PH.up e,h.up e⟩
def tw(K:W.Frag)(t:NTE):TE:=fun σ H Q=>∃ ρ M QW,EnvQ K σ ρ H M/\t ρ M QW/\∀ d M',QW d M'->∀ v H',PostW K H M d v H' M'->Q v H'
def twT(K:W.Frag)(t:NTB):TT:=fun σ H Q=>∃ ρ M QW,EnvQ K σ ρ H M/\t ρ M QW/\∀ b M',QW b M'->∀ H',PostT K H M H' M'->Q b H'
def twA(K:W.Frag)(t:NTA):TA:=fun σ H Q=>∃ ρ M QW,EnvQ K σ ρ H M/\t ρ M QW/\∀ ds M',QW ds M'->∀ vs H',PostWs K H M ds vs H' M'->Q vs H'
abbrev NE(X:Cx)(e:Expr)(t:NTE):Prop:=PE X e (tw X.K t)
abbrev NT(X:Cx)(e:Expr)(t:NTB):Prop:=PT X e (twT X.K t)
abbrev NW(X:Cx)(e:Expr)(t:NTB):Prop:=PW X e (twT X.K t)
abbrev NA(X:Cx)(es:List Expr)(t:NTA):Prop:=PA X es (twA X.K t)
section
variable {X:Cx}{a b c:Expr}{ta tb:NTE}{pos p2:Pos}{es:List Es}{fa:FE}
theorem tZ{K:W.Frag}{σ:St}{ρ:am}{H:Hp}{M:Sto}(h:EnvQ K σ ρ H M)(e:Es):Av K H σ ρ (inM M) e:=by
 have full:∀ (j:Nat) (v:V) (d:D),σ[j]?=some (some v)->ρ[j]?=some (some d)->Rep K (ay H (inM M)) v d:=fun j v d h1 h2=>by
  obtain⟨v',h3,h4⟩:=h.env j d h2
  rw[h1] at h3;cases h3
  exact h4
 cases e with
 | full j=>exact full j
 | el j=>exact fun v d h1 h2=>(full j v d h1 h2).el
theorem EnvQ.envR{K:W.Frag}{σ:St}{ρ:am}{H:Hp}{M:Sto}(h:EnvQ K σ ρ H M):EnvR K H σ ρ:=h.env.mono (bc _ _)
theorem oy(h:VE X a fa es):NE X a (nP fa):=aM h fun σ H Q ⟨ρ,M,QW,hE,⟨d,hf,hq⟩,hQ⟩ =>
 ⟨ρ,d,hE.envR,hf,fun v H' p=>hQ d M hq v H' ⟨PostT.of hE.ok p.same,p.av (inM M) hE.ok.dom fun e _=>tZ hE e⟩⟩
theorem Eh{f:am->Option Bool}(h:VT X a f):NT X a (nPB f):=gx h fun σ H Q ⟨ρ,M,QW,hE,⟨d,hf,hq⟩,hQ⟩ =>
 ⟨ρ,d,hE.envR,hf,fun H' e=>hQ d M hq H' (PostT.of hE.ok e)⟩
theorem oz{K:W.Frag}{r:R2}{g:D->D->Option D}(hr:OpV K r g){σ:St}{H:Hp}{Q:VK}(h:tw K (n2 g ta tb) σ H Q):tOp r (tw K ta) (tw K tb) σ H Q:=by
 obtain⟨ρ,M,QW,hE,ht,hQ⟩:=h
 refine⟨ρ,M,_,hE,ht,fun x M1 h1 vx H1 p1=>⟨ρ,M1,_,hE.next p1.toPostT,h1,fun y M2 h2 vy H2 p2=>?_⟩⟩
 obtain⟨d,hg,hq⟩:=h2
 have rx:=aH p2.same p1.rep
 refine hr vx vy H2 x y d Q (aH (bc _ _) rx) (aH (bc _ _) p2.rep) hg fun v H' e r' av=>hQ d M2 hq v H' ⟨(p1.toPostT.trans p2.toPostT).trans (PostT.of p2.ok e),av _ p2.ok.dom rx p2.rep⟩
theorem mw{op:Operator}{r:R2}{g:D->D->Option D}(ho:OpR X (binaryOp op) r)(hr:OpV X.K r g)(ha:NE X a ta)(hb:NE X b tb):NE X (.BinOp a op b pos) (n2 g ta tb):=aM (lf ho ha hb) fun _ _ _ h=>oz hr h
theorem Ei(ha:NE X a ta)(hb:NE X b tb):NE X (.BinOp a .Add b pos) (n2 aV ta tb):=mw qL (jD X.K fun _ _ _=>.int _) ha hb
theorem Ej(ha:NE X a ta)(hb:NE X b tb):NE X (.BinOp a .Sub b pos) (n2 bH ta tb):=mw qM (jD X.K fun _ _ _=>.int _) ha hb
theorem Ek(ha:NE X a ta)(hb:NE X b tb):NE X (.BinOp a .Mult b pos) (n2 cH ta tb):=mw rY (jC X.K (fun _ _ h=>h) fun _ _ _=>.int _) ha hb
theorem u0{op:CmpOp}{r:R2}{g:D->D->Option D}(ho:OpR X (compareOp op) r)(hr:OpV X.K r g)(ha:NE X a ta)(hb:NE X b tb)(hm:behindInMarks op b=false):NE X (.Compare a [op] [b] pos) (n2 g ta tb) :=
 aM (qR ho ha hb hm) fun _ _ _ h=>oz hr h
theorem mz{op:CmpOp}{r:R2}{g:D->D->Option D}(ho:OpR X (compareOp op) r)(hr:OpV X.K r g)(ha:NE X a ta)(hb:NE X b tb)(hm:behindInMarks op b=false):NT X (.Compare a [op] [b] pos) (cT (n2 g ta tb)) :=
 gx (qS ho ha hb hm) fun σ H Q ⟨ρ,M,QW,hE,ht,hQ⟩=>oz hr ⟨ρ,M,_,hE,ht,fun d M' hd v H' p=>by
  cases d with
  | bl k=>cases p.rep;exact⟨k,rfl,hQ k M' hd H' p.toPostT⟩
  | _=>exact hd.elim⟩
theorem El(ha:NE X a ta)(hb:NE X b tb):NE X (.Compare a [.Gt] [b] pos) (n2 gtI ta tb):=u0 qP (fP X.K) ha hb (cM _)
theorem ne_eq{k:Nat}(hr:Room k X.A)(ha:NE X a ta)(hb:NE X b tb):NE X (.Compare a [.Eq] [b] pos) (n2 eqD ta tb):=u0 (lM hr) (lN X.K) ha hb (cM _)
theorem Em{k:Nat}(hr:Room k X.A)(ha:NE X a ta)(hb:NE X b tb):NT X (.Compare a [.Eq] [b] pos) (cT (n2 eqD ta tb)):=mz (lM hr) (lN X.K) ha hb (cM _)
theorem En{k:Nat}(hr:Room k X.A)(ha:NE X a ta)(hb:NE X b tb):NT X (.Compare a [.NotEq] [b] pos) (cT (n2 neD ta tb)):=mz (sK hr) (sL X.K) ha hb (cM _)
theorem Eo:n2 o6 ta (nP (eC .non))=n1 df ta:=by
 funext ρ M Q
 unfold n2 n1 nP
 congr 1
 funext x M1
 unfold WE W2 W1 eC
 exact propext ⟨fun⟨d,e,h⟩=>by cases e;exact h,fun h=>⟨_,rfl,h⟩⟩
theorem Ep:n2 lO ta (nP (eC .non))=n1 cZ ta:=by
 funext ρ M Q
 unfold n2 n1 nP
 congr 1
 funext x M1
 unfold WE W2 W1 eC
 exact propext ⟨fun⟨d,e,h⟩=>by cases e;exact h,fun h=>⟨_,rfl,h⟩⟩
theorem Et{j}(ha:NE X a ta):NT X (.Compare a [.Is] [.Constant .none j p2] pos) (cT (n1 df ta)):=by rw[<- Eo];exact mz qQ (sR X.K) ha (oy iJ) (cM _)
theorem Eu{j}(ha:NE X a ta):NT X (.Compare a [.IsNot] [.Constant .none j p2] pos) (cT (n1 cZ ta)):=by rw[<- Ep];exact mz ni (o7 X.K) ha (oy iJ) (cM _)
variable {ka kb:NTB}{az:List Expr}
theorem Ev(h:NE X a ta)(he:∀ whole,isTrue a X.env whole=(do let v <- whole;standAt a.pos;holding [v] (truthy v))):NT X a (du ta) :=
 gx (qV h he) fun σ H Q ⟨ρ,M,QW,hE,ht,hQ⟩=>⟨ρ,M,_,hE,ht,fun d M' ⟨b,hb,hq⟩ v H' p=>⟨b,rZ (aH (bc _ _) p.rep) hb,hQ b M' hq H' p.toPostT⟩⟩
theorem Ex(ha:NT X a ka):NW X (.BoolOp .And [a] pos) ka:=xF ha
theorem Ey(ha:NT X a ka):NW X (.BoolOp .Or [a] pos) ka:=qq ha
theorem Ez(ha:NT X a ka)(hb:NW X (.BoolOp .And (b::az) pos) kb):NW X (.BoolOp .And (a::b::az) pos) (j1 ka kb) :=
 nF (xG ha hb) fun σ H Q ⟨ρ,M,QW,hE,ht,hQ⟩=>⟨ρ,M,_,hE,ht,fun k M1 hk H1 p1=>by
  cases k with
  | true=>exact dI ⟨ρ,M1,_,hE.next p1,hk.1 rfl,fun k' M2 h2 H2 p2=>hQ k' M2 h2 H2 (p1.trans p2)⟩
  | false=>exact dH (hQ _ M1 (hk.2 rfl) H1 p1)⟩
theorem EA(ha:NT X a ka)(hb:NW X (.BoolOp .Or (b::az) pos) kb):NW X (.BoolOp .Or (a::b::az) pos) (nOr ka kb) :=
 nF (qr ha hb) fun σ H Q ⟨ρ,M,QW,hE,ht,hQ⟩=>⟨ρ,M,_,hE,ht,fun k M1 hk H1 p1=>by
  cases k with
  | false=>exact dH ⟨ρ,M1,_,hE.next p1,hk.2 rfl,fun k' M2 h2 H2 p2=>hQ k' M2 h2 H2 (p1.trans p2)⟩
  | true=>exact dI (hQ _ M1 (hk.1 rfl) H1 p1)⟩
theorem EB(h:NW X a ka):NT X a ka:=h.pt
theorem EC(ha:NT X a ka):NT X (.UnaryOp .Not a pos) (eu ka):=gx (qt ha) fun σ H Q ⟨ρ,M,QW,hE,ht,hQ⟩=>⟨ρ,M,_,hE,ht,fun k M1 hk H1 p1=>hQ _ M1 hk H1 p1⟩
theorem ED(hc:NT X c ka)(ha:NE X a ta)(hb:NE X b tb):NE X (.IfExp c a b pos) (nIf ka ta tb) :=
 aM (xL hc ha hb) fun σ H Q ⟨ρ,M,QW,hE,ht,hQ⟩=>⟨ρ,M,_,hE,ht,fun k M1 hk H1 p1=>by
  have fin:∀ d M2,QW d M2->∀ v H2,PostW X.K H1 M1 d v H2 M2->Q v H2:=fun d M2 h2 v H2 p2=>hQ d M2 h2 v H2 ⟨p1.trans p2.toPostT,p2.rep⟩
  cases k with
  | true=>exact dI ⟨ρ,M1,_,hE.next p1,hk.1 rfl,fin⟩
  | false=>exact dH ⟨ρ,M1,_,hE.next p1,hk.2 rfl,fin⟩⟩
theorem EE{op}(h:NE X a ta):NE X (.BoolOp op [a] pos) ta:=qu h
theorem EF(ha:NE X a ta)(hb:NE X (.BoolOp .And (b::az) pos) tb):NE X (.BoolOp .And (a::b::az) pos) (kc ta tb) :=
 aM (qv ha hb) fun σ H Q ⟨ρ,M,QW,hE,ht,hQ⟩=>⟨ρ,M,_,hE,ht,fun x M1 hk vx H1 p1=>by
  cases x with
  | bl k =>
    cases p1.rep
    refine⟨k,rfl,?_⟩
    cases k with
    | true=>exact dI ⟨ρ,M1,_,hE.next p1.toPostT,hk.1 rfl,fun d M2 h2 v H2 p2=>hQ d M2 h2 v H2 ⟨p1.toPostT.trans p2.toPostT,p2.rep⟩⟩
    | false=>exact dH (hQ _ M1 (hk.2 rfl) _ H1 ⟨p1.toPostT,.bl _⟩)
  | _=>exact hk.elim⟩
theorem EG(ha:NE X a ta)(hb:NE X (.BoolOp .Or (b::az) pos) tb):NE X (.BoolOp .Or (a::b::az) pos) (m9 ta tb) :=
 aM (qw ha hb) fun σ H Q ⟨ρ,M,QW,hE,ht,hQ⟩=>⟨ρ,M,_,hE,ht,fun x M1 hk vx H1 p1=>by
  cases x with
  | bl k =>
    cases p1.rep
    refine⟨k,rfl,?_⟩
    cases k with
    | false=>exact dH ⟨ρ,M1,_,hE.next p1.toPostT,hk.2 rfl,fun d M2 h2 v H2 p2=>hQ d M2 h2 v H2 ⟨p1.toPostT.trans p2.toPostT,p2.rep⟩⟩
    | true=>exact dI (hQ _ M1 (hk.1 rfl) _ H1 ⟨p1.toPostT,.bl _⟩)
  | _=>exact hk.elim⟩
variable {xs:List Expr}{tas:NTA}
theorem EH:NA X [] aw:=ls dG fun σ H Q ⟨ρ,M,QW,hE,ht,hQ⟩=>hQ [] M ht [] H ⟨PostT.refl hE.ok,.nil⟩
theorem EI(ha:NE X a ta)(hr:NA X xs tas)(hs:starEach (a::xs) X.env=(false,eval a X.env)::starEach xs X.env):NA X (a::xs) (aj ta tas) :=
 ls (cN ha hr hs) fun σ H Q ⟨ρ,M,QW,hE,ht,hQ⟩=>⟨ρ,M,_,hE,ht,fun d M1 h1 v H1 p1=>⟨ρ,M1,_,hE.next p1.toPostT,h1,fun ds M2 h2 vs H2 p2=>hQ _ M2 h2 _ H2 ⟨p1.toPostT.trans p2.toPostT,.cons (aH p2.same p1.rep) p2.rep⟩⟩⟩
theorem EJ{x1}(h:NA X xs tas):NE X (.Tuple xs x1 pos) (g7 tas) :=
 aM (rg h) fun σ H Q ⟨ρ,M,QW,hE,ht,hQ⟩=>⟨ρ,M,_,hE,ht,fun ds M1 ⟨hl,hq⟩ vs H1 p=>⟨by rw[p.rep.length];exact lz hl,fun l hl1=>by
  have hn:=p.ok.fresh hl1
  refine hQ _ M1 hq _ _ ⟨p.toPostT.trans (PostT.of p.ok (bG hl1 _)),.tup ?_ (aU (PH.up (bG hl1 _)) p.rep)⟩
  rw[PH.of hn];exact br⟩⟩
theorem EK(h:NA X xs tas):NE X (.List xs pos) (dk tas) :=
 aM (rh h) fun σ H Q ⟨ρ,M,QW,hE,ht,hQ⟩=>⟨ρ,M,_,hE,ht,fun ds M1 ⟨hl,hq⟩ vs H1 p=>⟨by rw[p.rep.length];exact lz hl,fun l hl1=>by
  have hn:=p.ok.fresh hl1
  refine hQ _ M1 hq _ _ ⟨p.toPostT.trans (PostT.of p.ok (bG hl1 _)),.lst (.inl ?_) (aU (PH.up (bG hl1 _)) p.rep)⟩
  rw[PH.of hn];exact br⟩⟩
theorem EL{H:Hp}{A:Addr->Prop}{p:Addr}{o:HO}(hp:H p=none):Same (ay H A) (ay (upd H p o) fun b=>A b\/b=p):=fun b u q=>by
 obtain⟨n,q⟩:=dJ q
 have ne:b ≠ p:=bM q hp
 rw[bC (fun z=>z.elim n ne),aF ne]
 exact q
theorem EM(h:VF X a fa es):NE X a (kf fa):=aM h fun σ H Q ⟨ρ,M,QW,hE,⟨d,hf,ds,e,hq⟩,hQ⟩=>⟨ρ,d,hE.envR,hf,fun v H' p=>by
 obtain⟨l,xs,ds',rfl,rfl,hl,hl',hr⟩:=p.new
 cases e
 obtain⟨e1,e2⟩:=km (c:=.lst ds) hE.ok hl p.same hl' (hr (inM M) hE.ok.dom fun e _=>tZ hE e)
 exact hQ _ _ (hq l (hE.ok.fresh hl)) _ _ ⟨⟨e1,e2⟩,.ptr l⟩⟩
theorem EN(ha:NE X a ta)(hb:NE X b tb)(hs:jx b):NE X (.Subscript a b pos) (n2 ixD ta tb) :=
 aM (rC (ix_list.or rD) ha hb hs) fun σ H Q ⟨ρ,M,QW,hE,ht,hQ⟩=>⟨ρ,M,_,hE,ht,fun x M1 h1 vx H1 p1=>⟨ρ,M1,_,hE.next p1.toPostT,h1,fun y M2 ⟨d,hd,hq⟩ vy H2 p2=>by
  cases y with
  | int i =>
    cases p2.rep
    obtain⟨ds,h3,h4⟩:=bind_some hd
    have rx:=aH p2.same p1.rep
    have hel:ElR X.K H2 (inM M2) _ _:=rx.el
    obtain⟨p,xs,rfl,hp,_,hA⟩:=lA (aH (bc _ _) rx) h3
    have hx:=hA _ hel
    obtain⟨v,h5,h6⟩:=nH hx h4
    have fin:Q v H2:=hQ d M2 hq v H2 ⟨p1.toPostT.trans p2.toPostT,h6⟩
    rcases hp with hp | hp
    ·exact .inl ⟨p,xs,i,v,rfl,rfl,hp,h5,fin⟩
    ·exact .inr ⟨p,xs,i,v,rfl,rfl,hp,h5,fin⟩
  | _=>cases hd⟩⟩
theorem j5{K:W.Frag}{H:Hp}{M:Sto}{a:Addr}{ds:List D}(h:MOk K H M)(ha:M a=some (.lst ds)):∃ xs,H a=some (.lst xs)/\Reps K (PH H M) xs ds:=by
 obtain⟨o,h1,h2⟩:=h a _ ha
 cases o with
 | lst xs=>exact⟨xs,h1,h2⟩
 | _=>exact h2.elim
theorem oA{K:W.Frag}{H:Hp}{M:Sto}{a:Addr}{ns:List Str}{ds:List D}(h:MOk K H M)(ha:M a=some (.dic ns ds)):∃ vs,H a=some (.dK (aT ns vs))/\vs.length=ns.length/\Reps K (PH H M) vs ds:=by
 obtain⟨o,h1,h2⟩:=h a _ ha
 cases o with
 | dK kvs=>obtain⟨vs,rfl,h3,h4⟩:=h2;exact⟨vs,h1,h3,h4⟩
 | _=>exact h2.elim
theorem gN{K:W.Frag}{H:Hp}{M:Sto}{a:Addr}{C:Nat}{ns:List Str}{ds:List D}(h:MOk K H M)(ha:M a=some (.ins C ns ds)):∃ dx vs,H a=some (.ins C dx (ns.zip vs))/\vs.length=ns.length/\Reps K (PH H M) vs ds:=by
 obtain⟨o,h1,h2⟩:=h a _ ha
 cases o with
 | ins C' dx fs=>obtain⟨rfl,vs,rfl,h3,h4⟩:=h2;exact⟨dx,vs,h1,h3,h4⟩
 | _=>exact h2.elim
theorem u6:∀ {ns:List Str} {vs:List V} {i:Nat} {x:Str} {v:V},ns.Nodup->ns[i]?=some x->vs[i]?=some v->(ns.zip vs).lookup x=some v
 | [],_,_,_,_,_,h,_=>by simp at h
 | _::_,[],i,_,_,_,_,h=>by simp at h
 | n::ns,w::vs,0,x,v,_,h1,h2=>by simp at h1 h2;subst h1 h2;simp
 | n::ns,w::vs,i+1,x,v,hn,h1,h2=>by
   have h1':ns[i]?=some x:=by simpa using h1
   have hm:x ∈ ns:=List.mem_of_getElem? h1'
   have ne:¬ (x=n):=fun e=>(List.nodup_cons.mp hn).1 (e ▸ hm)
   have ih:=u6 (List.nodup_cons.mp hn).2 h1' (by simpa using h2)
   rw[List.zip_cons_cons,List.lookup_cons,show (x == n)=false from beq_eq_false_iff_ne.mpr ne]
   exact ih
theorem u7:∀ {ns:List Str} {vs:List V} {i:Nat} {x:Str} {v:V},ns.Nodup->ns[i]?=some x->vs[i]?=some v->bX (aT ns vs) (.inr x)=some v
 | [],_,_,_,_,_,h,_=>by simp at h
 | _::_,[],i,_,_,_,_,h=>by simp at h
 | n::ns,w::vs,0,x,v,_,h1,h2=>by simp at h1 h2;subst h1 h2;exact ll (p:=((Sum.inr n:Key),w)) rfl
 | n::ns,w::vs,i+1,x,v,hn,h1,h2=>by
   have h1':ns[i]?=some x:=by simpa using h1
   have hm:x ∈ ns:=List.mem_of_getElem? h1'
   have ne:¬ (n=x):=fun e=>(List.nodup_cons.mp hn).1 (e ▸ hm)
   have ih:=u7 (List.nodup_cons.mp hn).2 h1' (by simpa using h2)
   have e2:bX (aT (n::ns) (w::vs)) (.inr x)=bX (aT ns vs) (.inr x):=lm (p:=((Sum.inr n:Key),w)) fun q=>ne (Sum.inr.inj q)
   rw[e2];exact ih
theorem EO{k i:Nat}{ns:List Str}{x:Str}{j}(hr:Room k X.A)(ha:NE X a ta)(hs:lq (.Constant (.str x) j p2))(hn:ns.Nodup)(hi:ns[i]?=some x):NE X (.Subscript a (.Constant (.str x) j p2) pos) (nDg ns i ta) :=
 aM (zu (by have:=hr.un;omega) ha iF hs) fun σ H Q ⟨ρ,M,QW,hE,ht,hQ⟩=>⟨ρ,M,_,hE,ht,fun y M1 ⟨q,ds,d,ex,hm,hd,hq⟩ vy H1 p1=>by
  subst ex
  cases p1.rep
  obtain⟨vs,g1,gl,g2⟩:=oA p1.ok hm
  obtain⟨v,h5,h6⟩:=g2.get hd
  exact⟨q,v,rfl,.inl ⟨_,.inr x,.inl g1,rfl,(u7 hn hi h5).symm⟩,hQ d M1 hq v H1 ⟨p1.toPostT,h6⟩⟩⟩
theorem EQ{i:Nat}{C:Addr}{ns:List Str}{f:Str}(c:Cls X.K C)(n:NoAttr X.K C f)(ha:NE X a ta)(hb:attributeBase a f X.env (eval a X.env)=eval a X.env)(hn:ns.Nodup)(hi:ns[i]?=some f):NE X (.Attribute a f pos) (bv C ns i ta) :=
 aM (yx ha hb) fun σ H Q ⟨ρ,M,QW,hE,ht,hQ⟩=>⟨ρ,M,_,hE,ht,fun y M1 ⟨q,ds,d,ex,hm,hd,hq⟩ vy H1 p1=>by
  subst ex
  cases p1.rep
  obtain⟨dx,vs,g1,gl,g2⟩:=gN p1.ok hm
  obtain⟨v,h5,h6⟩:=g2.get hd
  exact⟨q,C,dx,_,v,rfl,g1,c,n,u6 hn hi h5,hQ d M1 hq v H1 ⟨p1.toPostT,h6⟩⟩⟩
end
end VL
namespace VL
open PySem PySem.Spec PyProof.Rows L2
def spN(K:W.Frag)(T:NTF):Sp:=fun vs H Q _=>∃ ds M QW,Reps K (PH H M) vs ds/\MOk K H M/\T ds M QW/\∀ d M',QW d M'->∀ v H',PostW K H M d v H' M'->Q v H'
def DefN(P:Program)(w:World)(K:W.Frag)(mg:Str->Option Value)(base:Heap)(x:Str)(k:Nat)(ps:List Str)(T:NTF):Prop :=
 ∃ f fd,FnOk P w K mg base CX0 k f fd ps (spN K T)/\mg x=some (.ref f)/\W.keepIn K (.ref f)=true/\Binds K fd ps []
theorem DefN.mono{P:Program}{w:World}{K:W.Frag}{mg:Str->Option Value}{base:Heap}{x:Str}{j k:Nat}{ps:List Str}{T:NTF}(h:DefN P w K mg base x j ps T)(hk:j<=k:=by decide):DefN P w K mg base x k ps T :=
 let ⟨f,fd,F,m,kp,b⟩:=h
 ⟨f,fd,F.mono hk,m,kp,b⟩
def MetN(P:Program)(w:World)(K:W.Frag)(mg:Str->Option Value)(base:Heap)(C:Addr)(m:Str)(k:Nat)(ps:List Str)(T:NTF):Prop :=
 ∃ f fd,FnOk P w K mg base CX0 k f fd ps (spN K T)/\Meth K C m f/\Binds K fd ps []
theorem MetN.mono{P:Program}{w:World}{K:W.Frag}{mg:Str->Option Value}{base:Heap}{C:Addr}{x:Str}{j k:Nat}{ps:List Str}{T:NTF}(h:MetN P w K mg base C x j ps T)(hk:j<=k:=by decide):MetN P w K mg base C x k ps T :=
 let ⟨f,fd,F,m,b⟩:=h
 ⟨f,fd,F.mono hk,m,b⟩
def MakN(P:Program)(w:World)(K:W.Frag)(mg:Str->Option Value)(base:Heap)(x:Str)(C:Addr)(k:Nat)(ps:List Str)(T:NTF):Prop :=
 ∃ f fd,FnOk P w K mg base CX0 k f fd ps (spN K T)/\Mk K C f/\mg x=some (.ref C)/\Binds K fd ps []
theorem MakN.mono{P:Program}{w:World}{K:W.Frag}{mg:Str->Option Value}{base:Heap}{C:Addr}{x:Str}{j k:Nat}{ps:List Str}{T:NTF}(h:MakN P w K mg base x C j ps T)(hk:j<=k:=by decide):MakN P w K mg base x C k ps T :=
 let ⟨f,fd,F,m,g,b⟩:=h
 ⟨f,fd,F.mono hk,m,g,b⟩
theorem ER{K:W.Frag}{H:Hp}{M:Sto}{v:V}{d:D}(h:MOk K H M)(r:Rep K (PH H M) v d):Rep K H v (vw1 M d):=by
 cases r with
 | ptr a =>
   show Rep K H (.ref a) (match M a with | some (.lst ds)=>.lst ds | _=>.ptr a)
   split
   ·rename_i ds hm
    obtain⟨xs,g1,g2⟩:=j5 h hm
    exact .lst (.inl g1) (aU (bc _ _) g2)
   ·exact .ptr a
 | non=>exact .non
 | bl b=>exact .bl b
 | int b=>exact .int b
 | str b=>exact .str b
 | lst h1 h2=>exact aH (bc _ _) (.lst h1 h2)
 | tup h1 h2=>exact aH (bc _ _) (.tup h1 h2)
 | scr h1=>exact aH (bc _ _) (.scr h1)
 | dct h1=>exact aH (bc _ _) (.dct h1)
theorem oB{K:W.Frag}{H:Hp}{M:Sto}(h:MOk K H M):∀ {vs:List V} {ds:List D},Reps K (PH H M) vs ds->Reps K H vs (ds.map (vw1 M))
 | [],_,r=>by cases r;exact .nil
 | _::_,_,r=>by cases r with | cons a t=>exact .cons (ER h a) (oB h t)
section
variable {X:Cx}{a b c:Expr}{tb:NTE}{tas:NTA}{pos p p2 ap:Pos}{k:Nat}{ps:List Str}{x m:Str}{es:List Expr}{T:NTF}{G:List D->Option D}{fr:Bool}{C:Addr}{ns:List Str}
theorem ES(d:DefN X.prog X.w X.K X.mg X.base x k ps T)(hr:Room k X.A)(ha:NA X (a::es) tas)(hg:Gl X x)(hdb:(x == ("__debug__" : Str))=false)(he:starEach (a::es) X.env=(false,eval a X.env)::starEach es X.env)(hpl:(backTo pos (starEach es X.env)).any (·.1)=false):
  NE X (.Call (.Name x p) (a::es) [] pos) (aO T tas) :=
 let ⟨_,_,F,hm,hk,hb⟩:=d
 aM (li F hr hg hm hk hb .nil gv ha hdb he hpl) fun σ H Q ⟨ρ,M,QW,hE,ht,hQ⟩=>⟨ρ,M,_,hE,ht,fun ds M1 h1 vs H1 p=>by
  show spN X.K T (vs++[]) H1 Q E0
  rw[List.append_nil]
  exact⟨ds,M1,QW,p.rep,p.ok,h1,fun d M' hd v H' p'=>hQ d M' hd v H' ⟨p.toPostT.trans p'.toPostT,p'.rep⟩⟩⟩
theorem ET(d:Def X.prog X.w X.K X.mg X.base x k ps G fr)(hr:Room k X.A)(ha:NA X (a::es) tas)(hg:Gl X x)(hdb:(x == ("__debug__" : Str))=false)(he:starEach (a::es) X.env=(false,eval a X.env)::starEach es X.env)(hpl:(backTo pos (starEach es X.env)).any (·.1)=false):
  NE X (.Call (.Name x p) (a::es) [] pos) (eK G tas) :=
 let ⟨_,_,F,hm,hk,hb⟩:=d
 aM (li F hr hg hm hk hb .nil gv ha hdb he hpl) fun σ H Q ⟨ρ,M,QW,hE,ht,hQ⟩=>⟨ρ,M,_,hE,ht,fun ds M1 ⟨d,hf,hq⟩ vs H1 p=>by
  show spF X.K G fr (vs++[]) H1 Q E0
  rw[List.append_nil]
  exact⟨ds,d,aU (bc _ _) p.rep,hf,fun v H' r=>hQ d M1 hq v H' ⟨p.toPostT.trans (PostT.of p.ok r.same),r.rep _ p.ok.dom p.rep⟩⟩⟩
theorem oC{id:String}{r:List V->Hp->VK->Prop}{g:List D->Option D}(hc:CallR X (.builtin id) r)(hv:gz X.K r g)(hm:X.mg x=none)(hb:bootBuiltins x=some (.builtin id))(ha:NA X (a::es) tas)(hs:∀ ds d,g ds=some d->bg d=true)(hg:Gl X x:=by rfl)(hn:x ≠ "__name__":=by decide)(hdb:(x == ("__debug__" : Str))=false:=by decide)(he:starEach (a::es) X.env=(false,eval a X.env)::starEach es X.env:=by rfl)(hpl:(backTo pos (starEach es X.env)).any (·.1)=false:=by rfl):
  NE X (.Call (.Name x p) (a::es) [] pos) (da g tas) :=
 aM (jw hc hg hm hb ha hn hdb he hpl) fun σ H Q ⟨ρ,M,QW,hE,ht,hQ⟩=>⟨ρ,M,_,hE,ht,fun ds M1 ⟨d,hf,_,hq⟩ vs H1 p =>
  hv vs H1 _ d Q (oB p.ok p.rep) hf fun v hr=>hQ d M1 hq v H1 ⟨p.toPostT,hr _⟩⟩
theorem kn:∀ {ns:List Str} {vs:List V} {x:Str},¬ x ∈ ns->(ns.zip vs).lookup x=none
 | [],_,_,_=>rfl
 | _::_,[],_,_=>rfl
 | n::ns,v::vs,x,h=>by
   rw[List.zip_cons_cons,List.lookup_cons,show (x == n)=false from beq_eq_false_iff_ne.mpr fun e=>h (e ▸ List.mem_cons_self)]
   exact kn fun z=>h (List.mem_cons_of_mem _ z)
theorem EU{pl:Sem Bool}(cl:Cls X.K C)(d:MetN X.prog X.w X.K X.mg X.base C m k ps T)(hr:Room k X.A)(ho:NE X b tb)(ha:NA X (a::es) tas)(hno:¬ m ∈ ns)(hst:starEach (a::es) X.env=(false,eval a X.env)::starEach es X.env)(hpl:(backTo pos (starEach es X.env)).any (·.1)=false)(ht:eval (.Call (.Attribute b m ap) (a::es) [] pos) X.env=(do
   let ov <- eval b X.env
   standAt ap.atName
   let (f,first) <- holding [ov] (getMethod ov m pl)
   callWith pos f first (backTo pos (starEach (a::es) X.env)) (backToKw pos (keywordEach [] X.env))):=by rfl):
  NE X (.Call (.Attribute b m ap) (a::es) [] pos) (bJ C ns T tb tas) :=
 let ⟨_,_,F,hm,hb⟩:=d
 aM (yE ho cl hm F hr hb .nil gv ha hst hpl ht) fun σ H Q ⟨ρ,M,QW,hE,hw,hQ⟩=>⟨ρ,M,_,hE,hw,fun x M1 ⟨q,ds0,ex,hm1,h1⟩ vx H1 p1=>by
  subst ex
  cases p1.rep
  obtain⟨dx,vs0,g1,gl,g2⟩:=gN p1.ok hm1
  refine⟨q,dx,_,rfl,g1,kn hno,ρ,M1,_,hE.next p1.toPostT,h1,fun ds M2 h2 vs H2 p2=>?_⟩
  show spN X.K T (V.ref q::(vs++[])) H2 Q E0
  rw[List.append_nil]
  exact⟨.ptr q::ds,M2,QW,.cons (.ptr q) p2.rep,p2.ok,h2,fun d M' hd v H' p'=>hQ d M' hd v H' ⟨(p1.toPostT.trans p2.toPostT).trans p'.toPostT,p'.rep⟩⟩⟩
theorem EV{pl:Sem Bool}(cl:Cls X.K C)(d:MetN X.prog X.w X.K X.mg X.base C m k ps T)(hr:Room k X.A)(ho:NE X b tb)(hno:¬ m ∈ ns)(ht:eval (.Call (.Attribute b m ap) [] [] pos) X.env=(do
   let ov <- eval b X.env
   standAt ap.atName
   let (f,first) <- holding [ov] (getMethod ov m pl)
   callWith pos f first (backTo pos (starEach [] X.env)) (backToKw pos (keywordEach [] X.env))):=by rfl):
  NE X (.Call (.Attribute b m ap) [] [] pos) (bJ C ns T tb aw) :=
 let ⟨_,_,F,hm,hb⟩:=d
 aM (yF ho cl hm F hr hb .nil gv ht) fun σ H Q ⟨ρ,M,QW,hE,hw,hQ⟩=>⟨ρ,M,_,hE,hw,fun x M1 ⟨q,ds0,ex,hm1,h1⟩ vx H1 p1=>by
  subst ex
  cases p1.rep
  obtain⟨dx,vs0,g1,gl,g2⟩:=gN p1.ok hm1
  refine⟨q,dx,_,rfl,g1,kn hno,?_⟩
  exact⟨[.ptr q],M1,QW,.cons (.ptr q) .nil,p1.ok,h1,fun d M' hd v H' p'=>hQ d M' hd v H' ⟨p1.toPostT.trans p'.toPostT,p'.rep⟩⟩⟩
theorem EW(d:MakN X.prog X.w X.K X.mg X.base x C k ps T)(hr:Room (k+1) X.A)(ha:NA X (a::es) tas)(hg:Gl X x)(hdb:(x == ("__debug__" : Str))=false)(he:starEach (a::es) X.env=(false,eval a X.env)::starEach es X.env)(hpl:(backTo pos (starEach es X.env)).any (·.1)=false):
  NE X (.Call (.Name x p) (a::es) [] pos) (kh C T tas) :=
 let ⟨_,_,F,M,hm,hb⟩:=d
 aM (yH M F hr hg hm hb .nil gv ha hdb he hpl) fun σ H Q ⟨ρ,M,QW,hE,ht,hQ⟩=>⟨ρ,M,_,hE,ht,fun ds M1 h1 vs H1 p q dx hq hdx ne=>by
  show spN X.K T (V.ref q::(vs++[])) _ _ E0
  rw[List.append_nil]
  have hqd:upd H1 dx (.own q) q=none:=by rw[aF (Ne.symm ne)];exact hq
  have s1:=bG hdx (.own q)
  have s2:=bG hqd (.ins C dx [])
  obtain⟨e1,e2⟩:=km (c:=.ins C [] []) (p.ok.up s1) hqd s2 br ⟨rfl,[],rfl,rfl,.nil⟩
  have pt:PostT X.K H1 M1 _ _:=(PostT.of p.ok s1).trans ⟨e1,e2⟩
  exact⟨.ptr q::ds,_,_,.cons (.ptr q) (aU pt.same p.rep),e2,h1 q (p.ok.fresh hq),fun d M' ⟨hd,hq'⟩ v H' p'=>by
   subst hd
   cases p'.rep
   exact⟨rfl,hQ _ M' hq' _ H' ⟨(p.toPostT.trans pt).trans p'.toPostT,.ptr q⟩⟩⟩⟩
end
structure EnvN (K:W.Frag) (P:Hp) (n:Nat) (σ:St) (ρ:am) (H:Hp) (M:Sto):Prop where
 q:EnvQ K σ ρ H M
 same:Same P (PH H M)
 lσ:σ.length=n
 lρ:ρ.length=n
def j6(K:W.Frag)(P:Hp)(n:Nat)(De:Ends):EndN where
 nx:=fun ρ M=>∀ σ H,EnvN K P n σ ρ H M->De.nx σ H
 bk:=fun ρ M=>∀ σ H,EnvN K P n σ ρ H M->De.bk σ H
 ct:=fun ρ M=>∀ σ H,EnvN K P n σ ρ H M->De.ct σ H
 rt:=fun d M=>∀ v H,Same P (PH H M)->MOk K H M->Rep K (PH H M) v d->De.rt v H
structure LeE (A B:EndN):Prop where
 nx:∀ ρ M,A.nx ρ M->B.nx ρ M
 bk:∀ ρ M,A.bk ρ M->B.bk ρ M
 ct:∀ ρ M,A.ct ρ M->B.ct ρ M
 rt:∀ d M,A.rt d M->B.rt d M
def twS(K:W.Frag)(P:Hp)(n:Nat)(t:NTS):TS:=fun De σ H=>∃ ρ M Ew,EnvN K P n σ ρ H M/\t Ew ρ M/\LeE Ew (j6 K P n De)
abbrev NS(X:Cx)(st:Stmt)(t:NTS):Prop:=∀ P n,PS X st (twS X.K P n t)
abbrev NSs(X:Cx)(st:List Stmt)(t:NTS):Prop:=∀ P n,PSs X st (twS X.K P n t)
theorem EnvN.next{K:W.Frag}{P:Hp}{n:Nat}{σ:St}{ρ:am}{H H':Hp}{M M':Sto}(h:EnvN K P n σ ρ H M)(p:PostT K H M H' M'):EnvN K P n σ ρ H' M':=⟨h.q.next p,h.same.trans p.same,h.lσ,h.lρ⟩
theorem EnvN.set{K:W.Frag}{P:Hp}{n:Nat}{σ:St}{ρ:am}{H:Hp}{M:Sto}(h:EnvN K P n σ ρ H M){i:Nat}{v:V}{d:D}(r:Rep K (PH H M) v d):EnvN K P n (σ.set i (some v)) (ρ.set i (some d)) H M :=
 ⟨⟨fun j e q=>by
   by_cases e1:j=i
   ·subst e1
    have hl:j < ρ.length:=by have:=(List.getElem?_eq_some_iff.mp q).1;simpa using this
    rw[List.getElem?_set_self hl] at q
    cases q
    exact⟨v,List.getElem?_set_self (by rw[h.lσ,<- h.lρ];exact hl),r⟩
   ·rw[List.getElem?_set_ne (Ne.symm e1)] at q
    obtain⟨v',h1,h2⟩:=h.q.env j e q
    exact⟨v',by rw[List.getElem?_set_ne (Ne.symm e1)];exact h1,h2⟩,h.q.ok⟩,h.same,by rw[List.length_set];exact h.lσ,by rw[List.length_set];exact h.lρ⟩
section
variable {X:Cx}{a b c:Expr}{ta tv:NTE}{ka:NTB}{pos p p2 p3:Pos}{k:Nat}{st:Stmt}{az body bs:List Stmt}{t u:NTS}{C:Addr}{ns:List Str}{x f:Str}{i:Nat}
theorem EY:NSs X [] sN:=fun P n=>ef n5 fun De σ H ⟨ρ,M,Ew,hE,ht,hl⟩=>hl.nx ρ M ht σ H hE
theorem EZ(h1:NS X st t)(h2:NSs X az u):NSs X (st::az) (au t u):=fun P n=>ef (n6 (h1 P n) (h2 P n)) fun De σ H ⟨ρ,M,Ew,hE,ht,hl⟩ =>
 ⟨ρ,M,_,hE,ht,fun ρ' M' h' σ' H' hE'=>⟨ρ',M',Ew,hE',h',hl⟩,hl.bk,hl.ct,hl.rt⟩
theorem F0(h1:NS X st t):NSs X [st] t:=fun P n=>ef (kX (h1 P n)) fun De σ H h=>h
theorem F1(hc:NT X c ka)(ha:NSs X body t)(hb:NSs X bs u):NS X (.If c body bs pos) (b7 ka t u):=fun P n=>bu (n8 hc (ha P n) (hb P n)) fun De σ H ⟨ρ,M,Ew,hE,ht,hl⟩=>⟨ρ,M,_,hE.q,ht,fun k M1 hk H1 p1=>by
 cases k with
 | true=>exact dI ⟨ρ,M1,Ew,hE.next p1,hk.1 rfl,hl⟩
 | false=>exact dH ⟨ρ,M1,Ew,hE.next p1,hk.2 rfl,hl⟩⟩
theorem F2(he:NE X a ta):NS X (.Return (some a) pos) (aS ta):=fun P n=>bu (iG he) fun De σ H ⟨ρ,M,Ew,hE,ht,hl⟩=>⟨ρ,M,_,hE.q,ht,fun d M1 h1 v H1 p1=>hl.rt d M1 h1 v H1 (hE.same.trans p1.same) p1.ok p1.rep⟩
theorem F3(i:Nat)(hN:X.N[i]?=some x)(hv:Vis X.env.scope x:=by first | exact Or.inl rfl | exact Or.inr (Or.inl rfl) | exact Or.inr (Or.inr rfl))(hd:(x == ("__debug__" : Str))=false)(hcd:(x == ("__classdict__" : Str))=false):NS X (.Return (some (.Name x p2)) pos) (ma i):=fun P n=>bu (iG (iE hN hv hd hcd)) fun De σ H ⟨ρ,M,Ew,hE,⟨q,ds,h1,h2,h3⟩,hl⟩=>by
 obtain⟨v,hv,r⟩:=hE.q.env i _ (iI h1)
 cases r
 obtain⟨e1,e2⟩:=tY (a:=q) hE.q.ok
 obtain⟨xs,g1,g2⟩:=j5 hE.q.ok h2
 refine⟨_,hv,hl.rt _ _ h3 _ H (hE.same.trans e1) e2 (.lst (.inl ?_) (aU e1 g2))⟩
 rw[PH.of m7];exact g1
theorem F4(i:Nat)(hN:X.N.Nodup)(he:NE X a ta)(hi:X.N[i]?=some x)(hx:Loc X.env.scope x)(hs:swapsWith a (some (.Name x p2)) pos.line X.env=pure false)(hfn:X.fn x=true\/X.env.scope.names.lookup x=some .local):NS X (.Assign [.Name x p2] a pos) (aL i ta):=fun P n =>
 bu (jr hN hi hx he hs hfn) fun De σ H ⟨ρ,M,Ew,hE,ht,hl⟩=>⟨ρ,M,_,hE.q,ht,fun d M1 h1 v H1 p1=>hl.nx _ M1 h1 _ H1 ((hE.next p1.toPostT).set p1.rep)⟩
theorem u8{K:W.Frag}{P:Hp}{n:Nat}{Q:St->Hp->Prop}{H:Hp}{M:Sto}:∀ {is:List Nat} {ds:List D} {xs:List V} {σ:St} {ρ:am},EnvN K P n σ ρ H M->is.length=ds.length->Reps K (PH H M) xs ds ->
  (∀ σ',EnvN K P n σ' ((is.zip ds).foldl (fun r p=>r.set p.1 (some p.2)) ρ) H M->Q σ' H)->jL is xs σ H Q
 | [],[],_,σ,ρ,hE,_,r,hQ=>by cases r;exact⟨rfl,hQ σ hE⟩
 | [],_::_,_,_,_,_,h,_,_=>by cases h
 | _::_,[],_,_,_,_,h,_,_=>by cases h
 | i::is,d::ds,_,σ,ρ,hE,h,r,hQ=>by
   cases r with
   | cons r1 r2=>exact⟨_,_,rfl,u8 (hE.set r1) (by simpa using h) r2 hQ⟩
theorem F5(is:List Nat){ts:List Expr}{k:Nat}(hc:X.calm=true)(hN:X.N.Nodup)(he:NE X a ta)(ht:Tgs X ts is)(hn:(assignEach ts X.env).length=is.length)(hst:(assignEach ts X.env).findIdx? (·.1)=none)(hs:swapsWithSole [.Tuple ts k p2] a pos.line X.env=pure false)(hw:swappedStores [.Tuple ts k p2] a X.env=pure none)(h1:(assignEach [.Tuple ts k p2] X.env).map (·.2)=[assign (.Tuple ts k p2) X.env]):NS X (.Assign [.Tuple ts k p2] a pos) (gK is ta):=fun P n =>
 bu (qE he (kY hc (Tgs.ok hN ht) hn hst) hs hw h1) fun De σ H ⟨ρ,M,Ew,hE,hw',hl⟩=>⟨ρ,M,_,hE.q,hw',fun d M1 ⟨ds,e1,e2,h2⟩ v H1 p1=>by
  subst e1
  obtain⟨q,xs,rfl,hq,hx⟩:=sv p1.rep
  have hE1:=hE.next p1.toPostT
  exact⟨q,xs,rfl,.inl (dZ (bc _ _) hq),by rw[hx.length];exact e2,u8 hE1 e2.symm hx fun σ' hE'=>hl.nx _ M1 h2 σ' H1 hE'⟩⟩
theorem u9:∀ {ns:List Str} {vs:List V} {i:Nat} {f:Str} (y:V),vs.length=ns.length->ns.Nodup->ns[i]?=some f->cg f y (ns.zip vs)=ns.zip (vs.set i y)
 | [],_,_,_,_,_,_,h=>by simp at h
 | _::_,[],_,_,_,h,_,_=>by simp at h
 | n::ns,w::vs,0,f,y,_,_,h=>by simp at h;subst h;simp[cg]
 | n::ns,w::vs,i+1,f,y,hl,hn,h=>by
   have h1':ns[i]?=some f:=by simpa using h
   have ne:¬ (n=f):=fun e=>(List.nodup_cons.mp hn).1 (e ▸ List.mem_of_getElem? h1')
   rw[List.zip_cons_cons,List.set_cons_succ,List.zip_cons_cons,cg,if_neg ne,u9 y (by simpa using hl) (List.nodup_cons.mp hn).2 h1']
theorem ua:∀ {ns:List Str} {vs:List V} {f:Str} (y:V),vs.length=ns.length->¬ f ∈ ns->cg f y (ns.zip vs)=(ns++[f]).zip (vs++[y])
 | [],[],f,y,_,_=>rfl
 | [],_::_,_,_,h,_=>by simp at h
 | _::_,[],_,_,h,_=>by simp at h
 | n::ns,w::vs,f,y,hl,hn=>by
   have ne:¬ (n=f):=fun e=>hn (e ▸ List.mem_cons_self)
   rw[List.zip_cons_cons,List.cons_append,List.cons_append,List.zip_cons_cons,cg,if_neg ne,ua y (by simpa using hl) fun z=>hn (List.mem_cons_of_mem _ z)]
theorem F6(cl:Cls X.K C)(nat:NoAttr X.K C f)(ha:NE X a ta)(hv:NE X b tv)(hn:ns.Nodup)(hi:ns[i]?=some f)(hlt:ns.length < 1000)(hs:swapsWith b (some (.Attribute a f p2)) pos.line X.env=pure false):
  NS X (.Assign [.Attribute a f p2] b pos) (g8 C ns i ta tv):=fun P n =>
 bu (rb ha hv hs) fun De σ H ⟨ρ,M,Ew,hE,ht,hl⟩=>⟨ρ,M,_,hE.q,ht,fun d M1 h1 v H1 p1=>⟨ρ,M1,_,hE.q.next p1.toPostT,h1,fun x M2 ⟨q,ds,ex,hm,h2⟩ vx H2 p2=>by
  subst ex
  cases p2.rep
  obtain⟨dx,vs,g1,gl,g2⟩:=gN p2.ok hm
  have rv:=aH p2.same p1.rep
  refine⟨q,C,dx,_,rfl,g1,cl,nat,by rw[List.length_zip,gl,Nat.min_self];exact hlt,?_⟩
  rw[u9 _ gl hn hi]
  obtain⟨e1,e2⟩:=j4 (o:=.ins C dx (ns.zip (vs.set i v))) (c:=.ins C ns (ds.set i d)) p2.ok hm ⟨rfl,_,rfl,by rw[List.length_set];exact gl,g2.set rv i⟩
  exact hl.nx _ _ h2 σ _ ((hE.next (p1.toPostT.trans p2.toPostT)).next ⟨e1,e2⟩)⟩⟩
theorem F7(cl:Cls X.K C)(nat:NoAttr X.K C f)(ha:NE X a ta)(hv:NE X b tv)(hi:¬ f ∈ ns)(hlt:ns.length < 1000)(hs:swapsWith b (some (.Attribute a f p2)) pos.line X.env=pure false):
  NS X (.Assign [.Attribute a f p2] b pos) (dO C ns f ta tv):=fun P n =>
 bu (rb ha hv hs) fun De σ H ⟨ρ,M,Ew,hE,ht,hl⟩=>⟨ρ,M,_,hE.q,ht,fun d M1 h1 v H1 p1=>⟨ρ,M1,_,hE.q.next p1.toPostT,h1,fun x M2 ⟨q,ds,ex,hm,h2⟩ vx H2 p2=>by
  subst ex
  cases p2.rep
  obtain⟨dx,vs,g1,gl,g2⟩:=gN p2.ok hm
  have rv:=aH p2.same p1.rep
  refine⟨q,C,dx,_,rfl,g1,cl,nat,by rw[List.length_zip,gl,Nat.min_self];exact hlt,?_⟩
  rw[ua _ gl hi]
  obtain⟨e1,e2⟩:=j4 (o:=.ins C dx ((ns++[f]).zip (vs++[v]))) (c:=.ins C (ns++[f]) (ds++[d])) p2.ok hm ⟨rfl,_,rfl,by simp[gl],g2.append (.cons rv .nil)⟩
  exact hl.nx _ _ h2 σ _ ((hE.next (p1.toPostT.trans p2.toPostT)).next ⟨e1,e2⟩)⟩⟩
theorem ub:∀ {ns:List Str} {vs:List V} {i:Nat} {f:Str},vs.length=ns.length->ns[i]?=some f->((aT ns vs).any fun kv=>decide (kv.1=(Sum.inr f:Key)))=true
 | [],_,_,_,_,h=>by simp at h
 | _::_,[],_,_,h,_=>by simp at h
 | n::ns,w::vs,0,f,_,h=>by simp at h;subst h;simp[aT]
 | n::ns,w::vs,i+1,f,hl,h=>by
   have ih:=ub (ns:=ns) (vs:=vs) (i:=i) (f:=f) (by simpa using hl) (by simpa using h)
   have e:aT (n::ns) (w::vs)=(Sum.inr n,w)::aT ns vs:=rfl
   rw[e,List.any_cons,ih,Bool.or_true]
theorem uc:∀ {ns:List Str} {vs:List V} {f:Str} (y:V),¬ f ∈ ns->(aT ns vs).map (fun kv=>if kv.1=(Sum.inr f:Key) then (kv.1,y) else kv)=aT ns vs
 | [],_,_,_,_=>rfl
 | _::_,[],_,_,_=>rfl
 | n::ns,w::vs,f,y,h=>by
   have e:aT (n::ns) (w::vs)=(Sum.inr n,w)::aT ns vs:=rfl
   have ne:¬ ((Sum.inr n:Key)=Sum.inr f):=fun q=>h (Sum.inr.inj q ▸ List.mem_cons_self)
   rw[e,List.map_cons,if_neg ne,uc y fun z=>h (List.mem_cons_of_mem _ z)]
theorem ud:∀ {ns:List Str} {vs:List V} {i:Nat} {f:Str} (y:V),vs.length=ns.length->ns.Nodup->ns[i]?=some f->(aT ns vs).map (fun kv=>if kv.1=(Sum.inr f:Key) then (kv.1,y) else kv)=aT ns (vs.set i y)
 | [],_,_,_,_,_,_,h=>by simp at h
 | _::_,[],_,_,_,h,_,_=>by simp at h
 | n::ns,w::vs,0,f,y,_,hn,h=>by
   simp at h;subst h
   have e:aT (n::ns) (w::vs)=(Sum.inr n,w)::aT ns vs:=rfl
   rw[e,List.map_cons,if_pos rfl,uc y (List.nodup_cons.mp hn).1]
   rfl
 | n::ns,w::vs,i+1,f,y,hl,hn,h=>by
   have h1':ns[i]?=some f:=by simpa using h
   have e:aT (n::ns) (w::vs)=(Sum.inr n,w)::aT ns vs:=rfl
   have ne:¬ ((Sum.inr n:Key)=Sum.inr f):=fun q=>(List.nodup_cons.mp hn).1 (Sum.inr.inj q ▸ List.mem_of_getElem? h1')
   rw[e,List.map_cons,if_neg ne,ud y (by simpa using hl) (List.nodup_cons.mp hn).2 h1']
   rfl
theorem F8{vs:List V}(y:V)(hl:vs.length=ns.length)(hn:ns.Nodup)(hi:ns[i]?=some f):ci (aT ns vs) (.inr f) y=aT ns (vs.set i y):=by
 unfold ci
 rw[if_pos (ub hl hi),ud y hl hn hi]
theorem F9{j}(hr:Room k X.A)(ha:NE X a ta)(hv:NE X b tv)(hn:ns.Nodup)(hi:ns[i]?=some f)(hlt:ns.length < 1000)(hs:swapsWith b (some (.Subscript a (.Constant (.str f) j p3) p2)) pos.line X.env=pure false):
  NS X (.Assign [.Subscript a (.Constant (.str f) j p3) p2] b pos) (fv ns i ta tv):=fun P n =>
 bu (rQ (by have:=hr.un;omega) ha iF hv hs) fun De σ H ⟨ρ,M,Ew,hE,ht,hl⟩=>⟨ρ,M,_,hE.q,ht,fun d M1 h1 v H1 p1=>⟨ρ,M1,_,hE.q.next p1.toPostT,h1,fun x M2 ⟨q,ds,ex,hm,h2⟩ vx H2 p2=>by
  subst ex
  cases p2.rep
  obtain⟨vs,g1,gl,g2⟩:=oA p2.ok hm
  have rv:=aH p2.same p1.rep
  have hz:(aT ns vs).length < sizeLine:=by
   have:(aT ns vs).length=ns.length:=by simp[aT,gl]
   rw[this,sizeLine_eq];omega
  refine⟨q,_,rfl,.inl ⟨_,.inr f,g1,rfl,hz,rfl⟩,?_⟩
  rw[F8 _ gl hn hi]
  obtain⟨e1,e2⟩:=j4 (o:=.dK (aT ns (vs.set i v))) (c:=.dic ns (ds.set i d)) p2.ok hm ⟨_,rfl,by rw[List.length_set];exact gl,g2.set rv i⟩
  exact hl.nx _ _ h2 σ _ ((hE.next (p1.toPostT.trans p2.toPostT)).next ⟨e1,e2⟩)⟩⟩
end
end VL
namespace VL
open PySem PySem.Spec PyProof.Rows L2
section
variable {X:Cx}{a b c e:Expr}{ta tb tv ti:NTE}{tas:NTA}{pos p2 p3 ap cp pr pn:Pos}{k:Nat}{body:List Stmt}{t tbd:NTS}{x:Str}{i:Nat}
theorem Fa(ha:NE X a ta)(he:NE X e tv)(hbase:attributeBase a "append" X.env (eval a X.env)=eval a X.env)(hfew:((backTo cp (starEach [e] X.env)).all (fun x=>!x.1) && (backToKw cp (keywordEach [] X.env)).all (fun x=>x.1.isSome)
   && decide (([e]:List Expr).length+([]:List Keyword).length+(if ([]:List Keyword).isEmpty then 0 else 1) < 30))=true:=by rfl)(hline:(ap.endLine == cp.line)=true:=by rfl)(hs:starEach [e] X.env=(false,eval e X.env)::starEach [] X.env:=by rfl)(hplain:(backTo cp (starEach [] X.env)).any (·.1)=false:=by rfl)(hsw:swapsWith (.Call (.Attribute a "append" ap) [e] [] cp) none pos.line X.env=pure false:=by rfl):
  NS X (.Expr (.Call (.Attribute a "append" ap) [e] [] cp) pos) (eM ta tv):=fun P n =>
 bu (qz (rF PySem.F.plainAttrs_list PySem.F.slot_list_append PySem.F.type_list_append rH ha (cN he dG hs) hbase hfew hline hs hplain) hsw) fun De σ H ⟨ρ,M,Ew,hE,ht,hl⟩=>⟨ρ,M,_,hE.q,ht,fun x M1 ⟨q,ds0,ex,hm0,h1⟩ vx H1 p1=>by
  subst ex
  cases p1.rep
  obtain⟨xs0,g0,_⟩:=j5 p1.ok hm0
  refine⟨.inl ⟨rfl,xs0,.inl (.inl g0)⟩,ρ,M1,_,hE.q.next p1.toPostT,h1,fun v M2 ⟨ds,hm,hz,h2⟩ vv H2 p2=>?_⟩
  obtain⟨xs,g1,g2⟩:=j5 p2.ok hm
  have len:=g2.length
  refine⟨q,xs,vv,rfl,rfl,g1,Nat.lt_of_lt_of_le (show xs.length < 100000 by omega) (by decide),?_⟩
  obtain⟨e1,e2⟩:=j4 (o:=.lst (xs++[vv])) (c:=.lst (ds++[v])) p2.ok hm (g2.append (.cons p2.rep .nil))
  exact hl.nx _ _ h2 σ _ ((hE.next (p1.toPostT.trans p2.toPostT)).next ⟨e1,e2⟩)⟩
theorem Fb(ha':NE X a ta)(hb:NE X b ti)(he:NE X e tv)(ha:∀ v,assign (.Subscript a b p3) X.env v=(do
   let ov <- holding [v] (eval a X.env)
   let iv <- holding [v,ov] (eval b X.env)
   standAt p3
   holding [v,ov,iv] (setItem ov iv v)
   release [v,ov,iv] []):=by intro _;rfl)(hs:swapsWithSole [.Subscript a b p3] e pos.line X.env=pure false:=by rfl)(hw:swappedStores [.Subscript a b p3] e X.env=pure none:=by rfl)(h1:(assignEach [.Subscript a b p3] X.env).map (·.2)=[assign (.Subscript a b p3) X.env]:=by rfl):
  NS X (.Assign [.Subscript a b p3] e pos) (md ta ti tv):=fun P n =>
 bu (qE he (xV ha' hb yU ha) hs hw h1) fun De σ H ⟨ρ,M,Ew,hE,ht,hl⟩=>⟨ρ,M,_,hE.q,ht,fun d M1 h1 v H1 p1=>⟨ρ,M1,_,hE.q.next p1.toPostT,h1,fun x M2 h2 vx H2 p2=>⟨ρ,M2,_,(hE.q.next p1.toPostT).next p2.toPostT,h2,fun y M3 ⟨q,ds,m,j,ex,hm,ey,hj,h3⟩ vy H3 p3=>by
  subst ex ey
  cases p2.rep
  cases p3.rep
  obtain⟨xs,g1,g2⟩:=j5 p3.ok hm
  have rv:=aH (p2.same.trans p3.same) p1.rep
  have len:=g2.length
  obtain⟨e1,e2⟩:=j4 (o:=.lst (xs.set j v)) (c:=.lst (ds.set j d)) p3.ok hm (g2.set rv j)
  exact⟨q,xs,m,j,rfl,rfl,g1,by rw[len];exact hj,hl.nx _ _ h3 σ _ ((hE.next ((p1.toPostT.trans p2.toPostT).trans p3.toPostT)).next ⟨e1,e2⟩)⟩⟩⟩⟩
theorem ue{K:W.Frag}{P P1:Hp}{n:Nat}{De:Ends}{Ew:EndN}{N:St->Hp->Prop}{body:D->NTS}{r:List D}(hs:Same P P1)(hl:LeE Ew (j6 K P n De))(hN:∀ ρ M σ H,EnvN K P1 n σ ρ H M->db body r Ew ρ M->N σ H):
  LeE { Ew with nx:=fun ρ M=>db body r Ew ρ M,ct:=fun ρ M=>db body r Ew ρ M,bk:=Ew.nx } (j6 K P1 n { De with nx:=N,ct:=N,bk:=De.nx }) where
 nx:=fun ρ M h σ H hE=>hN ρ M σ H hE h
 ct:=fun ρ M h σ H hE=>hN ρ M σ H hE h
 bk:=fun ρ M h σ H hE=>hl.nx ρ M h σ H ⟨hE.q,hs.trans hE.same,hE.lσ,hE.lρ⟩
 rt:=fun d M h v H h1 h2 h3=>hl.rt d M h v H (hs.trans h1) h2 h3
theorem Fc(t:Nat)(hN:X.N.Nodup)(hc:X.calm=true)(hi:NE X a ta)(hb:NSs X body tbd)(hp:PassesOwn (model X.prog X.w) X.A X.env X.xe)(hxN:X.N[t]?=some x)(hx:Loc X.env.scope x)(hfn:X.fn x=true\/X.env.scope.names.lookup x=some .local)(hs:∀ x,foldedSetIterable a X.env x=pure x):NS X (.For (.Name x p2) a body [] pos) (ki t ta tbd):=fun P n=>by
 have hb':PSs X body (fun De σ H=>∃ P1,twS X.K P1 n tbd De σ H):=fun J0 s σ H De I ⟨P1,h⟩=>hb P1 n J0 s σ H De I h
 refine bu (gu hp hc (l0 hi) (bN hN hxN hx hfn) hb' hs) fun De σ H ⟨ρ,M,Ew,hE,ht,hl⟩=>⟨ρ,M,_,hE.q,ht,fun d M1 ⟨ds,hds,h1⟩ v H1 p1=>?_⟩
 have hE1:=hE.next p1.toPostT
 have hsd:=jV hds
 obtain⟨q,xs,rfl,hq,hx',hA⟩:=fm p1.rep hsd.2 hsd.1
 have len:=hx'.length
 refine⟨q,rfl,⟨xs,(bc _ _).seq hq⟩,?_⟩
 refine qI (K:=X.K) (a:=q) (xs:=xs) (g:=cc t) (tb:=fun De σ H=>∃ P1,twS X.K P1 n tbd De σ H) (D:=De) (fun i σ' H'=>∃ ρ' M',EnvN X.K (PH H1 M1) n σ' ρ' H' M'/\db (fun x E ρ M=>tbd E (ρ.set t (some x)) M) (ds.drop i) Ew ρ' M')
  ⟨ρ,M1,⟨hE1.q,Same.refl _,hE1.lσ,hE1.lρ⟩,by simpa using h1⟩ ?_ ?_ ?_
 ·rintro i σ' H' _ ⟨ρ',M',hE',_⟩
  exact (bc _ _).seq (hE'.same.seq hq)
 ·rintro i y σ' H' hy ⟨ρ',M',hE',hf'⟩
  obtain⟨dy,h4,h5⟩:=hx'.getV hy
  have hi':i < ds.length:=(List.getElem?_eq_some_iff.mp h4).1
  have ed:ds.drop i=dy::ds.drop (i+1):=by
   rw[List.drop_eq_getElem_cons hi']
   have e2:ds[i]=dy:=(List.getElem?_eq_some_iff.mp h4).2
   rw[e2]
  rw[ed] at hf'
  exact⟨PH H1 M1,_,M',_,hE'.set (aH hE'.same h5),hf',ue hE1.same hl fun ρ M σ H hE h=>⟨ρ,M,hE,h⟩⟩
 ·rintro σ' H' ⟨ρ',M',hE',hf'⟩
  rw[len,List.drop_length] at hf'
  exact hl.nx _ _ hf' σ' H' ⟨hE'.q,hE1.same.trans hE'.same,hE'.lσ,hE'.lρ⟩
theorem uf{K:W.Frag}{P:Hp}{n m t:Nat}{lo:Int}{De:Ends}{Ew:EndN}{σ:St}{ρ:am}{H:Hp}{M:Sto}(hE:EnvN K P n σ ρ H M)(hl:LeE Ew (j6 K P n De))(h:db (fun x E ρ M=>tbd E (ρ.set t (some x)) M) ((List.range m).map fun k=>.int (lo+(k:Nat))) Ew ρ M):
  ∃ W:Nat->Nat->St->Hp->Prop,(∃ m,W 0 m σ H)/\∀ i m' σ H,W i m' σ H ->
    ((Itr lo m).stop i H/\De.nx σ H)\/((Itr lo m).go i H/\∃ N:St->Hp->Prop,(∀ σ' H',N σ' H'->∃ m'',m'' < m'/\W (i+1) m'' σ' H')/\∀ x H',(Itr lo m).yld i H x H'->cc t x σ H' fun σ2 H2=>twS K P n tbd { De with nx:=N,ct:=N,bk:=De.nx } σ2 H2):=by
 refine qJ (lo:=lo) (n:=m) (g:=cc t) (tb:=twS K P n tbd) (D:=De) (fun i σ' H'=>∃ ρ' M',EnvN K P n σ' ρ' H' M'/\db (fun x E ρ M=>tbd E (ρ.set t (some x)) M) (((List.range m).map fun k=>D.int (lo+(k:Nat))).drop i) Ew ρ' M') ⟨ρ,M,hE,by simpa using h⟩ ?_ ?_
 ·rintro i σ' H' hi ⟨ρ',M',hE',hf'⟩
  have ed:((List.range m).map fun k=>D.int (lo+(k:Nat))).drop i=.int (lo+i)::((List.range m).map fun k=>D.int (lo+(k:Nat))).drop (i+1):=by
   rw[List.drop_eq_getElem_cons (by simpa using hi)]
   simp
  rw[ed] at hf'
  exact⟨_,M',_,hE'.set (.int _),hf',ue (Same.refl _) hl fun ρ M σ H hE h=>⟨ρ,M,hE,h⟩⟩
 ·rintro σ' H' ⟨ρ',M',hE',hf'⟩
  rw[List.drop_eq_nil_of_le (by simp)] at hf'
  exact hl.nx _ _ hf' σ' H' hE'
theorem Fd(t:Nat)(hN:X.N.Nodup)(hc:X.calm=true)(mr:X.mg "range" = none)(hi:NA X [a] tas)(hb:NSs X body tbd)(hp:PassesOwn (model X.prog X.w) X.A X.env X.xe)(hg:Gl X "range")(hst:starEach [a] X.env=[(false,eval a X.env)])(hxN:X.N[t]?=some x)(hx:Loc X.env.scope x)(hfn:X.fn x=true\/X.env.scope.names.lookup x=some .local)(hs:∀ x,foldedSetIterable (.Call (.Name "range" pn) [a] [] pr) X.env x=pure x):NS X (.For (.Name x p2) (.Call (.Name "range" pn) [a] [] pr) body [] pos) (me t tas tbd):=fun P n =>
 bu (gu hp hc (la hg mr hi hst) (bN hN hxN hx hfn) (hb P n) hs) fun De σ H ⟨ρ,M,Ew,hE,ht,hl⟩=>⟨ρ,M,_,hE.q,ht,fun ds M1 ⟨j,e1,hj,h1⟩ vs H1 p1=>by
  subst e1
  obtain⟨v,rfl,r⟩:=e8 p1.rep
  cases r
  exact⟨j,rfl,hj.1,hj.2,uf (hE.next p1.toPostT) hl (by simpa using h1)⟩⟩
theorem Fe(t:Nat)(hN:X.N.Nodup)(hc:X.calm=true)(mr:X.mg "range" = none)(hi:NA X [a,b] tas)(hb:NSs X body tbd)(hp:PassesOwn (model X.prog X.w) X.A X.env X.xe)(hg:Gl X "range")(hst:starEach [a,b] X.env=[(false,eval a X.env),(false,eval b X.env)])(hst2:starEach [b] X.env=[(false,eval b X.env)])(hxN:X.N[t]?=some x)(hx:Loc X.env.scope x)(hfn:X.fn x=true\/X.env.scope.names.lookup x=some .local)(hs:∀ x,foldedSetIterable (.Call (.Name "range" pn) [a,b] [] pr) X.env x=pure x):NS X (.For (.Name x p2) (.Call (.Name "range" pn) [a,b] [] pr) body [] pos) (mf t tas tbd):=fun P n =>
 bu (gu hp hc (xZ hg mr hi hst hst2) (bN hN hxN hx hfn) (hb P n) hs) fun De σ H ⟨ρ,M,Ew,hE,ht,hl⟩=>⟨ρ,M,_,hE.q,ht,fun ds M1 ⟨i,j,e1,hi',hj,h1⟩ vs H1 p1=>by
  subst e1
  obtain⟨v,w,rfl,r1,r2⟩:=nJ p1.rep
  cases r1
  cases r2
  exact⟨i,j,rfl,⟨hi'.1,hi'.2,hj.1,hj.2⟩,uf (hE.next p1.toPostT) hl h1⟩⟩
end
theorem Ff{P:Program}{w:World}{K:W.Frag}{mg:Str->Option Value}{base:Heap}{x qual:Str}{st:Stmt}{f:Addr}{fd:FuncData}{N ps:List Str}{k np n:Nat}{body:NTS}{T:NTF}(h1:ps.length=np)(h2:N.length=n)(h3:T=mkN np n body)(Fn:Fun K x qual st f fd)(S:FnScope N ps (ao st))(h:∀ (cdv:Value) (A:Around) (outer:List PySem.Env) (s:Shared) (H:Hp) (E:XK),Room k (A.deeper (envOfC qual (ao st) s.heap.objs.size f cdv)) ->
   NSs (cG CX0 P w K mg base N qual (ao st) f cdv A outer s H E).nox (aG st) body):
  FnOk P w K mg base CX0 (k+1) f fd ps (spN K T):=by
 subst h1 h2 h3
 have hpl:ps.length<=N.length:=by have:=congrArg List.length S.pre;rw[List.length_take] at this;omega
 refine Fn.ok S (fun vs H Q E h=>?_) (fun cdv A outer s H vs Q E hr h'=>?_)
 ·obtain⟨ds,M,QW,r,_,hg,_⟩:=h
  rw[r.length,hg.1]
 ·obtain⟨ds,M,QW,r,hok,⟨hl,ht⟩,hQ⟩:=h'
  have lv:=r.length
  refine⟨_,h cdv A outer s H E hr (PH H M) N.length,ds.map some++List.replicate (N.length - ps.length) none,M,_,⟨⟨fun i d q=>?_,hok⟩,Same.refl _,?_,?_⟩,ht,fun ρ M' hn σ' H' hE=>?_,fun ρ M' hn=>hn.elim,fun ρ M' hn=>hn.elim,fun d M' hd v H' e1 e2 e3=>?_⟩
  ·have get:ds[i]?=some d:=by
    by_cases hi:i < ds.length
    ·rw[List.getElem?_append_left (by simpa using hi),List.getElem?_map] at q
     cases e:ds[i]? with
     | none=>rw[e] at q;cases q
     | some z=>rw[e] at q;simpa using q
    ·rw[List.getElem?_append_right (by simpa using hi),List.getElem?_replicate] at q
     split at q <;> cases q
   obtain⟨v,h2,h3⟩:=r.get get
   refine⟨v,?_,h3⟩
   unfold L2.start
   have hi:i < vs.length:=(List.getElem?_eq_some_iff.mp h2).1
   rw[List.getElem?_append_left (by simpa using hi),List.getElem?_map,h2]
   rfl
  ·show (L2.start N vs).length=N.length
   unfold L2.start
   rw[List.length_append,List.length_map,List.length_replicate]
   omega
  ·rw[List.length_append,List.length_map,List.length_replicate]
   omega
  ·exact hQ _ M' hn _ H' ⟨⟨hE.same,hE.q.ok⟩,.non⟩
  ·exact hQ d M' hd v H' ⟨⟨e1,e2⟩,e3⟩
theorem Fg{K:W.Frag}{T:NTF}{H:Hp}{a:Addr}{ns:List Int}{E:XK}(hS:SqL K H a (ns.map V.int))(h:T [.scr ns] (fun _=>none) fun d _=>d=.bl true):spN K T [.ref a] H (fun v _=>v=.bl true) E:=by
 have e:Same H (PH H fun _=>none):=rV (fun _ _ q=>q) fun b hb=>absurd rfl hb.1
 have ok:MOk K H (fun _=>none):=fun a c hc=>by cases hc
 refine⟨[.scr ns],fun _=>none,_,.cons (.scr (e.seq hS)) .nil,ok,h,fun d M' hd v H' p=>?_⟩
 subst hd
 cases p.rep
 rfl
def PPV(X:Cx)(pos:Pos)(keys:List (Option Expr))(vals:List Expr)(ns:List Str)(as:FEs)(es:List Es):Prop :=
 ∃ trs,PPs X pos keys vals trs/\keys.length=ns.length/\∀ σ H Q,(∃ ρ ds,EnvR X.K H σ ρ/\as ρ=some ds/\∀ vs H',Posts X.K σ ρ H es ds vs H'->Q ((ns.zip vs).map fun p=>(V.str p.1,p.2)) H')->lr trs σ H Q
section
variable {X:Cx}{a:Expr}{pos p2:Pos}{keys:List (Option Expr)}{vals:List Expr}{ns:List Str}{as:FEs}{ea eb:List Es}{fa:FE}{x:Str}
theorem Fh:PPV X pos [] [] [] aq []:=⟨[],zw,rfl,fun σ H Q ⟨ρ,ds,hE,hf,hQ⟩=>by cases hf;exact hQ [] H ⟨Same.refl H,.nil,fun _ _ _=>.nil⟩⟩
theorem Fi{j}(ha:VE X a fa ea)(hr:PPV X pos keys vals ns as eb):PPV X pos (some (.Constant (.str x) j p2)::keys) (a::vals) (x::ns) (ag fa as) (ea++eb):=by
 obtain⟨trs,h1,hl,h2⟩:=hr
 refine⟨_,zx iF ha h1,by simp[hl],fun σ H Q ⟨ρ,ds,hE,hf,hQ⟩=>?_⟩
 obtain⟨d,h3,hf⟩:=bind_some hf
 obtain⟨dr,h4,hf⟩:=bind_some hf
 cases hf
 refine⟨ρ,d,hE,h3,fun v H1 p1=>h2 σ H1 _ ⟨ρ,dr,hE.mono p1.same,h4,fun vs H2 p2=>hQ (v::vs) H2 ⟨p1.same.trans p2.same,.cons (aH p2.same p1.rep) p2.rep,fun A hA hz=>?_⟩⟩⟩
 exact .cons (aH (bY p2.same) (p1.av A hA fun z q=>hz z (List.mem_append_left _ q))) (p2.av A (hA.mono p1.same) fun z q=>(hz z (List.mem_append_right _ q)).mono p1.same)
theorem ug:∀ {ns:List Str} {vs:List V} {acc:List (Key × V)},vs.length=ns.length->ns.Nodup->(∀ x ∈ ns,bX acc (.inr x)=none)->fg acc (aT ns vs)=acc++aT ns vs
 | [],_,acc,_,_,_=>by simp[aT,fg]
 | _::_,[],_,h,_,_=>by simp at h
 | n :: ns,v::vs,acc,hl,hn,ha=>by
   have e:aT (n::ns) (v::vs)=(Sum.inr n,v)::aT ns vs:=rfl
   rw[e]
   show fg (ci acc (.inr n) v) (aT ns vs)=_
   rw[rL v (ha n List.mem_cons_self),ug (by simpa using hl) (List.nodup_cons.mp hn).2 fun x hx=>?_,List.append_assoc]
   ·rfl
   ·have ne:n ≠ x:=fun q=>(List.nodup_cons.mp hn).1 (q ▸ hx)
    have h0:=ha x (List.mem_cons_of_mem _ hx)
    unfold bX at h0 ⊢
    rw[List.find?_append]
    cases hf:List.find? (fun kv=>decide (kv.1=(Sum.inr x:Key))) acc with
    | some z=>rw[hf] at h0;cases h0
    | none=>simp[ne]
theorem Fj(h:PPV X pos keys vals ns as ea)(hn:ns.Nodup)(hall:keys.all (·.isSome)=true)(hl:keys.length=vals.length)(h0:keys ≠ [])(h15:keys.length<=15):NE X (.Dict keys vals pos) (kg ns as):=by
 obtain⟨trs,h1,hk,h2⟩:=h
 refine aM (zz h1 hall hl h0 h15) fun σ H Q ⟨ρ,M,QW,hE,⟨ds,hf,hlen,hq⟩,hQ⟩ p hp=>h2 σ _ _ ⟨ρ,ds,hE.envR.mono (bG hp _),hf,fun vs H2 p2=>?_⟩
 have lv:=p2.rep.length
 have hpp:=p2.same _ _ br
 refine⟨hpp,aT ns vs,by simp[aT,kV,Function.comp_def],by simp[aT];omega,?_⟩
 have em:fg [] (aT ns vs)=aT ns vs:=by rw[ug (by omega) hn fun x hx=>zl];rfl
 rw[em]
 have s0:Same H (upd H2 p (.dK (aT ns vs))):=fun b u q=>by
  rw[aF (bM q hp)]
  exact p2.same _ _ (bG hp _ _ _ q)
 have hd:Dom (upd H p (.dK [])) (fun b=>inM M b\/b=p):=fun b hb=>by
  rcases hb with hb | rfl
  ·exact fun z=>hE.ok.dom b hb ((bG hp _).free z)
  ·rw[br];exact fun z=>nomatch z
 have hav:∀ e ∈ ea,Av X.K (upd H p (.dK [])) σ ρ (fun b=>inM M b\/b=p) e:=fun e _=>by
  have up:Same (PH H M) (ay (upd H p (.dK [])) fun b=>inM M b\/b=p):=EL hp
  have full:∀ (j:Nat) (v:V) (d:D),σ[j]?=some (some v)->ρ[j]?=some (some d)->Rep X.K (ay (upd H p (.dK [])) fun b=>inM M b\/b=p) v d:=fun j v d h1 h2=>by
   obtain⟨v',h3,h4⟩:=hE.env j d h2
   rw[h1] at h3;cases h3
   exact aH up h4
  cases e with
  | full j=>exact full j
  | el j=>exact fun v d h1 h2=>(full j v d h1 h2).el
 have rr:=p2.av _ hd hav
 have up2:Same (ay H2 fun b=>inM M b\/b=p) (ay (upd H2 p (.dK (aT ns vs))) fun b=>inM M b\/b=p):=fun b u q=>by
  obtain⟨n,q⟩:=dJ q
  rw[bC n,aF fun z=>n (.inr z)]
  exact q
 obtain⟨e1,e2⟩:=km (c:=.dic ns ds) hE.ok hp s0 br ⟨vs,rfl,by omega,aU up2 rr⟩
 exact hQ _ _ (hq p (hE.ok.fresh hp)) _ _ ⟨⟨e1,e2⟩,.ptr p⟩
end
end VL
namespace VL
open PySem PySem.Spec PyProof.Rows L2
section
variable {X:Cx}{elt tg iter a:Expr}{ifs:List Expr}{scope:Scope}{own cn:List Str}{J7:List Nat}{wi:TI}{g:TG}{tt:TT}{te:TE}{pos spos p2 pr pn:Pos}{tas:NTA}{tel:NTE}{x y:Str}
theorem Fk(B:BlkOk X scope own J7 cn)(hc:X.calm=true)(hi:PI X tg iter wi)(hg:∀ s H cl ex,PG (blk X (own++cn) s H scope cl ex) tg g)(ht:∀ s H cl ex,PTs (blk X (own++cn) s H scope cl ex) ifs tt)(he:∀ s H cl ex,PE (blk X (own++cn) s H scope cl ex) elt te)(hs:∀ x,foldedSetIterable iter X.env x=pure x:=by intro _;rfl):
  PE X (.ListComp elt [⟨tg,iter,ifs,0⟩] scope pos) (iU own.length J7 wi g tt te):=by
 intro J0 s σ H Q I h
 obtain⟨cl,hclos,hcl,hha⟩:=nQ (scope:=scope) (env:=X.env) fun x hx hf=>I.ok.has x.1 (B.free x hx hf)
 rw[eval_ListComp]
 refine wpAny_comprehension_free (use:=none) rfl hs hclos B.kind B.locals (nT B hc hi hg ht he I h hcl hha (RR:=fun acc C=>compPost (model X.prog X.w) X.A X.xe none (EP X J0 σ Q) acc C) fun d c ys H' s' af q=>?_)
 obtain⟨m,hm⟩:=af.ns
 obtain⟨f0,f1,_,f3,f4,f5⟩:=af.cf
 refine⟨m,hm,fun h' sb=>⟨.ref d,_,af.inv.turned (t':=s'.toks) (it:=c) (fun b o hb e=>(sb.2 b hb).trans e) f0 f1 f3 f4 f5,rfl,q⟩⟩
theorem Fo(i:Nat)(hN:X.N.Nodup)(B:BlkOk X scope own J7 cn)(hc:X.calm=true)(hi:PI X tg iter wi)(hg:∀ s H cl ex,PG (blk X (own++cn) s H scope cl ex) tg g)(ht:∀ s H cl ex,PTs (blk X (own++cn) s H scope cl ex) ifs tt)(he:∀ s H cl ex,PE (blk X (own++cn) s H scope cl ex) elt te)(hsw:swapsWith (.ListComp elt [⟨tg,iter,ifs,0⟩] scope pos) (some (.Name x p2)) spos.line X.env=pure true)(hxi:X.N[i]?=some x)(hx:Loc X.env.scope x)(hfn:X.fn x=true\/X.env.scope.names.lookup x=some .local)(hs:∀ x,foldedSetIterable iter X.env x=pure x:=by intro _;rfl):
  PS X (.Assign [.Name x p2] (.ListComp elt [⟨tg,iter,ifs,0⟩] scope pos) spos) (nc (iU own.length J7 wi g tt te) (cc i)):=by
 intro J0 s σ H De I h
 obtain⟨cl,hclos,hcl,hha⟩:=nQ (scope:=scope) (env:=X.env) fun x hx hf=>I.ok.has x.1 (B.free x hx hf)
 rw[exec_Assign_Name_used _ _ _ _ hsw]
 refine wpAny_bind (wpAny_standAt (wpAny_bind ?_))
 show wpAny _ X.A (do let _ <- comprehension (.ListComp elt [⟨tg,iter,ifs,0⟩] scope pos) scope X.env _ (newList []) false (eval iter X.env) (some (assign (.Name x p2) X.env))) _ _ s
 refine wpAny_bind (wpAny_mono (wpAny_comprehension_free (use:=some (assign (.Name x p2) X.env)) (Q:=fun _ s'=>SP X J0 De .next s') rfl hs hclos B.kind B.locals
  (nT B hc hi hg ht he I h hcl hha (RR:=fun acc C=>compPost (model X.prog X.w) X.A X.xe (some (assign (.Name x p2) X.env)) (fun _ s'=>SP X J0 De .next s') acc C) fun d c ys H' s' af q=>?_)) (fun _ s' hq=>wpAny_pure (wpAny_pure hq)) fun _ _ e=>e)
 obtain⟨m,hm⟩:=af.ns
 obtain⟨f0,f1,_,f3,f4,f5⟩:=af.cf
 show wpAny _ X.A (assign (.Name x p2) X.env (.ref d)) _ _ _
 refine wpAny_assign_Name (qm af.inv hN hxi hx (show RelV (.ref d) (.ref d) from rfl) (fun s2 I2 ⟨a,sb,ha⟩=>?_) hfn)
 have ac:c ≠ a:=by
  rcases ha with z | z
  ·exact fun e=>f1 (e.trans z)
  ·exact fun e=>f4 x a z e.symm
 refine⟨m,hm.sameBut sb ac,fun h' sb'=>⟨_,_,I2.turned (t':=s2.toks) (it:=c) (fun b o hb e=>(sb'.2 b hb).trans e) f0 f1 f3 f4 f5,q⟩⟩
theorem uh{K:W.Frag}{P:Hp}{σ σb:St}{ρ:am}{J7:List Nat}{v:V}{d:D}(hE:EnvR K P σ ρ)(hlen:σb.length=1+J7.length)(hcap:∀ k,1<=k->σb[k]?=(cR σ J7)[k - 1]?)(r:Rep K P v d):
  EnvR K P (σb.set 0 (some v)) ((bn 1 J7 ρ).set 0 (some d)):=fun j d' q=>by
 cases j with
 | zero =>
   rw[List.getElem?_set_self (by simp[bn])] at q
   cases q
   exact⟨v,List.getElem?_set_self (by omega),r⟩
 | succ j =>
   rw[List.getElem?_set_ne (by omega)] at q
   unfold bn at q
   rw[List.getElem?_append_right (by simp)] at q
   simp only[List.length_replicate,Nat.add_sub_cancel,List.getElem?_map] at q
   cases hk:J7[j]? with
   | none=>rw[hk] at q;cases q
   | some k =>
     rw[hk] at q
     simp only[Option.map_some,Option.some.injEq] at q
     cases e:ρ[k]? with
     | none=>rw[e] at q;cases q
     | some o' =>
       rw[e] at q
       simp only[Option.getD_some] at q
       subst q
       obtain⟨w,h1,h2⟩:=hE k d' e
       refine⟨w,?_,h2⟩
       rw[List.getElem?_set_ne (by omega),hcap (j+1) (by omega)]
       simp[cR,hk,h1]
theorem Fp{K:W.Frag}{J7:List Nat}{σ:St}{H:Hp}{Q:VK}(h:tw K (j2 J7 tas tel) σ H Q):iU 1 J7 (qH (twA K tas)) (cc 0) (fun _ H Q=>Q true H) (tw K tel) σ H Q:=by
 obtain⟨ρ,M,QW,hE,ht,hQ⟩:=h
 refine⟨ρ,M,_,hE,ht,fun ds M1 ⟨j,e1,hj,hj2,h1⟩ vs H1 p1=>?_⟩
 subst e1
 obtain⟨v,rfl,r⟩:=e8 p1.rep
 cases r
 refine⟨j,rfl,hj.1,hj.2,?_⟩
 have hE1:=hE.next p1.toPostT
 let L:List D:=(List.range j.toNat).map fun k=>.int (k:Nat)
 have lL:L.length=j.toNat:=by simp[L]
 refine⟨fun i m ys σb H2=>m=j.toNat - i/\i<=j.toNat/\(σb.length=1+J7.length/\∀ k,1<=k->σb[k]?=(cR σ J7)[k - 1]?) /\
  ∃ M2 done,PostT K H1 M1 H2 M2/\Reps K (PH H2 M2) ys done/\done.length=i/\dA 1 tel (bn 1 J7 ρ) (L.drop i) done M2 fun ds M2=>QW (.lst ds) M2,?_,?_⟩
 ·refine⟨j.toNat,by simp,Nat.zero_le _,⟨by simp[cR];omega,fun k hk=>?_⟩,M1,[],PostT.refl p1.ok,.nil,rfl,by simpa using h1⟩
  rw[List.getElem?_append_right (by simpa using hk)]
  simp
 ·rintro i m ys σb H2 ⟨rfl,hi,⟨hlen,hcap⟩,M2,done,pt,hr,hdl,hgo⟩
  have lys:=hr.length
  refine⟨by rw[sizeLine_eq];omega,?_⟩
  by_cases hlt:i < j.toNat
  ·have ed:L.drop i=.int (i:Nat)::L.drop (i+1):=by
    rw[List.drop_eq_getElem_cons (by omega)]
    simp[L]
   rw[ed] at hgo
   refine .inr ⟨hlt,fun x H3 hy=>?_⟩
   obtain⟨e3,e4⟩:=hy
   subst e3 e4
   rw[Int.zero_add]
   unfold cc
   dsimp only
   rw[if_pos rfl]
   refine⟨_,M2,_,⟨uh (hE1.env.mono pt.same) hlen hcap (.int _),pt.ok⟩,hgo,fun d M3 h3 w H4 p4=>?_⟩
   refine⟨j.toNat - (i+1),by omega,rfl,hlt,⟨by rw[List.length_set];exact hlen,fun k hk=>by rw[List.getElem?_set_ne (by omega)];exact hcap k hk⟩,M3,done++[d],pt.trans p4.toPostT,(aU p4.same hr).append (.cons p4.rep .nil),by simp[hdl],h3⟩
  ·have e:i=j.toNat:=by omega
   subst e
   rw[List.drop_eq_nil_of_le (by omega)] at hgo
   refine .inl ⟨Nat.le_refl _,fun l hl=>?_⟩
   have hn:=pt.ok.fresh hl
   refine hQ _ M2 hgo _ _ ⟨(p1.toPostT.trans pt).trans (PostT.of pt.ok (bG hl _)),.lst (.inl ?_) (aU (PH.up (bG hl _)) hr)⟩
   rw[PH.of hn];exact br
theorem Fq(B:BlkOk X scope [y] J7 cn)(hc:X.calm=true)(mr:X.mg "range" = none)(hi:NA X [a] tas)(hg:∀ s H cl ex,PG (blk X ([y]++cn) s H scope cl ex) tg (cc 0))(he:∀ s H cl ex,NE (blk X ([y]++cn) s H scope cl ex) elt tel)(hgr:Gl X "range")(hst:starEach [a] X.env=[(false,eval a X.env)])(hs:∀ x,foldedSetIterable (.Call (.Name "range" pn) [a] [] pr) X.env x=pure x):
  NE X (.ListComp elt [⟨tg,.Call (.Name "range" pn) [a] [] pr,[],0⟩] scope pos) (j2 J7 tas tel) :=
 aM (Fk B hc (la hgr mr hi hst) hg (fun _ _ _ _=>nS) he hs) fun _ _ _ h=>Fp h
end
section
variable {X:Cx}{a b:Expr}{tas:NTA}{pos p:Pos}
theorem ui{g:D->Option D}(h:∀ x d,g x=some d->bg d=true)(ds:List D)(d:D)(e:aI g ds=some d):bg d=true:=by
 obtain⟨x,_,h2⟩:=iP e
 exact h x d h2
theorem Fs{g:D->D->Option D}(h:∀ x y d,g x y=some d->bg d=true)(ds:List D)(d:D)(e:cP g ds=some d):bg d=true:=by
 obtain⟨x,y,_,h2⟩:=nK e
 exact h x y d h2
theorem Ft(ml:X.mg "len" = none)(ha:NA X [a] tas)(hg:Gl X "len")(he:starEach [a] X.env=(false,eval a X.env)::starEach [] X.env)(hpl:(backTo pos (starEach [] X.env)).any (·.1)=false):
  NE X (.Call (.Name "len" p) [a] [] pos) (da (aI bi) tas):=oC rE sh ml PySem.boot_len ha (ui fun x d h=>by obtain⟨_,_,h⟩:=bind_some h;cases h;rfl) hg (by decide) (by decide) he hpl
theorem Fu(hc:X.calm=true)(ml:X.mg "sum" = none)(ha:NA X [a] tas)(hg:Gl X "sum")(he:starEach [a] X.env=(false,eval a X.env)::starEach [] X.env)(hpl:(backTo pos (starEach [] X.env)).any (·.1)=false):
  NE X (.Call (.Name "sum" p) [a] [] pos) (da (aI dL) tas):=oC (sm hc) so ml PyProof.Rows.boot_sum ha (ui fun x d h=>by
   unfold dL at h
   split at h
   ·cases h
   ·obtain⟨_,_,h⟩:=bind_some h
    obtain⟨_,_,h⟩:=bind_some h
    cases h;rfl) hg (by decide) (by decide) he hpl
theorem Fv(x y d:D)(h:dU x y=some d):bg d=true:=by
 unfold dU at h
 split at h <;> cases h
 rfl
theorem Fw(hc:X.calm=true)(ml:X.mg "max" = none)(ha:NA X [a,b] tas)(hg:Gl X "max")(he:starEach [a,b] X.env=(false,eval a X.env)::starEach [b] X.env)(hpl:(backTo pos (starEach [b] X.env)).any (·.1)=false):
  NE X (.Call (.Name "max" p) [a,b] [] pos) (da (cP dU) tas):=oC (qW hc) sr ml PyProof.Rows.boot_max ha (Fs Fv) hg (by decide) (by decide) he hpl
end
end VL
namespace VL
open PySem PySem.Spec PyProof.Rows L2
section
variable {J7:List Nat}{tit tel:NTE}{x:Str}
theorem Fx{K:W.Frag}{σ:St}{H:Hp}{Q:VK}{fin:List D->Sto->QE->Prop}(hfin:∀ {ds:List D} {M2:Sto} {QW:QE} {H2:Hp} {ys:List V} {l:Addr} {H0:Hp} {M0:Sto},fin ds M2 QW->PostT K H0 M0 H2 M2->Reps K (PH H2 M2) ys ds->H2 l=none->∃ d M3,QW d M3/\PostW K H0 M0 d (.ref l) (upd H2 l (.lst ys)) M3)(h:tw K (fun ρ M Q=>tit ρ M fun d M1=>∃ ds,ck d=some ds/\ds.length<=1000/\dA 1 tel (bn 1 J7 ρ) ds [] M1 fun ds M2=>fin ds M2 Q) σ H Q):iU 1 J7 (qF K (tw K tit)) (cc 0) (fun _ H Q=>Q true H) (tw K tel) σ H Q:=by
 obtain⟨ρ,M,QW,hE,ht,hQ⟩:=h
 refine⟨ρ,M,_,hE,ht,fun d M1 ⟨L,hds,hll,h1⟩ v H1 p1=>?_⟩
 have hsd:=jV hds
 obtain⟨q,xs,rfl,hq,hx',hA⟩:=fm p1.rep hsd.2 hsd.1
 have len:=hx'.length
 refine⟨q,rfl,⟨xs,(bc _ _).seq hq⟩,?_⟩
 have hE1:=hE.next p1.toPostT
 refine⟨fun i m ys σb H2=>m=xs.length - i/\i<=xs.length/\(σb.length=1+J7.length/\∀ k,1<=k->σb[k]?=(cR σ J7)[k - 1]?) /\
  ∃ M2 done,PostT K H1 M1 H2 M2/\Reps K (PH H2 M2) ys done/\done.length=i/\dA 1 tel (bn 1 J7 ρ) (L.drop i) done M2 fun ds M2=>fin ds M2 QW,?_,?_⟩
 ·refine⟨xs.length,by simp,Nat.zero_le _,⟨by simp[cR];omega,fun k hk=>?_⟩,M1,[],PostT.refl p1.ok,.nil,rfl,by simpa using h1⟩
  rw[List.getElem?_append_right (by simpa using hk)]
  simp
 ·rintro i m ys σb H2 ⟨rfl,hi,⟨hlen,hcap⟩,M2,done,pt,hr,hdl,hgo⟩
  have lys:=hr.length
  have sq:SqL K H2 q xs:=(bc _ _).seq (pt.same.seq hq)
  refine⟨by rw[sizeLine_eq];omega,?_⟩
  by_cases hlt:i < xs.length
  ·obtain⟨dy,h4,h5⟩:=hx'.getV (List.getElem?_eq_getElem hlt)
   have ed:L.drop i=dy::L.drop (i+1):=by
    rw[List.drop_eq_getElem_cons (by omega)]
    have e2:L[i]'(by omega)=dy:=(List.getElem?_eq_some_iff.mp h4).2
    rw[e2]
   rw[ed] at hgo
   refine .inr ⟨⟨xs,xs[i],sq,List.getElem?_eq_getElem hlt⟩,fun x H3 hy=>?_⟩
   obtain⟨e4,e5⟩:=hy
   subst e4
   have e6:=e5 xs sq
   rw[List.getElem?_eq_getElem hlt] at e6
   cases e6
   unfold cc
   dsimp only
   rw[if_pos rfl]
   refine⟨_,M2,_,⟨uh (hE1.env.mono pt.same) hlen hcap (aH pt.same h5),pt.ok⟩,hgo,fun d M3 h3 w H4 p4=>?_⟩
   refine⟨xs.length - (i+1),by omega,rfl,hlt,⟨by rw[List.length_set];exact hlen,fun k hk=>by rw[List.getElem?_set_ne (by omega)];exact hcap k hk⟩,M3,done++[d],pt.trans p4.toPostT,(aU p4.same hr).append (.cons p4.rep .nil),by simp[hdl],h3⟩
  ·have e:i=xs.length:=by omega
   subst e
   rw[List.drop_eq_nil_of_le (by omega)] at hgo
   refine .inl ⟨⟨xs,sq,Nat.le_refl _⟩,fun l hl=>?_⟩
   obtain⟨d,M3,g1,g2⟩:=hfin hgo (p1.toPostT.trans pt) hr hl
   exact hQ d M3 g1 _ _ g2
theorem Fy{K:W.Frag}{ds:List D}{M2:Sto}{QW:QE}{H2:Hp}{ys:List V}{l:Addr}{H0:Hp}{M0:Sto}(hgo:QW (.lst ds) M2)(pt:PostT K H0 M0 H2 M2)(hr:Reps K (PH H2 M2) ys ds)(hl:H2 l=none):∃ d M3,QW d M3/\PostW K H0 M0 d (.ref l) (upd H2 l (.lst ys)) M3:=by
 have hn:=pt.ok.fresh hl
 refine⟨_,M2,hgo,pt.trans (PostT.of pt.ok (bG hl _)),.lst (.inl ?_) (aU (PH.up (bG hl _)) hr)⟩
 rw[PH.of hn];exact br
end
section
variable {X:Cx}{a e:Expr}{az:List Stmt}{t:NTS}{i:Nat}
theorem Fz{σ:St}{i:Nat}{v:V}(h:σ[i]?=some (some v)):σ.set i (some v)=σ:=by
 apply List.ext_getElem?
 intro j
 by_cases e:i=j
 ·subst e;rw[List.getElem?_set_self (List.getElem?_eq_some_iff.mp h).1,h]
 ·rw[List.getElem?_set_ne e]
theorem FA(i:Nat)(h:NSs X az t):NSs X az (au (nFz i) t):=fun P n=>ef (h P n) fun De σ H ⟨ρ,M,Ew,hE,⟨q,ds,h1,h2,h3⟩,hl⟩=>by
 obtain⟨v,hv,r⟩:=hE.q.env i _ (iI h1)
 cases r
 obtain⟨e1,e2⟩:=tY (a:=q) hE.q.ok
 obtain⟨xs,g1,g2⟩:=j5 hE.q.ok h2
 have hE2:=(hE.next ⟨e1,e2⟩).set (i:=i) (v:=.ref q) (d:=.lst ds) (.lst (.inl (by rw[PH.of m7];exact g1)) (aU e1 g2))
 rw[Fz hv] at hE2
 exact⟨_,_,Ew,hE2,h3,hl⟩
end
section
variable {X:Cx}{tit tel:NTE}{pos p2 spos:Pos}{x y:Str}{i:Nat}{scope:Scope}{cn:List Str}{J7:List Nat}{elt tg iter:Expr}
theorem FB(i:Nat)(hN:X.N.Nodup)(B:BlkOk X scope [y] J7 cn)(hc:X.calm=true)(hi:NE X iter tit)(hg:∀ s H cl ex,PG (blk X ([y]++cn) s H scope cl ex) tg (cc 0))(he:∀ s H cl ex,NE (blk X ([y]++cn) s H scope cl ex) elt tel)(hsw:swapsWith (.ListComp elt [⟨tg,iter,[],0⟩] scope pos) (some (.Name x p2)) spos.line X.env=pure true)(hxi:X.N[i]?=some x)(hx:Loc X.env.scope x)(hfn:X.fn x=true\/X.env.scope.names.lookup x=some .local)(hs:∀ x,foldedSetIterable iter X.env x=pure x):
  NS X (.Assign [.Name x p2] (.ListComp elt [⟨tg,iter,[],0⟩] scope pos) spos) (aL i (mh J7 tit tel)):=fun P n =>
 bu (Fo i hN B hc (l0 hi) hg (fun _ _ _ _=>nS) he hsw hxi hx hfn hs) fun De σ H ⟨ρ,M,Ew,hE,ht,hl⟩=>Fx (fin:=fun ds M2 Q=>Q (.lst ds) M2) Fy ⟨ρ,M,fun d M1=>Ew.nx (ρ.set i (some d)) M1,hE.q,ht,fun d M1 h1 v H1 p1=>hl.nx _ M1 h1 _ H1 ((hE.next p1.toPostT).set p1.rep)⟩
end
end VL
namespace VL
open PySem PySem.Spec PyProof.Rows L2
def RawD(h:Heap)(d:Addr)(es:Array DictEntry)(ep:Nat):Prop:=∃ o,h.get? d=some o/\o.ExactDict/\o.data=.dict es ep
section
variable {s:Shared}{d:Addr}{es:Array DictEntry}{ep:Nat}
theorem RawD.ty(h:RawD s.heap d es ep):s.TypeIs (.ref d) "dict":=let ⟨o,h1,h2,_⟩:=h;⟨o,h1,h2.1⟩
end
end VL
namespace VL
open PySem PySem.Spec PyProof.Rows L2
abbrev dC(x C:Addr):HO:=.ext (tX x C)
theorem jt{P:Program}{w:World}{H:Hp}{h:Heap}{a:Addr}{o:HO}(x:L2.ObjOk P w H h a o):∃ ob,h.get? a=some ob:=by
 cases o with
 | lst xs=>obtain⟨_,_,_,_,e⟩:=x;exact⟨_,e⟩
 | tup xs=>obtain⟨_,_,_,o,e,_⟩:=x;exact⟨_,e⟩
 | dK kvs=>obtain⟨_,_,_,_,o,_,_,e,_⟩:=x;exact⟨_,e⟩
 | dT kvs=>obtain⟨_,_,_,_,o,_,_,e,_⟩:=x;exact⟨_,e⟩
 | set S n=>obtain⟨o,_,_,_,e,_⟩:=x;exact⟨_,e⟩
 | ins C dx fs=>obtain⟨_,_,_,e,_⟩:=x;exact⟨_,e⟩
 | own y=>exact x
 | xd fs=>obtain⟨_,⟨_,_,_,e,_⟩,_⟩:=x;exact⟨_,e⟩
 | rng lo hi=>obtain⟨_,_,_,e⟩:=x;exact⟨_,e⟩
 | frz ob u=>exact⟨_,x.1⟩
 | tbl ps=>exact⟨_,x⟩
 | met f y=>exact⟨_,x⟩
 | ext φ=>exact x.2.1
theorem oE{P:Program}{w:World}{H:Hp}{h:Heap}{x C:Addr}(e:∃ o,h.get? x=some o/\o.cls=.ref C):L2.ObjOk P w H h x (dC x C) :=
 ⟨e,let ⟨o,h1,_⟩:=e;⟨o,h1⟩,fun h1 h2 ⟨o,a,b⟩ k=>⟨o,k o a,b⟩⟩
def CXN(P:Program)(w:World):CXT:=fun outer H s E e s'=>∃ (x C:Addr) (H':Hp) (B:Heap) (a0:Value),e=.ref x/\s'.os=s.os/\AllBare s'.gens/\Un (frs outer) [] H H' s.heap s'.heap/\HOk P w H' s'.heap /\
 Heap.FlyingW B outer x (.ref C) a0 s'.heap/\(∀ b u,H' b=some u->b ≠ x->B.get? b ≠ none)/\(∀ b o,s.heap.get? b=some o->b ∉ frs outer->B.get? b ≠ none)/\H' x=some (dC x C)/\E (.ref x) (some C) H'
section
variable {X:Cx}{J0:List (Addr × Obj)}{σ:St}{H:Hp}{s:Shared}{x C:Addr}
theorem FC{vs:List Value}{h':Heap}(I:L2.Inv X J0 σ H s)(m:Heap.MadeExcOf s.heap h' x (.ref C) vs):L2.Inv X J0 σ (upd H x (dC x C)) { s with heap:=h' }:=by
 have hn:H x=none:=by
  cases e:H x with
  | none=>rfl
  | some u=>obtain⟨o,q⟩:=jt (I.hok x u e);rw[m.new] at q;cases q
 obtain⟨t,k1,_,_⟩:=m.there
 refine I.un (t':=s.toks) ⟨fun b u q _ _ _=>m.keeps b u q,fun b u q _ _ _=>⟨u.slots,m.keeps b u q⟩,fun b u q n _=>?_,fun b u q _=>⟨u,m.keeps b u q⟩,fun b xs q=>?_,fun b u xs q=>?_,fun b ps q=>⟨#[],?_⟩⟩ fun b u e=>?_
 ·rw[aF fun z=>by rw[z,m.new] at q;cases q];exact n
 ·rw[aF (bM q hn)];exact q
 ·rw[aF (bM q hn)];exact q
 ·rw[aF (bM q hn),q];simp
 ·by_cases hb:b=x
  ·subst hb
   rw[br] at e;cases e
   exact oE ⟨_,k1,rfl⟩
  ·rw[aF hb] at e
   exact (I.hok b u e).stay (fun c v _ q=>m.keeps c v q) (fun c q=>by rw[aF (bM q hn)];exact q) fun c xs q=>by rw[aF (bM q hn)];exact q
theorem uj{B h':Heap}{a0:Value}{E:XK}(I:L2.Inv X J0 σ H s)(hx:H x=some (dC x C))(hfl:Heap.FlyingW B X.outer x (.ref C) a0 h')(hup:s.heap.UpToSlots h')(hst:B.StaysIn s.heap)(c1:∀ b u,H b=some u->b ≠ x->B.get? b ≠ none)(c2:∀ b o,X.s₀.heap.get? b=some o->b ∉ frs X.outer->B.get? b ≠ none)(hex:X.ex=[])(hE:E (.ref x) (some C) H):CXN X.prog X.w X.outer X.H₀ X.s₀ E (.ref x) { s with heap:=h' }:=by
 have same:∀ {b:Addr} {o:Obj},B.get? b ≠ none->s.heap.get? b=some o->h'.get? b=some o:=fun {b o} n e=>by
  cases q:B.get? b with
  | none=>exact absurd q n
  | some o' =>
    have h1:=hst b o' q
    have h2:=hfl.1 b o' q
    rw[e] at h1;cases h1
    exact h2
 have nx:∀ b:Addr,b ∉ X.ex:=fun b z=>by rw[hex] at z;cases z
 have fr:∀ b o,s.heap.get? b=some o->b ∈ frs X.outer->∃ sl,h'.get? b=some { o with slots:=sl }:=fun b o e hb=>by
  have hb':b ∈ frs X.stack\/True:=.inr trivial
  obtain⟨_,o0,ho0,hd0⟩:=I.ok.funs.mem hb
  obtain⟨sl,q⟩:=I.base.slot b o0 ho0 (I.ok.frf b hb) hb (nx b)
  rw[e] at q;cases q
  exact hup b _ e hd0
 refine⟨x,C,H,B,a0,rfl,I.os,I.bare,⟨fun b o e n hb _=>?_,fun b o e n hb _=>?_,fun b o e n _=>I.base.free b o e n (nx b),fun b o e _=>?_,I.base.tups,I.base.frzs,I.base.tbls⟩,fun b u e=>?_,hfl,c1,c2,hx,hE⟩
 ·exact same (c2 b o e hb) (I.base.keep b o e n hb (nx b))
 ·obtain⟨sl,q⟩:=I.base.slot b o e n hb (nx b)
  obtain⟨sl2,q2⟩:=fr b _ q hb
  exact⟨sl2,q2⟩
 ·obtain⟨o',q⟩:=I.base.there b o e (nx b)
  by_cases hb:b ∈ frs X.outer
  ·obtain⟨sl,q2⟩:=fr b o' q hb
   exact⟨_,q2⟩
  ·exact⟨o',same (c2 b o e hb) q⟩
 ·by_cases hb:b=x
  ·subst hb
   rw[hx] at e;cases e
   exact oE hfl.there
  ·refine (I.hok b u e).stay (fun c v hc q=>?_) (fun _ q=>q) fun _ _ q=>q
   have:H c ≠ none/\c ≠ x:=by
    rcases hc with rfl | hc
    ·exact⟨by rw[e];exact (fun z=>nomatch z),hb⟩
    ·exact⟨by rw[hc];exact (fun z=>nomatch z),fun z=>by rw[z,hx] at hc;cases hc⟩
   cases hq:H c with
   | none=>exact absurd hq this.1
   | some u'=>exact same (c1 c u' hq this.2) q
theorem FD{h':Heap}{vs:List Value}{E:XK}{Er:Value->Shared->Prop}(I:L2.Inv X J0 σ H s)(m:Heap.MadeExcOf s.heap h' x (.ref C) vs)(hst:X.stack=X.env::X.outer)(hfr:X.env.frame=some X.env.locals)(hex:X.ex=[])(hE:E (.ref x) (some C) (upd H x (dC x C))):wpAny (model X.prog X.w) X.A (leaving X.env (.ref x)) (fun _ s''=>CXN X.prog X.w X.outer X.H₀ X.s₀ E (.ref x) s'') Er { s with heap:=h' }:=by
 have I2:=FC I m
 have hl:s.heap.FunFrames X.base (X.env::X.outer):=by have:=I.stack;rw[hst] at this;exact this
 have hin:∀ env ∈ (X.env::X.outer),∀ b,env.frame=some b->b ∈ frs X.stack:=fun env he b hb=>by rw[hst];exact List.mem_filterMap.mpr ⟨env,he,hb⟩
 refine PySem.wpAny_leaves_madeW (base:=W.hideAll s.heap (frs X.stack)) (by rw[<- hst];exact I.ok.frames) hfr (fun b o q=>W.of_hideAll _ q) (W.funFrames_hide hl hin) m fun h'' t x1 _ _ x4=>?_
 have hn:H x=none:=by
  cases e:H x with
  | none=>rfl
  | some u=>obtain⟨o,q⟩:=jt (I.hok x u e);rw[m.new] at q;cases q
 have inB:∀ b o,s.heap.get? b=some o->b ∉ frs X.stack->(W.hideAll s.heap (frs X.stack)).get? b ≠ none:=fun b o e hb z=>by
  rw[W.hideAll_get _ e hb] at z;cases z
 refine uj I2 br x1 x4 (fun b o q=>m.keeps b o (W.of_hideAll _ q)) (fun b u e hb=>?_) (fun b o e hb=>?_) hex hE
 ·rw[aF hb] at e
  obtain⟨ob,q⟩:=jt (I.hok b u e)
  exact inB b ob q fun z=>by rw[I.stkFree b z] at e;cases e
 ·obtain⟨o',q⟩:=I.base.there b o e (by rw[hex];exact fun z=>nomatch z)
  refine inB b o' q fun z=>?_
  rcases List.mem_cons.mp (I.stkSub b z) with e1 | e1
  ·have:=I.ok.above
   rw[<- e1] at this
   exact absurd (Nat.lt_of_lt_of_le (Heap.lt_size e) this) (Nat.lt_irrefl _)
  ·exact hb e1
theorem FF{s2:Shared}{E E1:XK}{e:Value}{Er:Value->Shared->Prop}(I:L2.Inv X J0 σ H s)(hcx:CXN X.prog X.w X.stack H s E1 e s2)(hst:X.stack=X.env::X.outer)(hfr:X.env.frame=some X.env.locals)(hex:X.ex=[])(hE:∀ x C H2,H2 x=some (dC x C)->HOk X.prog X.w H2 s2.heap->E1 (.ref x) (some C) H2->E (.ref x) (some C) H2):wpAny (model X.prog X.w) X.A (leaving X.env e) (fun _ s''=>CXN X.prog X.w X.outer X.H₀ X.s₀ E e s'') Er s2:=by
 obtain⟨x,C,H2,B,a0,rfl,os,bare,un,hok,hfl,c1,c2,hx,hE1⟩:=hcx
 obtain⟨hh,g,d,t,os'⟩:=s2
 obtain rfl:os'=s.os:=os
 have I2:L2.Inv X J0 σ H2 { s with heap:=hh,gens:=g,drawn:=d,toks:=t }:=I.call (h':=hh) (g':=g) (d':=d) (t':=t) (ch:=[]) un hok bare (fun b z=>absurd z (by simp))
 have hfl':Heap.FlyingW B (X.env::X.outer) x (.ref C) a0 hh:=by rw[<- hst];exact hfl
 refine PySem.wpAny_leaves_onW (by rw[<- hst];exact I.ok.frames) hfr hfl' fun h' x1 x2=>?_
 refine uj (s:={ s with heap:=hh,gens:=g,drawn:=d,toks:=t }) I2 hx x1 x2 hfl'.1 c1 (fun b o e hb=>?_) hex (hE x C H2 hx hok hE1)
 obtain⟨o',q⟩:=I.base.there b o e (by rw[hex];exact fun z=>nomatch z)
 refine c2 b o' q fun z=>?_
 rcases List.mem_cons.mp (I.stkSub b z) with e1 | e1
 ·have:=I.ok.above
  rw[<- e1] at this
  exact absurd (Nat.lt_of_lt_of_le (Heap.lt_size e) this) (Nat.lt_irrefl _)
 ·exact hb e1
end
end VL
namespace VL
open PySem PySem.Spec PyProof.Rows L2
def bmV:List Value:=[.type "ValueError",.type "Exception",.type "BaseException",.type "object"]
def ko(K:W.Frag)(x:Str):Option Addr:=match W.nsIn K mainGlobals x with
 | some (some (.ref C))=>some C
 | _=>none
def oF(K:W.Frag)(C:Addr):Bool:=W.excIn K C bmV "ValueError.__new__" && W.findIn K (.ref C) "__class__" == some (some (.builtin "object.__class__")) &&
 W.findIn K (.ref C) "__getattribute__" == some (some (.builtin "BaseException.__getattribute__")) && W.findIn K (.ref C) "__getattr__" == some none && W.mroIn K C (.type "BaseException") == some true &&
 W.mroIn K C (.type "object") == some true && W.mroIn K C (.type "ValueError") == some true && W.isClsIn K C && W.typeIn K (.ref C) == some (.type "type") && W.keepIn K (.ref C)
def bT(K:W.Frag):Bool:=match ko K "FareError" with
 | none=>false
 | some B=>W.isClsIn K B && W.typeIn K (.ref B) == some (.type "type") && W.instIn K (.ref B) (.type "tuple") == some false && W.mroIn K B (.type "BaseException") == some true && XS.all fun x=>match ko K x with
   | none=>false
   | some C=>oF K C && W.mroIn K C (.ref B) == some true && XS.all fun y=>match ko K y with
     | none=>false
     | some D=>W.mroIn K C (.ref D) == some (decide (x=y)) && (x == y || !(D == C))
theorem oG{K:W.Frag}{x:Str}{C:Addr}(h:ko K x=some C):W.nsIn K mainGlobals x=some (some (.ref C)):=by
 unfold ko at h
 split at h
 ·rename_i e;cases h;exact e
 ·cases h
structure XOne (K:W.Frag) (C:Addr):Prop where
 exc:W.excIn K C bmV "ValueError.__new__" = true
 cls:W.findIn K (.ref C) "__class__" = some (some (.builtin "object.__class__"))
 ga:W.findIn K (.ref C) "__getattribute__" = some (some (.builtin "BaseException.__getattribute__"))
 hk:W.findIn K (.ref C) "__getattr__" = some none
 be:W.mroIn K C (.type "BaseException")=some true
 ob:W.mroIn K C (.type "object")=some true
 ve:W.mroIn K C (.type "ValueError")=some true
 is:W.isClsIn K C=true
 ty:W.typeIn K (.ref C)=some (.type "type")
 kp:W.keepIn K (.ref C)=true
theorem FG{K:W.Frag}{C:Addr}(h:oF K C=true):XOne K C:=by
 unfold oF at h
 simp only[Bool.and_eq_true,beq_iff_eq] at h
 obtain⟨⟨⟨⟨⟨⟨⟨⟨⟨h1,h2⟩,h3⟩,h4⟩,h5⟩,h6⟩,h7⟩,h8⟩,h9⟩,h10⟩:=h
 exact⟨h1,h2,h3,h4,h5,h6,h7,h8,h9,h10⟩
structure XBase (K:W.Frag) (B:Addr):Prop where
 ns:W.nsIn K mainGlobals "FareError" = some (some (.ref B))
 is:W.isClsIn K B=true
 ty:W.typeIn K (.ref B)=some (.type "type")
 nt:W.instIn K (.ref B) (.type "tuple")=some false
 be:W.mroIn K B (.type "BaseException")=some true
theorem kq{K:W.Frag}(h:bT K=true):∃ B,XBase K B/\∀ x ∈ XS,∃ C,W.nsIn K mainGlobals x=some (some (.ref C))/\XOne K C/\W.mroIn K C (.ref B)=some true /\
  ∀ y ∈ XS,∃ D,W.nsIn K mainGlobals y=some (some (.ref D))/\W.mroIn K C (.ref D)=some (decide (x=y))/\(x ≠ y->D ≠ C):=by
 unfold bT at h
 split at h
 ·cases h
 ·rename_i B hB
  simp only[Bool.and_eq_true,beq_iff_eq] at h
  obtain⟨⟨⟨⟨h1,h2⟩,h3⟩,h4⟩,h5⟩:=h
  refine⟨B,⟨oG hB,h1,h2,h3,h4⟩,fun x hx=>?_⟩
  have h6:=List.all_eq_true.mp h5 x hx
  split at h6
  ·cases h6
  ·rename_i C hC
   simp only[Bool.and_eq_true,beq_iff_eq] at h6
   obtain⟨⟨a1,a2⟩,a3⟩:=h6
   refine⟨C,oG hC,FG a1,a2,fun y hy=>?_⟩
   have h7:=List.all_eq_true.mp a3 y hy
   split at h7
   ·cases h7
   ·rename_i D hD
    simp only[Bool.and_eq_true,beq_iff_eq] at h7
    refine⟨D,oG hD,h7.1,fun ne e=>?_⟩
    rcases Bool.or_eq_true_iff.mp h7.2 with z | z
    ·exact ne (beq_iff_eq.mp z)
    ·rw[e] at z;simp at z
section
variable {prog:Program}{w:World}{A:Around}{E:Value->Shared->Prop}{s:Shared}{K:W.Frag}{x C D:Addr}{h:Heap}{g:Array GenState}{d:Drawn}{t:Nat}{os:OsState}{o:Obj}
theorem FH{R:Result->Shared->Prop}(X:K.In h)(O:XOne K C)(hx:h.get? x=some o)(hc:o.cls=.ref C)(hq:R (.ok (.ret (.ref C))) ⟨h,g,d,t,os⟩):
  codeAny (model prog w) A (.call (.builtin "getset_descriptor.__get__") ⟨[.builtin "object.__class__",.ref x,.ref C],[]⟩) R ⟨h,g,d,t,os⟩:=by
 have hT5:(⟨h,g,d,t,os⟩:Shared).TypeIs (.builtin "object.__class__") "getset_descriptor":=F.typeOf_object_class
 have L1:W.Looks (model prog w) h (isSubtype (.ref C) (.type (".".intercalate ("object.__class__".cutAt '.').dropLast))) true:=by
  rw[F.owner_object_class];exact W.looks_mroIn X O.ob
 refine codeAny_call_builtin F.slot_gs_get.plain F.entry_gs_get (F.slot_gs_get.check _ _ _ _ _ _ _ _ hT5 (F.args_gs_get _ _ _) ?_)
 repeat (any_goals (first | assumption | (with_reducible refine wpAny_loadPart_at hx ?_;rw[hc]) | with_reducible refine L1.at ?_ | wp_step))
 refine⟨Code.quiet_builtin _ (by decide +kernel),codeAny_builtin F.entry_object_class ?_⟩
 repeat (any_goals (first | assumption | (with_reducible refine wpAny_loadPart_at hx ?_;rw[hc]) | wp_step))
theorem FI{M:Model}{nameV:Value}{Q:Unit->Shared->Prop}(X:K.In h)(O:XOne K C)(hx:h.get? x=some o)(hc:o.cls=.ref C)(hq:Q () ⟨h,g,d,t,os⟩):
  wpAny M A (checkBuiltinCall "BaseException.__getattribute__" ⟨[.ref x,nameV],[]⟩) Q E ⟨h,g,d,t,os⟩:=by
 have hk:builtinKind "BaseException.__getattribute__" = some .slot:=by decide +kernel
 have hsplit:splitId "BaseException.__getattribute__" = some ("BaseException","__getattribute__"):=by decide +kernel
 have L1:W.Looks M h (isSubtype (.ref C) (.type "BaseException")) true:=W.looks_mroIn X O.be
 have ha:=F.args_bexc_ga (.ref x) nameV
 simp only[checkBuiltinCall,hk,hsplit]
 refine wpAny_bind ?_
 ·unfold isInstance
  repeat (first | (with_reducible refine wpAny_loadPart_at hx ?_;rw[hc]) | with_reducible refine L1.at ?_ | wp_step)
  exact hq
theorem FJ{tk:Tok}{Q:Fin->Shared->Prop}(X:K.In h)(O:XOne K C)(hx:h.get? x=some o)(hc:o.cls=.ref C)(hq:Q (.done (.ret (.ref C))) ⟨h,g,d,t,os⟩):
  wpAny (model prog w) A (Builtin.«object.__getattribute__» ⟨[.ref x,.str "__class__" tk],[]⟩) Q E ⟨h,g,d,t,os⟩:=by
 have hT5:(⟨h,g,d,t,os⟩:Shared).TypeIs (.builtin "object.__class__") "getset_descriptor":=F.typeOf_object_class
 have L1:=W.looks_findIn (M:=model prog w) X O.cls
 have f5:=F.typeOf_object_class
 have f6:=F.slot_gs_get.lookup
 have f7:=F.slot_gs_set.lookup
 repeat (any_goals (first | assumption | (with_reducible refine wpAny_loadPart_at hx ?_;rw[hc]) | with_reducible refine L1.at ?_ | wp_step))
 refine FH X O hx hc ?_
 repeat (any_goals (first | assumption | wp_step))
theorem FK{tk:Tok}{Q:Value->Shared->Prop}(X:K.In h)(O:XOne K C)(hx:h.get? x=some o)(hc:o.cls=.ref C)(hq:Q (.ref C) ⟨h,g,d,t,os⟩):
  wpAny (model prog w) A (getAttrBy (.ref x) (.str "__class__" tk) false) Q E ⟨h,g,d,t,os⟩:=by
 have f3:=F.attrBase_ValueError.ga.bind (.ref x)
 have hx2:(Value.builtin "BaseException.__getattribute__" == Value.builtin "object.__getattribute__")=false:=by decide +kernel
 have hx1:(onTheHeap (Value.ref C) && Value.builtin "BaseException.__getattribute__" == Value.builtin "object.__getattribute__")=false:=by rw[hx2];rfl
 have L1:=W.looks_findIn (M:=model prog w) X O.ga
 have L2:=W.looks_findIn (M:=model prog w) X O.hk
 repeat (any_goals (first | assumption | (with_reducible refine wpAny_loadPart_at hx ?_;rw[hc]) | with_reducible refine L1.at ?_ | with_reducible refine L2.at ?_ | wp_step))
 refine codeAny_call_builtin F.attrBase_ValueError.ga.plain F.entry_bexc_ga (FI X O hx hc (FJ X O hx hc ?_))
 repeat (any_goals (first | assumption | wp_step))
theorem FL{Q:Option Value->Shared->Prop}(X:K.In h)(O:XOne K C)(hx:h.get? x=some o)(hc:o.cls=.ref C)(hq:Q (some (.ref C)) ⟨h,g,d,t+1,os⟩):
  wpAny (model prog w) A (getAttr? (.ref x) "__class__") Q E ⟨h,g,d,t,os⟩:=by
 unfold getAttr? getAttrBy?
 repeat (any_goals (first | assumption | with_reducible apply FK X O hx hc | wp_step))
theorem mB{M:Model}(hx:h.get? x=some o)(hc:o.cls=.ref C):W.Looks M h (typeOf (.ref x)) (.ref C):=by
 intro A' Q' E' s' k q
 unfold typeOf
 refine wpAny_bind (wpAny_loadPart (k _ _ hx) ?_)
 rw[hc]
 exact wpAny_pure q
theorem oH{M:Model}(X:K.In h)(e:W.isClsIn K C=true):W.Looks M h (isType (.ref C)) true:=by
 unfold W.isClsIn W.clsIn at e
 split at e
 ·rename_i c' d' cd' sl' ho
  intro A' Q' E' s' k q
  unfold isType loadHead
  exact wpAny_bind (wpAny_loadPart (k _ _ (X _ _ ho)) (wpAny_pure q))
 ·cases e
open PySem.W in
theorem FM{dep:Int}{tk:Tok}{Q:Fin->Shared->Prop}(X:K.In s.heap)(O:XOne K C)(OD:XOne K D)(hx:∃ o,s.heap.get? x=some o/\o.cls=.ref C)(ne:D ≠ C)(e:mroIn K C (.ref D)=some false)(hq:Q (.done (.ret (.bool false))) { s with toks:=s.toks+1 }):
  wpAny (model prog w) A (Builtin.«isinstance.nested» ⟨[.ref x,.ref D,.int dep tk],[]⟩) Q E s:=by
 obtain⟨o,hx,hc⟩:=hx
 obtain⟨h0,g,d,tt,os⟩:=s
 have L0:=mB (M:=model prog w) hx hc
 have hsub:Looks (model prog w) h0 (isSubtype (.ref C) (.ref D)) false:=looks_mroIn X e
 have LI:Looks (model prog w) h0 (isInstance (.ref x) (.ref D)) false:=L0.andThen hsub
 have hty:Looks (model prog w) h0 (typeOf (.ref D)) (.type "type"):=looks_typeIn X OD.ty
 unfold Builtin.«isinstance.nested»
 refine wpAny_bind (L0.at ?_)
 rw[if_neg (fun q=>ne (Value.ref.inj (beq_iff_eq.mp q)).symm)]
 refine wpAny_bind (hty.at ?_)
 rw[if_pos (by decide)]
 k_delta "plainIsInstance"
 refine wpAny_bind (wpAny_bind ((oH X OD.is).at ?_))
 simp only[Bool.not_true,Bool.false_eq_true,if_false]
 refine wpAny_bind (LI.at ?_)
 simp only[Bool.false_eq_true,if_false]
 refine wpAny_bind (FL X O hx hc ?_)
 refine wpAny_bind ((oH X O.is).at ?_)
 simp only[Bool.not_true,Bool.false_eq_true,if_false]
 refine wpAny_bind (wpAny_rule ?_)
 refine hsub.at ?_
 first
  | exact wpAny_pure hq
  | exact wpAny_pure (wpAny_pure hq)
  | exact wpAny_bind (wpAny_pure (wpAny_pure hq))
open PySem.W in
theorem FN{dep:Int}{tk:Tok}{Q:Fin->Shared->Prop}(X:K.In s.heap)(O:XOne K C)(hx:∃ o,s.heap.get? x=some o/\o.cls=.ref C)(hq:Q (.done (.ret (.bool true))) s):
  wpAny (model prog w) A (Builtin.«isinstance.nested» ⟨[.ref x,.type "ValueError",.int dep tk],[]⟩) Q E s:=by
 obtain⟨o,hx,hc⟩:=hx
 obtain⟨h0,g,d,tt,os⟩:=s
 have L0:=mB (M:=model prog w) hx hc
 have hsub:Looks (model prog w) h0 (isSubtype (.ref C) (.type "ValueError")) true:=looks_mroIn X O.ve
 have LI:Looks (model prog w) h0 (isInstance (.ref x) (.type "ValueError")) true:=L0.andThen hsub
 have hty:typeOf (.type "ValueError")=pure (.type "type"):=by kernel_rfl
 unfold Builtin.«isinstance.nested»
 refine wpAny_bind (L0.at ?_)
 rw[if_neg (fun q=>by cases beq_iff_eq.mp q)]
 refine wpAny_bind (m:=typeOf (.type "ValueError")) (wpAny_of_eq hty ?_)
 rw[if_pos (by decide)]
 k_delta "plainIsInstance"
 refine wpAny_bind (wpAny_bind (m:=isType (.type "ValueError")) (wpAny_pure (a:=true) ?_))
 simp only[Bool.not_true,Bool.false_eq_true,if_false]
 refine wpAny_bind (LI.at ?_)
 simp only[if_true]
 first
  | exact wpAny_pure hq
  | exact wpAny_pure (wpAny_pure hq)
  | exact wpAny_bind (wpAny_pure (wpAny_pure hq))
theorem FP{Q:Value->Shared->Prop}(X:K.In s.heap)(O:XOne K C)(OD:XOne K D)(hx:∃ o,s.heap.get? x=some o/\o.cls=.ref C)(ne:D ≠ C)(e:W.mroIn K C (.ref D)=some false)(hq:Q (.bool false) { s with toks:=s.toks+1 }):
  wpAny (model prog w) A (call (.builtin "isinstance") [.ref x,.ref D]) Q E s :=
 call_isinstance (S:=fun _ R s=>(K.In s.heap/\∃ o,s.heap.get? x=some o/\o.cls=.ref C)/\R (.ok (.ret (.bool false))) { s with toks:=s.toks+1 })
  (fun _ _ _ _ _ hs=>isinstance_outer (FM hs.1.1 O OD hs.1.2 ne e hs.2) (by intro q;cases q)) ⟨⟨X,hx⟩,hq⟩
theorem FQ{Q:Value->Shared->Prop}(X:K.In s.heap)(O:XOne K C)(hx:∃ o,s.heap.get? x=some o/\o.cls=.ref C)(hq:Q (.bool true) s):
  wpAny (model prog w) A (call (.builtin "isinstance") [.ref x,.type "ValueError"]) Q E s :=
 call_isinstance (S:=fun _ R s=>(K.In s.heap/\∃ o,s.heap.get? x=some o/\o.cls=.ref C)/\R (.ok (.ret (.bool true))) s)
  (fun _ _ _ _ _ hs=>isinstance_outer (FN hs.1.1 O hs.1.2 hs.2) (by intro q;cases q)) ⟨⟨X,hx⟩,hq⟩
theorem FR{Q:Value->Shared->Prop}(X:K.In s.heap)(hx:∃ o,s.heap.get? x=some o/\o.cls=.ref C)(hq:Q (.bool true) s):
  wpAny (model prog w) A (call (.builtin "isinstance") [.ref x,.ref C]) Q E s :=
 W.isi_call (t:=.ref C) X (fun M=>let ⟨_,h1,h2⟩:=hx;mB h1 h2) (by unfold W.isIn;simp) (by intro q;cases q) hq
end
end VL
namespace VL
open PySem PySem.Spec PyProof.Rows L2
def g9(H:Hp)(a:Addr):Hp:=fun b=>if b=a then none else H b
theorem uk{H:Hp}{a:Addr}:g9 H a a=none:=by unfold g9;rw[if_pos rfl]
theorem FT{H:Hp}{a:Addr}:Same (g9 H a) H:=fun b u q=>by
 unfold g9 at q
 split at q
 ·cases q
 ·exact q
theorem ul{H:Hp}{a:Addr}{o:HO}(h:H a=none):g9 (upd H a o) a=H:=by
 funext b
 unfold g9
 split
 ·rename_i e;rw[e,h]
 ·rename_i e;rw[aF e]
def EXK(K:W.Frag)(P:Hp)(EX:QX):XK:=fun v c H=>∃ (a:Addr) (nm:Str) (M:Sto) (C:Addr),v=.ref a/\c=some C/\W.nsIn K mainGlobals nm=some (some (.ref C))/\nm ∈ XS/\EX nm M/\Same P (PH (g9 H a) M)/\MOk K (g9 H a) M
structure OutX (X:Cx) (P:Hp) (EX:QX):Prop where
 made:∀ (J0:List (Addr × Obj)) (σ:St) (H:Hp) (s:Shared) (x C:Addr) (h':Heap) (vs:List Value),L2.Inv X J0 σ H s->Heap.MadeExcOf s.heap h' x (.ref C) vs->EXK X.K P EX (.ref x) (some C) (upd H x (dC x C))->X.xe (.ref x) { s with heap:=h' }
 pass:ff (CXN X.prog X.w) X (EXK X.K P EX)
theorem FU{P:Program}{w:World}{K:W.Frag}{mg:Str->Option Value}{base:Heap}{N:List Str}{qual:Str}{scope:Scope}{f:Addr}{cd:Value}{A:Around}{outer:List PySem.Env}{s:Shared}{H:Hp}{E:XK}{P0:Hp}{EX:QX}(h:∀ v c H',EXK K P0 EX v c H'->E v c H'):OutX (cG (CXN P w) P w K mg base N qual scope f cd A outer s H E) P0 EX where
 made:=fun J0 σ H1 s1 x C h' vs I m e=>FD (X:=cG (CXN P w) P w K mg base N qual scope f cd A outer s H E) I m rfl rfl rfl (h _ _ _ e)
 pass:=fun J0 σ H1 s1 e s2 I hc=>FF (X:=cG (CXN P w) P w K mg base N qual scope f cd A outer s H E) I hc rfl rfl rfl fun x C H2 _ _ z=>h _ _ _ z
def twX(K:W.Frag)(P:Hp)(n:Nat)(EX:QX)(t:NTS):TS:=fun De σ H=>∃ ρ M Ew,EnvN K P n σ ρ H M/\t Ew ρ M/\LeE Ew (j6 K P n De)/\∀ x M,Ew.ex x M->EX x M
abbrev MS(X:Cx)(P:Hp)(EX:QX)(st:Stmt)(t:NTS):Prop:=∀ n,PS X st (twX X.K P n EX t)
abbrev MSs(X:Cx)(P:Hp)(EX:QX)(st:List Stmt)(t:NTS):Prop:=∀ n,PSs X st (twX X.K P n EX t)
theorem FV{X:Cx}{st:Stmt}{t:TS}(h:PS X.nox st t):PS X st t:=fun J0 s σ H D I hw =>
 wpAny_mono (h J0 s σ H D (I.wish _) hw) (fun _ _ q=>q.unwish) fun _ _ z=>False.elim z
theorem FW{K:W.Frag}{h:Heap}{C:Addr}(X:K.In h)(e:W.excIn K C bmV "ValueError.__new__" = true):∃ tl N nm qn bs hdct sn sub ab col dd k0 k1 k2 k3 k5 mN,
  h.get? C=some (excClassObj nm qn C N bs tl hdct sn sub ab col dd k0 k1 k2 k3 k5 "ValueError.__new__")/\h.Ns N mN/\mN "__init__" = none/\OwnTail h bmV tl:=by
 unfold W.excIn at e
 split at e
 case h_2=>cases e
 case h_1 dd cd sl ho =>
 split at e
 case h_2=>cases e
 case h_1 C1 tl k0 k1 k2 k3 n k5 hm hs =>
 simp only[Bool.and_eq_true,beq_iff_eq,Bool.not_eq_true'] at e
 obtain⟨⟨⟨⟨⟨e1,e2⟩,e3⟩,e4⟩,e5⟩,e6⟩:=e
 subst e1 e2
 cases cd with
 | mk nm bs mro ns qn hd sn sub ab col del =>
   dsimp only at hm e3 e5 e6
   subst hm e3
   have hsl:sl = #[k0,k1,k2,k3,some (.builtin "ValueError.__new__"),k5]:=by
    cases sl with
    | mk l=>simp only at hs;rw[hs]
   subst hsl
   exact⟨tl,ns,nm,qn,bs,hd,sn,sub,ab,col,dd,k0,k1,k2,k3,k5,_,X _ _ ho,.of_isNs (W.isNs_of_in X e5),W.nsMap_none_of_in X e5 e6,W.tail_of_in X e4⟩
section
variable {X:Cx}{P:Hp}{EX:QX}{st:Stmt}{az body bs:List Stmt}{t u:NTS}{c:Expr}{ka:NTB}{pos np cpos p2:Pos}{x:Str}
theorem FX(h:NS X.nox st t):MS X P EX st t:=fun n=>bu (FV (h P n)) fun De σ H ⟨ρ,M,Ew,hE,ht,hl,_⟩=>⟨ρ,M,Ew,hE,ht,hl⟩
theorem FY:MSs X P EX [] sN:=fun n=>ef n5 fun De σ H ⟨ρ,M,Ew,hE,ht,hl,_⟩=>hl.nx ρ M ht σ H hE
theorem FZ(h1:MS X P EX st t)(h2:MSs X P EX az u):MSs X P EX (st::az) (au t u):=fun n=>ef (n6 (h1 n) (h2 n)) fun De σ H ⟨ρ,M,Ew,hE,ht,hl,hx⟩ =>
 ⟨ρ,M,_,hE,ht,⟨fun ρ' M' h' σ' H' hE'=>⟨ρ',M',Ew,hE',h',hl,hx⟩,hl.bk,hl.ct,hl.rt⟩,hx⟩
theorem G0(h1:MS X P EX st t):MSs X P EX [st] t:=fun n=>ef (kX (h1 n)) fun De σ H h=>h
theorem G1(hc:NT X.nox c ka)(ha:MSs X P EX body t)(hb:MSs X P EX bs u):MS X P EX (.If c body bs pos) (b7 ka t u):=fun n=>bu (n8 (PT.nox hc) (ha n) (hb n)) fun De σ H ⟨ρ,M,Ew,hE,ht,hl,hx⟩=>⟨ρ,M,_,hE.q,ht,fun k M1 hk H1 p1=>by
 cases k with
 | true=>exact dI ⟨ρ,M1,Ew,hE.next p1,hk.1 rfl,hl,hx⟩
 | false=>exact dH ⟨ρ,M1,Ew,hE.next p1,hk.2 rfl,hl,hx⟩⟩
theorem G2{m:Str}{j}(xt:bT X.K=true)(ho:OutX X P EX)(hc:X.calm=true)(hg:Gl X x)(hd:(x == ("__debug__" : Str))=false)(he:starEach [.Constant (.str m) j p2] X.env=(false,eval (.Constant (.str m) j p2) X.env)::starEach [] X.env)(hpl:(backTo cpos (starEach [.Constant (.str m) j p2] X.env)).any (·.1)=false):
  MS X P EX (.Raise (some (.Call (.Name x np) [.Constant (.str m) j p2] [] cpos)) none pos) (eN x):=by
 intro n J0 s σ H De I ⟨ρ,M,Ew,hE,⟨hx,hex⟩,hl,hX⟩
 obtain⟨B,XB,hall⟩:=kq xt
 obtain⟨C,hns,O,_,_⟩:=hall x hx
 have hm:X.mg x=some (.ref C):=W.mg_of I.ok.mod.kin I.ok.mod.glob hns
 obtain⟨tl,N,nm,qn,bs,hdct,sn,sub,ab,col,dd,k0,k1,k2,k3,k5,mN,hC,hN,hni,T⟩:=FW I.ok.mod.kin O.exc
 refine wpAny_Raise_call_subT (C:=C) (nm:=nm) (q:=qn) (N:=N) (bs:=bs) (bm:=tl) (hdct:=hdct) (sn:=sn) (sub:=sub) (ab:=ab) (col:=col) (dd:=dd) (k0:=k0) (k1:=k1) (k2:=k2) (k3:=k3) (k5:=k5) (mN:=mN)
  F.excBase_ValueError (T.hasType (by decide)) (I.ok.hd hc) hpl hni (gt I hg hm ⟨rfl,?_⟩ hd)
 have hA:PA X [.Constant (.str m) j p2] (rf (tC (.str m)) nr):=cN iF dG he
 have h1:=hA cpos J0 s σ H (fun ws H'=>ws=[.str m]/\H'=H) I ⟨rfl,rfl⟩
 rw[he] at h1 ⊢
 refine Calls.evalArgs_plain (wpAny_mono h1 (fun vs s2 h2=>?_) fun _ _ y=>y)
 obtain⟨ws,H2,I2,r2,rfl,rfl⟩:=h2
 refine⟨rfl,?_,I2.bk _ _ hC,hN.keeps I2.bk,T.keeps I2.bk,fun h' e hm'=>ho.made J0 σ _ s2 e C h' vs I2 hm' ?_⟩
 ·rw[<- r2.length,sizeLine_eq];exact (by decide:1<=16777216)
 ·have hn:H2 e=none:=by
   cases q:H2 e with
   | none=>rfl
   | some u=>obtain⟨o,q2⟩:=jt (I2.hok e u q);rw[hm'.new] at q2;cases q2
  exact⟨e,x,M,C,rfl,rfl,hns,hx,hX _ _ hex,by rw[ul hn];exact hE.same,by rw[ul hn];exact hE.q.ok⟩
end
end VL
namespace VL
open PySem PySem.Spec PyProof.Rows L2
def Fl(X:Cx)(J0:List (Addr × Obj))(σ:St)(E:XK)(e:Value)(s':Shared):Prop:=∃ H1 s1,L2.Inv X J0 σ H1 s1/\CXN X.prog X.w X.stack H1 s1 E e s'
def PX(X:Cx)(e:Expr)(t:St->Hp->VK->XK->Prop):Prop :=
 ∀ (J0:List (Addr × Obj)) (s:Shared) (σ:St) (H:Hp) (Q:VK) (E:XK),L2.Inv X J0 σ H s->t σ H Q E->wpAny (model X.prog X.w) X.A (eval e X.env) (EP X J0 σ Q) (Fl X J0 σ E) s
def twE(K:W.Frag)(te:NEX):St->Hp->VK->XK->Prop:=fun σ H Q E=>∃ ρ M QW EX,EnvQ K σ ρ H M/\te ρ M QW EX/\(∀ d M',QW d M'->∀ v H',PostW K H M d v H' M'->Q v H')/\∀ v c H',EXK K (PH H M) EX v c H'->E v c H'
abbrev NX(X:Cx)(e:Expr)(te:NEX):Prop:=PX X e (twE X.K te)
def spE(K:W.Frag)(T:NTX):Sp:=fun vs H Q E=>∃ ds M QW EX,Reps K (PH H M) vs ds/\MOk K H M/\T ds M QW EX/\(∀ d M',QW d M'->∀ v H',PostW K H M d v H' M'->Q v H')/\∀ v c H',EXK K (PH H M) EX v c H'->E v c H'
theorem EXK.pre{K:W.Frag}{P P':Hp}{EX:QX}{v:Value}{c:Option Addr}{H:Hp}(h:EXK K P' EX v c H)(e:Same P P'):EXK K P EX v c H:=by
 obtain⟨a,nm,M,C,h1,h2,h3,h4,h5,h6,h7⟩:=h
 exact⟨a,nm,M,C,h1,h2,h3,h4,h5,e.trans h6,h7⟩
theorem EXK.post{K:W.Frag}{P:Hp}{EX EX':QX}{v:Value}{c:Option Addr}{H:Hp}(h:EXK K P EX v c H)(e:∀ x M,EX x M->EX' x M):EXK K P EX' v c H:=by
 obtain⟨a,nm,M,C,h1,h2,h3,h4,h5,h6⟩:=h
 exact⟨a,nm,M,C,h1,h2,h3,h4,e _ _ h5,h6⟩
def DefE(P:Program)(w:World)(K:W.Frag)(mg:Str->Option Value)(base:Heap)(x:Str)(k:Nat)(ps:List Str)(T:NTX):Prop :=
 ∃ f fd,FnOk P w K mg base (CXN P w) k f fd ps (spE K T)/\mg x=some (.ref f)/\W.keepIn K (.ref f)=true/\Binds K fd ps []
def MetE(P:Program)(w:World)(K:W.Frag)(mg:Str->Option Value)(base:Heap)(C:Addr)(m:Str)(k:Nat)(ps:List Str)(T:NTX):Prop :=
 ∃ f fd,FnOk P w K mg base (CXN P w) k f fd ps (spE K T)/\Meth K C m f/\Binds K fd ps []
def MakE(P:Program)(w:World)(K:W.Frag)(mg:Str->Option Value)(base:Heap)(x:Str)(C:Addr)(k:Nat)(ps:List Str)(T:NTX):Prop :=
 ∃ f fd,FnOk P w K mg base (CXN P w) k f fd ps (spE K T)/\Mk K C f/\mg x=some (.ref C)/\Binds K fd ps []
section
variable {P:Program}{w:World}{K:W.Frag}{mg:Str->Option Value}{base:Heap}{x m:Str}{C:Addr}{j k:Nat}{ps:List Str}{T:NTX}
theorem DefE.mono(h:DefE P w K mg base x j ps T)(hk:j<=k:=by decide):DefE P w K mg base x k ps T:=let ⟨f,fd,F,r⟩:=h;⟨f,fd,F.mono hk,r⟩
theorem MetE.mono(h:MetE P w K mg base C m j ps T)(hk:j<=k:=by decide):MetE P w K mg base C m k ps T:=let ⟨f,fd,F,r⟩:=h;⟨f,fd,F.mono hk,r⟩
theorem MakE.mono(h:MakE P w K mg base x C j ps T)(hk:j<=k:=by decide):MakE P w K mg base x C k ps T:=let ⟨f,fd,F,r⟩:=h;⟨f,fd,F.mono hk,r⟩
theorem oI{f:Addr}{fd:FuncData}(F:FnOk P w K mg base (CXN P w) k f fd ps (spE K T)):FnOk P w K mg base CX0 k f fd ps (spN K (qtX T)):=by
 have up:∀ vs H Q E,spN K (qtX T) vs H Q E->spE K T vs H Q fun _ _ _=>False:=fun vs H Q E ⟨ds,M,QW,r,ok,ht,hQ⟩ =>
  ⟨ds,M,QW,_,r,ok,ht,hQ,fun v c H' ⟨_,_,_,_,_,_,_,_,z,_⟩=>z⟩
 refine⟨fun vs H Q E h=>F.len vs H Q _ (up _ _ _ _ h),fun A outer s H args us vs Q E hr he hb hv hs=>codeAny_mono (F.run A outer s H args us vs Q _ hr he hb hv (up _ _ _ _ hs)) fun r s' hq=>?_⟩
 cases r with
 | ok fl=>cases fl <;> exact hq
 | error e=>obtain⟨_,_,_,_,_,_,_,_,_,_,_,_,_,_,z⟩:=hq;exact z.elim
theorem DefE.quiet(h:DefE P w K mg base x k ps T):DefN P w K mg base x k ps (qtX T):=let ⟨f,fd,F,r⟩:=h;⟨f,fd,oI F,r⟩
theorem MetE.quiet(h:MetE P w K mg base C m k ps T):MetN P w K mg base C m k ps (qtX T):=let ⟨f,fd,F,r⟩:=h;⟨f,fd,oI F,r⟩
theorem MakE.quiet(h:MakE P w K mg base x C k ps T):MakN P w K mg base x C k ps (qtX T):=let ⟨f,fd,F,r⟩:=h;⟨f,fd,oI F,r⟩
end
section
variable {X:Cx}{a b:Expr}{tb:NTE}{tas:NTA}{pos p ap:Pos}{k:Nat}{ps:List Str}{x m:Str}{es:List Expr}{T:NTX}{C:Addr}{ns:List Str}
theorem oJ{f:Addr}{fd:FuncData}{sp:Sp}{J0:List (Addr × Obj)}{σ:St}{H:Hp}{s:Shared}{Q:VK}{E:XK}{us:List Value}{vs:List V}(F:FnOk X.prog X.w X.K X.mg X.base (CXN X.prog X.w) k f fd ps sp)(hr:Room k X.A)(hb:Binds X.K fd ps [])(I:L2.Inv X J0 σ H s)(r:Vals vs us)(h:sp vs H Q E):wpAny (model X.prog X.w) X.A (call (.ref f) us) (EP X J0 σ Q) (Fl X J0 σ E) s:=by
 have hl:(us++([]:List Value)).length=ps.length:=by rw[List.append_nil,<- r.length];exact F.len _ _ _ _ h
 have hb':=hb s us I.kIn hl
 rw[List.append_nil] at hb'
 refine wpAny_call (codeAny_mono (F.run X.A X.stack s H ⟨us,[]⟩ us vs Q E hr I.env0 hb' r h) fun q s' hq=>?_)
 cases q with
 | error e=>exact⟨H,s,I,hq⟩
 | ok fl =>
   cases fl with
   | ret u=>exact I.after hq
   | next=>exact False.elim hq
   | brk=>exact False.elim hq
   | cont=>exact False.elim hq
theorem oK{t:TA}{Q:List V->Hp->Prop}{J0:List (Addr × Obj)}{s:Shared}{σ:St}{H:Hp}{E:Value->Shared->Prop}(ha:PA X.nox es t)(pos:Pos)(I:L2.Inv X J0 σ H s)(h:t σ H Q):wpAny (model X.prog X.w) X.A (spliced (backTo pos (starEach es X.env))) (AP X J0 σ Q) E s :=
 wpAny_mono (ha pos J0 s σ H Q (I.wish _) h) (fun _ _ ⟨vs,H',I',r,q⟩=>⟨vs,H',I'.unwish,r,q⟩) fun _ _ z=>False.elim z
theorem um{t:TE}{Q:VK}{J0:List (Addr × Obj)}{s:Shared}{σ:St}{H:Hp}{E:Value->Shared->Prop}{e:Expr}(ha:PE X.nox e t)(I:L2.Inv X J0 σ H s)(h:t σ H Q):wpAny (model X.prog X.w) X.A (eval e X.env) (EP X J0 σ Q) E s :=
 wpAny_mono (ha J0 s σ H Q (I.wish _) h) (fun _ _ ⟨vs,H',I',r,q⟩=>⟨vs,H',I'.unwish,r,q⟩) fun _ _ z=>False.elim z
theorem G3(d:DefE X.prog X.w X.K X.mg X.base x k ps T)(hr:Room k X.A)(ha:NA X.nox (a::es) tas)(hg:Gl X x)(hdb:(x == ("__debug__" : Str))=false)(he:starEach (a::es) X.env=(false,eval a X.env)::starEach es X.env)(hpl:(backTo pos (starEach es X.env)).any (·.1)=false):
  NX X (.Call (.Name x p) (a::es) [] pos) (mj T tas):=by
 intro J0 s σ H Q E I ⟨ρ,M,QW,EX,hE,ht,hQ,hX⟩
 obtain⟨f,fd,F,hm,hk,hb⟩:=d
 refine wpAny_Call_Name_kw (gt I hg hm ?_ hdb)
 refine W.callWith_K (h₀:=X.base) I.ok.mod.kin hk (thn (oK (Q:=fun vs H1=>∃ ds M1,PostWs X.K H M ds vs H1 M1/\T ds M1 QW EX) ha pos I ⟨ρ,M,_,hE,ht,fun ds M1 h1 vs H1 p1=>⟨ds,M1,p1,h1⟩⟩) fun us s1 ⟨vs,H1,I1,r,ds,M1,p1,h1⟩=>⟨I1.kIn,?_⟩) he hpl
 exact oJ F hr hb I1 r ⟨ds,M1,QW,EX,p1.rep,p1.ok,h1,fun d M' hd v H' p'=>hQ d M' hd v H' ⟨p1.toPostT.trans p'.toPostT,p'.rep⟩,fun v c H' z=>hX v c H' (z.pre p1.same)⟩
theorem G4{pl:Sem Bool}(cl:Cls X.K C)(d:MetE X.prog X.w X.K X.mg X.base C m k ps T)(hr:Room k X.A)(ho:NE X.nox b tb)(ha:NA X.nox (a::es) tas)(hno:¬ m ∈ ns)(hst:starEach (a::es) X.env=(false,eval a X.env)::starEach es X.env)(hpl:(backTo pos (starEach es X.env)).any (·.1)=false)(ht:eval (.Call (.Attribute b m ap) (a::es) [] pos) X.env=(do
   let ov <- eval b X.env
   standAt ap.atName
   let (f,first) <- holding [ov] (getMethod ov m pl)
   callWith pos f first (backTo pos (starEach (a::es) X.env)) (backToKw pos (keywordEach [] X.env))):=by rfl):
  NX X (.Call (.Attribute b m ap) (a::es) [] pos) (fw C ns T tb tas):=by
 intro J0 s σ H Q E I ⟨ρ,M,QW,EX,hE,hw,hQ,hX⟩
 obtain⟨f,fd,F,hm,hb⟩:=d
 refine W.methodCall_KW (pl:=pl) (thn (um (Q:=fun v H1=>∃ d M1,PostW X.K H M d v H1 M1/\∃ q ds0,d=.ptr q/\M1 q=some (.ins C ns ds0)/\tas ρ M1 fun ds M2=>T (d::ds) M2 QW EX) ho I ⟨ρ,M,_,hE,hw,fun d M1 h1 v H1 p1=>⟨d,M1,p1,h1⟩⟩) fun u s1 ⟨v,H1,I1,ru,d,M1,p1,q,ds0,ed,hm1,h1⟩=>?_) ht
 subst ed
 have pr:=p1.rep
 cases pr
 obtain⟨dx,vs0,g1,gl,g2⟩:=gN p1.ok hm1
 obtain rfl:u=Value.ref q:=ru
 refine lh I1 g1 cl hm (kn hno) ?_
 refine W.callWith_K (first:=[.ref q]) (h₀:=X.base) I.ok.mod.kin hm.kp (thn (oK (Q:=fun vs H2=>∃ ds M2,PostWs X.K H1 M1 ds vs H2 M2/\T (.ptr q::ds) M2 QW EX) ha pos I1 ⟨ρ,M1,_,hE.next p1.toPostT,h1,fun ds M2 h2 vs H2 p2=>⟨ds,M2,p2,h2⟩⟩) fun us s2 ⟨vs,H2,I2,r,ds,M2,p2,h2⟩=>⟨I2.kIn,?_⟩) hst hpl
 have p12:=p1.toPostT.trans p2.toPostT
 exact oJ (us:=.ref q::us) (vs:=.ref q::vs) F hr hb I2 (.cons rfl r) ⟨.ptr q::ds,M2,QW,EX,.cons (.ptr q) p2.rep,p2.ok,h2,fun d M' hd v H' p'=>hQ d M' hd v H' ⟨p12.trans p'.toPostT,p'.rep⟩,fun v c H' z=>hX v c H' (z.pre p12.same)⟩
theorem G5{pl:Sem Bool}(cl:Cls X.K C)(d:MetE X.prog X.w X.K X.mg X.base C m k ps T)(hr:Room k X.A)(ho:NE X.nox b tb)(hno:¬ m ∈ ns)(ht:eval (.Call (.Attribute b m ap) [] [] pos) X.env=(do
   let ov <- eval b X.env
   standAt ap.atName
   let (f,first) <- holding [ov] (getMethod ov m pl)
   callWith pos f first (backTo pos (starEach [] X.env)) (backToKw pos (keywordEach [] X.env))):=by rfl):
  NX X (.Call (.Attribute b m ap) [] [] pos) (fw C ns T tb aw):=by
 intro J0 s σ H Q E I ⟨ρ,M,QW,EX,hE,hw,hQ,hX⟩
 obtain⟨f,fd,F,hm,hb⟩:=d
 refine W.methodCall_KW (pl:=pl) (thn (um (Q:=fun v H1=>∃ d M1,PostW X.K H M d v H1 M1/\∃ q ds0,d=.ptr q/\M1 q=some (.ins C ns ds0)/\aw ρ M1 fun ds M2=>T (d::ds) M2 QW EX) ho I ⟨ρ,M,_,hE,hw,fun d M1 h1 v H1 p1=>⟨d,M1,p1,h1⟩⟩) fun u s1 ⟨v,H1,I1,ru,d,M1,p1,q,ds0,ed,hm1,h1⟩=>?_) ht
 subst ed
 have pr:=p1.rep
 cases pr
 obtain⟨dx,vs0,g1,gl,g2⟩:=gN p1.ok hm1
 obtain rfl:u=Value.ref q:=ru
 refine lh I1 g1 cl hm (kn hno) ?_
 exact W.callWith_K0 (first:=[.ref q]) I1.kIn hm.kp (oJ (us:=[.ref q]) (vs:=[.ref q]) F hr hb I1 (.cons rfl .nil) ⟨[.ptr q],M1,QW,EX,.cons (.ptr q) .nil,p1.ok,h1,fun d M' hd v H' p'=>hQ d M' hd v H' ⟨p1.toPostT.trans p'.toPostT,p'.rep⟩,fun v c H' z=>hX v c H' (z.pre p1.same)⟩)
theorem G6{f:Addr}{fd:FuncData}{sp:Sp}{J0:List (Addr × Obj)}{σ:St}{H:Hp}{s:Shared}{Q:VK}{E:XK}{us:List Value}{vs:List V}(M:Mk X.K C f)(F:FnOk X.prog X.w X.K X.mg X.base (CXN X.prog X.w) k f fd ps sp)(hr:Room (k+1) X.A)(hb:Binds X.K fd ps [])(I:L2.Inv X J0 σ H s)(r:Vals vs us)(h:∀ x dx,H x=none->H dx=none->dx ≠ x->sp (.ref x::vs) (upd (upd H dx (.own x)) x (.ins C dx [])) (fun v H2=>v=.non/\Q (.ref x) H2) E):
  wpAny (model X.prog X.w) X.A (call (.ref C) us) (EP X J0 σ Q) (Fl X J0 σ E) s:=by
 have hq:=h (s.heap.objs.size+1) s.heap.objs.size (I.hok.fresh (Nat.le_succ _)) (I.hok.fresh (Nat.le_refl _)) (Nat.ne_of_lt (Nat.lt_succ_self _))
 have I2:=Inv.made (C:=C) I
 have r2:Vals (V.ref (s.heap.objs.size+1)::vs) (Value.ref (s.heap.objs.size+1)::us):=.cons rfl r
 have hl:(Value.ref (s.heap.objs.size+1)::us++([]:List Value)).length=ps.length:=by
  rw[List.append_nil,<- r2.length];exact F.len _ _ _ _ hq
 have hb':=hb _ (Value.ref (s.heap.objs.size+1)::us) I2.kIn hl
 rw[List.append_nil] at hb'
 refine wpAny_call (qZ (f:=f) I.kIn M.makes M.init (beq_iff_eq.mp M.fn) (codeAny_mono (F.run _ X.stack _ _ ⟨Value.ref (s.heap.objs.size+1)::us,[]⟩ (Value.ref (s.heap.objs.size+1)::us) _ _ E (hr.make C us []) (I2.env0.make C us []) hb' r2 hq) fun z s' hz=>?_))
 cases z with
 | error e=>exact⟨_,_,I2,hz⟩
 | ok fl =>
   cases fl with
   | ret u =>
     obtain⟨v,H',I3,rv,ev,q3⟩:=I2.after hz
     subst ev
     exact⟨rv,⟨V.ref (s.heap.objs.size+1),H',I3,rfl,q3⟩⟩
   | next=>exact False.elim hz
   | brk=>exact False.elim hz
   | cont=>exact False.elim hz
theorem G7(d:MakE X.prog X.w X.K X.mg X.base x C k ps T)(hr:Room (k+1) X.A)(ha:NA X.nox (a::es) tas)(hg:Gl X x)(hdb:(x == ("__debug__" : Str))=false)(he:starEach (a::es) X.env=(false,eval a X.env)::starEach es X.env)(hpl:(backTo pos (starEach es X.env)).any (·.1)=false):
  NX X (.Call (.Name x p) (a::es) [] pos) (mm C T tas):=by
 intro J0 s σ H Q E I ⟨ρ,M,QW,EX,hE,ht,hQ,hX⟩
 obtain⟨f,fd,F,Mk',hm,hb⟩:=d
 refine wpAny_Call_Name_kw (gt I hg hm ?_ hdb)
 refine W.callWith_K (h₀:=X.base) I.ok.mod.kin Mk'.kp (thn (oK (Q:=fun vs H1=>∃ ds M1,PostWs X.K H M ds vs H1 M1/\∀ a,M1 a=none->T (.ptr a::ds) (aP M1 a (.ins C [] [])) (fun d M2=>d=.non/\QW (.ptr a) M2) EX) ha pos I ⟨ρ,M,_,hE,ht,fun ds M1 h1 vs H1 p1=>⟨ds,M1,p1,h1⟩⟩) fun us s1 ⟨vs,H1,I1,r,ds,M1,p,h1⟩=>⟨I1.kIn,?_⟩) he hpl
 refine G6 Mk' F hr hb I1 r fun q dx hq hdx ne=>?_
 have hqd:upd H1 dx (.own q) q=none:=by rw[aF (Ne.symm ne)];exact hq
 have s1:=bG hdx (.own q)
 have s2:=bG hqd (.ins C dx [])
 obtain⟨e1,e2⟩:=km (c:=.ins C [] []) (p.ok.up s1) hqd s2 br ⟨rfl,[],rfl,rfl,.nil⟩
 have pt:PostT X.K H1 M1 _ _:=(PostT.of p.ok s1).trans ⟨e1,e2⟩
 exact⟨.ptr q::ds,_,_,EX,.cons (.ptr q) (aU pt.same p.rep),e2,h1 q (p.ok.fresh hq),fun d M' ⟨hd,hq'⟩ v H' p'=>by
  subst hd
  have pr:=p'.rep
  cases pr
  exact⟨rfl,hQ _ M' hq' _ H' ⟨(p.toPostT.trans pt).trans p'.toPostT,.ptr q⟩⟩,fun v c H' z=>hX v c H' (z.pre (p.toPostT.trans pt).same)⟩
end
section
variable {X:Cx}{P:Hp}{EX:QX}{a:Expr}{te:NEX}{pos p2:Pos}{x:Str}{i:Nat}
theorem uo{e:Expr}{t:St->Hp->VK->XK->Prop}{E:XK}(h:PX X e t)(ho:ff (CXN X.prog X.w) X E):PE X e fun σ H Q=>t σ H Q E:=fun J0 s σ H Q I hw =>
 wpAny_mono (h J0 s σ H Q E I hw) (fun _ _ z=>z) fun e' s' ⟨H1,s1,I1,hc⟩=>ho J0 σ H1 s1 e' s' I1 hc
theorem G8(i:Nat)(ho:OutX X P EX)(hN:X.N.Nodup)(he:NX X a te)(hi:X.N[i]?=some x)(hx:Loc X.env.scope x)(hs:swapsWith a (some (.Name x p2)) pos.line X.env=pure false)(hfn:X.fn x=true\/X.env.scope.names.lookup x=some .local):MS X P EX (.Assign [.Name x p2] a pos) (gL i te):=fun n =>
 bu (jr hN hi hx (uo he ho.pass) hs hfn) fun De σ H ⟨ρ,M,Ew,hE,ht,hl,hX⟩=>⟨ρ,M,_,_,hE.q,ht,fun d M1 h1 v H1 p1=>hl.nx _ M1 h1 _ H1 ((hE.next p1.toPostT).set p1.rep),fun v c H' z=>(z.pre hE.same).post hX⟩
theorem G9(ho:OutX X P EX)(he:NX X a te):MS X P EX (.Return (some a) pos) (j3 te):=fun n =>
 bu (iG (uo he ho.pass)) fun De σ H ⟨ρ,M,Ew,hE,ht,hl,hX⟩=>⟨ρ,M,_,_,hE.q,ht,fun d M1 h1 v H1 p1=>hl.rt d M1 h1 v H1 (hE.same.trans p1.same) p1.ok p1.rep,fun v c H' z=>(z.pre hE.same).post hX⟩
end
theorem Ga{P:Program}{w:World}{K:W.Frag}{mg:Str->Option Value}{base:Heap}{x qual:Str}{st:Stmt}{f:Addr}{fd:FuncData}{N ps:List Str}{k np n:Nat}{body:NTS}{T:NTX}(h1:ps.length=np)(h2:N.length=n)(h3:T=mkX np n body)(Fn:Fun K x qual st f fd)(S:FnScope N ps (ao st))(h:∀ (cdv:Value) (A:Around) (outer:List PySem.Env) (s:Shared) (H:Hp) (E:XK) (PP:Hp) (EX:QX),Room k (A.deeper (envOfC qual (ao st) s.heap.objs.size f cdv))->OutX (cG (CXN P w) P w K mg base N qual (ao st) f cdv A outer s H E) PP EX ->
   MSs (cG (CXN P w) P w K mg base N qual (ao st) f cdv A outer s H E) PP EX (aG st) body):
  FnOk P w K mg base (CXN P w) (k+1) f fd ps (spE K T):=by
 subst h1 h2 h3
 have hpl:ps.length<=N.length:=by have:=congrArg List.length S.pre;rw[List.length_take] at this;omega
 obtain⟨oc,od,kV,doc,pm,an,cdv,ct,osl,rfl,lk,hcd⟩:=Fn.ex
 refine rz lk hcd S (fun vs H Q E h=>?_) fun A outer s H vs Q E hr h'=>?_
 ·obtain⟨ds,M,QW,EX,r,_,hg,_⟩:=h
  rw[r.length,hg.1]
 ·obtain⟨ds,M,QW,EX,r,hok,⟨hl,ht⟩,hQ,hX⟩:=h'
  have lv:=r.length
  refine⟨_,h cdv A outer s H E (PH H M) EX hr (FU hX) N.length,ds.map some++List.replicate (N.length - ps.length) none,M,_,⟨⟨fun i d q=>?_,hok⟩,Same.refl _,?_,?_⟩,ht,⟨fun ρ M' hn σ' H' hE=>?_,fun ρ M' hn=>hn.elim,fun ρ M' hn=>hn.elim,fun d M' hd v H' e1 e2 e3=>?_⟩,fun _ _ z=>z⟩
  ·have get:ds[i]?=some d:=by
    by_cases hi:i < ds.length
    ·rw[List.getElem?_append_left (by simpa using hi),List.getElem?_map] at q
     cases e:ds[i]? with
     | none=>rw[e] at q;cases q
     | some z=>rw[e] at q;simpa using q
    ·rw[List.getElem?_append_right (by simpa using hi),List.getElem?_replicate] at q
     split at q <;> cases q
   obtain⟨v,h2,h3⟩:=r.get get
   refine⟨v,?_,h3⟩
   unfold L2.start
   have hi:i < vs.length:=(List.getElem?_eq_some_iff.mp h2).1
   rw[List.getElem?_append_left (by simpa using hi),List.getElem?_map,h2]
   rfl
  ·show (L2.start N vs).length=N.length
   unfold L2.start
   rw[List.length_append,List.length_map,List.length_replicate]
   omega
  ·rw[List.length_append,List.length_map,List.length_replicate]
   omega
  ·exact hQ _ M' hn _ H' ⟨⟨hE.same,hE.q.ok⟩,.non⟩
  ·exact hQ d M' hd v H' ⟨⟨e1,e2⟩,e3⟩
end VL
namespace VL
open PySem PySem.Spec PyProof.Rows L2
section
variable {X:Cx}{J0:List (Addr × Obj)}{σ:St}{H:Hp}{s:Shared}{x C:Addr}
theorem uq{B h':Heap}(I:L2.Inv X J0 σ H s)(hx:H x=some (dC x C))(hst:B.StaysIn s.heap)(hB:B.StaysIn h')(hth:∃ o,h'.get? x=some o/\o.cls=.ref C)(hup:s.heap.UpToSlots h')(c1:∀ b u,H b=some u->b ≠ x->B.get? b ≠ none)(c2:∀ b o,X.s₀.heap.get? b=some o->b ∉ frs X.outer->B.get? b ≠ none)(c3:∀ p ∈ X.pn++J0,B.get? p.1 ≠ none)(hex:X.ex=[]):L2.Inv X J0 σ H { s with heap:=h' }:=by
 have same:∀ {b:Addr} {o:Obj},B.get? b ≠ none->s.heap.get? b=some o->h'.get? b=some o:=fun {b o} n e=>by
  cases q:B.get? b with
  | none=>exact absurd q n
  | some o' =>
    have h1:=hst b o' q
    have h2:=hB b o' q
    rw[e] at h1;cases h1
    exact h2
 have nx:∀ b:Addr,b ∉ X.ex:=fun b z=>by rw[hex] at z;cases z
 have fr:∀ b o,s.heap.get? b=some o->b ∈ frs X.outer->∃ sl,h'.get? b=some { o with slots:=sl }:=fun b o e hb=>by
  obtain⟨_,o0,ho0,hd0⟩:=I.ok.funs.mem hb
  obtain⟨sl,q⟩:=I.base.slot b o0 ho0 (I.ok.frf b hb) hb (nx b)
  rw[e] at q;cases q
  exact hup b _ e hd0
 have cellK:∀ c v,s.heap.IsCell c v->h'.IsCell c v:=fun c v ⟨o,ho,hd⟩=>by
  obtain⟨sl,q⟩:=hup c o ho (fun vs z=>by rw[hd] at z;cases z)
  exact⟨_,q,hd⟩
 refine⟨I.ok,I.os,I.bare,⟨fun b o e n hb _=>?_,fun b o e n hb _=>?_,fun b o e n _=>I.base.free b o e n (nx b),fun b o e _=>?_,I.base.tups,I.base.frzs,I.base.tbls⟩,?_,fun y c e=>?_,I.free,I.freeC,fun p hp=>?_,fun b u e=>?_,I.len⟩
 ·exact same (c2 b o e hb) (I.base.keep b o e n hb (nx b))
 ·obtain⟨sl,q⟩:=I.base.slot b o e n hb (nx b)
  obtain⟨sl2,q2⟩:=fr b _ q hb
  exact⟨sl2,q2⟩
 ·obtain⟨o',q⟩:=I.base.there b o e (nx b)
  by_cases hb:b ∈ frs X.outer
  ·obtain⟨sl,q2⟩:=fr b o' q hb
   exact⟨_,q2⟩
  ·exact⟨o',same (c2 b o e hb) q⟩
 ·obtain⟨m,hn,hl⟩:=I.loc
  refine⟨m,hup.ns hn,fun i y v e1 e2 e3=>?_⟩
  obtain⟨u,r,l⟩:=hl i y v e1 e2 e3
  refine⟨u,r,?_⟩
  rcases l with l | ⟨k,c,e,z⟩
  ·exact .inl l
  ·exact .inr ⟨k,c,e,cellK c _ z⟩
 ·obtain⟨v,z⟩:=I.cell y c e
  exact⟨v,cellK c v z⟩
 ·obtain⟨e,r⟩:=I.pin p hp
  exact⟨same (c3 p hp) e,r⟩
 ·by_cases hb:b=x
  ·subst hb
   rw[hx] at e;cases e
   exact oE hth
  ·refine (I.hok b u e).stay (fun c v hc q=>?_) (fun _ q=>q) fun _ _ q=>q
   have:H c ≠ none/\c ≠ x:=by
    rcases hc with rfl | hc
    ·exact⟨by rw[e];exact (fun z=>nomatch z),hb⟩
    ·exact⟨by rw[hc];exact (fun z=>nomatch z),fun z=>by rw[z,hx] at hc;cases hc⟩
   cases hq:H c with
   | none=>exact absurd hq this.1
   | some u'=>exact same (c1 c u' hq this.2) q
theorem Gb{i:Nat}{n:Str}{m:Str->Option Value}{v:Option Value}{h':Heap}{t':Nat}(I:L2.Inv X J0 σ H s)(hN:X.N.Nodup)(hi:X.N[i]?=some n)(hn:s.heap.Ns X.env.locals m)(hn':h'.Ns X.env.locals fun y=>if y=n then v else m y)(hs:Heap.SameBut X.env.locals s.heap h'):L2.Inv X J0 (σ.set i none) H { s with heap:=h',toks:=t' }:=by
 obtain⟨oL,_,_,hoL,_⟩:=id hn
 have hb0:∀ b o,X.s₀.heap.get? b=some o->b ≠ X.env.locals:=fun b o e=>Nat.ne_of_lt (Nat.lt_of_lt_of_le (Heap.lt_size e) I.ok.above)
 refine⟨I.ok,I.os,I.bare,⟨fun b o e n hb hx=>?_,fun b o e n hb hx=>?_,I.base.free,fun b o e hx=>?_,I.base.tups,I.base.frzs,I.base.tbls⟩,⟨_,hn',fun j y v' e1 e2 e3=>?_⟩,fun y c e=>?_,I.free,I.freeC,fun p hp=>?_,fun b u e=>?_,by simpa using I.len⟩
 ·exact (hs.2 b (hb0 b o e)).trans (I.base.keep b o e n hb hx)
 ·obtain⟨sl,e1⟩:=I.base.slot b o e n hb hx
  exact⟨sl,(hs.2 b (hb0 b o e)).trans e1⟩
 ·obtain⟨o',e1⟩:=I.base.there b o e hx
  exact⟨o',(hs.2 b (hb0 b o e)).trans e1⟩
 ·by_cases hj:j=i
  ·subst hj
   have hl:j < σ.length:=by rw[I.len];exact (List.getElem?_eq_some_iff.mp hi).1
   rw[List.getElem?_set_self hl] at e2;cases e2
  ·rw[List.getElem?_set_ne (Ne.symm hj)] at e2
   obtain⟨m1,hn1,hl1⟩:=I.loc
   obtain⟨u',r',q⟩:=hl1 j y v' e1 e2 e3
   refine⟨u',r',?_⟩
   rcases q with⟨k,e⟩ | ⟨k,c,e,z⟩
   ·refine .inl ⟨k,?_⟩
    have ne:y ≠ n:=fun e=>hj (n4 hN e1 (e ▸ hi))
    simp only[ne,if_false]
    obtain⟨o1,es1,ep1,a1,a2,a3,a4⟩:=hn1
    obtain⟨o2,es2,ep2,b1,b2,b3,b4⟩:=hn
    rw[a1] at b1;cases b1
    rw[a2] at b2;cases b2
    rw[<- b4,a4,e]
   ·exact .inr ⟨k,c,e,z.sameBut hs (I.cne y c e)⟩
 ·obtain⟨w',z⟩:=I.cell y c e
  exact⟨w',z.sameBut hs (I.cne y c e)⟩
 ·obtain⟨e,n,ne,nf,d⟩:=I.pin p hp
  exact⟨(hs.2 p.1 ne).trans e,n,ne,nf,d⟩
 ·refine (I.hok b u e).stay (fun c w' hc q=>(hs.2 c ?_).trans q) (fun _ q=>q) fun _ _ q=>q
  rintro rfl
  rcases hc with rfl | hc
  ·rw[I.free] at e;cases e
  ·rw[I.free] at hc;cases hc
theorem Gc{M:Model}{A:Around}{E:Value->Shared->Prop}{K:W.Frag}{B:Addr}{Q:Bool->Shared->Prop}(kin:K.In s.heap)(XB:XBase K B)(e:W.mroIn K C (.ref B)=some true)(hx:∃ o,s.heap.get? x=some o/\o.cls=.ref C)(hq:Q true s):
  wpAny M A (excMatches (.ref x) (.ref B)) Q E s:=by
 obtain⟨o,hx,hc⟩:=hx
 unfold excMatches
 refine wpAny_bind ((W.looks_instIn kin XB.nt).at ?_)
 simp only[Bool.false_eq_true,if_false]
 refine wpAny_bind (wpAny_pure ?_)
 have L1:W.Looks M s.heap (isExcClass (.ref B)) true:=by
  intro A' Q' E' s' k q
  unfold isExcClass
  refine wpAny_bind (oH kin XB.is _ _ _ _ k ?_)
  simp only[if_true]
  exact W.looks_mroIn kin XB.be _ _ _ _ k q
 simp only[List.forIn_cons,List.forIn_nil]
 refine wpAny_bind (wpAny_bind (wpAny_bind (L1.at ?_)))
 simp only[Bool.not_true,Bool.false_eq_true,if_false]
 refine wpAny_pure ?_
 refine wpAny_pure ?_
 refine wpAny_bind ((mB hx hc).at ?_)
 refine wpAny_bind (wpAny_bind (wpAny_bind ((W.looks_mroIn kin e).at ?_)))
 simp only[if_true]
 refine wpAny_pure ?_
 refine wpAny_pure ?_
 exact wpAny_pure hq
theorem ur{e:Value}(I:L2.Inv X J0 σ H s):L2.Inv { X with A:=X.A.mark (some e),calm:=false,xe:=fun _ _=>False } J0 σ H s :=
 ⟨⟨I.ok.mod,I.ok.kind,I.ok.glob,I.ok.blt,I.ok.above,I.ok.inj,I.ok.has,I.ok.cab,(fun z=>nomatch z),I.ok.frames,I.ok.stk,I.ok.exf,I.ok.bs,I.ok.bsz,I.ok.noex,I.ok.exfs,I.ok.funs,I.ok.frf⟩,I.os,I.bare,I.base,I.loc,I.cell,I.free,I.freeC,I.pin,I.hok,I.len⟩
theorem Gd{e:Value}(I0:L2.Inv X J0 σ H s){σ1:St}{H1:Hp}{s1:Shared}(I:L2.Inv { X with A:=X.A.mark (some e),calm:=false,xe:=fun _ _=>False } J0 σ1 H1 s1):L2.Inv X J0 σ1 H1 s1 :=
 ⟨I0.ok,I.os,I.bare,I.base,I.loc,I.cell,I.free,I.freeC,I.pin,I.hok,I.len⟩
theorem ut{E:XK}{e:Value}{s':Shared}{D:Ends}{E0:Value->Shared->Prop}{cn n:Str}{c j:Nat}{pc pn pa ph pf:Pos}(xt:bT X.K=true)(hN:X.N.Nodup)(hc:X.N[c]?=some cn)(hj:X.N[j]?=some n)(hcj:c ≠ j)(lc:X.env.scope.names.lookup cn=some .local)(lj:X.env.scope.names.lookup n=some .local)(kj:X.env.kindOf n=some .local)(hg:Gl X "FareError")(hst:X.stack=X.env::X.outer)(hfr:X.env.frame=some X.env.locals)(hex:X.ex=[])(hdb:(n == ("__debug__" : Str))=false)(hcd:(n == ("__classdict__" : Str))=false)(hsw:swapsWith (.Name n pn) (some (.Name cn pc)) pa.line X.env=pure false)(hF:Fl X J0 σ E e s')(hD:∀ x C H2,H2 x=some (dC x C)->E (.ref x) (some C) H2->(∃ nm ∈ XS,W.nsIn X.K mainGlobals nm=some (some (.ref C)))/\D.nx ((σ.set j none).set c (some (.ref x))) H2):
  wpAny (model X.prog X.w) X.A (noteFrame e X.env) (fun _ s2=>wpAny (model X.prog X.w) X.A (setFlight e none) (fun _ s3 =>
   wpAny (model X.prog X.w) X.A (handleBy e X.env [.ExceptHandler (some (.Name "FareError" pf)) (some n) [.Assign [.Name cn pc] (.Name n pn) pa] ph]) (SP X J0 D) E0 s3) E0 s2) E0 s':=by
 obtain⟨H1,s1,I,x,C,H2,B,a0,rfl,os,bare,un,hok,hfl,c1,c2,hx,hE1⟩:=hF
 obtain⟨hh,g,d,t,os'⟩:=s'
 obtain rfl:os'=s1.os:=os
 have I2:L2.Inv X J0 σ H2 { s1 with heap:=hh,gens:=g,drawn:=d,toks:=t }:=I.call (h':=hh) (g':=g) (d':=d) (t':=t) (ch:=[]) un hok bare (fun b z=>absurd z (by simp))
 obtain⟨⟨nm,hnm,hns⟩,hnx⟩:=hD x C H2 hx hE1
 obtain⟨B0,XB,hall⟩:=kq xt
 obtain⟨C',hns',O,hmro,_⟩:=hall nm hnm
 rw[hns] at hns'
 obtain rfl:C=C':=by cases hns';rfl
 have hmB:X.mg "FareError" = some (.ref B0):=W.mg_of I.ok.mod.kin I.ok.mod.glob XB.ns
 have hfl':Heap.FlyingW B (X.env::X.outer) x (.ref C) a0 hh:=by rw[<- hst];exact hfl
 have c2':∀ b o,X.s₀.heap.get? b=some o->b ∉ frs X.outer->B.get? b ≠ none:=fun b o e hb=>by
  obtain⟨o',q⟩:=I.base.there b o e (by rw[hex];exact fun z=>nomatch z)
  refine c2 b o' q fun z=>?_
  rcases List.mem_cons.mp (I.stkSub b z) with e1 | e1
  ·have:=I.ok.above
   rw[<- e1] at this
   exact absurd (Nat.lt_of_lt_of_le (Heap.lt_size e) this) (Nat.lt_irrefl _)
  ·exact hb e1
 have c3:∀ p ∈ X.pn++J0,B.get? p.1 ≠ none:=fun p hp=>by
  obtain⟨e,_,ne,nf,_⟩:=I.pin p hp
  refine c2 p.1 p.2 e fun z=>?_
  rcases List.mem_cons.mp (I.stkSub _ z) with e1 | e1
  ·exact ne e1
  ·exact nf e1
 refine PySem.wpAny_looks_onW (by rw[<- hst];exact I.ok.frames) hfr hfl' fun h3 q3 u3=>?_
 refine PySem.wpAny_landsW q3 fun h4 q4 u4=>?_
 have u34:=u3.trans u4
 have I4:L2.Inv X J0 σ H2 { s1 with heap:=h4,gens:=g,drawn:=d,toks:=t }:=uq (s:={ s1 with heap:=hh,gens:=g,drawn:=d,toks:=t }) I2 hx hfl'.1 q4.1 q4.there u34 c1 c2' c3 hex
 refine wpAny_handleBy_cons (codeAny_handlers_test ?_) (fun z=>nomatch z)
 refine gt (ur (e:=.ref x) I4) hg hmB ?_
 refine Gc I4.kIn XB hmro q4.there ?_
 refine codeAny_handlers_suite_as ?_
 refine lands_againW q4 fun h5 q5 u5=>?_
 have I5:L2.Inv X J0 σ H2 { s1 with heap:=h5,gens:=g,drawn:=d,toks:=t }:=uq (s:={ s1 with heap:=h4,gens:=g,drawn:=d,toks:=t }) I4 hx q4.1 q5.1 q5.there u5 c1 c2' c3 hex
 refine kW I5 hN hj (.inl lj) (v:=.ref x) rfl (fun s6 I6=>?_) (.inr lj)
 have hj':j < σ.length:=by rw[I5.len];exact (List.getElem?_eq_some_iff.mp hj).1
 have P:=kX (jr (X:={ X with A:=X.A.mark (some (.ref x)),calm:=false,xe:=fun _ _=>False }) hN hc (.inl lc) (iE (pos:=pn) hj (.inl lj) hdb hcd) hsw (.inr lc)) J0 s6 _ H2 ⟨fun σ7 H7=>σ7=(σ.set j (some (.ref x))).set c (some (.ref x))/\H7=H2,fun _ _=>False,fun _ _=>False,fun _ _=>False⟩ (ur (e:=.ref x) I6) ⟨.ref x,List.getElem?_set_self hj',rfl,rfl⟩
 refine wpAny_mono P (fun f s7 h7=>?_) fun _ _ z=>False.elim z
 cases f with
 | brk=>obtain⟨_,_,_,z⟩:=h7;exact z.elim
 | cont=>obtain⟨_,_,_,z⟩:=h7;exact z.elim
 | ret v=>obtain⟨_,_,_,_,_,z⟩:=h7;exact z.elim
 | next =>
   obtain⟨σ7,H7,I7,rfl,rfl⟩:=h7
   have I7:=Gd I6 I7
   obtain⟨m,hn,_⟩:=id I7.loc
   refine wpAny_nameGoes_keeps kj hn (by rw[I.ok.kind];rfl) fun h8 v hn8 hs8=>?_
   have I8:=Gb (t':=s7.toks+1) I7 hN hj hn hn8 hs8
   refine⟨_,_,I8,?_⟩
   rw[List.set_comm _ _ hcj,List.set_set]
   exact hnx
end
section
variable {X:Cx}{a:Expr}{te:NEX}{pos p2 pc pn pa ph pf p3:Pos}{x cn n:Str}
theorem EnvN.gone{K:W.Frag}{P:Hp}{m:Nat}{σ:St}{ρ:am}{H:Hp}{M:Sto}(h:EnvN K P m σ ρ H M){j:Nat}:EnvN K P m (σ.set j none) (ρ.set j none) H M :=
 ⟨⟨fun k e q=>by
   by_cases e1:k=j
   ·subst e1
    have hl:k < ρ.length:=by have:=(List.getElem?_eq_some_iff.mp q).1;simpa using this
    rw[List.getElem?_set_self hl] at q
    cases q
   ·rw[List.getElem?_set_ne (Ne.symm e1)] at q
    obtain⟨v',h1,h2⟩:=h.q.env k e q
    exact⟨v',by rw[List.getElem?_set_ne (Ne.symm e1)];exact h1,h2⟩,h.q.ok⟩,h.same,by rw[List.length_set];exact h.lσ,by rw[List.length_set];exact h.lρ⟩
theorem uv{K:W.Frag}{P:Hp}{m:Nat}{σ:St}{ρ:am}{H H2:Hp}{M:Sto}{Ew:EndN}{De:Ends}{c j:Nat}{y C:Addr}(hE:EnvN K P m σ ρ H M)(hl:LeE Ew (j6 K P m De))(hy:H2 y=some (dC y C))(h:EXK K (PH H M) (fun x M1=>∀ a,M1 a=none->Ew.nx ((ρ.set j none).set c (some (.ptr a))) (aP M1 a (.exn a x))) (.ref y) (some C) H2):
  (∃ nm ∈ XS,W.nsIn K mainGlobals nm=some (some (.ref C)))/\De.nx ((σ.set j none).set c (some (.ref y))) H2:=by
 obtain⟨b,nm,M1,C1,e1,e2,hns,hxs,hex,hsame,hok⟩:=h
 obtain rfl:y=b:=by cases e1;rfl
 obtain rfl:C=C1:=by cases e2;rfl
 refine⟨⟨nm,hxs,hns⟩,?_⟩
 obtain⟨s1,ok1⟩:=km (c:=.exn y nm) hok uk FT hy ⟨C,rfl,hns⟩
 exact hl.nx _ _ (hex y (hok.fresh uk)) _ _ (((hE.next ⟨hsame.trans s1,ok1⟩).gone (j:=j)).set (.ptr y))
theorem Ge(i c j:Nat)(xt:bT X.K=true)(hN:X.N.Nodup)(he:NX X a te)(hi:X.N[i]?=some x)(hx:Loc X.env.scope x)(hs:swapsWith a (some (.Name x p2)) p3.line X.env=pure false)(hfn:X.fn x=true\/X.env.scope.names.lookup x=some .local)(hc:X.N[c]?=some cn)(hj:X.N[j]?=some n)(hcj:c ≠ j)(lc:X.env.scope.names.lookup cn=some .local)(lj:X.env.scope.names.lookup n=some .local)(kj:X.env.kindOf n=some .local)(hg:Gl X "FareError")(hst:X.stack=X.env::X.outer)(hfr:X.env.frame=some X.env.locals)(hex:X.ex=[])(hdb:(n == ("__debug__" : Str))=false)(hcd:(n == ("__classdict__" : Str))=false)(hsw:swapsWith (.Name n pn) (some (.Name cn pc)) pa.line X.env=pure false):
  NS X (.Try [.Assign [.Name x p2] a p3] [.ExceptHandler (some (.Name "FareError" pf)) (some n) [.Assign [.Name cn pc] (.Name n pn) pa] ph] [] [] pos) (gM c j (gL i te)):=by
 intro P m J0 s σ H De I ⟨ρ,M,Ew,hE,ht,hl⟩
 refine wpAny_Try_except (wpAny_mono (wpAny_execs_cons (wpAny_Assign_Name (thn (he J0 s σ H (fun v H1=>∃ d M1,PostW X.K H M d v H1 M1/\Ew.nx (ρ.set i (some d)) M1) _ I ⟨ρ,M,_,_,hE.q,ht,fun d M1 h1 v H1 p1=>⟨d,M1,p1,h1⟩,fun v c H' z=>z⟩) fun v s1 ⟨y,H1,I1,r1,d,M1,p1,h1⟩=>?_) hs)) (fun f s1 h1=>h1) fun e s1 hF=>?_)
 ·exact kW I1 hN hi hx r1 (fun s2 I2=>wpAny_execs_nil (wpAny_execs_nil ⟨_,H1,I2,hl.nx _ M1 h1 _ H1 ((hE.next p1.toPostT).set p1.rep)⟩)) hfn
 ·exact ut xt hN hc hj hcj lc lj kj hg hst hfr hex hdb hcd hsw hF fun y C H2 hy z=>uv hE hl hy z
theorem Gf(c j:Nat)(xt:bT X.K=true)(hN:X.N.Nodup)(he:NX X a te)(hs:swapsWith a none p3.line X.env=pure false)(hc:X.N[c]?=some cn)(hj:X.N[j]?=some n)(hcj:c ≠ j)(lc:X.env.scope.names.lookup cn=some .local)(lj:X.env.scope.names.lookup n=some .local)(kj:X.env.kindOf n=some .local)(hg:Gl X "FareError")(hst:X.stack=X.env::X.outer)(hfr:X.env.frame=some X.env.locals)(hex:X.ex=[])(hdb:(n == ("__debug__" : Str))=false)(hcd:(n == ("__classdict__" : Str))=false)(hsw:swapsWith (.Name n pn) (some (.Name cn pc)) pa.line X.env=pure false):
  NS X (.Try [.Expr a p3] [.ExceptHandler (some (.Name "FareError" pf)) (some n) [.Assign [.Name cn pc] (.Name n pn) pa] ph] [] [] pos) (gM c j (mn te)):=by
 intro P m J0 s σ H De I ⟨ρ,M,Ew,hE,ht,hl⟩
 refine wpAny_Try_except (wpAny_mono (wpAny_execs_cons (wpAny_Expr_any (thn (he J0 s σ H (fun v H1=>∃ d M1,PostW X.K H M d v H1 M1/\Ew.nx ρ M1) _ I ⟨ρ,M,_,_,hE.q,ht,fun d M1 h1 v H1 p1=>⟨d,M1,p1,h1⟩,fun v c H' z=>z⟩) fun v s1 ⟨y,H1,I1,r1,d,M1,p1,h1⟩=>?_) I.quiet hs)) (fun f s1 h1=>h1) fun e s1 hF=>?_)
 ·exact wpAny_execs_nil (wpAny_execs_nil ⟨σ,H1,I1,hl.nx _ M1 h1 _ H1 (hE.next p1.toPostT)⟩)
 ·exact ut xt hN hc hj hcj lc lj kj hg hst hfr hex hdb hcd hsw hF fun y C H2 hy z=>uv hE hl hy z
end
section
variable {X:Cx}{a b:Expr}{ta tb tv:NTE}{tas:NTA}{pos pos2 p p2 p3:Pos}{x y f:Str}{ns:List Str}{k:Nat}
theorem uw{K:W.Frag}{H:Hp}{M:Sto}{q:Addr}{nm:Str}(h:MOk K H M)(ha:M q=some (.exn q nm)):∃ C,H q=some (dC q C)/\W.nsIn K mainGlobals nm=some (some (.ref C)):=by
 obtain⟨o,h1,h2⟩:=h q _ ha
 cases o with
 | ext φ=>obtain⟨C,rfl,hn⟩:=h2;exact⟨C,h1,hn⟩
 | _=>exact h2.elim
theorem ux{P:Program}{w:World}{H:Hp}{h:Heap}{q C:Addr}(hok:HOk P w H h)(e:H q=some (dC q C)):∃ o,h.get? q=some o/\o.cls=.ref C:=(hok q _ e).1
theorem Gg(xt:bT X.K=true):CallR X (.builtin "isinstance") (fun xs H Q=>∃ q C D nm y,xs=[.ref q,.ref D]/\H q=some (dC q C)/\nm ∈ XS/\y ∈ XS/\W.nsIn X.K mainGlobals nm=some (some (.ref C))/\W.nsIn X.K mainGlobals y=some (some (.ref D))/\Q (.bl (decide (nm=y))) H):=by
 intro J0 s σ H xs us Q I r h
 obtain⟨q,C,D,nm,y,rfl,hq,hnm,hy,n1,n2,hQ⟩:=h
 obtain⟨u,w,rfl,ru,rw'⟩:=jv r
 cases ru;cases rw'
 have th:=ux I.hok hq
 obtain⟨B,XB,hall⟩:=kq xt
 obtain⟨C',m1,O,_,h2⟩:=hall nm hnm
 rw[n1] at m1
 obtain rfl:C=C':=by cases m1;rfl
 obtain⟨D',m2,hm,hne⟩:=h2 y hy
 rw[n2] at m2
 obtain rfl:D=D':=by cases m2;rfl
 obtain⟨D',m3,OD,_,_⟩:=hall y hy
 rw[n2] at m3
 obtain rfl:D=D':=by cases m3;rfl
 by_cases e:nm=y
 ·subst e
  rw[n1] at n2
  obtain rfl:C=D:=by cases n2;rfl
  refine FR I.kIn th ⟨.bl _,H,I,?_,hQ⟩
  rw[decide_eq_true rfl];rfl
 ·rw[decide_eq_false e] at hm hQ
  exact FP I.kIn O OD th (hne e) hm ⟨.bl false,H,I.tok _,rfl,hQ⟩
theorem Gh(xt:bT X.K=true):CallR X (.builtin "isinstance") (fun xs H Q=>∃ q C nm,xs=[.ref q,.ty "ValueError"]/\H q=some (dC q C)/\nm ∈ XS/\W.nsIn X.K mainGlobals nm=some (some (.ref C))/\Q (.bl true) H):=by
 intro J0 s σ H xs us Q I r h
 obtain⟨q,C,nm,rfl,hq,hnm,n1,hQ⟩:=h
 obtain⟨u,w,rfl,ru,rw'⟩:=jv r
 cases ru;cases rw'
 obtain⟨B,XB,hall⟩:=kq xt
 obtain⟨C',m1,O,_,h2⟩:=hall nm hnm
 rw[n1] at m1
 obtain rfl:C=C':=by cases m1;rfl
 exact FQ I.kIn O (ux I.hok hq) ⟨.bl true,H,I,rfl,hQ⟩
theorem Gi(xt:bT X.K=true)(mi:X.mg "isinstance" = none)(ha:NE X a ta)(hy:y ∈ XS)(hg:Gl X "isinstance")(hgT:Gl X y)(hd:(y == ("__debug__" : Str))=false)(hs:starEach [a,.Name y p2] X.env=(false,eval a X.env)::starEach [.Name y p2] X.env)(hs2:starEach [.Name y p2] X.env=(false,eval (.Name y p2) X.env)::starEach [] X.env)(hpl:(backTo pos (starEach [.Name y p2] X.env)).any (·.1)=false):
  NE X (.Call (.Name "isinstance" p) [a,.Name y p2] [] pos) (dP y ta):=by
 intro J0 s σ H Q I ⟨ρ,M,QW,hE,ht,hQ⟩
 obtain⟨B,XB,hall⟩:=kq xt
 obtain⟨D,n2,_⟩:=hall y hy
 have hm:X.mg y=some (.ref D):=W.mg_of I.ok.mod.kin I.ok.mod.glob n2
 refine jw (Gg xt) hg mi (by decide +kernel) (cN ha (cN (qo (v:=.ref D) hgT hm rfl hd) dG hs2) hs) (by decide) (by decide) hs hpl J0 s σ H Q I ⟨ρ,M,_,hE,ht,fun d M1 ⟨q,nm,ed,hc,hnm,h1⟩ v H1 p1=>?_⟩
 subst ed
 cases p1.rep
 obtain⟨C,g1,g2⟩:=uw p1.ok hc
 exact⟨q,C,D,nm,y,rfl,g1,hnm,hy,g2,n2,hQ _ M1 h1 _ H1 ⟨p1.toPostT,.bl _⟩⟩
theorem Gj(xt:bT X.K=true)(mi:X.mg "isinstance" = none)(mv:X.mg "ValueError" = none)(ha:NE X a ta)(hg:Gl X "isinstance")(hgT:Gl X "ValueError")(hs:starEach [a,.Name "ValueError" p2] X.env=(false,eval a X.env)::starEach [.Name "ValueError" p2] X.env)(hs2:starEach [.Name "ValueError" p2] X.env=(false,eval (.Name "ValueError" p2) X.env)::starEach [] X.env)(hpl:(backTo pos (starEach [.Name "ValueError" p2] X.env)).any (·.1)=false):
  NE X (.Call (.Name "isinstance" p) [a,.Name "ValueError" p2] [] pos) (mo ta) :=
 aM (jw (Gh xt) hg mi (by decide +kernel) (cN ha (cN (qp (v:=.ty "ValueError") hgT mv (by decide +kernel) rfl (by decide) (by decide)) dG hs2) hs) (by decide) (by decide) hs hpl) fun σ H Q ⟨ρ,M,QW,hE,ht,hQ⟩=>⟨ρ,M,_,hE,ht,fun d M1 ⟨q,nm,ed,hc,hnm,h1⟩ v H1 p1=>by
  subst ed
  cases p1.rep
  obtain⟨C,g1,g2⟩:=uw p1.ok hc
  exact⟨q,C,nm,rfl,g1,hnm,g2,hQ _ M1 h1 _ H1 ⟨p1.toPostT,.bl _⟩⟩⟩
theorem Gm(K:W.Frag):OpV K se bh:=by
 intro x y H dx dy d Q rx ry hg hQ
 cases dx with
 | lst ds =>
   cases dy with
   | lst es' =>
     obtain⟨hl,rfl⟩:=de hg
     obtain⟨p,xs,rfl,hp,hx,hA⟩:=jI rx
     obtain⟨p',ys,rfl,hp',hy,hA'⟩:=jI ry
     refine⟨p,p',xs,ys,rfl,rfl,hp,hp',by rw[hx.length,hy.length];exact nI hl,fun r hr=>hQ _ _ (bG hr _) (.lst (.inl br) (aU (bG hr _) (hx.append hy))) fun A hD r1 r2=>?_⟩
     have na:¬ A r:=fun z=>hD r z hr
     refine .lst (.inl (by rw[bC na];exact br)) (aU (cO (bG hr _) fun _ z=>z) ((sw hp r1).append (sw hp' r2)))
   | _=>cases hg
 | _=>cases hg
theorem Gn(ha:NE X a ta)(hb:NE X b tb):NE X (.BinOp a .Add b pos) (n2 bh ta tb):=mw sg (Gm X.K) ha hb
theorem Go(ml:X.mg "list" = none)(mr:X.mg "range" = none)(ha:NA X [a] tas)(hc:X.calm=true)(hgl:Gl X "list")(hgr:Gl X "range")(hs:starEach [a] X.env=[(false,eval a X.env)])(hs2:starEach [.Call (.Name "range" p2) [a] [] pos2] X.env=[(false,eval (.Call (.Name "range" p2) [a] [] pos2) X.env)]):
  NE X (.Call (.Name "list" p) [.Call (.Name "range" p2) [a] [] pos2] [] pos) (eK fZ tas) :=
 aM (sU hc hgl ml hgr mr ha hs hs2) fun σ H Q ⟨ρ,M,QW,hE,ht,hQ⟩=>⟨ρ,M,_,hE,ht,fun ds M1 ⟨d,hf,h1⟩ vs H1 p=>by
  match ds,hf,p with
  | [.int j],hf,p =>
    obtain⟨hj,rfl⟩:=de hf
    obtain⟨v,rfl,r⟩:=e8 p.rep
    cases r
    refine⟨j,rfl,hj.1,hj.2,fun l hl=>hQ _ _ h1 _ _ ⟨p.toPostT.trans (PostT.of p.ok (bG hl _)),?_⟩⟩
    have hn:=p.ok.fresh hl
    have:=Reps.ints (K:=X.K) (H:=PH (upd H1 l (.lst ((List.range j.toNat).map fun k=>V.int (k:Nat)))) M1) ((List.range j.toNat).map fun (k:Nat)=>(k:Int))
    rw[List.map_map,List.map_map] at this
    refine .lst (.inl ?_) this
    rw[PH.of hn];exact br⟩
theorem Gp(mi:X.mg "int" = none)(ha:NA X [a] tas)(hg:Gl X "int")(he:starEach [a] X.env=(false,eval a X.env)::starEach [] X.env)(hpl:(backTo pos (starEach [] X.env)).any (·.1)=false):
  NE X (.Call (.Name "int" p) [a] [] pos) (da (aI fq) tas) :=
 aM (nv qX hg mi (by decide +kernel) ha (by decide) (by decide) he hpl) fun σ H Q ⟨ρ,M,QW,hE,ht,hQ⟩=>⟨ρ,M,_,hE,ht,fun ds M1 ⟨d,hf,_,h1⟩ vs H1 p=>by
  obtain⟨x,ex,hg1⟩:=iP hf
  have rr:=oB p.ok p.rep
  rw[ex] at rr
  obtain⟨v,rfl,r1⟩:=e8 rr
  cases r1 <;> first | (cases hg1;done) | skip
  ·cases hg1
   exact .inr ⟨_,rfl,hQ _ M1 h1 _ H1 ⟨p.toPostT,.int _⟩⟩
  ·cases hg1
   exact .inl ⟨_,rfl,hQ _ M1 h1 _ H1 ⟨p.toPostT,.int _⟩⟩⟩
theorem uy:∀ {ns:List Str} {vs:List V} {f:Str},¬ f ∈ ns->bX (aT ns vs) (Sum.inr f:Key)=none
 | [],_,_,_=>rfl
 | _::_,[],_,_=>rfl
 | n::ns,w::vs,f,h=>by
   have ne:¬ ((Sum.inr n:Key)=Sum.inr f):=fun q=>h (Sum.inr.inj q ▸ List.mem_cons_self)
   have ih:=uy (vs:=vs) fun z=>h (List.mem_cons_of_mem n z)
   show bX ((Sum.inr n,w)::aT ns vs) _=none
   unfold bX at ih ⊢
   simp[ne,ih]
theorem Gq{j}(hr:Room k X.A)(ha:NE X a ta)(hv:NE X b tv)(hi:¬ f ∈ ns)(hlt:ns.length < 1000)(hs:swapsWith b (some (.Subscript a (.Constant (.str f) j p3) p2)) pos.line X.env=pure false):
  NS X (.Assign [.Subscript a (.Constant (.str f) j p3) p2] b pos) (kl ns f ta tv):=fun P n =>
 bu (rQ (by have:=hr.un;omega) ha iF hv hs) fun De σ H ⟨ρ,M,Ew,hE,ht,hl⟩=>⟨ρ,M,_,hE.q,ht,fun d M1 h1 v H1 p1=>⟨ρ,M1,_,hE.q.next p1.toPostT,h1,fun x M2 ⟨q,ds,ex,hm,h2⟩ vx H2 p2=>by
  subst ex
  cases p2.rep
  obtain⟨vs,g1,gl,g2⟩:=oA p2.ok hm
  have rv:=aH p2.same p1.rep
  have hz:(aT ns vs).length < sizeLine:=by
   have:(aT ns vs).length=ns.length:=by simp[aT,gl]
   rw[this,sizeLine_eq];omega
  refine⟨q,_,rfl,.inl ⟨_,.inr f,g1,rfl,hz,rfl⟩,?_⟩
  have ez:aT ns vs++[(Sum.inr f,v)]=aT (ns++[f]) (vs++[v]):=by
   unfold aT
   rw[List.zip_append gl.symm,List.map_append]
   rfl
  rw[rL _ (uy hi),ez]
  obtain⟨e1,e2⟩:=j4 (o:=.dK (aT (ns++[f]) (vs++[v]))) (c:=.dic (ns++[f]) (ds++[d])) p2.ok hm ⟨_,rfl,by simp[gl],g2.append (.cons rv .nil)⟩
  exact hl.nx _ _ h2 σ _ ((hE.next (p1.toPostT.trans p2.toPostT)).next ⟨e1,e2⟩)⟩⟩
end
end VL
namespace VL
open PySem PySem.Spec PyProof.Rows L2
structure YE (X:Cx) (e:Expr) (t:NTE):Prop where
 h:NE X e t
structure YT (X:Cx) (e:Expr) (t:NTB):Prop where
 h:NT X e t
structure YW (X:Cx) (e:Expr) (t:NTB):Prop where
 h:NW X e t
structure YA (X:Cx) (e:List Expr) (t:NTA):Prop where
 h:NA X e t
structure YS (X:Cx) (st:Stmt) (t:NTS):Prop where
 h:NS X st t
structure YSs (X:Cx) (st:List Stmt) (t:NTS):Prop where
 h:NSs X st t
structure YX (X:Cx) (e:Expr) (t:NEX):Prop where
 h:NX X e t
structure YM (X:Cx) (P:Hp) (EX:QX) (st:Stmt) (t:NTS):Prop where
 h:MS X P EX st t
structure YMs (X:Cx) (P:Hp) (EX:QX) (st:List Stmt) (t:NTS):Prop where
 h:MSs X P EX st t
structure YP (X:Cx) (pos:Pos) (keys:List (Option Expr)) (vals:List Expr) (ns:List Str) (as:FEs) (es:List Es):Prop where
 h:PPV X pos keys vals ns as es
section
variable {X:Cx}{a b c:Expr}{ta tb:NTE}{pos p2:Pos}{es:List Es}{fa:FE}
theorem ae(h:JE X a fa es):YE X a (nP fa):=⟨oy h.h⟩
theorem cr{f:am->Option Bool}(h:JT X a f):YT X a (nPB f):=⟨Eh h.h⟩
theorem dQ(ha:YE X a ta)(hb:YE X b tb):YE X (.BinOp a .Add b pos) (n2 aV ta tb):=⟨Ei ha.h hb.h⟩
theorem j7(ha:YE X a ta)(hb:YE X b tb):YE X (.BinOp a .Sub b pos) (n2 bH ta tb):=⟨Ej ha.h hb.h⟩
theorem uz(ha:YE X a ta)(hb:YE X b tb):YE X (.BinOp a .Mult b pos) (n2 cH ta tb):=⟨Ek ha.h hb.h⟩
theorem Gr(ha:YE X a ta)(hb:YE X b tb):YE X (.Compare a [.Gt] [b] pos) (n2 gtI ta tb):=⟨El ha.h hb.h⟩
theorem kr{k:Nat}(hr:Room k X.A)(ha:YE X a ta)(hb:YE X b tb):YE X (.Compare a [.Eq] [b] pos) (n2 eqD ta tb):=⟨ne_eq hr ha.h hb.h⟩
theorem oM{k:Nat}(hr:Room k X.A)(ha:YE X a ta)(hb:YE X b tb):YT X (.Compare a [.Eq] [b] pos) (cT (n2 eqD ta tb)):=⟨Em hr ha.h hb.h⟩
theorem Gs{k:Nat}(hr:Room k X.A)(ha:YE X a ta)(hb:YE X b tb):YT X (.Compare a [.NotEq] [b] pos) (cT (n2 neD ta tb)):=⟨En hr ha.h hb.h⟩
theorem uA{j}(ha:YE X a ta):YT X (.Compare a [.Is] [.Constant .none j p2] pos) (cT (n1 df ta)):=⟨Et ha.h⟩
theorem Gu{j}(ha:YE X a ta):YT X (.Compare a [.IsNot] [.Constant .none j p2] pos) (cT (n1 cZ ta)):=⟨Eu ha.h⟩
variable {ka kb:NTB}{az:List Expr}
theorem fy(h:YE X a ta)(he:∀ whole,isTrue a X.env whole=(do let v <- whole;standAt a.pos;holding [v] (truthy v)):=by intro _;rfl):YT X a (du ta):=⟨Ev h.h he⟩
theorem uB(ha:YT X a ka):YW X (.BoolOp .And [a] pos) ka:=⟨Ex ha.h⟩
theorem Gv(ha:YT X a ka):YW X (.BoolOp .Or [a] pos) ka:=⟨Ey ha.h⟩
theorem uC(ha:YT X a ka)(hb:YW X (.BoolOp .And (b::az) pos) kb):YW X (.BoolOp .And (a::b::az) pos) (j1 ka kb):=⟨Ez ha.h hb.h⟩
theorem Gw(ha:YT X a ka)(hb:YW X (.BoolOp .Or (b::az) pos) kb):YW X (.BoolOp .Or (a::b::az) pos) (nOr ka kb):=⟨EA ha.h hb.h⟩
theorem oN(h:YW X a ka):YT X a ka:=⟨EB h.h⟩
theorem j8(ha:YT X a ka):YT X (.UnaryOp .Not a pos) (eu ka):=⟨EC ha.h⟩
theorem Gx(hc:YT X c ka)(ha:YE X a ta)(hb:YE X b tb):YE X (.IfExp c a b pos) (nIf ka ta tb):=⟨ED hc.h ha.h hb.h⟩
theorem oO{op}(h:YE X a ta):YE X (.BoolOp op [a] pos) ta:=⟨EE h.h⟩
theorem uD(ha:YE X a ta)(hb:YE X (.BoolOp .And (b::az) pos) tb):YE X (.BoolOp .And (a::b::az) pos) (kc ta tb):=⟨EF ha.h hb.h⟩
theorem Gy(ha:YE X a ta)(hb:YE X (.BoolOp .Or (b::az) pos) tb):YE X (.BoolOp .Or (a::b::az) pos) (m9 ta tb):=⟨EG ha.h hb.h⟩
variable {xs:List Expr}{tas:NTA}
theorem aD: YA X [] aw:=⟨EH ⟩
theorem ak(ha:YE X a ta)(hr:YA X xs tas)(hs:starEach (a::xs) X.env=(false,eval a X.env)::starEach xs X.env:=by rfl):YA X (a::xs) (aj ta tas):=⟨EI ha.h hr.h hs⟩
theorem kt{x1}(h:YA X xs tas):YE X (.Tuple xs x1 pos) (g7 tas):=⟨EJ h.h⟩
theorem eD(h:YA X xs tas):YE X (.List xs pos) (dk tas):=⟨EK h.h⟩
theorem uE(h:JF X a fa es):YE X a (kf fa):=⟨EM h.h⟩
theorem dD(ha:YE X a ta)(hb:YE X b tb)(hs:jx b):YE X (.Subscript a b pos) (n2 ixD ta tb):=⟨EN ha.h hb.h hs⟩
theorem cU{k i:Nat}{ns:List Str}{x:Str}{j}(hr:Room k X.A)(ha:YE X a ta)(hs:lq (.Constant (.str x) j p2))(hn:ns.Nodup:=by decide +kernel)(hi:ns[i]?=some x:=by rfl):YE X (.Subscript a (.Constant (.str x) j p2) pos) (nDg ns i ta):=⟨EO hr ha.h hs hn hi⟩
theorem bE{i:Nat}{C:Addr}{ns:List Str}{f:Str}(c:Cls X.K C)(n:NoAttr X.K C f)(ha:YE X a ta)(hb:attributeBase a f X.env (eval a X.env)=eval a X.env:=by rfl)(hn:ns.Nodup:=by decide +kernel)(hi:ns[i]?=some f:=by rfl):YE X (.Attribute a f pos) (bv C ns i ta):=⟨EQ c n ha.h hb hn hi⟩
end
section
variable {X:Cx}{a b:Expr}{tb:NTE}{tas:NTA}{pos p ap:Pos}{k:Nat}{ps:List Str}{x m:Str}{es:List Expr}{T:NTF}{G:List D->Option D}{fr:Bool}{C:Addr}{ns:List Str}
theorem aX(d:DefN X.prog X.w X.K X.mg X.base x k ps T)(hr:Room k X.A)(ha:YA X (a::es) tas)(hg:Gl X x:=by rfl)(hdb:(x == ("__debug__" : Str))=false:=by decide)(he:starEach (a::es) X.env=(false,eval a X.env)::starEach es X.env:=by rfl)(hpl:(backTo pos (starEach es X.env)).any (·.1)=false:=by rfl):YE X (.Call (.Name x p) (a::es) [] pos) (aO T tas):=⟨ES d hr ha.h hg hdb he hpl⟩
theorem mC(d:Def X.prog X.w X.K X.mg X.base x k ps G fr)(hr:Room k X.A)(ha:YA X (a::es) tas)(hg:Gl X x:=by rfl)(hdb:(x == ("__debug__" : Str))=false:=by decide)(he:starEach (a::es) X.env=(false,eval a X.env)::starEach es X.env:=by rfl)(hpl:(backTo pos (starEach es X.env)).any (·.1)=false:=by rfl):YE X (.Call (.Name x p) (a::es) [] pos) (eK G tas):=⟨ET d hr ha.h hg hdb he hpl⟩
theorem Gz{pl:Sem Bool}(cl:Cls X.K C)(d:MetN X.prog X.w X.K X.mg X.base C m k ps T)(hr:Room k X.A)(ho:YE X b tb)(ha:YA X (a::es) tas)(hno:¬ m ∈ ns:=by decide +kernel)(hst:starEach (a::es) X.env=(false,eval a X.env)::starEach es X.env:=by rfl)(hpl:(backTo pos (starEach es X.env)).any (·.1)=false:=by rfl)(ht:eval (.Call (.Attribute b m ap) (a::es) [] pos) X.env=(do
   let ov <- eval b X.env
   standAt ap.atName
   let (f,first) <- holding [ov] (getMethod ov m pl)
   callWith pos f first (backTo pos (starEach (a::es) X.env)) (backToKw pos (keywordEach [] X.env))):=by rfl):YE X (.Call (.Attribute b m ap) (a::es) [] pos) (bJ C ns T tb tas):=⟨EU cl d hr ho.h ha.h hno hst hpl ht⟩
theorem cV{pl:Sem Bool}(cl:Cls X.K C)(d:MetN X.prog X.w X.K X.mg X.base C m k ps T)(hr:Room k X.A)(ho:YE X b tb)(hno:¬ m ∈ ns:=by decide +kernel)(ht:eval (.Call (.Attribute b m ap) [] [] pos) X.env=(do
   let ov <- eval b X.env
   standAt ap.atName
   let (f,first) <- holding [ov] (getMethod ov m pl)
   callWith pos f first (backTo pos (starEach [] X.env)) (backToKw pos (keywordEach [] X.env))):=by rfl):YE X (.Call (.Attribute b m ap) [] [] pos) (bJ C ns T tb aw):=⟨EV cl d hr ho.h hno ht⟩
theorem uF(d:MakN X.prog X.w X.K X.mg X.base x C k ps T)(hr:Room (k+1) X.A)(ha:YA X (a::es) tas)(hg:Gl X x:=by rfl)(hdb:(x == ("__debug__" : Str))=false:=by decide)(he:starEach (a::es) X.env=(false,eval a X.env)::starEach es X.env:=by rfl)(hpl:(backTo pos (starEach es X.env)).any (·.1)=false:=by rfl):YE X (.Call (.Name x p) (a::es) [] pos) (kh C T tas):=⟨EW d hr ha.h hg hdb he hpl⟩
end
section
variable {X:Cx}{a b c:Expr}{ta tv:NTE}{ka:NTB}{pos p2 p3:Pos}{k:Nat}{st:Stmt}{az body bs:List Stmt}{t u:NTS}{C:Addr}{ns:List Str}{x f:Str}{i:Nat}
theorem bV: YSs X [] sN:=⟨EY ⟩
theorem aB(h1:YS X st t)(h2:YSs X az u):YSs X (st::az) (au t u):=⟨EZ h1.h h2.h⟩
theorem aQ(h1:YS X st t):YSs X [st] t:=⟨F0 h1.h⟩
theorem bW(hc:YT X c ka)(ha:YSs X body t)(hb:YSs X bs u):YS X (.If c body bs pos) (b7 ka t u):=⟨F1 hc.h ha.h hb.h⟩
theorem aY(he:YE X a ta):YS X (.Return (some a) pos) (aS ta):=⟨F2 he.h⟩
theorem GA(i:Nat)(hN:X.N[i]?=some x:=by rfl)(hv:Vis X.env.scope x:=by first | exact Or.inl rfl | exact Or.inr (Or.inl rfl) | exact Or.inr (Or.inr rfl))(hd:(x == ("__debug__" : Str))=false:=by decide)(hcd:(x == ("__classdict__" : Str))=false:=by decide):YS X (.Return (some (.Name x p2)) pos) (ma i):=⟨F3 i hN hv hd hcd⟩
theorem aR(i:Nat)(hN:X.N.Nodup)(he:YE X a ta)(hi:X.N[i]?=some x:=by rfl)(hx:Loc X.env.scope x:=by first | exact Or.inl rfl | exact Or.inr rfl)(hs:swapsWith a (some (.Name x p2)) pos.line X.env=pure false:=by rfl)(hfn:X.fn x=true\/X.env.scope.names.lookup x=some .local:=by first | exact .inl rfl | exact .inr rfl):YS X (.Assign [.Name x p2] a pos) (aL i ta):=⟨F4 i hN he.h hi hx hs hfn⟩
theorem oP(is:List Nat){ts:List Expr}{k:Nat}(hc:X.calm=true)(hN:X.N.Nodup)(he:YE X a ta)(ht:Tgs X ts is)(hn:(assignEach ts X.env).length=is.length:=by rfl)(hst:(assignEach ts X.env).findIdx? (·.1)=none:=by rfl)(hs:swapsWithSole [.Tuple ts k p2] a pos.line X.env=pure false:=by rfl)(hw:swappedStores [.Tuple ts k p2] a X.env=pure none:=by rfl)(h1:(assignEach [.Tuple ts k p2] X.env).map (·.2)=[assign (.Tuple ts k p2) X.env]:=by rfl):YS X (.Assign [.Tuple ts k p2] a pos) (gK is ta):=⟨F5 is hc hN he.h ht hn hst hs hw h1⟩
theorem ku(cl:Cls X.K C)(nat:NoAttr X.K C f)(ha:YE X a ta)(hv:YE X b tv)(hn:ns.Nodup:=by decide +kernel)(hi:ns[i]?=some f:=by rfl)(hlt:ns.length < 1000:=by decide)(hs:swapsWith b (some (.Attribute a f p2)) pos.line X.env=pure false:=by rfl):YS X (.Assign [.Attribute a f p2] b pos) (g8 C ns i ta tv):=⟨F6 cl nat ha.h hv.h hn hi hlt hs⟩
theorem eO(cl:Cls X.K C)(nat:NoAttr X.K C f)(ha:YE X a ta)(hv:YE X b tv)(hi:¬ f ∈ ns:=by decide +kernel)(hlt:ns.length < 1000:=by decide)(hs:swapsWith b (some (.Attribute a f p2)) pos.line X.env=pure false:=by rfl):YS X (.Assign [.Attribute a f p2] b pos) (dO C ns f ta tv):=⟨F7 cl nat ha.h hv.h hi hlt hs⟩
theorem j9{j}(hr:Room k X.A)(ha:YE X a ta)(hv:YE X b tv)(hn:ns.Nodup:=by decide +kernel)(hi:ns[i]?=some f:=by rfl)(hlt:ns.length < 1000:=by decide)(hs:swapsWith b (some (.Subscript a (.Constant (.str f) j p3) p2)) pos.line X.env=pure false:=by rfl):YS X (.Assign [.Subscript a (.Constant (.str f) j p3) p2] b pos) (fv ns i ta tv):=⟨F9 hr ha.h hv.h hn hi hlt hs⟩
end
section
variable {X:Cx}{a b e:Expr}{ta tv ti:NTE}{tas:NTA}{pos p2 p3 ap cp pr pn:Pos}{body:List Stmt}{t tbd:NTS}{x:Str}
theorem gO(ha:YE X a ta)(he:YE X e tv)(hbase:attributeBase a "append" X.env (eval a X.env)=eval a X.env:=by rfl)(hfew:((backTo cp (starEach [e] X.env)).all (fun x=>!x.1) && (backToKw cp (keywordEach [] X.env)).all (fun x=>x.1.isSome)
   && decide (([e]:List Expr).length+([]:List Keyword).length+(if ([]:List Keyword).isEmpty then 0 else 1) < 30))=true:=by rfl)(hline:(ap.endLine == cp.line)=true:=by rfl)(hs:starEach [e] X.env=(false,eval e X.env)::starEach [] X.env:=by rfl)(hplain:(backTo cp (starEach [] X.env)).any (·.1)=false:=by rfl)(hsw:swapsWith (.Call (.Attribute a "append" ap) [e] [] cp) none pos.line X.env=pure false:=by rfl):YS X (.Expr (.Call (.Attribute a "append" ap) [e] [] cp) pos) (eM ta tv):=⟨Fa ha.h he.h hbase hfew hline hs hplain hsw⟩
theorem GB(ha':YE X a ta)(hb:YE X b ti)(he:YE X e tv)(ha:∀ v,assign (.Subscript a b p3) X.env v=(do
   let ov <- holding [v] (eval a X.env)
   let iv <- holding [v,ov] (eval b X.env)
   standAt p3
   holding [v,ov,iv] (setItem ov iv v)
   release [v,ov,iv] []):=by intro _;rfl)(hs:swapsWithSole [.Subscript a b p3] e pos.line X.env=pure false:=by rfl)(hw:swappedStores [.Subscript a b p3] e X.env=pure none:=by rfl)(h1:(assignEach [.Subscript a b p3] X.env).map (·.2)=[assign (.Subscript a b p3) X.env]:=by rfl):YS X (.Assign [.Subscript a b p3] e pos) (md ta ti tv):=⟨Fb ha'.h hb.h he.h ha hs hw h1⟩
theorem uG(t:Nat)(hN:X.N.Nodup)(hc:X.calm=true)(hi:YE X a ta)(hb:YSs X body tbd)(hp:PassesOwn (model X.prog X.w) X.A X.env X.xe:=by exact PassesOwn.never)(hxN:X.N[t]?=some x:=by rfl)(hx:Loc X.env.scope x:=by first | exact Or.inl rfl | exact Or.inr rfl)(hfn:X.fn x=true\/X.env.scope.names.lookup x=some .local:=by first | exact .inl rfl | exact .inr rfl)(hs:∀ x,foldedSetIterable a X.env x=pure x:=by intro _;rfl):YS X (.For (.Name x p2) a body [] pos) (ki t ta tbd):=⟨Fc t hN hc hi.h hb.h hp hxN hx hfn hs⟩
theorem GC(t:Nat)(hN:X.N.Nodup)(hc:X.calm=true)(mr:X.mg "range" = none)(hi:YA X [a] tas)(hb:YSs X body tbd)(hp:PassesOwn (model X.prog X.w) X.A X.env X.xe:=by exact PassesOwn.never)(hg:Gl X "range":=by rfl)(hst:starEach [a] X.env=[(false,eval a X.env)]:=by rfl)(hxN:X.N[t]?=some x:=by rfl)(hx:Loc X.env.scope x:=by first | exact Or.inl rfl | exact Or.inr rfl)(hfn:X.fn x=true\/X.env.scope.names.lookup x=some .local:=by first | exact .inl rfl | exact .inr rfl)(hs:∀ x,foldedSetIterable (.Call (.Name "range" pn) [a] [] pr) X.env x=pure x:=by intro _;rfl):YS X (.For (.Name x p2) (.Call (.Name "range" pn) [a] [] pr) body [] pos) (me t tas tbd):=⟨Fd t hN hc mr hi.h hb.h hp hg hst hxN hx hfn hs⟩
theorem GD(t:Nat)(hN:X.N.Nodup)(hc:X.calm=true)(mr:X.mg "range" = none)(hi:YA X [a,b] tas)(hb:YSs X body tbd)(hp:PassesOwn (model X.prog X.w) X.A X.env X.xe:=by exact PassesOwn.never)(hg:Gl X "range":=by rfl)(hst:starEach [a,b] X.env=[(false,eval a X.env),(false,eval b X.env)]:=by rfl)(hst2:starEach [b] X.env=[(false,eval b X.env)]:=by rfl)(hxN:X.N[t]?=some x:=by rfl)(hx:Loc X.env.scope x:=by first | exact Or.inl rfl | exact Or.inr rfl)(hfn:X.fn x=true\/X.env.scope.names.lookup x=some .local:=by first | exact .inl rfl | exact .inr rfl)(hs:∀ x,foldedSetIterable (.Call (.Name "range" pn) [a,b] [] pr) X.env x=pure x:=by intro _;rfl):YS X (.For (.Name x p2) (.Call (.Name "range" pn) [a,b] [] pr) body [] pos) (mf t tas tbd):=⟨Fe t hN hc mr hi.h hb.h hp hg hst hst2 hxN hx hfn hs⟩
end
section
variable {X:Cx}{a:Expr}{pos p2:Pos}{keys:List (Option Expr)}{vals:List Expr}{ns:List Str}{as:FEs}{ea eb:List Es}{fa:FE}{x:Str}
theorem uH: YP X pos [] [] [] aq []:=⟨Fh ⟩
theorem ja{j}(ha:JE X a fa ea)(hr:YP X pos keys vals ns as eb):YP X pos (some (.Constant (.str x) j p2)::keys) (a::vals) (x::ns) (ag fa as) (ea++eb):=⟨Fi ha.h hr.h⟩
theorem uI(h:YP X pos keys vals ns as ea)(hn:ns.Nodup:=by decide +kernel)(hall:keys.all (·.isSome)=true:=by rfl)(hl:keys.length=vals.length:=by rfl)(h0:keys ≠ []:=by simp)(h15:keys.length<=15:=by decide):YE X (.Dict keys vals pos) (kg ns as):=⟨Fj h.h hn hall hl h0 h15⟩
end
section
variable {X:Cx}{elt tg a:Expr}{scope:Scope}{cn:List Str}{J7:List Nat}{pos pr pn:Pos}{tas:NTA}{tel:NTE}{x y:Str}
theorem uJ(B:BlkOk X scope [y] J7 cn)(hc:X.calm=true)(mr:X.mg "range" = none)(hi:YA X [a] tas)(hg:∀ s H cl ex,PG (blk X ([y]++cn) s H scope cl ex) tg (cc 0))(he:∀ s H cl ex,YE (blk X ([y]++cn) s H scope cl ex) elt tel)(hgr:Gl X "range":=by rfl)(hst:starEach [a] X.env=[(false,eval a X.env)]:=by rfl)(hs:∀ x,foldedSetIterable (.Call (.Name "range" pn) [a] [] pr) X.env x=pure x:=by intro _;rfl):YE X (.ListComp elt [⟨tg,.Call (.Name "range" pn) [a] [] pr,[],0⟩] scope pos) (j2 J7 tas tel):=⟨Fq B hc mr hi.h hg (fun s H cl ex=>(he s H cl ex).h) hgr hst hs⟩
end
section
variable {X:Cx}{a b:Expr}{tas:NTA}{pos p:Pos}
theorem uK(ml:X.mg "len" = none)(ha:YA X [a] tas)(hg:Gl X "len":=by rfl)(he:starEach [a] X.env=(false,eval a X.env)::starEach [] X.env:=by rfl)(hpl:(backTo pos (starEach [] X.env)).any (·.1)=false:=by rfl):YE X (.Call (.Name "len" p) [a] [] pos) (da (aI bi) tas):=⟨Ft ml ha.h hg he hpl⟩
theorem GE(hc:X.calm=true)(ml:X.mg "sum" = none)(ha:YA X [a] tas)(hg:Gl X "sum":=by rfl)(he:starEach [a] X.env=(false,eval a X.env)::starEach [] X.env:=by rfl)(hpl:(backTo pos (starEach [] X.env)).any (·.1)=false:=by rfl):YE X (.Call (.Name "sum" p) [a] [] pos) (da (aI dL) tas):=⟨Fu hc ml ha.h hg he hpl⟩
theorem GF(hc:X.calm=true)(ml:X.mg "max" = none)(ha:YA X [a,b] tas)(hg:Gl X "max":=by rfl)(he:starEach [a,b] X.env=(false,eval a X.env)::starEach [b] X.env:=by rfl)(hpl:(backTo pos (starEach [b] X.env)).any (·.1)=false:=by rfl):YE X (.Call (.Name "max" p) [a,b] [] pos) (da (cP dU) tas):=⟨Fw hc ml ha.h hg he hpl⟩
end
section
variable {X:Cx}{az:List Stmt}{t:NTS}{i:Nat}
theorem GG(i:Nat)(h:YSs X az t):YSs X az (au (nFz i) t):=⟨FA i h.h⟩
end
section
variable {X:Cx}{tit tel:NTE}{pos p2 spos:Pos}{x y:Str}{i:Nat}{scope:Scope}{cn:List Str}{J7:List Nat}{elt tg iter:Expr}
theorem GH(i:Nat)(hN:X.N.Nodup)(B:BlkOk X scope [y] J7 cn)(hc:X.calm=true)(hi:YE X iter tit)(hg:∀ s H cl ex,PG (blk X ([y]++cn) s H scope cl ex) tg (cc 0))(he:∀ s H cl ex,YE (blk X ([y]++cn) s H scope cl ex) elt tel)(hsw:swapsWith (.ListComp elt [⟨tg,iter,[],0⟩] scope pos) (some (.Name x p2)) spos.line X.env=pure true:=by rfl)(hxi:X.N[i]?=some x:=by rfl)(hx:Loc X.env.scope x:=by first | exact Or.inl rfl | exact Or.inr rfl)(hfn:X.fn x=true\/X.env.scope.names.lookup x=some .local:=by first | exact .inl rfl | exact .inr rfl)(hs:∀ x,foldedSetIterable iter X.env x=pure x:=by intro _;rfl):YS X (.Assign [.Name x p2] (.ListComp elt [⟨tg,iter,[],0⟩] scope pos) spos) (aL i (mh J7 tit tel)):=⟨FB i hN B hc hi.h hg (fun s H cl ex=>(he s H cl ex).h) hsw hxi hx hfn hs⟩
end
section
variable {X:Cx}{P:Hp}{EX:QX}{st:Stmt}{az body bs:List Stmt}{t u:NTS}{c:Expr}{ka:NTB}{pos np cpos p2:Pos}{x:Str}
theorem cu(h:YS X.nox st t):YM X P EX st t:=⟨FX h.h⟩
theorem eP: YMs X P EX [] sN:=⟨FY ⟩
theorem bF(h1:YM X P EX st t)(h2:YMs X P EX az u):YMs X P EX (st::az) (au t u):=⟨FZ h1.h h2.h⟩
theorem dc(h1:YM X P EX st t):YMs X P EX [st] t:=⟨G0 h1.h⟩
theorem eQ(hc:YT X.nox c ka)(ha:YMs X P EX body t)(hb:YMs X P EX bs u):YM X P EX (.If c body bs pos) (b7 ka t u):=⟨G1 hc.h ha.h hb.h⟩
theorem gb{m:Str}{j}(xt:bT X.K=true)(ho:OutX X P EX)(hc:X.calm=true:=by rfl)(hg:Gl X x:=by rfl)(hd:(x == ("__debug__" : Str))=false:=by decide)(he:starEach [.Constant (.str m) j p2] X.env=(false,eval (.Constant (.str m) j p2) X.env)::starEach [] X.env:=by rfl)(hpl:(backTo cpos (starEach [.Constant (.str m) j p2] X.env)).any (·.1)=false:=by rfl):YM X P EX (.Raise (some (.Call (.Name x np) [.Constant (.str m) j p2] [] cpos)) none pos) (eN x):=⟨G2 xt ho hc hg hd he hpl⟩
end
section
variable {X:Cx}{a b:Expr}{tb:NTE}{tas:NTA}{pos p ap:Pos}{k:Nat}{ps:List Str}{x m:Str}{es:List Expr}{T:NTX}{C:Addr}{ns:List Str}
theorem GI(d:DefE X.prog X.w X.K X.mg X.base x k ps T)(hr:Room k X.A)(ha:YA X.nox (a::es) tas)(hg:Gl X x:=by rfl)(hdb:(x == ("__debug__" : Str))=false:=by decide)(he:starEach (a::es) X.env=(false,eval a X.env)::starEach es X.env:=by rfl)(hpl:(backTo pos (starEach es X.env)).any (·.1)=false:=by rfl):YX X (.Call (.Name x p) (a::es) [] pos) (mj T tas):=⟨G3 d hr ha.h hg hdb he hpl⟩
theorem oQ{pl:Sem Bool}(cl:Cls X.K C)(d:MetE X.prog X.w X.K X.mg X.base C m k ps T)(hr:Room k X.A)(ho:YE X.nox b tb)(ha:YA X.nox (a::es) tas)(hno:¬ m ∈ ns:=by decide +kernel)(hst:starEach (a::es) X.env=(false,eval a X.env)::starEach es X.env:=by rfl)(hpl:(backTo pos (starEach es X.env)).any (·.1)=false:=by rfl)(ht:eval (.Call (.Attribute b m ap) (a::es) [] pos) X.env=(do
   let ov <- eval b X.env
   standAt ap.atName
   let (f,first) <- holding [ov] (getMethod ov m pl)
   callWith pos f first (backTo pos (starEach (a::es) X.env)) (backToKw pos (keywordEach [] X.env))):=by rfl):YX X (.Call (.Attribute b m ap) (a::es) [] pos) (fw C ns T tb tas):=⟨G4 cl d hr ho.h ha.h hno hst hpl ht⟩
theorem GJ{pl:Sem Bool}(cl:Cls X.K C)(d:MetE X.prog X.w X.K X.mg X.base C m k ps T)(hr:Room k X.A)(ho:YE X.nox b tb)(hno:¬ m ∈ ns:=by decide +kernel)(ht:eval (.Call (.Attribute b m ap) [] [] pos) X.env=(do
   let ov <- eval b X.env
   standAt ap.atName
   let (f,first) <- holding [ov] (getMethod ov m pl)
   callWith pos f first (backTo pos (starEach [] X.env)) (backToKw pos (keywordEach [] X.env))):=by rfl):YX X (.Call (.Attribute b m ap) [] [] pos) (fw C ns T tb aw):=⟨G5 cl d hr ho.h hno ht⟩
theorem GK(d:MakE X.prog X.w X.K X.mg X.base x C k ps T)(hr:Room (k+1) X.A)(ha:YA X.nox (a::es) tas)(hg:Gl X x:=by rfl)(hdb:(x == ("__debug__" : Str))=false:=by decide)(he:starEach (a::es) X.env=(false,eval a X.env)::starEach es X.env:=by rfl)(hpl:(backTo pos (starEach es X.env)).any (·.1)=false:=by rfl):YX X (.Call (.Name x p) (a::es) [] pos) (mm C T tas):=⟨G7 d hr ha.h hg hdb he hpl⟩
end
section
variable {X:Cx}{P:Hp}{EX:QX}{a:Expr}{te:NEX}{pos p2:Pos}{x:Str}{i:Nat}
theorem GL(i:Nat)(ho:OutX X P EX)(hN:X.N.Nodup)(he:YX X a te)(hi:X.N[i]?=some x:=by rfl)(hx:Loc X.env.scope x:=by first | exact Or.inl rfl | exact Or.inr rfl)(hs:swapsWith a (some (.Name x p2)) pos.line X.env=pure false:=by rfl)(hfn:X.fn x=true\/X.env.scope.names.lookup x=some .local:=by first | exact .inl rfl | exact .inr rfl):YM X P EX (.Assign [.Name x p2] a pos) (gL i te):=⟨G8 i ho hN he.h hi hx hs hfn⟩
theorem oR(ho:OutX X P EX)(he:YX X a te):YM X P EX (.Return (some a) pos) (j3 te):=⟨G9 ho he.h⟩
end
section
variable {X:Cx}{a:Expr}{te:NEX}{pos p2 pc pn pa ph pf p3:Pos}{x cn n:Str}
theorem GM(i c j:Nat)(xt:bT X.K=true)(hN:X.N.Nodup)(he:YX X a te)(hi:X.N[i]?=some x:=by rfl)(hx:Loc X.env.scope x:=by first | exact Or.inl rfl | exact Or.inr rfl)(hs:swapsWith a (some (.Name x p2)) p3.line X.env=pure false:=by rfl)(hfn:X.fn x=true\/X.env.scope.names.lookup x=some .local:=by first | exact .inl rfl | exact .inr rfl)(hc:X.N[c]?=some cn:=by rfl)(hj:X.N[j]?=some n:=by rfl)(hcj:c ≠ j:=by decide)(lc:X.env.scope.names.lookup cn=some .local:=by rfl)(lj:X.env.scope.names.lookup n=some .local:=by rfl)(kj:X.env.kindOf n=some .local:=by rfl)(hg:Gl X "FareError":=by rfl)(hst:X.stack=X.env::X.outer:=by rfl)(hfr:X.env.frame=some X.env.locals:=by rfl)(hex:X.ex=[]:=by rfl)(hdb:(n == ("__debug__" : Str))=false:=by decide)(hcd:(n == ("__classdict__" : Str))=false:=by decide)(hsw:swapsWith (.Name n pn) (some (.Name cn pc)) pa.line X.env=pure false:=by rfl):YS X (.Try [.Assign [.Name x p2] a p3] [.ExceptHandler (some (.Name "FareError" pf)) (some n) [.Assign [.Name cn pc] (.Name n pn) pa] ph] [] [] pos) (gM c j (gL i te)):=⟨Ge i c j xt hN he.h hi hx hs hfn hc hj hcj lc lj kj hg hst hfr hex hdb hcd hsw⟩
theorem GN(c j:Nat)(xt:bT X.K=true)(hN:X.N.Nodup)(he:YX X a te)(hs:swapsWith a none p3.line X.env=pure false:=by rfl)(hc:X.N[c]?=some cn:=by rfl)(hj:X.N[j]?=some n:=by rfl)(hcj:c ≠ j:=by decide)(lc:X.env.scope.names.lookup cn=some .local:=by rfl)(lj:X.env.scope.names.lookup n=some .local:=by rfl)(kj:X.env.kindOf n=some .local:=by rfl)(hg:Gl X "FareError":=by rfl)(hst:X.stack=X.env::X.outer:=by rfl)(hfr:X.env.frame=some X.env.locals:=by rfl)(hex:X.ex=[]:=by rfl)(hdb:(n == ("__debug__" : Str))=false:=by decide)(hcd:(n == ("__classdict__" : Str))=false:=by decide)(hsw:swapsWith (.Name n pn) (some (.Name cn pc)) pa.line X.env=pure false:=by rfl):YS X (.Try [.Expr a p3] [.ExceptHandler (some (.Name "FareError" pf)) (some n) [.Assign [.Name cn pc] (.Name n pn) pa] ph] [] [] pos) (gM c j (mn te)):=⟨Gf c j xt hN he.h hs hc hj hcj lc lj kj hg hst hfr hex hdb hcd hsw⟩
end
section
variable {X:Cx}{a b:Expr}{ta tb tv:NTE}{tas:NTA}{pos pos2 p p2 p3:Pos}{y f:Str}{ns:List Str}{k:Nat}
theorem eS(xt:bT X.K=true)(mi:X.mg "isinstance" = none)(ha:YE X a ta)(hy:y ∈ XS:=by decide +kernel)(hg:Gl X "isinstance":=by rfl)(hgT:Gl X y:=by rfl)(hd:(y == ("__debug__" : Str))=false:=by decide)(hs:starEach [a,.Name y p2] X.env=(false,eval a X.env)::starEach [.Name y p2] X.env:=by rfl)(hs2:starEach [.Name y p2] X.env=(false,eval (.Name y p2) X.env)::starEach [] X.env:=by rfl)(hpl:(backTo pos (starEach [.Name y p2] X.env)).any (·.1)=false:=by rfl):YE X (.Call (.Name "isinstance" p) [a,.Name y p2] [] pos) (dP y ta):=⟨Gi xt mi ha.h hy hg hgT hd hs hs2 hpl⟩
theorem GO(xt:bT X.K=true)(mi:X.mg "isinstance" = none)(mv:X.mg "ValueError" = none)(ha:YE X a ta)(hg:Gl X "isinstance":=by rfl)(hgT:Gl X "ValueError":=by rfl)(hs:starEach [a,.Name "ValueError" p2] X.env=(false,eval a X.env)::starEach [.Name "ValueError" p2] X.env:=by rfl)(hs2:starEach [.Name "ValueError" p2] X.env=(false,eval (.Name "ValueError" p2) X.env)::starEach [] X.env:=by rfl)(hpl:(backTo pos (starEach [.Name "ValueError" p2] X.env)).any (·.1)=false:=by rfl):YE X (.Call (.Name "isinstance" p) [a,.Name "ValueError" p2] [] pos) (mo ta):=⟨Gj xt mi mv ha.h hg hgT hs hs2 hpl⟩
theorem oS(ha:YE X a ta)(hb:YE X b tb):YE X (.BinOp a .Add b pos) (n2 bh ta tb):=⟨Gn ha.h hb.h⟩
theorem GP(ml:X.mg "list" = none)(mr:X.mg "range" = none)(ha:YA X [a] tas)(hc:X.calm=true:=by rfl)(hgl:Gl X "list":=by rfl)(hgr:Gl X "range":=by rfl)(hs:starEach [a] X.env=[(false,eval a X.env)]:=by rfl)(hs2:starEach [.Call (.Name "range" p2) [a] [] pos2] X.env=[(false,eval (.Call (.Name "range" p2) [a] [] pos2) X.env)]:=by rfl):YE X (.Call (.Name "list" p) [.Call (.Name "range" p2) [a] [] pos2] [] pos) (eK fZ tas):=⟨Go ml mr ha.h hc hgl hgr hs hs2⟩
theorem uL(mi:X.mg "int" = none)(ha:YA X [a] tas)(hg:Gl X "int":=by rfl)(he:starEach [a] X.env=(false,eval a X.env)::starEach [] X.env:=by rfl)(hpl:(backTo pos (starEach [] X.env)).any (·.1)=false:=by rfl):YE X (.Call (.Name "int" p) [a] [] pos) (da (aI fq) tas):=⟨Gp mi ha.h hg he hpl⟩
theorem uM{j}(hr:Room k X.A)(ha:YE X a ta)(hv:YE X b tv)(hi:¬ f ∈ ns:=by decide +kernel)(hlt:ns.length < 1000:=by decide)(hs:swapsWith b (some (.Subscript a (.Constant (.str f) j p3) p2)) pos.line X.env=pure false:=by rfl):YS X (.Assign [.Subscript a (.Constant (.str f) j p3) p2] b pos) (kl ns f ta tv):=⟨Gq hr ha.h hv.h hi hlt hs⟩
end
section
variable {P:Program}{w:World}{K:W.Frag}{mg:Str->Option Value}{base:Heap}{x:Str}{k:Nat}{ps:List Str}
theorem cv{qual:Str}{st:Stmt}{f:Addr}{fd:FuncData}{N:List Str}{np n:Nat}{body:NTS}{T:NTF}(h1:ps.length=np)(h2:N.length=n)(h3:T=mkN np n body)(Fn:Fun K x qual st f fd)(S:FnScope N ps (ao st))(h:∀ (cdv:Value) (A:Around) (outer:List PySem.Env) (s:Shared) (H:Hp) (E:XK),Room k (A.deeper (envOfC qual (ao st) s.heap.objs.size f cdv)) ->
   YSs (cG CX0 P w K mg base N qual (ao st) f cdv A outer s H E).nox (aG st) body):
  FnOk P w K mg base CX0 (k+1) f fd ps (spN K T):=Ff h1 h2 h3 Fn S fun cdv A outer s H E hr=>(h cdv A outer s H E hr).h
theorem jb{qual:Str}{st:Stmt}{f:Addr}{fd:FuncData}{N:List Str}{np n:Nat}{body:NTS}{T:NTX}(h1:ps.length=np)(h2:N.length=n)(h3:T=mkX np n body)(Fn:Fun K x qual st f fd)(S:FnScope N ps (ao st))(h:∀ (cdv:Value) (A:Around) (outer:List PySem.Env) (s:Shared) (H:Hp) (E:XK) (PP:Hp) (EX:QX),Room k (A.deeper (envOfC qual (ao st) s.heap.objs.size f cdv))->OutX (cG (CXN P w) P w K mg base N qual (ao st) f cdv A outer s H E) PP EX ->
   YMs (cG (CXN P w) P w K mg base N qual (ao st) f cdv A outer s H E) PP EX (aG st) body):
  FnOk P w K mg base (CXN P w) (k+1) f fd ps (spE K T):=Ga h1 h2 h3 Fn S fun cdv A outer s H E PP EX hr ho=>(h cdv A outer s H E PP EX hr ho).h
end
end VL
namespace VL
open PySem (Str)
open L2 (atI ixN)
section
variable {ρ:am}{M:Sto}{Q:QE}{QB:Bool->Sto->Prop}{QL:List D->Sto->Prop}{ta tb tv ti:NTE}{tas:NTA}{ka kb:NTB}{f:FE}{fb:am->Option Bool}{as:FEs}{g:D->D->Option D}{g1:D->Option D}{G:List D->Option D}{T:NTF}{C i t:Nat}{ns:List Str}{E:EndN}{u v:NTS}{is J7:List Nat}
theorem GQ(h:WE f ρ fun d=>Q d M):nP f ρ M Q:=h
theorem GR(h:WB fb ρ fun b=>QB b M):nPB fb ρ M QB:=h
theorem GS(h:ta ρ M fun x M1=>tb ρ M1 fun y M2=>W2 g x y fun d=>Q d M2):n2 g ta tb ρ M Q:=h
theorem GT(h:ta ρ M fun x M1=>W1 g1 x fun d=>Q d M1):n1 g1 ta ρ M Q:=h
theorem GU(h:ta ρ M fun x M1=>kT (fun b=>QB b M1) x):cT ta ρ M QB:=h
theorem GV(h:ta ρ M fun x M1=>∃ b,tru x=some b/\QB b M1):du ta ρ M QB:=h
theorem GW(h:ka ρ M fun b M1=>kIf b (kb ρ M1 QB) (QB false M1)):j1 ka kb ρ M QB:=h
theorem GX(h:ka ρ M fun b M1=>kIf b (QB true M1) (kb ρ M1 QB)):nOr ka kb ρ M QB:=h
theorem GY(h:ka ρ M fun b M1=>QB (!b) M1):eu ka ρ M QB:=h
theorem GZ(h:ka ρ M fun b M1=>kIf b (ta ρ M1 Q) (tb ρ M1 Q)):nIf ka ta tb ρ M Q:=h
theorem Ha(h:ta ρ M fun x M1=>kT (fun b=>kIf b (tb ρ M1 Q) (Q (.bl false) M1)) x):kc ta tb ρ M Q:=h
theorem Hb(h:ta ρ M fun x M1=>kT (fun b=>kIf b (Q (.bl true) M1) (tb ρ M1 Q)) x):m9 ta tb ρ M Q:=h
theorem Hc(h:QL [] M):aw ρ M QL:=h
theorem He(h:ta ρ M fun x M1=>tas ρ M1 fun xs M2=>QL (x::xs) M2):aj ta tas ρ M QL:=h
theorem Hf(h:tas ρ M fun ds M1=>ds.length<=1000/\Q (.lst ds) M1):dk tas ρ M Q:=h
theorem Hg(h:tas ρ M fun ds M1=>ds.length<=1000/\Q (.tup ds) M1):g7 tas ρ M Q:=h
theorem uN(h:WE f ρ fun d=>∃ ds,d=.lst ds/\∀ a,M a=none->Q (.ptr a) (aP M a (.lst ds))):kf f ρ M Q:=h
theorem uO(h:WA as ρ fun ds=>ds.length=ns.length/\∀ a,M a=none->Q (.ptr a) (aP M a (.dic ns ds))):kg ns as ρ M Q:=h
theorem Hh{a j:Nat}{ds:List D}{d:D}(hv:aa j ρ=some (.ptr a))(hm:M a=some (.dic ns ds))(hd:ds[i]?=some d)(h:Q d M):nDg ns i (nP (aa j)) ρ M Q:=⟨_,hv,a,ds,d,rfl,hm,hd,h⟩
theorem Hi{a j:Nat}{ds:List D}{d:D}(hv:aa j ρ=some (.ptr a))(hm:M a=some (.ins C ns ds))(hd:ds[i]?=some d)(h:Q d M):bv C ns i (nP (aa j)) ρ M Q:=⟨_,hv,a,ds,d,rfl,hm,hd,h⟩
theorem Hj(h:tas ρ M fun ds M1=>T ds M1 Q):aO T tas ρ M Q:=h
theorem Hk(h:tas ρ M fun ds M1=>WF G (ds.map (vw1 M1)) fun d=>bg d=true/\Q d M1):da G tas ρ M Q:=h
theorem Hl(h:tas ρ M fun ds M1=>WF G ds fun d=>Q d M1):eK G tas ρ M Q:=h
theorem Hm{a j:Nat}{ds0:List D}(hv:aa j ρ=some (.ptr a))(hm:M a=some (.ins C ns ds0))(h:tas ρ M fun ds M2=>T (.ptr a::ds) M2 Q):bJ C ns T (nP (aa j)) tas ρ M Q:=⟨_,hv,a,ds0,rfl,hm,h⟩
theorem uP(h:tas ρ M fun ds M1=>∀ a,M1 a=none->T (.ptr a::ds) (aP M1 a (.ins C [] [])) fun d M2=>d=.non/\Q (.ptr a) M2):kh C T tas ρ M Q:=h
theorem bw{np n:Nat}{ds:List D}(hl:ds.length=np)(h:u { nx:=fun _ M'=>Q .non M',rt:=Q } (ds.map some++List.replicate (n - np) none) M):mkN np n u ds M Q:=⟨hl,h⟩
theorem Hn(h:E.nx ρ M):sN E ρ M:=h
theorem Ho(h:u { E with nx:=fun ρ M=>v E ρ M } ρ M):au u v E ρ M:=h
theorem Hq(h:ka ρ M fun b M1=>kIf b (u E ρ M1) (v E ρ M1)):b7 ka u v E ρ M:=h
theorem Hr(h:ta ρ M E.rt):aS ta E ρ M:=h
theorem uQ{a:Nat}{ds:List D}(hv:aa i ρ=some (.ptr a))(hm:M a=some (.lst ds))(h:E.rt (.lst ds) (di M a)):ma i E ρ M:=⟨a,ds,hv,hm,h⟩
theorem Hs(h:ta ρ M fun d M1=>E.nx (ρ.set i (some d)) M1):aL i ta E ρ M:=h
theorem Ht(h:ta ρ M fun d M1=>∃ ds,d=.tup ds/\ds.length=is.length/\E.nx ((is.zip ds).foldl (fun r p=>r.set p.1 (some p.2)) ρ) M1):gK is ta E ρ M:=h
theorem Hu(h:tv ρ M fun x M1=>ta ρ M1 fun y M2=>∃ a ds,y=.ptr a/\M2 a=some (.dic ns ds)/\E.nx ρ (aP M2 a (.dic ns (ds.set i x)))):fv ns i ta tv E ρ M:=h
theorem Hv(h:tv ρ M fun x M1=>ta ρ M1 fun y M2=>∃ a ds,y=.ptr a/\M2 a=some (.ins C ns ds)/\E.nx ρ (aP M2 a (.ins C ns (ds.set i x)))):g8 C ns i ta tv E ρ M:=h
theorem gP{fl:Str}(h:tv ρ M fun x M1=>ta ρ M1 fun y M2=>∃ a ds,y=.ptr a/\M2 a=some (.ins C ns ds)/\E.nx ρ (aP M2 a (.ins C (ns++[fl]) (ds++[x])))):dO C ns fl ta tv E ρ M:=h
theorem Hw(h:ta ρ M fun x M1=>∃ a ds0,x=.ptr a/\M1 a=some (.lst ds0)/\tv ρ M1 fun y M2=>∃ ds,M2 a=some (.lst ds)/\ds.length < 100000/\E.nx ρ (aP M2 a (.lst (ds++[y])))):eM ta tv E ρ M:=h
theorem Hx(h:tv ρ M fun x M1=>ta ρ M1 fun y M2=>ti ρ M2 fun z M3=>∃ a ds k j,y=.ptr a/\M3 a=some (.lst ds)/\z=.int k/\ixN ds.length k=some j/\E.nx ρ (aP M3 a (.lst (ds.set j x)))):md ta ti tv E ρ M:=h
theorem Hy(h:tas ρ M fun ds M1=>∃ j,ds=[.int j]/\okR j/\db (fun x E ρ M=>u E (ρ.set t (some x)) M) ((List.range j.toNat).map fun k=>.int (k:Nat)) E ρ M1):me t tas u E ρ M:=h
theorem Hz(h:tas ρ M fun ds M1=>∃ i j,ds=[.int i,.int j]/\okR i/\okR j/\db (fun x E ρ M=>u E (ρ.set t (some x)) M) ((List.range (j - i).toNat).map fun k=>.int (i+(k:Nat))) E ρ M1):mf t tas u E ρ M:=h
theorem uR(h:tas ρ M fun ds M1=>∃ j,ds=[.int j]/\okR j/\j < 1000/\dA 1 ta (bn 1 J7 ρ) ((List.range j.toNat).map fun k=>.int (k:Nat)) [] M1 fun ds M2=>Q (.lst ds) M2):j2 J7 tas ta ρ M Q:=h
theorem HA(h:ti ρ M fun d M1=>∃ ds,ck d=some ds/\ds.length<=1000/\dA 1 ta (bn 1 J7 ρ) ds [] M1 fun ds M2=>Q (.lst ds) M2):mh J7 ti ta ρ M Q:=h
theorem HB(h:ta ρ M fun d M1=>∃ ds,ck d=some ds/\db (fun x E ρ M=>u E (ρ.set t (some x)) M) ds E ρ M1):ki t ta u E ρ M:=h
theorem HC{a:Nat}{ds:List D}(hv:aa i ρ=some (.ptr a))(hm:M a=some (.lst ds))(h:E.nx (ρ.set i (some (.lst ds))) (di M a)):nFz i E ρ M:=⟨a,ds,hv,hm,h⟩
theorem cL{np n:Nat}{ds:List D}{EX:QX}(hl:ds.length=np)(h:u { nx:=fun _ M'=>Q .non M',rt:=Q,ex:=EX } (ds.map some++List.replicate (n - np) none) M):mkX np n u ds M Q EX:=⟨hl,h⟩
theorem HD{te:NEX}(h:te ρ M (fun d M1=>E.nx (ρ.set i (some d)) M1) E.ex):gL i te E ρ M:=h
theorem HE{te:NEX}(h:te ρ M E.rt E.ex):j3 te E ρ M:=h
theorem HF{te:NEX}(h:te ρ M (fun _ M1=>E.nx ρ M1) E.ex):mn te E ρ M:=h
theorem HG{j:Nat}(h:u { E with ex:=fun x M1=>∀ a,M1 a=none->E.nx ((ρ.set j none).set i (some (.ptr a))) (aP M1 a (.exn a x)) } ρ M):gM i j u E ρ M:=h
theorem HH{f:Str}(h:tv ρ M fun x M1=>ta ρ M1 fun y M2=>∃ a ds,y=.ptr a/\M2 a=some (.dic ns ds)/\E.nx ρ (aP M2 a (.dic (ns++[f]) (ds++[x])))):kl ns f ta tv E ρ M:=h
theorem HI{T:NTX}{EX:QX}(h:tas ρ M fun ds M1=>T ds M1 Q EX):mj T tas ρ M Q EX:=h
theorem HJ{T:NTX}{EX:QX}{a j:Nat}{ds0:List D}(hv:aa j ρ=some (.ptr a))(hm:M a=some (.ins C ns ds0))(h:tas ρ M fun ds M2=>T (.ptr a::ds) M2 Q EX):fw C ns T (nP (aa j)) tas ρ M Q EX:=⟨_,hv,a,ds0,rfl,hm,h⟩
theorem HK{T:NTX}{EX:QX}(h:tas ρ M fun ds M1=>∀ a,M1 a=none->T (.ptr a::ds) (aP M1 a (.ins C [] [])) (fun d M2=>d=.non/\Q (.ptr a) M2) EX):mm C T tas ρ M Q EX:=h
theorem HL{T:NTX}{ds:List D}(h:T ds M Q fun _ _=>False):qtX T ds M Q:=h
theorem HM{y:Str}{a j:Nat}{x:Str}(hv:aa j ρ=some (.ptr a))(hm:M a=some (.exn a x))(hx:x ∈ XS)(h:Q (.bl (decide (x=y))) M):dP y (nP (aa j)) ρ M Q:=⟨_,hv,a,x,rfl,hm,hx,h⟩
theorem HN{a j:Nat}{x:Str}(hv:aa j ρ=some (.ptr a))(hm:M a=some (.exn a x))(hx:x ∈ XS)(h:Q (.bl true) M):mo (nP (aa j)) ρ M Q:=⟨_,hv,a,x,rfl,hm,hx,h⟩
theorem uS{q:QX}{a b c:am->Sto->Prop}{d:D->Sto->Prop}(h:a ρ M):EndN.nx ⟨a,d,b,c,q⟩ ρ M:=h
theorem HP{q:QX}{a b c:am->Sto->Prop}{d:D->Sto->Prop}{x:Str}(h:q x M):EndN.ex ⟨a,d,b,c,q⟩ x M:=h
theorem uT{q:QX}{a b c:am->Sto->Prop}{d:D->Sto->Prop}{x:D}(h:d x M):EndN.rt ⟨a,d,b,c,q⟩ x M:=h
theorem mD{α:Type}{body:D->NTS}(enc:α->D)(xs:List α)(I:Nat->am->Sto->Prop)(h0:I 0 ρ M)(he:∀ ρ M,I xs.length ρ M->E.nx ρ M)(hs:∀ k (hk:k < xs.length) ρ M,I k ρ M->∀ N:am->Sto->Prop,(∀ ρ M,I (k+1) ρ M->N ρ M)->body (enc xs[k]) { E with nx:=N,ct:=N,bk:=E.nx } ρ M):db body (xs.map enc) E ρ M:=by
 have gen:∀ (m k:Nat),m=xs.length - k->k<=xs.length->∀ ρ M,I k ρ M->db body ((xs.drop k).map enc) E ρ M:=by
  intro m
  induction m with
  | zero =>
    intro k hm hk ρ M h
    have:k=xs.length:=by omega
    subst this
    rw[List.drop_length]
    exact he ρ M h
  | succ m ih =>
    intro k hm hk ρ M h
    have hlt:k < xs.length:=by omega
    rw[List.drop_eq_getElem_cons hlt,List.map_cons]
    exact hs k hlt ρ M h _ fun ρ M z=>ih (k+1) (by omega) hlt ρ M z
 simpa using gen xs.length 0 (by simp) (Nat.zero_le _) ρ M h0
theorem uU{α:Type}{ρb:am}(enc:α->D)(xs:List α)(I:Nat->List D->Sto->Prop)(h0:I 0 [] M)(he:∀ ds M,I xs.length ds M->QL ds M)(hs:∀ k (hk:k < xs.length) ds M,I k ds M->∀ N:QE,(∀ d M1,I (k+1) (ds++[d]) M1->N d M1)->ta (ρb.set 0 (some (enc xs[k]))) M N):dA 1 ta ρb (xs.map enc) [] M QL:=by
 have gen:∀ (m k:Nat),m=xs.length - k->k<=xs.length->∀ ds M,I k ds M->dA 1 ta ρb ((xs.drop k).map enc) ds M QL:=by
  intro m
  induction m with
  | zero =>
    intro k hm hk ds M h
    have:k=xs.length:=by omega
    subst this
    rw[List.drop_length]
    exact he ds M h
  | succ m ih =>
    intro k hm hk ds M h
    have hlt:k < xs.length:=by omega
    rw[List.drop_eq_getElem_cons hlt,List.map_cons]
    exact hs k hlt ds M h _ fun d M1 z=>ih (k+1) (by omega) hlt (ds++[d]) M1 z
 simpa using gen xs.length 0 (by simp) (Nat.zero_le _) [] M h0
end
theorem uV{K:D->Prop}{j:Int}(h1:-100000<=j)(h2:j<=100000)(h:K (.lst ((List.range j.toNat).map fun k=>.int (k:Nat)))):WF fZ [.int j] K:=⟨_,by simp only[fZ,if_pos (And.intro h1 h2)],h⟩
theorem HQ{K:D->Prop}(h:K (.bl true)):W1 df .non K:=⟨_,rfl,h⟩
theorem HR{K:D->Prop}{i:Int}(h:K (.bl false)):W1 df (.int i) K:=⟨_,rfl,h⟩
theorem HS{K:D->Prop}{ds:List D}(h:K (.bl false)):W1 df (.tup ds) K:=⟨_,rfl,h⟩
theorem HU{K:D->Prop}(h:K (.bl false)):W1 cZ .non K:=⟨_,rfl,h⟩
theorem HV{K:D->Prop}{i:Int}(h:K (.bl true)):W1 cZ (.int i) K:=⟨_,rfl,h⟩
theorem HW{K:D->Prop}{a:Nat}(h:K (.bl false)):W1 df (.ptr a) K:=⟨_,rfl,h⟩
theorem HX{K:D->Prop}{a:Nat}(h:K (.bl true)):W1 cZ (.ptr a) K:=⟨_,rfl,h⟩
def Kp(S:Nat->Prop)(M M':Sto):Prop:=∀ b c,M b=some c->¬ S b->M' b=some c
theorem Kp.refl{S:Nat->Prop}{M:Sto}:Kp S M M:=fun _ _ h _=>h
theorem Kp.trans{S S':Nat->Prop}{M M1 M2:Sto}(a:Kp S M M1)(b:Kp S' M1 M2)(h:∀ x,S' x->M x ≠ none->S x):Kp S M M2:=fun x c e n=>b x c (a x c e n) fun z=>n (h x z (by rw[e];exact fun q=>nomatch q))
theorem Kp.upd{S:Nat->Prop}{M:Sto}{a:Nat}{c:Cell}(h:S a\/M a=none):Kp S M (aP M a c):=fun b d e n=>by
 by_cases q:b=a
 ·subst q;rcases h with h | h
  ·exact absurd h n
  ·rw[h] at e;cases e
 ·rw[bo q];exact e
theorem Kp.del{S:Nat->Prop}{M:Sto}{a:Nat}(h:S a):Kp S M (di M a):=fun b d e n=>by
 have ne:b ≠ a:=fun q=>n (by rw[q];exact h)
 rw[m8 ne];exact e
end VL
namespace VL
namespace My
open PySem (Str)
open L2 (atI ixN)
local macro_rules | `(tactic| walk_at "env")=>`(tactic| (simp only[List.set_cons_zero,List.set_cons_succ,List.map_cons,List.map_nil,List.cons_append,List.nil_append,List.replicate_succ,List.replicate_zero,Nat.reduceSub,Nat.reduceAdd,List.zip_cons_cons,List.zip_nil_left,List.zip_nil_right,List.foldl_cons,List.foldl_nil,bj,bn,List.getElem?_cons_zero,List.getElem?_cons_succ,Option.getD_some,Option.getD_none]))
local macro_rules | `(tactic| walk_at "side")=>`(tactic| first | assumption | exact ol (by omega) (by omega) | exact DL (by omega) (by omega) | exact tH (jX (by omega) (by omega)) (jX (by omega) (by omega)) | exact DN (by omega) | exact DM (by omega) (jX (by omega) (by omega)) | exact DO (by omega) (by omega) (by omega) (by omega) | omega)
local macro_rules | `(tactic| walk_at "run1")=>`(tactic| first
 | (with_reducible refine CK ?_) | (with_reducible refine CJ ?_) | (with_reducible refine Db ?_) | ((with_reducible refine' CI ?h ?_);(case h=>exact rfl)) | (with_reducible refine CM ?_) | (with_reducible refine CN ?_)
 | ((with_reducible refine CO ?h ?_);(case h=>walk_at "side")) | ((with_reducible refine CP ?h ?_);(case h=>walk_at "side")) | ((with_reducible refine CQ ?h ?_);(case h=>walk_at "side")) | ((with_reducible refine CS ?h (fun v hv=>?_));(case h=>walk_at "side");(simp only[Int.reduceToNat,Int.reducePow] at hv);(subst hv))
 | (with_reducible exact rfl) | (with_reducible refine CT ?_) | (with_reducible refine CU ?_) | (with_reducible refine CV ?_) | (with_reducible refine CW ?_) | (with_reducible refine CZ ?_) | (with_reducible refine D7 ?_) | (with_reducible refine CL ?_) | (with_reducible refine CY ?_)
 | (with_reducible refine D9 ?_) | (with_reducible refine Da ?_) | (with_reducible refine Dg ?_) | (with_reducible refine Dh ?_) | (with_reducible refine Di ?_) | (with_reducible refine Dj ?_) | (with_reducible refine Dk ?_) | (with_reducible refine Ds ?_)
 | (with_reducible refine Dn ?_) | (with_reducible refine Do ?_) | (with_reducible refine Dp ?_) | (with_reducible refine Dq ?_) | (with_reducible refine Dr ?_)
 | (with_reducible refine Du ?_) | (with_reducible refine Dt ?_) | (with_reducible refine Dv ?_) | (with_reducible refine Dw ?_) | (with_reducible refine Dx ?_) | ((with_reducible refine Dc ?_);(try walk_at "env")) | (with_reducible refine Dd ?_) | (with_reducible refine Df ?_) | (with_reducible refine DC ?_)
 | (with_reducible refine Dy ?_) | (with_reducible refine Dz ?_) | (with_reducible refine tz ?_) | (with_reducible refine tB ?_) | (with_reducible refine Dl ?_) | (with_reducible refine Dm ?_) | (with_reducible refine DA ?_) | (with_reducible refine Ec ?_)
 | (with_reducible refine DP ?_) | (with_reducible refine DQ ?_)
 | ((with_reducible refine iZ ?h ?_);(case h=>first | exact Nat.le_of_ble_eq_true rfl | decide | (simp;done) | (simp;omega)))
 | ((with_reducible refine And.intro ?h ?_);(case h=>first | exact Nat.le_of_ble_eq_true rfl | exact rfl | (with_reducible show ¬ (HT.sIx _ _ _=_/\_);simp[HT.sIx];done))) | ((with_reducible refine Exists.intro _ (And.intro rfl ?_))) | ((with_reducible refine Exists.intro _ (And.intro (seqD_lst _) ?_))) | ((with_reducible refine Exists.intro _ (And.intro (seqD_scr _) ?_))) | (with_reducible refine DD ?_) | (with_reducible refine DE ?_) | (with_reducible refine DF ?_) | (with_reducible refine DG ?_) | ((with_reducible refine' Ef ?h ?_);(case h=>exact rfl)) | (with_reducible refine DH ?_) | (with_reducible refine DJ ?_) | (with_reducible refine DK ?_) | (with_reducible refine E9 ?_) | (with_reducible refine DU ?_) | (with_reducible refine DV ?_) | (with_reducible refine DW ?_) | (with_reducible refine DX ?_) | (with_reducible refine DT ?_) | (with_reducible refine DY ?_) | (with_reducible refine DZ ?_)
 | ((with_reducible refine' D8 ?h ?_);(case h=>exact rfl)))
local macro_rules | `(tactic| walk_at "run")=>`(tactic| repeat (first | walk_at "run1" | walk_at "call"))
local macro_rules | `(tactic| walk_at "all")=>`(tactic| (walk_at "run";try ((with_reducible first | refine cq (fun h=>?_) (fun h=>?_) | refine jW (fun h=>?_) (fun h=>?_)) <;> walk_at "all")))
local macro_rules | `(tactic| walk_at "leaf")=>`(tactic| first | omega | exact congrArg D.bl (decide_eq_decide.mpr (by omega)) | exact congrArg D.bl (decide_eq_false (by omega)).symm | exact congrArg D.bl (decide_eq_true (by omega)).symm)
local macro_rules | `(tactic| walk_at "n1")=>`(tactic| first
 | (with_reducible refine GQ ?_) | (with_reducible refine GR ?_) | (with_reducible refine GS ?_) | (with_reducible refine GT ?_) | (with_reducible refine GU ?_) | (with_reducible refine GV ?_)
 | (with_reducible refine GW ?_) | (with_reducible refine GX ?_) | (with_reducible refine GY ?_) | (with_reducible refine GZ ?_) | (with_reducible refine Ha ?_) | (with_reducible refine Hb ?_)
 | (with_reducible refine Hc ?_) | (with_reducible refine He ?_) | (with_reducible refine Hf ?_) | (with_reducible refine Hg ?_) | (with_reducible refine Hj ?_) | (with_reducible refine Hk ?_)
 | (with_reducible refine Hl ?_) | (with_reducible refine Hn ?_) | (with_reducible refine Ho ?_) | (with_reducible refine Hq ?_) | (with_reducible refine Hr ?_) | (with_reducible refine Hs ?_)
 | (with_reducible refine Ht ?_) | (with_reducible refine Hu ?_) | (with_reducible refine Hv ?_) | (with_reducible refine Hw ?_) | (with_reducible refine Hx ?_)
 | (with_reducible refine Hy ?_) | (with_reducible refine Hz ?_) | (with_reducible refine HB ?_) | (with_reducible refine HA ?_)
 | (with_reducible refine HD ?_) | (with_reducible refine HE ?_) | (with_reducible refine HF ?_) | (with_reducible refine HG ?_) | (with_reducible refine HI ?_) | (with_reducible refine HH ?_) | (with_reducible refine HL ?_) | (with_reducible refine HP ?_) | (with_reducible refine HW ?_) | (with_reducible refine HX ?_)
 | (with_reducible refine HQ ?_) | (with_reducible refine HR ?_) | (with_reducible refine HS ?_) | (with_reducible refine HU ?_) | (with_reducible refine HV ?_)
 | ((with_reducible refine uS ?_);(try walk_at "env")) | (with_reducible refine uT ?_))
local macro_rules | `(tactic| walk_at "call")=>`(tactic| walk_at "n1")
local macro_rules | `(tactic| walk_at "call")=>`(tactic| first
 | ((with_reducible refine' Hi ?h1 ?h2 ?h3 ?_);(case h1=>exact rfl);(case h2=>first | assumption | exact aK);(case h3=>exact rfl))
 | ((with_reducible refine' Hh ?h1 ?h2 ?h3 ?_);(case h1=>exact rfl);(case h2=>first | assumption | exact aK);(case h3=>exact rfl))
 | ((with_reducible refine' Hm ?h1 ?h2 ?_);(case h1=>exact rfl);(case h2=>first | assumption | exact aK))
 | ((with_reducible refine' HJ ?h1 ?h2 ?_);(case h1=>exact rfl);(case h2=>first | assumption | exact aK))
 | ((with_reducible refine' HM ?h1 ?h2 ?h3 ?_);(case h1=>exact rfl);(case h2=>first | assumption | exact aK);(case h3=>assumption))
 | ((with_reducible refine' HN ?h1 ?h2 ?h3 ?_);(case h1=>exact rfl);(case h2=>first | assumption | exact aK);(case h3=>assumption)))
def oT:FS:=ba (cI (e1 (fU "int") (aa 0)) (cI (jH (e1 (fU "bool") (aa 0))) (e3c leI leI (aa 1) (aa 0) (aa 2))))
def uW:List D->Option D:=mkF false 3 3 oT
abbrev cw:List D->Option D:=scF uW
def oU:FS:=bz (bK 2 (eC (.int 1))) (bz (iT 3 (ag (aa 1) (aq)) (bK 2 (e2 cH (aa 2) (aa 0)))) (ba (aa 2)))
def uX:List D->Option D:=mkF false 2 4 oU
abbrev gc:List D->Option D:=scF uX
def oV:FS:=ba (cI (e3c leI leI (eC (.int 1)) (eA (aI bi) (ag (aa 0) (aq))) (eC (.int 6))) (eA (aI (fV fun bs=>bs.all id)) (ag (bP 1 [] [0] un1 (dt (aa 0)) bQ (eA cw (ag (aa 0) (ag (eC (.int 1)) (ag (eC (.int 1000000)) (aq)))))) (aq))))
def uY:List D->Option D:=mkF false 1 1 oV
abbrev ky:List D->Option D:=scF uY
def oW:FS:=ba (eA (aI dL) (ag (aa 0) (aq)))
def uZ:List D->Option D:=mkF false 1 1 oW
abbrev gd:List D->Option D:=scF uZ
def oX:FS:=bz (sIf (eT (e2 neD (eA (aI bi) (ag (aa 0) (aq))) (e2 aV (aa 1) (eC (.int 1))))) (ba (eC (.bl false))) (jK)) (ba (cI (eA (aI (fV fun bs=>bs.all id)) (ag (bP 1 [] [0] un1 (dt (aa 0)) bQ (eA cw (ag (aa 0) (ag (eC (.int 0)) (ag (eC (.int 1000)) (aq)))))) (aq))) (e2 gtI (eA gd (ag (aa 0) (aq))) (eC (.int 0)))))
def v4:List D->Option D:=mkF false 2 2 oX
abbrev kz:List D->Option D:=scF v4
def oY:FS:=ba (cI (e2 leI (eA (aI bi) (ag (aa 0) (aq))) (eC (.int 8))) (eA (aI (fV fun bs=>bs.all id)) (ag (bP 1 [1] [0] un1 (dt (aa 0)) bQ (eA kz (ag (aa 0) (ag (aa 1) (aq))))) (aq))))
def v5:List D->Option D:=mkF false 2 2 oY
abbrev kA:List D->Option D:=scF v5
def oZ:FS:=ba (cI (eA cw (ag (aa 0) (ag (eC (.int 0)) (ag (eC (.int 10)) (aq))))) (cI (eA ky (ag (aa 1) (aq))) (eA kA (ag (aa 2) (ag (eA (aI bi) (ag (aa 1) (aq))) (aq))))))
def v6:List D->Option D:=mkF false 3 3 oZ
abbrev mE:List D->Option D:=scF v6
def p5:FS:=bz (bK 2 (b8 (ag (aa 1) (aq)))) (bz (jO 3 (aa 0) (iS 2 (e2 cH (e2 ixD (aa 2) (e1 cj (eC (.int 1)))) (eA gd (ag (aa 3) (aq)))))) (ba (e1 jP (aa 2))))
def v7:List D->Option D:=mkF true 2 4 p5
abbrev gQ:List D->Option D:=v7
def p7:FS:=ba (eA (aI dL) (ag (bP 2 [] [0,1] (unT 2) (iV (aa 0) (e2 bh (aa 1) (b8 (ag (aa 2) (aq))))) bQ (e2 cH (aa 0) (aa 1))) (aq)))
def v8:List D->Option D:=mkF false 3 3 p7
abbrev kB:List D->Option D:=scF v8
def p8:FS:=ba (e2 aV (e2 cH (aa 0) (aa 1)) (e2 ixD (aa 2) (e2 bH (aa 3) (eC (.int 1)))))
def v9:List D->Option D:=mkF false 4 4 p8
abbrev ge:List D->Option D:=scF v9
def p9:FS:=bz (sIf (eT (e2 eqD (aa 3) (eC (.int 0)))) (ba (e2 ixD (aa 2) (aa 3))) (jK)) (ba (eA (cP dU) (ag (e2 ixD (aa 2) (aa 3)) (ag (eA ge (ag (aa 0) (ag (aa 1) (ag (aa 2) (ag (aa 3) (aq)))))) (aq)))))
def va:List D->Option D:=mkF false 4 4 p9
abbrev kC:List D->Option D:=scF va
def pb:FS:=ba (eA kB (ag (aa 1) (ag (bP 1 [2,3,4] [0] un1 (dt (aa 0)) bQ (eA kC (ag (aa 0) (ag (aa 1) (ag (aa 2) (ag (aa 3) (aq))))))) (ag (e2 ixD (aa 3) (aa 4)) (aq)))))
def vc:List D->Option D:=mkF false 5 5 pb
abbrev kD:List D->Option D:=scF vc
def pj:FS:=ba (bP 1 [0,1,2,3] [0] un1 (iR1 (ag (eA (aI bi) (ag (aa 3) (aq))) (aq))) bQ (eA kD (ag (aa 1) (ag (aa 2) (ag (aa 3) (ag (aa 4) (ag (aa 0) (aq))))))))
def vd:List D->Option D:=mkF true 4 4 pj
abbrev kE:List D->Option D:=vd
def pk:FS:=bz (bK 4 (eA gQ (ag (aa 1) (ag (aa 2) (aq))))) (bz (bK 5 (b8 (ag (e1 e9 (aa 3)) (aq)))) (bz (jS 6 (ag (e2 bH (eA (aI bi) (ag (aa 1) (aq))) (eC (.int 1))) (ag (e1 cj (eC (.int 1))) (ag (e1 cj (eC (.int 1))) (aq)))) (iS 5 (eA kE (ag (aa 0) (ag (e2 ixD (aa 1) (aa 6)) (ag (e2 ixD (aa 4) (e2 aV (aa 6) (eC (.int 1)))) (ag (e2 ixD (aa 5) (e1 cj (eC (.int 1)))) (aq)))))))) (ba (e1 jP (aa 5)))))
def vf:List D->Option D:=mkF true 4 7 pk
abbrev mF:List D->Option D:=vf
def pp:FS:=ba (cI (e2 gtI (aa 3) (eC (.int 0))) (e2 geI (eA ge (ag (aa 0) (ag (aa 1) (ag (aa 2) (ag (aa 3) (aq)))))) (e2 ixD (aa 2) (aa 3))))
def vg:List D->Option D:=mkF false 4 4 pp
abbrev mG:List D->Option D:=scF vg
def pv:FS:=ba (e1 cj (e2 iL (e2 bH (e2 ixD (aa 1) (e2 bH (aa 2) (eC (.int 1)))) (e2 ixD (aa 1) (aa 2))) (aa 0)))
def vh:List D->Option D:=mkF false 3 3 pv
abbrev mH:List D->Option D:=scF vh
def pw:FS:=bz (bK 1 (e2 ixD (aa 0) (eC (.int 0)))) (bz (bK 2 (e2 ixD (aa 0) (eC (.int 1)))) (bz (bK 3 (e2 ixD (aa 0) (eC (.int 2)))) (bz (bK 4 (e2 ixD (aa 0) (eC (.int 3)))) (bz (bK 5 (cI (eA cw (ag (aa 3) (ag (eC (.int 1)) (ag (eC (.int 1000)) (aq))))) (eA cw (ag (aa 2) (ag (eC (.int 0)) (ag (aa 3) (aq))))))) (ba (cI (eA cw (ag (aa 1) (ag (eC (.int 0)) (ag (eC (.int 10)) (aq))))) (cI (aa 5) (eA cw (ag (aa 4) (ag (eC (.int 0)) (ag (eC (.int 1000000)) (aq))))))))))))
def vi:List D->Option D:=mkF false 1 6 pw
abbrev mI:List D->Option D:=scF vi
def py:FS:=bz (bK 3 (e2 bh (bP 1 [2] [0] un1 (dt (aa 0)) bQ (e2 cH (aa 0) (aa 1))) (b8 (ag (eC (.int 0)) (aq))))) (bz (bK 4 (e2 bh (b8 (ag (eC (.int 0)) (aq))) (bP 1 [1] [0] un1 (dt (aa 0)) bQ (e2 cH (aa 0) (aa 1))))) (ba (bP 2 [] [0,1] (unT 2) (iV (aa 3) (aa 4)) bQ (e2 aV (aa 0) (aa 1)))))
def vj:List D->Option D:=mkF true 3 5 py
abbrev kF:List D->Option D:=vj
def pz:FS:=bz (bK 3 (b8 (ag (eC (.int 1)) (aq)))) (bz (iT 4 (ag (aa 0) (aq)) (bK 3 (eA kF (ag (aa 3) (ag (aa 1) (ag (e2 bH (aa 2) (aa 1)) (aq))))))) (ba (eL (aa 3))))
def vk:List D->Option D:=mkF true 3 5 pz
abbrev kG:List D->Option D:=vk
def pA:FS:=bz (bK 2 (e2 ixD (aa 1) (eC (.int 0)))) (bz (bK 3 (eA kG (ag (aa 0) (ag (e2 ixD (aa 1) (eC (.int 1))) (ag (e2 ixD (aa 1) (eC (.int 2))) (aq)))))) (ba (eA (aI dL) (ag (bP 2 [2] [0,1] (unT 2) (jQ (aa 3)) bQ (e2 cH (aa 1) (eA (cP dU) (ag (e2 bH (aa 0) (aa 2)) (ag (eC (.int 0)) (aq)))))) (aq)))))
def vm:List D->Option D:=mkF false 2 4 pA
abbrev kH:List D->Option D:=scF vm
def pB:FS:=bz (bK 3 (e2 ixD (aa 2) (eC (.int 3)))) (ba (e2 cH (e2 cH (e1 cj (aa 3)) (eA kH (ag (aa 0) (ag (aa 2) (aq))))) (eA gc (ag (e2 ixD (aa 2) (eC (.int 2))) (ag (aa 1) (aq))))))
def vn:List D->Option D:=mkF false 3 4 pB
abbrev kI:List D->Option D:=scF vn
def pC:FS:=ba (bP 1 [0,1] [0] un1 (iR1 (ag (e2 aV (aa 0) (eC (.int 1))) (aq))) bQ (eA kI (ag (e2 bH (aa 1) (aa 0)) (ag (aa 0) (ag (aa 2) (aq))))))
def vo:List D->Option D:=mkF true 2 2 pC
abbrev mJ:List D->Option D:=vo
def pD:FS:=ba (eA gc (ag (e2 ixD (aa 1) (eC (.int 2))) (ag (aa 0) (aq))))
def vp:List D->Option D:=mkF false 2 2 pD
abbrev mK:List D->Option D:=scF vp
def pE:FS:=bz (jN 2 (eSl (aa 0) (bU (aa 1)) (bU (e2 aV (aa 1) (eC (.int 1))))) (ba (aa 2))) (ba (eC (.int 0)))
def vq:List D->Option D:=mkF false 2 3 pE
abbrev kJ:List D->Option D:=scF vq
abbrev b_:List Str:=["seats","fares","rule","scales","table","told","sold","paid","dues","latest"]
def mL(a_:Nat):NTS:=au (b7 (cT (n1 df (bv a_ b_ 9 (nP (aa 0))))) (eN "Early") (sN)) (aS (bv a_ b_ 9 (nP (aa 0))))
def gR(a_:Nat):NTX:=mkX 1 1 (mL a_)
def pF(a_:Nat):NTS:=aS (n2 eqD (bv a_ b_ 5 (nP (aa 0))) (n2 bH (da (aI bi) (aj (bv a_ b_ 3 (nP (aa 0))) (aw))) (nP (eC (.int 1)))))
def gS(a_:Nat):NTF:=mkN 1 1 (pF a_)
def kK(a_:Nat):NTS:=au (b7 (nPB (eT (e1 df (aa 1)))) (aS (nP (eC .non))) (sN)) (au (b7 (eu (du (eK cw (aj (nP (aa 1)) (aj (nP (eC (.int 0))) (aj (n2 bH (da (aI bi) (aj (bv a_ b_ 1 (nP (aa 0))) (aw))) (nP (eC (.int 1)))) (aw))))))) (eN "NoClass") (sN)) (aS (n2 ixD (bv a_ b_ 1 (nP (aa 0))) (nP (aa 1)))))
def gT(a_:Nat):NTX:=mkX 2 2 (kK a_)
def pG(a_:Nat):NTS:=aS (n2 bH (bv a_ b_ 0 (nP (aa 0))) (bv a_ b_ 6 (nP (aa 0))))
def dm(a_:Nat):NTF:=mkN 1 1 (pG a_)
def mM(a_:Nat):NTS:=au (aL 2 (n2 aV (bv a_ b_ 5 (nP (aa 0))) (nP (eC (.int 1))))) (aS (kc (nP (e1 cZ (aa 1))) (eK mG (aj (nP (aa 1)) (aj (n2 ixD (bv a_ b_ 3 (nP (aa 0))) (nP (aa 2))) (aj (n2 ixD (bv a_ b_ 4 (nP (aa 0))) (nP (aa 2))) (aj (bJ a_ b_ (dm a_) (nP (aa 0)) aw) (aw))))))))
def jc(a_:Nat):NTF:=mkN 2 3 (mM a_)
def pH(a_:Nat):NTS:=au (b7 (cT (n2 eqD (bJ a_ b_ (dm a_) (nP (aa 0)) aw) (nP (eC (.int 0))))) (aS (nP (eC .non))) (sN)) (au (aL 1 (n2 aV (bv a_ b_ 5 (nP (aa 0))) (nP (eC (.int 1))))) (aS (eK mH (aj (n2 ixD (bv a_ b_ 3 (nP (aa 0))) (nP (aa 1))) (aj (n2 ixD (bv a_ b_ 4 (nP (aa 0))) (nP (aa 1))) (aj (bJ a_ b_ (dm a_) (nP (aa 0)) aw) (aw)))))))
def kL(a_:Nat):NTF:=mkN 1 2 (pH a_)
def jd(a_:Nat):NTS:=au (b7 (du (bJ a_ b_ (gS a_) (nP (aa 0)) aw)) (eN "Over") (sN)) (au (gL 2 (fw a_ b_ (gT a_) (nP (aa 0)) (aj (nP (aa 1)) (aw)))) (au (aL 3 (bJ a_ b_ (jc a_) (nP (aa 0)) (aj (nP (aa 2)) (aw)))) (au (g8 a_ b_ 9 (nP (aa 0)) (g7 (aj (bv a_ b_ 5 (nP (aa 0))) (aj (bJ a_ b_ (dm a_) (nP (aa 0)) aw) (aj (bJ a_ b_ (kL a_) (nP (aa 0)) aw) (aj (nP (aa 2)) (aw))))))) (au (g8 a_ b_ 5 (nP (aa 0)) (n2 aV (bv a_ b_ 5 (nP (aa 0))) (nP (eC (.int 1))))) (au (b7 (nPB (fk (aa 3))) (au (g8 a_ b_ 6 (nP (aa 0)) (n2 aV (bv a_ b_ 6 (nP (aa 0))) (nP (eC (.int 1))))) (g8 a_ b_ 7 (nP (aa 0)) (n2 aV (bv a_ b_ 7 (nP (aa 0))) (nP (aa 2))))) (sN)) (aS (nP (aa 3))))))))
def fA(a_:Nat):NTX:=mkX 2 4 (jd a_)
def mO(a_:Nat):NTS:=aS (nIf (cT (n1 df (bv a_ b_ 8 (nP (aa 0))))) (bv a_ b_ 7 (nP (aa 0))) (n2 bH (bv a_ b_ 7 (nP (aa 0))) (bv a_ b_ 8 (nP (aa 0)))))
def dX(a_:Nat):NTF:=mkN 1 1 (mO a_)
def je(a_:Nat):NTS:=au (b7 (eu (du (bJ a_ b_ (gS a_) (nP (aa 0)) aw))) (eN "Early") (sN)) (au (b7 (cT (n1 cZ (bv a_ b_ 8 (nP (aa 0))))) (eN "Done") (sN)) (au (b7 (eu (du (eK cw (aj (nP (aa 1)) (aj (nP (eC (.int 0))) (aj (bv a_ b_ 6 (nP (aa 0))) (aw))))))) (eN "TooMany") (sN)) (au (g8 a_ b_ 8 (nP (aa 0)) (n2 cH (n2 ixD (bv a_ b_ 2 (nP (aa 0))) (nP (eC (.int 3)))) (da (cP dU) (aj (n2 bH (nP (aa 1)) (n2 ixD (bv a_ b_ 2 (nP (aa 0))) (nP (eC (.int 0))))) (aj (nP (eC (.int 0))) (aw)))))) (aS (bJ a_ b_ (dX a_) (nP (aa 0)) aw)))))
def fB(a_:Nat):NTX:=mkX 2 2 (je a_)
def kM(a_:Nat):NTS:=au (b7 (nPB (eT (e2 eqD (aa 1) (eC (.str "asked"))))) (j3 (fw a_ b_ (fA a_) (nP (aa 0)) (aj (nP (aa 2)) (aw)))) (sN)) (au (b7 (nPB (eT (e2 eqD (aa 1) (eC (.str "came"))))) (j3 (fw a_ b_ (fB a_) (nP (aa 0)) (aj (nP (aa 2)) (aw)))) (sN)) (j3 (fw a_ b_ (gR a_) (nP (aa 0)) aw)))
def eE(a_:Nat):NTX:=mkX 3 3 (kM a_)
def pI(a_:Nat):NTS:=au (aL 2 (nDg ["rest","mixed","count"] 0 (nP (aa 0)))) (au (b7 (eu (du (nDg ["rest","mixed","count"] 1 (nP (aa 0))))) (au (fv ["rest","mixed","count"] 0 (nP (aa 0)) (nP (e2 iL (aa 2) (aa 1)))) (aS (nP (e2 e7 (aa 2) (aa 1))))) (sN)) (au (fv ["rest","mixed","count"] 2 (nP (aa 0)) (n2 aV (nDg ["rest","mixed","count"] 2 (nP (aa 0))) (nP (eC (.int 1))))) (au (aL 2 (n2 aV (nP (e2 e7 (aa 2) (eC (.int 1000000000039)))) (n2 cH (nP (eC (.int 60013))) (nDg ["rest","mixed","count"] 2 (nP (aa 0)))))) (au (aL 2 (nP (e2 e7 (e2 cH (aa 2) (e2 aV (aa 2) (eC (.int 17)))) (eC (.int 1000000000061))))) (au (aL 2 (nP (e2 e7 (e2 cH (aa 2) (aa 2)) (eC (.int 999999999989))))) (au (fv ["rest","mixed","count"] 0 (nP (aa 0)) (nP (aa 2))) (aS (nP (e2 e7 (e2 iL (aa 2) (eC (.int 5))) (aa 1))))))))))
def bp(a_:Nat):NTF:=mkN 2 3 (pI a_)
def pJ(a_:Nat):NTS:=au (aL 3 (aO (bp a_) (aj (nP (aa 0)) (aj (nP (eC (.int 8))) (aw))))) (au (aL 4 (aO (bp a_) (aj (nP (aa 0)) (aj (nP (e2 fj (eC (.int 10)) (eC (.int 40)))) (aw))))) (au (b7 (nPB (eT (e2 ltI (aa 3) (eC (.int 4))))) (au (aL 5 (nP (e2 bh (e2 dS (eA fZ (ag (eA (aI bi) (ag (e2 ixD (aa 1) (eC (.int 1))) (aq))) (aq))) (eC (.int 3))) (b8 (ag (eC .non) (ag (e1 cj (eC (.int 1))) (ag (eA (aI bi) (ag (e2 ixD (aa 1) (eC (.int 1))) (aq))) (ag (e2 bH (e1 cj (eC (.int 1))) (aa 4)) (ag (e2 aV (eA (aI bi) (ag (e2 ixD (aa 1) (eC (.int 1))) (aq))) (aa 4)) (aq)))))))))) (aS (g7 (aj (nP (eC (.str "asked"))) (aj (n2 ixD (nP (aa 5)) (aO (bp a_) (aj (nP (aa 0)) (aj (nP (eA (aI bi) (ag (aa 5) (aq)))) (aw))))) (aw)))))) (sN)) (au (b7 (nPB (eT (e2 eqD (aa 3) (eC (.int 4))))) (aS (nP (bO (ag (eC (.str "paper")) (ag (eC .non) (aq)))))) (sN)) (au (aL 5 (n2 bh (eK fZ (aj (n2 aV (nDg ["turn","sold","done","office","beside"] 1 (nP (aa 2))) (nP (eC (.int 2)))) (aw))) (nP (b8 (ag (e1 cj (eC (.int 1))) (ag (e2 bH (e1 cj (eC (.int 1))) (aa 4)) (ag (e2 aV (eC (.int 11)) (aa 4)) (aq)))))))) (aS (g7 (aj (nP (eC (.str "came"))) (aj (n2 ixD (nP (aa 5)) (aO (bp a_) (aj (nP (aa 0)) (aj (nP (eA (aI bi) (ag (aa 5) (aq)))) (aw))))) (aw)))))))))
def jf(a_:Nat):NTF:=mkN 3 6 (pJ a_)
def fC(a_:Nat):NTS:=au (aL 4 (n2 eqD (nDg ["turn","sold","done","office","beside"] 0 (nP (aa 1))) (nP (eA (aI bi) (ag (e2 ixD (aa 0) (eC (.int 2))) (aq)))))) (au (b7 (nPB (eT (e2 eqD (aa 2) (eC (.str "asked"))))) (au (b7 (nPB (fk (aa 4))) (aS (nP (eC (.str "over")))) (sN)) (aS (nP (e2 ixD (b8 (ag (eC (.str "")) (ag (eC (.str "class")) (aq)))) (eA (aI fq) (ag (cI (e1 cZ (aa 3)) (eOr (e2 ltI (aa 3) (eC (.int 0))) (e2 geI (aa 3) (eA (aI bi) (ag (e2 ixD (aa 0) (eC (.int 1))) (aq)))))) (aq))))))) (sN)) (au (b7 (nPB (eT (e2 eqD (aa 2) (eC (.str "paper"))))) (aS (n2 ixD (nP (b8 (ag (eC (.str "")) (ag (eC (.str "early")) (aq))))) (da (aI fq) (aj (n2 eqD (nDg ["turn","sold","done","office","beside"] 0 (nP (aa 1))) (nP (eC (.int 0)))) (aw))))) (sN)) (au (b7 (nPB (fQ (fk (aa 4)))) (aS (nP (eC (.str "early")))) (sN)) (au (b7 (du (nDg ["turn","sold","done","office","beside"] 2 (nP (aa 1)))) (aS (nP (eC (.str "done")))) (sN)) (aS (n2 ixD (nP (b8 (ag (eC (.str "")) (ag (eC (.str "many")) (aq))))) (da (aI fq) (aj (m9 (nP (e2 ltI (aa 3) (eC (.int 0)))) (n2 gtI (nP (aa 3)) (nDg ["turn","sold","done","office","beside"] 1 (nP (aa 1))))) (aw)))))))))
def dE(a_:Nat):NTF:=mkN 4 5 (fC a_)
def pK(a_:Nat):NTS:=au (aL 1 (dk (aj (dP "Over" (nP (aa 0))) (aj (dP "Early" (nP (aa 0))) (aj (dP "Done" (nP (aa 0))) (aj (dP "NoClass" (nP (aa 0))) (aw))))))) (au (aL 1 (n2 bh (nP (aa 1)) (dk (aj (dP "TooMany" (nP (aa 0))) (aj (dP "NoSale" (nP (aa 0))) (aj (dP "Twice" (nP (aa 0))) (aj (dP "NoTurn" (nP (aa 0))) (aw)))))))) (aS (n2 bh (nP (aa 1)) (dk (aj (dP "Full" (nP (aa 0))) (aj (dP "NoRow" (nP (aa 0))) (aj (mo (nP (aa 0))) (aw))))))))
def gU(a_:Nat):NTF:=mkN 1 2 (pK a_)
def pL(a_:Nat):NTS:=au (gK [2,3,4,5] (nP (aa 1))) (au (aL 6 (n2 ixD (dk (aj (nP (eC (.int 0))) (aj (aO (bp a_) (aj (nP (aa 0)) (aj (nP (e2 fj (eC (.int 10)) (eC (.int 40)))) (aw)))) (aw)))) (aO (bp a_) (aj (nP (aa 0)) (aj (nP (eC (.int 2))) (aw)))))) (au (aL 7 (aO (bp a_) (aj (nP (aa 0)) (aj (nP (eA (aI bi) (ag (aa 3) (aq)))) (aw))))) (au (aL 8 (nP (e2 dS (b8 (ag (eC (.int 5)) (aq))) (e2 aV (eA (aI bi) (ag (aa 3) (aq))) (eC (.int 1)))))) (au (aL 9 (kf (b8 (ag (bO (ag (e2 bH (e1 cj (eC (.int 1))) (aa 6)) (ag (aa 3) (ag (aa 4) (ag (aa 5) (aq)))))) (ag (bO (ag (e2 aV (eC (.int 11)) (aa 6)) (ag (aa 3) (ag (aa 4) (ag (aa 5) (aq)))))) (ag (bO (ag (aa 2) (ag (b8 (aq)) (ag (eSl (aa 4) (cy) (bU (eC (.int 0)))) (ag (aa 5) (aq)))))) (aq))))))) (au (eM (nP (aa 9)) (nP (bO (ag (aa 2) (ag (e2 bh (e2 bh (eSl (aa 3) (cy) (bU (aa 7))) (b8 (ag (e2 bH (eC (.int 0)) (aa 6)) (aq)))) (eSl (aa 3) (bU (e2 aV (aa 7) (eC (.int 1)))) (cy))) (ag (aa 4) (ag (aa 5) (aq)))))))) (au (eM (nP (aa 9)) (nP (bO (ag (aa 2) (ag (e2 bh (e2 bh (eSl (aa 3) (cy) (bU (aa 7))) (b8 (ag (e2 aV (e2 aV (e2 fj (eC (.int 10)) (eC (.int 6))) (eC (.int 1))) (aa 6)) (aq)))) (eSl (aa 3) (bU (e2 aV (aa 7) (eC (.int 1)))) (cy))) (ag (aa 4) (ag (aa 5) (aq)))))))) (au (eM (nP (aa 9)) (nP (bO (ag (aa 2) (ag (e2 dS (b8 (ag (eC (.int 7)) (aq))) (eC (.int 7))) (ag (eSl (aa 4) (cy) (bU (eC (.int 0)))) (ag (aa 5) (aq)))))))) (au (aL 7 (aO (bp a_) (aj (nP (aa 0)) (aj (nP (eA (aI bi) (ag (aa 8) (aq)))) (aw))))) (au (aL 10 (nP (b8 (ag (e2 bh (e2 bh (eSl (aa 8) (cy) (bU (aa 7))) (b8 (ag (e2 aV (eC (.int 1001)) (aa 6)) (aq)))) (eSl (aa 8) (bU (e2 aV (aa 7) (eC (.int 1)))) (cy))) (ag (e2 bh (e2 bh (eSl (aa 8) (cy) (bU (aa 7))) (b8 (ag (e2 bH (e1 cj (eC (.int 1))) (aa 6)) (aq)))) (eSl (aa 8) (bU (e2 aV (aa 7) (eC (.int 1)))) (cy))) (ag (e2 dS (b8 (ag (eC (.int 0)) (aq))) (eA (aI bi) (ag (aa 8) (aq)))) (ag (e2 bh (aa 8) (b8 (ag (eC (.int 1)) (aq)))) (aq)))))))) (au (ki 11 (nP (e2 bh (aa 10) (b8 (ag (eSl (aa 8) (bU (eC (.int 1))) (cy)) (aq))))) (au (aL 12 (aO (bp a_) (aj (nP (aa 0)) (aj (nP (e2 aV (eA (aI bi) (ag (eSl (aa 4) (cy) (bU (eC (.int 7)))) (aq))) (eC (.int 1)))) (aw))))) (eM (nP (aa 9)) (nP (bO (ag (aa 2) (ag (aa 3) (ag (e2 bh (e2 bh (eSl (eSl (aa 4) (cy) (bU (eC (.int 7)))) (cy) (bU (aa 12))) (b8 (ag (aa 11) (aq)))) (eSl (eSl (aa 4) (cy) (bU (eC (.int 7)))) (bU (aa 12)) (cy))) (ag (aa 5) (aq)))))))))) (au (eM (nP (aa 9)) (nP (bO (ag (aa 2) (ag (aa 3) (ag (e2 bh (aa 4) (e2 dS (b8 (ag (aa 8) (aq))) (e2 bH (eC (.int 9)) (eA (aI bi) (ag (aa 4) (aq)))))) (ag (aa 5) (aq)))))))) (au (ki 11 (nP (b8 (ag (bO (ag (eC (.int 11)) (ag (eC (.int 1)) (ag (eC (.int 1)) (ag (eC (.int 0)) (aq)))))) (ag (bO (ag (e1 cj (eC (.int 1))) (ag (eC (.int 1)) (ag (eC (.int 1)) (ag (eC (.int 0)) (aq)))))) (ag (bO (ag (eC (.int 0)) (ag (e2 aV (eC (.int 2)) (aa 6)) (ag (eC (.int 1)) (ag (eC (.int 0)) (aq)))))) (ag (bO (ag (eC (.int 0)) (ag (e1 cj (eC (.int 1))) (ag (eC (.int 1)) (ag (eC (.int 0)) (aq)))))) (ag (bO (ag (eC (.int 0)) (ag (eC (.int 0)) (ag (eC (.int 0)) (ag (eC (.int 0)) (aq)))))) (ag (bO (ag (eC (.int 0)) (ag (eC (.int 1)) (ag (e2 aV (eC (.int 1001)) (aa 6)) (ag (eC (.int 0)) (aq)))))) (aq))))))))) (eM (nP (aa 9)) (nP (bO (ag (aa 2) (ag (aa 3) (ag (aa 4) (ag (aa 11) (aq))))))))) (au (nFz 9) (au (aL 9 (nP (e2 bh (aa 9) (b8 (ag (bO (ag (aa 2) (ag (aa 3) (ag (aa 4) (ag (bO (ag (eC (.int 0)) (ag (eC (.int 1)) (ag (eC (.int 1)) (ag (e2 bH (e1 cj (eC (.int 1))) (aa 6)) (aq)))))) (aq)))))) (ag (bO (ag (aa 2) (ag (aa 3) (ag (aa 4) (ag (bO (ag (eC (.int 0)) (ag (eC (.int 1)) (ag (eC (.int 1)) (ag (e2 aV (e2 aV (e2 fj (eC (.int 10)) (eC (.int 6))) (eC (.int 1))) (aa 6)) (aq)))))) (aq)))))) (aq))))))) (aS (n2 ixD (nP (aa 9)) (aO (bp a_) (aj (nP (aa 0)) (aj (nP (eA (aI bi) (ag (aa 9) (aq)))) (aw))))))))))))))))))))
def jh(a_:Nat):NTF:=mkN 2 13 (pL a_)
def mP(a_:Nat):NTS:=au (b7 (nPB (fQ (fk (eA mE (ag (aa 1) (ag (aa 2) (ag (aa 3) (aq)))))))) (eN "NoSale") (sN)) (au (b7 (nPB (fQ (fk (eA mI (ag (aa 4) (aq)))))) (eN "NoSale") (sN)) (au (aL 5 (nP (eA mK (ag (aa 1) (ag (aa 4) (aq)))))) (au (dO a_ (b_.take 0) "seats" (nP (aa 0)) (nP (aa 1))) (au (dO a_ (b_.take 1) "fares" (nP (aa 0)) (nP (e1 e9 (aa 2)))) (au (dO a_ (b_.take 2) "rule" (nP (aa 0)) (nP (aa 4))) (au (dO a_ (b_.take 3) "scales" (nP (aa 0)) (nP (eA gQ (ag (aa 3) (ag (aa 5) (aq)))))) (au (dO a_ (b_.take 4) "table" (nP (aa 0)) (nP (eA mF (ag (aa 2) (ag (aa 3) (ag (aa 5) (ag (eA mJ (ag (aa 1) (ag (aa 4) (aq)))) (aq)))))))) (au (dO a_ (b_.take 5) "told" (nP (aa 0)) (nP (eC (.int 0)))) (au (dO a_ (b_.take 6) "sold" (nP (aa 0)) (nP (eC (.int 0)))) (au (dO a_ (b_.take 7) "paid" (nP (aa 0)) (nP (eC (.int 0)))) (au (dO a_ (b_.take 8) "dues" (nP (aa 0)) (nP (eC .non))) (dO a_ (b_.take 9) "latest" (nP (aa 0)) (nP (eC .non))))))))))))))
def fD(a_:Nat):NTX:=mkX 5 6 (mP a_)
def pM(a_:Nat):NTS:=au (gK [1,2,3,4] (nP (aa 0))) (au (aL 5 (kg ["turn","sold","done"] (ag (eC (.int 0)) (ag (eC (.int 0)) (ag (eC (.bl false)) (aq)))))) (au (kl ["turn","sold","done"] "office" (nP (aa 5)) (kh a_ (qtX (fD a_)) (aj (nP (aa 1)) (aj (nP (e1 e9 (aa 2))) (aj (nP (bP 1 [] [0] un1 (dt (aa 3)) bQ (e1 e9 (aa 0)))) (aj (nP (aa 4)) (aw))))))) (au (kl ["turn","sold","done","office"] "beside" (nP (aa 5)) (kh a_ (qtX (fD a_)) (aj (nP (aa 1)) (aj (nP (e1 e9 (aa 2))) (aj (nP (bP 1 [] [0] un1 (dt (aa 3)) bQ (e1 e9 (aa 0)))) (aj (nP (aa 4)) (aw))))))) (aS (nP (aa 5))))))
def ji(a_:Nat):NTF:=mkN 1 6 (pM a_)
def pN(a_:Nat):NTS:=aS (kg ["rest","mixed","count"] (ag (eA kJ (ag (aa 0) (ag (aa 1) (aq)))) (ag (e2 eqD (e2 e7 (eA kJ (ag (aa 0) (ag (eC (.int 0)) (aq)))) (eC (.int 2))) (eC (.int 1))) (ag (e2 aV (eC (.int 1)) (aa 1)) (aq)))))
def gf(a_:Nat):NTF:=mkN 2 2 (pN a_)
def pO(a_:Nat):NTS:=au (aL 1 (nP (eC .non))) (au (aL 2 (nP (b8 (ag (e1 e9 (e2 ixD (aa 0) (eC (.int 1)))) (ag (bP 1 [] [0] un1 (dt (e2 ixD (aa 0) (eC (.int 2)))) bQ (e1 e9 (aa 0))) (aq)))))) (au (gM 1 3 (mn (mm a_ (fD a_) (aj (nP (e2 ixD (aa 0) (eC (.int 0)))) (aj (nP (e2 ixD (aa 2) (eC (.int 0)))) (aj (nP (e2 ixD (aa 2) (eC (.int 1)))) (aj (nP (e2 ixD (aa 0) (eC (.int 3)))) (aw)))))))) (au (b7 (nPB (bOr (eT (e1 df (aa 1))) (eT (e2 neD (aa 2) (b8 (ag (e2 ixD (aa 0) (eC (.int 1))) (ag (e2 ixD (aa 0) (eC (.int 2))) (aq)))))))) (aS (nP (eC (.bl false)))) (sN)) (aS (n2 eqD (aO (gU a_) (aj (nP (aa 1)) (aw))) (nP (bP 1 [] [0] un1 (iR1 (ag (eC (.int 11)) (aq))) bQ (eOr (e2 eqD (aa 0) (eC (.int 5))) (e2 eqD (aa 0) (eC (.int 10)))))))))))
def jj(a_:Nat):NTF:=mkN 1 4 (pO a_)
def pP(a_:Nat):NTS:=au (aL 2 (aO (bp a_) (aj (nP (aa 0)) (aj (nP (eC (.int 4))) (aw))))) (au (b7 (nPB (eT (e2 eqD (aa 2) (eC (.int 0))))) (aS (aO (bp a_) (aj (nP (aa 0)) (aj (nP (eA (cP gB) (ag (eC (.int 10)) (ag (aa 1) (aq))))) (aw))))) (sN)) (au (b7 (nPB (eT (e2 eqD (aa 2) (eC (.int 1))))) (aS (nP (e2 bH (aa 1) (eC (.int 1))))) (sN)) (aS (aO (bp a_) (aj (nP (aa 0)) (aj (nP (aa 1)) (aw)))))))
def gg(a_:Nat):NTF:=mkN 2 3 (pP a_)
def pQ(a_:Nat):NTS:=au (aL 1 (n2 aV (nP (eC (.int 1))) (aO (gg a_) (aj (nP (aa 0)) (aj (nP (eC (.int 1000))) (aw)))))) (aS (g7 (aj (aO (bp a_) (aj (nP (aa 0)) (aj (nP (eC (.int 11))) (aw)))) (aj (aO (bp a_) (aj (nP (aa 0)) (aj (nP (e2 aV (aa 1) (eC (.int 1)))) (aw)))) (aj (nP (aa 1)) (aj (aO (gg a_) (aj (nP (aa 0)) (aj (nP (e2 aV (e2 fj (eC (.int 10)) (eC (.int 6))) (eC (.int 1)))) (aw)))) (aw)))))))
def kN(a_:Nat):NTF:=mkN 1 2 (pQ a_)
def pR(a_:Nat):NTS:=au (aL 2 (kf (b8 (aq)))) (au (me 3 (aj (nP (e2 aV (aa 1) (eC (.int 1)))) (aw)) (eM (nP (aa 2)) (n2 ixD (dk (aj (nP (eC (.int 0))) (aj (aO (bp a_) (aj (nP (aa 0)) (aj (nP (eC (.int 10))) (aw)))) (aj (aO (bp a_) (aj (nP (aa 0)) (aj (nP (eC (.int 1001))) (aw)))) (aw))))) (aO (bp a_) (aj (nP (aa 0)) (aj (nP (eC (.int 3))) (aw))))))) (au (b7 (cT (n2 eqD (da (aI dL) (aj (nP (aa 2)) (aw))) (nP (eC (.int 0))))) (md (nP (aa 2)) (nP (aa 1)) (nP (eC (.int 1)))) (sN)) (ma 2)))
def kO(a_:Nat):NTF:=mkN 2 4 (pR a_)
def pS(a_:Nat):NTS:=au (aL 2 (aO (gf a_) (aj (nP (aa 0)) (aj (nP (aa 1)) (aw))))) (au (aL 3 (aO (bp a_) (aj (nP (aa 2)) (aj (nP (eC (.int 11))) (aw))))) (au (aL 4 (j2 [2] (aj (n2 aV (nP (eC (.int 1))) (aO (bp a_) (aj (nP (aa 2)) (aj (nP (eC (.int 6))) (aw))))) (aw)) (n2 aV (nP (eC (.int 1))) (aO (gg a_) (aj (nP (aa 1)) (aj (nP (e2 fj (eC (.int 10)) (eC (.int 6)))) (aw))))))) (au (aL 5 (aO (kN a_) (aj (nP (aa 2)) (aw)))) (au (aL 6 (aO (bp a_) (aj (nP (aa 2)) (aj (nP (eC (.int 9))) (aw))))) (au (aL 2 (aO (gf a_) (aj (nP (aa 0)) (aj (nP (e2 aV (aa 1) (eC (.int 1)))) (aw))))) (aS (g7 (aj (nP (aa 3)) (aj (nP (aa 4)) (aj (j2 [2,4] (aj (nP (aa 6)) (aw)) (aO (kO a_) (aj (nP (aa 1)) (aj (nP (eA (aI bi) (ag (aa 2) (aq)))) (aw))))) (aj (nP (aa 5)) (aw))))))))))))
def kP(a_:Nat):NTF:=mkN 2 7 (pS a_)
def pT(a_:Nat):NTS:=au (aL 3 (nP (eC .non))) (au (aL 4 (nP (eC .non))) (au (gM 3 5 (gL 4 (mj (eE a_) (aj (nP (aa 0)) (aj (nP (aa 1)) (aj (nP (aa 2)) (aw))))))) (au (b7 (nPB (eT (e1 cZ (aa 3)))) (aS (dk (aj (nP (eC (.str "refused"))) (aj (aO (gU a_) (aj (nP (aa 3)) (aw))) (aw))))) (sN)) (aS (nP (b8 (ag (eC (.str "told")) (ag (aa 4) (aq)))))))))
def jk(a_:Nat):NTF:=mkN 3 6 (pT a_)
def pU(a_:Nat):NTS:=aS (bv a_ b_ 5 (nP (aa 0)))
def gh(a_:Nat):NTF:=mkN 1 1 (pU a_)
def mQ(a_:Nat):NTS:=au (aL 4 (nP (b8 (ag (eC (.str "over")) (ag (eC (.str "early")) (ag (eC (.str "done")) (ag (eC (.str "class")) (ag (eC (.str "many")) (aq))))))))) (au (aL 5 (aO (dE a_) (aj (nP (aa 0)) (aj (nP (aa 1)) (aj (nP (aa 2)) (aj (nP (aa 3)) (aw))))))) (au (aL 6 (nDg ["turn","sold","done","office","beside"] 3 (nP (aa 1)))) (au (aL 7 (dk (aj (bJ a_ b_ (gh a_) (nP (aa 6)) aw) (aj (bJ a_ b_ (dm a_) (nP (aa 6)) aw) (aj (bJ a_ b_ (dX a_) (nP (aa 6)) aw) (aw)))))) (au (aL 8 (aO (jk a_) (aj (nP (aa 6)) (aj (nP (aa 2)) (aj (nP (aa 3)) (aw)))))) (au (b7 (nPB (eT (e2 neD (aa 5) (eC (.str ""))))) (au (aL 9 (dk (aj (bJ a_ b_ (gh a_) (nP (aa 6)) aw) (aj (bJ a_ b_ (dm a_) (nP (aa 6)) aw) (aj (bJ a_ b_ (dX a_) (nP (aa 6)) aw) (aw)))))) (au (aL 10 (nP (e2 bh (e2 bh (bP 1 [5] [0] un1 (dt (aa 4)) bQ (e2 eqD (aa 1) (aa 0))) (e2 dS (b8 (ag (eC (.bl false)) (aq))) (eC (.int 5)))) (b8 (ag (eC (.bl true)) (aq)))))) (aS (nP (cI (e2 eqD (aa 8) (b8 (ag (eC (.str "refused")) (ag (aa 10) (aq))))) (e2 eqD (aa 9) (aa 7))))))) (sN)) (au (b7 (nOr (nPB (eT (e2 neD (e2 ixD (aa 8) (eC (.int 0))) (eC (.str "told"))))) (cT (n2 neD (nP (aa 8)) (aO (jk a_) (aj (nDg ["turn","sold","done","office","beside"] 4 (nP (aa 1))) (aj (nP (aa 2)) (aj (nP (aa 3)) (aw)))))))) (aS (nP (eC (.bl false)))) (sN)) (au (b7 (nPB (eT (e2 eqD (aa 2) (eC (.str "asked"))))) (au (fv ["turn","sold","done","office","beside"] 0 (nP (aa 1)) (n2 aV (nDg ["turn","sold","done","office","beside"] 0 (nP (aa 1))) (nP (eC (.int 1))))) (fv ["turn","sold","done","office","beside"] 1 (nP (aa 1)) (n2 aV (nDg ["turn","sold","done","office","beside"] 1 (nP (aa 1))) (nP (eA (aI fq) (ag (e2 ixD (aa 8) (eC (.int 1))) (aq))))))) (sN)) (au (b7 (nPB (eT (e2 eqD (aa 2) (eC (.str "came"))))) (fv ["turn","sold","done","office","beside"] 2 (nP (aa 1)) (nP (eC (.bl true)))) (sN)) (au (aL 11 (mh [] (dk (aj (nP (aa 6)) (aj (nDg ["turn","sold","done","office","beside"] 4 (nP (aa 1))) (aw)))) (dk (aj (bJ a_ b_ (gh a_) (nP (aa 0)) aw) (aj (bJ a_ b_ (dm a_) (nP (aa 0)) aw) (aj (bJ a_ b_ (dX a_) (nP (aa 0)) aw) (aw))))))) (aS (kc (nP (e2 eqD (e2 ixD (aa 11) (eC (.int 0))) (e2 ixD (aa 11) (eC (.int 1))))) (n2 eqD (nP (eSl (e2 ixD (aa 11) (eC (.int 0))) (cy) (bU (eC (.int 2))))) (dk (aj (nDg ["turn","sold","done","office","beside"] 0 (nP (aa 1))) (aj (n2 bH (nP (e2 ixD (aa 0) (eC (.int 0)))) (nDg ["turn","sold","done","office","beside"] 1 (nP (aa 1)))) (aw))))))))))))))))
def fE(a_:Nat):NTF:=mkN 4 12 (mQ a_)
def pV(a_:Nat):NTS:=au (aL 1 (aO (kP a_) (aj (nP (aa 0)) (aj (nP (eC (.int 1))) (aw))))) (au (aL 2 (aO (ji a_) (aj (nP (aa 1)) (aw)))) (au (mf 3 (aj (nP (eC (.int 3))) (aj (nP (eA (cP gB) (ag (eC (.int 63)) (ag (eA (aI bi) (ag (aa 0) (aq))) (aq))))) (aw))) (au (aL 4 (aO (gf a_) (aj (nP (aa 0)) (aj (nP (aa 3)) (aw))))) (au (b7 (j1 (du (nDg ["turn","sold","done","office","beside"] 2 (nP (aa 2)))) (cT (n2 eqD (aO (bp a_) (aj (nP (aa 4)) (aj (nP (eC (.int 4))) (aw)))) (nP (eC (.int 0)))))) (aL 2 (aO (ji a_) (aj (nP (aa 1)) (aw)))) (sN)) (au (gK [5,6] (aO (jf a_) (aj (nP (aa 4)) (aj (nP (aa 1)) (aj (nP (aa 2)) (aw)))))) (au (b7 (eu (du (aO (fE a_) (aj (nP (aa 1)) (aj (nP (aa 2)) (aj (nP (aa 5)) (aj (nP (aa 6)) (aw)))))))) (aS (nP (eC (.bl false)))) (sN)) (b7 (j1 (nPB (eT (e2 eqD (e2 e7 (aa 3) (eC (.int 8))) (eC (.int 3))))) (eu (du (aO (jj a_) (aj (aO (jh a_) (aj (nP (aa 4)) (aj (nP (aa 1)) (aw)))) (aw)))))) (aS (nP (eC (.bl false)))) (sN))))))) (aS (nP (eC (.bl true))))))
def pW(a_:Nat):NTF:=mkN 1 7 (pV a_)
def Pool(M:Sto)(a:Nat)(n:Nat):Prop:=∃ (r:Int) (m:Bool) (c:Int),M a=some (.dic ["rest","mixed","count"] [.int r,.bl m,.int c])/\0<=c/\c<=(n:Nat)
theorem Pool.keep{M M':Sto}{a n:Nat}{S:Nat->Prop}(h:Pool M a n)(k:Kp S M M')(hs:¬ S a):Pool M' a n:=by
 obtain⟨r,m,c,h1,h2⟩:=h
 exact⟨r,m,c,k _ _ h1 hs,h2⟩
theorem Pool.le{M:Sto}{a n n':Nat}(h:Pool M a n)(k:n<=n'):Pool M a n':=by
 obtain⟨r,m,c,h1,h2,h3⟩:=h
 exact⟨r,m,c,h1,h2,by omega⟩
theorem cb{C a n:Nat}{M:Sto}{Q:QE}{many:Int}(hp:Pool M a n)(hn:n<=100000)(h0:0 < many)(h1:many<=10 ^ 41)(h:∀ r M',0<=r->r < many->Pool M' a (n+1)->Kp (· = a) M M'->Q (.int r) M'):bp C [.ptr a,.int many] M Q:=by
 obtain⟨r,m,c,hm,hc1,hc2⟩:=hp
 refine bw rfl ?_
 unfold pI
 walk_at "env"
 cases m with
 | false =>
   walk_at "run"
   refine⟨a,_,rfl,hm,?_⟩
   walk_at "run"
   refine h _ _ (Int.emod_nonneg _ (by omega)) (Int.emod_lt_of_pos _ h0) ⟨_,_,_,aK,hc1,by omega⟩ (Kp.upd (.inl rfl))
 | true =>
   walk_at "run"
   refine⟨a,_,rfl,hm,?_⟩
   walk_at "run"
   refine⟨a,_,rfl,aK,?_⟩
   walk_at "run"
   rw[dj]
   refine h _ _ (Int.emod_nonneg _ (by omega)) (Int.emod_lt_of_pos _ h0) ⟨_,_,_,aK,by omega,by omega⟩ (Kp.upd (.inl rfl))
theorem vt{ns:List Int}{k:Int}(h0:0<=k):WF kJ [.scr ns,.int k] fun d=>∃ x,d=.int x:=by
 refine cK (bS rfl ?_)
 unfold pE
 walk_at "env"
 walk_at "run"
 have e:cB (ns.map D.int) (some k) (some (k+1))=(cB ns (some k) (some (k+1))).map D.int:=by simp[cB,List.map_drop,List.map_take]
 rw[e]
 cases cB ns (some k) (some (k+1)) with
 | nil=>exact⟨_,rfl,_,rfl,rfl,_,rfl⟩
 | cons x r=>exact⟨_,rfl,rfl,_,rfl⟩
theorem pX{C:Nat}{M:Sto}{Q:QE}{ns:List Int}{k:Int}(h0:0<=k)(h1:k<=1000)(h:∀ a M',M a=none->Pool M' a 2000->Kp (fun _=>False) M M'->Q (.ptr a) M'):gf C [.scr ns,.int k] M Q:=by
 refine bw rfl ?_
 unfold pN
 walk_at "env"
 walk_at "run"
 refine uO ?_
 walk_at "run"
 refine iY (vt h0) ?_
 rintro _ ⟨x,rfl⟩
 walk_at "run"
 refine iY (vt (by omega)) ?_
 rintro _ ⟨y,rfl⟩
 walk_at "run"
 intro a ha
 refine uT ?_
 exact h a _ ha ⟨_,_,_,aK,by omega,by omega⟩ (Kp.upd (.inr ha))
theorem pY{C a n:Nat}{M:Sto}{Q:QE}{most:Int}(hp:Pool M a n)(hn:n<=90000)(h0:0 < most)(h1:most<=10 ^ 41)(h:∀ r M',0<=r->r < most->Pool M' a (n+2)->Kp (· = a) M M'->Q (.int r) M'):gg C [.ptr a,.int most] M Q:=by
 refine bw rfl ?_
 unfold pP
 walk_at "env"
 walk_at "run"
 refine cb hp (by omega) (by omega) (by omega) fun r M1 a1 a2 p1 k1=>?_
 walk_at "run"
 refine cq (fun e=>?_) fun e=>?_
 ·walk_at "run"
  refine cb p1 (by omega) (by omega) (by omega) fun r2 M2 b1 b2 p2 k2=>?_
  walk_at "run"
  exact h _ _ b1 (by omega) p2 (k1.trans k2 fun _ z _=>z)
 walk_at "run"
 refine cq (fun e=>?_) fun e=>?_
 ·walk_at "run"
  exact h _ _ (by omega) (by omega) (p1.le (by omega)) k1
 walk_at "run"
 refine cb p1 (by omega) (by omega) (by omega) fun r2 M2 b1 b2 p2 k2=>?_
 walk_at "run"
 exact h _ _ b1 b2 p2 (k1.trans k2 fun _ z _=>z)
theorem HY{M:Sto}{a:Nat}{ds:List D}(h:M a=some (.lst ds)):vw1 M (.ptr a)=.lst ds:=by simp only[vw1,h]
def HZ(m:Nat)(r:List Int):Prop:=r.length=m+1/\(∀ x ∈ r,0<=x/\x<=1000)/\0 < r.sum
theorem Ia{C a n m:Nat}{M:Sto}{Q:QE}(hp:Pool M a n)(hn:n<=60000)(hm:m<=10)(h:∀ r M',HZ m r->Pool M' a (n+33)->Kp (· = a) M M'->Q (DI r) M'):kO C [.ptr a,.int (m:Nat)] M Q:=by
 refine bw rfl ?_
 unfold pR
 walk_at "env"
 walk_at "run"
 refine uN ?_
 walk_at "run"
 intro x hx
 have hxa:x ≠ a:=fun e=>by subst e;obtain⟨_,_,_,h1,_⟩:=hp;rw[hx] at h1;cases h1
 walk_at "run"
 refine⟨⟨by omega,by omega⟩,?_⟩
 rw[show ((m:Int)+1).toNat=m+1 by omega]
 refine mD _ _ (fun k ρ M'=>∃ b,ρ=[some (.ptr a),some (.int (m:Nat)),some (.ptr x),b]/\∃ r:List Int,M' x=some (.lst (r.map D.int))/\r.length=k/\(∀ z ∈ r,0<=z/\z<=1000)/\Pool M' a (n+3 * k)/\Kp (· = a) M M') ⟨_,rfl,[],aK,rfl,by simp,hp.keep (S:=fun _=>False) (Kp.upd (.inr hx)) id,Kp.upd (.inr hx)⟩ ?_ ?_
 ·rintro ρ M1 ⟨b,rfl,r,h1,h2,h3,p1,k1⟩
  rw[List.length_range] at h2 p1
  walk_at "run"
  rw[show List.map (vw1 M1) [D.ptr x]=[DI r] by simp[HY h1]]
  walk_at "run"
  have hnn:=lZ fun z hz=>(h3 z hz).1
  have hdel:∀ c,Kp (· = a) M (di (aP M1 x c) x):=fun c=>(k1.trans (Kp.upd (S:=(· = x)) (.inl rfl)) fun b z n=>by subst z;exact absurd hx n).trans (Kp.del (S:=(· = x)) rfl) fun b z n=>by subst z;exact absurd hx n
  have hpd:∀ M2:Sto,Pool M2 a (n+3 * (m+1))->Pool (di M2 x) a (n+33):=fun M2 p=>(p.keep (S:=(· = x)) (Kp.del rfl) (Ne.symm hxa)).le (by omega)
  refine cq (fun e=>?_) fun e=>?_
  ·walk_at "run"
   refine⟨x,_,_,m,rfl,h1,rfl,?_,?_⟩
   ·rw[List.length_map,h2];unfold ixN;rw[if_pos (by omega),if_pos (by omega)];congr 1
   walk_at "run"
   refine uQ rfl aK ?_
   walk_at "run"
   have hs:(r.map D.int).set m (D.int 1)=(r.set m 1).map D.int:=by rw[List.map_set]
   rw[hs]
   refine h (r.set m 1) _ ⟨by rw[List.length_set,h2],fun z hz=>?_,?_⟩ ?_ ?_
   ·rcases List.mem_or_eq_of_mem_set hz with hz | hz
    ·exact h3 z hz
    ·subst hz;omega
   ·have hall:∀ z ∈ r.set m 1,0<=z:=fun z hz=>by
     rcases List.mem_or_eq_of_mem_set hz with hz | hz
     ·exact (h3 z hz).1
     ·subst hz;omega
    have hmem:(1:Int) ∈ r.set m 1:=List.mem_set (by omega) ..
    obtain⟨u,w,e⟩:=List.append_of_mem hmem
    rw[e] at hall ⊢
    rw[List.sum_append,List.sum_cons]
    have g1:=lZ fun y hy=>hall y (List.mem_append_left _ hy)
    have g2:=lZ fun y hy=>hall y (List.mem_append_right _ (List.mem_cons_of_mem _ hy))
    omega
   ·exact hpd _ (p1.keep (S:=(· = x)) (Kp.upd (.inl rfl)) (Ne.symm hxa))
   ·exact hdel _
  ·walk_at "run"
   refine uQ rfl h1 ?_
   walk_at "run"
   refine h r _ ⟨h2,h3,by omega⟩ (hpd _ p1) ?_
   have:=hdel (.lst (r.map D.int))
   rwa [Eg h1] at this
 ·rintro k hk ρ M1 ⟨b,rfl,r,h1,h2,h3,p1,k1⟩ N hN
  rw[List.length_range] at hk
  walk_at "env"
  walk_at "run"
  refine⟨x,_,rfl,h1,?_⟩
  walk_at "run"
  refine cb p1 (by omega) (by omega) (by omega) fun v1 M2 a1 a2 p2 k2=>?_
  walk_at "run"
  refine cb p2 (by omega) (by omega) (by omega) fun v2 M3 b1 b2 p3 k3=>?_
  walk_at "run"
  refine cb p3 (by omega) (by omega) (by omega) fun v3 M4 c1 c2 p4 k4=>?_
  walk_at "run"
  refine tI 0 1000 c1 (by show _ < (3:Int);omega) (by simp only[AllI,and_true];omega) fun v e1 e2=>?_
  have x4:M4 x=some (.lst (r.map D.int)):=k4 _ _ (k3 _ _ (k2 _ _ h1 hxa) hxa) hxa
  refine⟨_,x4,by simp;omega,uS (hN _ _ ⟨_,rfl,r++[v],?_,by simp[h2],fun z hz=>?_,?_,?_⟩)⟩
  ·rw[aK,List.map_append];rfl
  ·rcases List.mem_append.mp hz with hz | hz
   ·exact h3 z hz
   ·rw[List.mem_singleton.mp hz];exact⟨e1,e2⟩
  ·exact (p4.keep (S:=(· = x)) (Kp.upd (.inl rfl)) (Ne.symm hxa)).le (by omega)
  ·exact (((k1.trans k2 fun _ z _=>z).trans k3 fun _ z _=>z).trans k4 fun _ z _=>z).trans (Kp.upd (S:=(· = x)) (.inl rfl)) fun b z n=>by subst z;exact absurd hx n
theorem Ib{C a n:Nat}{M:Sto}{Q:QE}(hp:Pool M a n)(hn:n<=80000)(h:∀ r c o d M',0<=r->r<=10->0<=c->c<=o->1<=o->o<=1000->0<=d->d<=1000000->Pool M' a (n+6)->Kp (· = a) M M'->Q (.tup [.int r,.int c,.int o,.int d]) M'):kN C [.ptr a] M Q:=by
 refine bw rfl ?_
 unfold pQ
 walk_at "env"
 walk_at "run"
 refine pY hp (by omega) (by omega) (by omega) fun o M1 a1 a2 p1 k1=>?_
 walk_at "run"
 refine cb p1 (by omega) (by omega) (by omega) fun r M2 b1 b2 p2 k2=>?_
 walk_at "run"
 refine cb p2 (by omega) (by omega) (by omega) fun c M3 c1 c2 p3 k3=>?_
 walk_at "run"
 refine pY p3 (by omega) (by omega) (by omega) fun d M4 d1 d2 p4 k4=>?_
 walk_at "run"
 exact h _ _ _ _ _ b1 (by omega) c1 (by omega) (by omega) (by omega) d1 (by omega) p4 (((k1.trans k2 fun _ z _=>z).trans k3 fun _ z _=>z).trans k4 fun _ z _=>z)
def RowsOk(n:Nat)(ts:List (List Int)):Prop:=∀ r ∈ ts,r.length=n+1/\(∀ x ∈ r,0<=x/\x<=1000)/\0 < r.sum
theorem RowsOk.sum{n:Nat}{ts:List (List Int)}(h:RowsOk n ts)(hn:n<=10):∀ r ∈ ts,0<=r.sum/\r.sum < 1000000:=fun r hr=>by
 obtain⟨h1,h2,h3⟩:=h r hr
 have h4:=tO (b:=1000) fun x hx=>(h2 x hx).2
 omega
theorem Ic{C:Nat}{M:Sto}{Q:QE}{ns:List Int}{k:Int}(h0:0<=k)(h1:k<=900)(h:∀ (S:Nat) J1 J2 r c o d M',S<=10->1<=J1.length->J1.length<=6->(∀ x ∈ J1,1<=x/\x<=1000000)->J2.length<=8->RowsOk J1.length J2->0<=r->r<=10->0<=c->c<=o->1<=o->o<=1000->0<=d->d<=1000000->Kp (fun _=>False) M M' ->
   Q (.tup [.int (S:Nat),DI J1,DII J2,.tup [.int r,.int c,.int o,.int d]]) M'):kP C [.scr ns,.int k] M Q:=by
 refine bw rfl ?_
 unfold pS
 walk_at "env"
 walk_at "run"
 refine pX h0 (by omega) fun p M1 hp P1 K1=>?_
 walk_at "run"
 refine cb P1 (by omega) (by omega) (by omega) fun s M2 a1 a2 P2 K2=>?_
 walk_at "run"
 refine uR ?_
 walk_at "run"
 refine cb P2 (by omega) (by omega) (by omega) fun j M3 b1 b2 P3 K3=>?_
 walk_at "run"
 refine⟨⟨by omega,by omega⟩,by omega,?_⟩
 obtain⟨J,rfl⟩:∃ J:Nat,j=J:=⟨j.toNat,by omega⟩
 rw[show (1+(J:Int)).toNat=J+1 by omega]
 refine uU _ _ (fun k ds M'=>∃ fs:List Int,ds=fs.map D.int/\fs.length=k/\(∀ x ∈ fs,1<=x/\x<=1000000)/\Pool M' p (3000+2 * k)/\Kp (· = p) M3 M') ⟨[],rfl,rfl,by simp,P3.le (by omega),Kp.refl⟩ ?_ ?_
 ·rintro _ M4 ⟨J1,rfl,c1,c2,P4,K4⟩
  rw[List.length_range] at c1 P4
  walk_at "run"
  refine Ib P4 (by omega) fun r c o d M5 d1 d2 d3 d4 d5 d6 d7 d8 P5 K5=>?_
  walk_at "run"
  refine cb P5 (by omega) (by omega) (by omega) fun m M6 e1 e2 P6 K6=>?_
  walk_at "run"
  refine pX (by omega) (by omega) fun q M7 hq P7 K7=>?_
  walk_at "run"
  refine uR ?_
  walk_at "run"
  refine⟨⟨by omega,by omega⟩,by omega,?_⟩
  obtain⟨T,rfl⟩:∃ T:Nat,m=T:=⟨m.toNat,by omega⟩
  obtain⟨S,rfl⟩:∃ S:Nat,s=S:=⟨s.toNat,by omega⟩
  rw[Int.toNat_natCast]
  have KK:Kp (fun _=>False) M M7:=by
   have z:Kp (· = p) M1 M6:=(((K2.trans K3 fun _ z _=>z).trans K4 fun _ z _=>z).trans K5 fun _ z _=>z).trans K6 fun _ z _=>z
   exact (K1.trans z fun x e n=>by subst e;exact absurd hp n).trans K7 fun _ z _=>z
  refine uU _ _ (fun k ds M'=>∃ ts:List (List Int),ds=ts.map DI/\ts.length=k/\RowsOk J1.length ts/\Pool M' q (2000+33 * k)/\Kp (· = q) M7 M') ⟨[],rfl,rfl,fun _ z=>by simp at z,P7,Kp.refl⟩ ?_ ?_
  ·rintro _ M8 ⟨ts,rfl,f1,f2,P8,K8⟩
   rw[List.length_range] at f1
   walk_at "run"
   have hq':M q=none:=by
    cases e:M q with
    | none=>rfl
    | some c =>
      have z:Kp (· = p) M1 M6:=(((K2.trans K3 fun _ z _=>z).trans K4 fun _ z _=>z).trans K5 fun _ z _=>z).trans K6 fun _ z _=>z
      have:=z _ _ (K1 _ _ e id) (fun e'=>by subst e';rw[e] at hp;cases hp)
      rw[hq] at this;cases this
   exact h S J1 ts r c o d M8 (by omega) (by omega) (by omega) c2 (by omega) f2 d1 d2 d3 d4 d5 d6 d7 d8 (KK.trans K8 fun x e n=>by subst e;exact absurd hq' n)
  ·rintro k hk _ M8 ⟨ts,rfl,f1,f2,P8,K8⟩ N hN
   rw[List.length_range] at hk
   walk_at "env"
   walk_at "run"
   rw[List.length_map]
   refine Ia P8 (by omega) (by omega) fun row M9 g1 P9 K9=>?_
   refine hN _ _ ⟨ts++[row],by simp[DI],by simp[f1],fun r' hr'=>?_,P9.le (by omega),K8.trans K9 fun _ z _=>z⟩
   rcases List.mem_append.mp hr' with hr' | hr'
   ·exact f2 r' hr'
   ·rw[List.mem_singleton.mp hr'];exact g1
 ·rintro k hk _ M4 ⟨fs,rfl,c1,c2,P4,K4⟩ N hN
  rw[List.length_range] at hk
  walk_at "env"
  walk_at "run"
  refine pY P4 (by omega) (by omega) (by omega) fun v M5 d1 d2 P5 K5=>?_
  walk_at "run"
  refine hN _ _ ⟨fs++[1+v],by simp,by simp[c1],fun x hx=>?_,P5.le (by omega),K4.trans K5 fun _ z _=>z⟩
  rcases List.mem_append.mp hx with hx | hx
  ·exact c2 x hx
  ·rw[List.mem_singleton.mp hx];omega
theorem vz(n l m:Int):cw [.int n,.int l,.int m]=some (.bl (decide (l<=n/\n<=m))):=by
 refine cF (cK (bS rfl ?_))
 unfold oT
 walk_at "env"
 walk_at "all" <;> walk_at "leaf"
local macro_rules | `(tactic| walk_at "call")=>`(tactic| (with_reducible refine bL (vz _ _ _) ?_))
theorem vA{row:List Int}:gd [DI row]=some (.int row.sum):=by
 refine cF (cK (bS rfl ?_))
 unfold oW
 walk_at "env"
 walk_at "run"
structure SaleOk (seats:Int) (J1:List Int) (J2:List (List Int)):Prop where
 s0:0<=seats
 s1:seats<=10
 f0:1<=J1.length
 f1:J1.length<=6
 f:∀ x ∈ J1,1<=x/\x<=1000000
 t:J2.length<=8
 r:∀ r ∈ J2,r.length=J1.length+1/\(∀ x ∈ r,0<=x/\x<=1000)/\0 < r.sum
local macro_rules | `(tactic| walk_at "call")=>`(tactic| (with_reducible refine bL (vz _ _ _) ?_))
def jl(n:Nat)(r:List Int):Prop:=r.length=n+1/\(∀ x ∈ r,0<=x/\x<=1000)/\0 < r.sum
theorem Id{n:Nat}{r:List Int}(hl:r.length<=1000):WF kz [DI r,.int (n:Nat)] fun d=>∃ b,d=.bl b/\(b=true ↔ jl n r):=by
 refine cK (bS rfl ?_)
 unfold oX
 walk_at "env"
 walk_at "run"
 rw[List.length_map]
 refine jW (fun h=>?_) fun h=>?_
 ·walk_at "run"
  unfold jl
  simp;omega
 ·walk_at "run"
  refine ow (α:=Int) (fun x=>0<=x/\x<=1000) ?_
  walk_at "run"
  refine⟨.int,r,rfl,by omega,fun x hx=>⟨_,rfl,?_⟩,fun bs hb=>?_⟩
  ·walk_at "env"
   walk_at "run"
   simp
  walk_at "run"
  refine tS hb (fun h1=>?_) fun h1=>?_
  ·walk_at "run"
   refine bL vA ?_
   walk_at "run"
   unfold jl
   rw[decide_eq_true_iff]
   exact⟨fun h2=>⟨by omega,h1,h2⟩,fun h2=>h2.2.2⟩
  ·walk_at "run"
   unfold jl
   simp
   intro _ h2;exact absurd h2 h1
theorem Ie{f:List Int}(hl:f.length<=1000):WF ky [DI f] fun d=>∃ b,d=.bl b/\(b=true ↔ 1<=f.length/\f.length<=6/\∀ x ∈ f,1<=x/\x<=1000000):=by
 refine cK (bS rfl ?_)
 unfold oV
 walk_at "env"
 walk_at "run"
 rw[List.length_map]
 refine cq (fun h=>?_) fun h=>?_
 ·walk_at "run"
  refine cq (fun h2=>?_) fun h2=>?_
  ·walk_at "run"
   refine ow (α:=Int) (fun x=>1<=x/\x<=1000000) ?_
   walk_at "run"
   refine⟨.int,f,rfl,by omega,fun x hx=>⟨_,rfl,?_⟩,fun bs hb=>?_⟩
   ·walk_at "env"
    walk_at "run"
    simp
   walk_at "run"
   exact hb.trans ⟨fun h=>⟨by omega,by omega,h⟩,fun h=>h.2.2⟩
  ·walk_at "run"
   simp;omega
 ·walk_at "run"
  simp;omega
theorem Ig{n:Nat}{t:List (List Int)}(hl:t.length<=1000)(hr:∀ r ∈ t,r.length<=1000):WF kA [DII t,.int (n:Nat)] fun d=>∃ b,d=.bl b/\(b=true ↔ t.length<=8/\∀ r ∈ t,jl n r):=by
 refine cK (bS rfl ?_)
 unfold oY
 walk_at "env"
 walk_at "run"
 rw[List.length_map]
 refine cq (fun h=>?_) fun h=>?_
 ·walk_at "run"
  refine ow (α:=List Int) (jl n) ?_
  walk_at "run"
  refine⟨DI,t,rfl,by omega,fun x hx=>⟨_,rfl,?_⟩,fun bs hb=>?_⟩
  ·walk_at "env"
   walk_at "run"
   exact Id (hr x hx)
  walk_at "run"
  exact hb.trans ⟨fun h=>⟨by omega,h⟩,fun h=>h.2⟩
 ·walk_at "run"
  simp;omega
theorem vB{s:Int}{f:List Int}{t:List (List Int)}(hf:f.length<=1000)(hl:t.length<=1000)(hr:∀ r ∈ t,r.length<=1000):WF mE [.int s,DI f,DII t] fun d=>∃ b,d=.bl b/\(b=true ↔ SaleOk s f t):=by
 refine cK (bS rfl ?_)
 unfold oZ
 walk_at "env"
 walk_at "run"
 refine cq (fun h=>?_) fun h=>?_
 ·walk_at "run"
  refine iY (Ie hf) ?_
  rintro _ ⟨b,rfl,hb⟩
  walk_at "run"
  refine tS hb (fun h1=>?_) fun h1=>?_
  ·walk_at "run"
   rw[List.length_map]
   refine iY (Ig hl hr) ?_
   rintro _ ⟨b,rfl,hb⟩
   walk_at "run"
   exact hb.trans ⟨fun h2=>⟨h.1,h.2,h1.1,h1.2.1,h1.2.2,h2.1,h2.2⟩,fun h2=>⟨h2.t,h2.r⟩⟩
  ·walk_at "run"
   exact⟨fun h=>(nomatch h),fun h2=>absurd ⟨h2.f0,h2.f1,h2.f⟩ h1⟩
 ·walk_at "run"
  exact⟨fun h=>(nomatch h),fun h2=>absurd ⟨h2.s0,h2.s1⟩ h⟩
def eU(r c o d:Int):Bool:=decide (0<=r/\r<=10/\1<=o/\o<=1000/\0<=c/\c<=o/\0<=d/\d<=1000000)
theorem vC(r c o d:Int):mI [.tup [.int r,.int c,.int o,.int d]]=some (.bl (eU r c o d)):=by
 refine cF (cK (bS rfl ?_))
 unfold pw eU
 walk_at "env"
 walk_at "all" <;> walk_at "leaf"
theorem vD{n:Nat}{x:Int}(hl:n<=1000)(hx:0<=x/\x<=1000000):gc [.int x,.int (n:Nat)]=some (.int (x ^ n)):=by
 refine cF (cK (bS rfl ?_))
 unfold oU
 walk_at "env"
 walk_at "run"
 refine⟨⟨by omega,by omega⟩,?_⟩
 rw[Int.toNat_natCast]
 refine lW _ _ (fun k ρ=>∃ a,ρ=[some (.int x),some (.int (n:Nat)),some (.int (x ^ k)),a]) ⟨_,by rw[Int.pow_zero]⟩ ?_ ?_
 ·rintro ρ ⟨a,rfl⟩
  rw[List.length_range]
  walk_at "run"
 ·rintro k hk ρ ⟨a,rfl⟩
  rw[List.length_range] at hk
  walk_at "env"
  walk_at "run"
  walk_at "env"
  rw[Int.pow_succ]
  exact⟨_,rfl⟩
def more(xs:List Int)(c s:Int):List Int:=List.zipWith (fun a b=>a+b) (xs.map (fun x=>x * s)++[0]) (0::xs.map fun x=>x * c)
theorem vE(xs:List Int)(c s:Int):(more xs c s).length=xs.length+1:=by simp[more]
theorem Ih{xs:List Int}{c s:Int}(hl:xs.length<=1000)(hc:0<=c/\c<=1000000)(hs:0<=s/\s<=1000000):kF [DI xs,.int c,.int s]=some (DI (more xs c s)):=by
 refine cF (bS rfl ?_)
 unfold py
 walk_at "env"
 walk_at "run"
 refine er (α:=Int) ?_
 walk_at "run"
 refine⟨.int,fun x=>.int (x * s),xs,rfl,by omega,fun x hx=>⟨_,rfl,?_⟩,?_⟩
 ·walk_at "env"
  walk_at "run"
 walk_at "run"
 refine er (α:=Int) ?_
 walk_at "run"
 refine⟨.int,fun x=>.int (x * c),xs,rfl,by omega,fun x hx=>⟨_,rfl,?_⟩,?_⟩
 ·walk_at "env"
  walk_at "run"
 walk_at "run"
 refine er (α:=Int × Int) ?_
 walk_at "run"
 refine⟨fun p=>.tup [.int p.1,.int p.2],fun p=>.int (p.1+p.2),(xs.map (fun x=>x * s)++[0]).zip (0::xs.map fun x=>x * c),?_,by simp;omega,fun x hx=>⟨_,rfl,?_⟩,?_⟩
 ·rw[<- tP];simp;rfl
 ·walk_at "env"
  walk_at "run"
 ·walk_at "run"
  congr 1
  rw[more,<- List.map_uncurry_zip_eq_zipWith,List.map_map]
  rfl
def dn:Nat->Int->Int->List Int
 | 0,_,_=>[1]
 | n+1,c,s=>more (dn n c s) c s
theorem pZ(n:Nat)(c s:Int):(dn n c s).length=n+1:=by
 induction n with
 | zero=>rfl
 | succ n ih=>rw[dn,vE,ih]
theorem Ii{n:Nat}{c o:Int}(hl:n<=100)(hc:0<=c/\c<=o)(ho:o<=1000000):kG [.int (n:Nat),.int c,.int o]=some (DI (dn n c (o - c))):=by
 refine cF (bS rfl ?_)
 unfold pz
 walk_at "env"
 walk_at "run"
 refine⟨⟨by omega,by omega⟩,?_⟩
 rw[Int.toNat_natCast]
 refine lW _ _ (fun k ρ=>∃ a,ρ=[some (.int (n:Nat)),some (.int c),some (.int o),some (DI (dn k c (o - c))),a]) ⟨_,rfl⟩ ?_ ?_
 ·rintro ρ ⟨a,rfl⟩
  rw[List.length_range]
  walk_at "run"
 ·rintro k hk ρ ⟨a,rfl⟩
  rw[List.length_range] at hk
  walk_at "env"
  walk_at "run"
  refine bL (Ih (by rw[pZ];omega) (by omega) (by omega)) ?_
  walk_at "run"
  walk_at "env"
  exact⟨_,rfl⟩
theorem vF:∀ (xs ys:List Int),xs.length=ys.length->(List.zipWith (fun a b=>a+b) xs ys).sum=xs.sum+ys.sum
 | [],[],_=>by simp
 | x::xs,y::ys,h=>by
   have:=vF xs ys (by simpa using h)
   rw[List.zipWith_cons_cons,List.sum_cons,this,List.sum_cons,List.sum_cons];omega
theorem vG(xs:List Int)(c:Int):(xs.map fun x=>x * c).sum=xs.sum * c:=by
 induction xs with
 | nil=>simp
 | cons x r ih=>rw[List.map_cons,List.sum_cons,ih,List.sum_cons,Int.add_mul]
theorem Ij(xs:List Int)(c s:Int):(more xs c s).sum=xs.sum * (c+s):=by
 rw[more,vF _ _ (by simp),List.sum_append,vG,List.sum_cons (a:=0) (l:=xs.map _),vG,Int.mul_add]
 simp;omega
theorem Ik(n:Nat)(c s:Int):(dn n c s).sum=(c+s) ^ n:=by
 induction n with
 | zero=>simp[dn]
 | succ n ih=>rw[dn,Ij,ih,Int.pow_succ]
theorem Il{xs:List Int}{c s:Int}{j:Nat}(h:j < (more xs c s).length):(more xs c s)[j]=xs.getD j 0 * s+(if j=0 then 0 else xs.getD (j - 1) 0 * c):=by
 have hl:=vE xs c s
 simp only[more,List.getElem_zipWith]
 congr 1
 ·by_cases hj:j < xs.length
  ·rw[List.getElem_append_left (by simpa using hj),List.getElem_map,gJ _ _ _ hj]
  ·have:j=xs.length:=by omega
   subst this
   rw[List.getElem_append_right (by simp)]
   simp[List.getD_eq_getElem?_getD]
 ·cases j with
  | zero=>simp
  | succ j=>simp only[List.getElem_cons_succ,List.getElem_map,Nat.add_sub_cancel];rw[if_neg (by omega),gJ _ _ _ (by omega)]
def wt(f:Nat->Int):Nat->List Int->Int
 | _,[]=>0
 | k,x::r=>x * f k+wt f (k+1) r
theorem Im{f g:Nat->Int}{xs:List Int}{k:Nat}(hx:∀ x ∈ xs,0<=x)(h:∀ j,k<=j->j < k+xs.length->f j<=g j):wt f k xs<=wt g k xs:=by
 induction xs generalizing k with
 | nil=>simp[wt]
 | cons x r ih =>
   have h1:=ih (k:=k+1) (fun y hy=>hx y (List.mem_cons_of_mem _ hy)) fun j h1 h2=>h j (by omega) (by rw[List.length_cons];omega)
   have h2:=Int.mul_le_mul_of_nonneg_left (h k (by omega) (by rw[List.length_cons];omega)) (hx x (List.mem_cons_self ..))
   simp only[wt];omega
theorem Io(a:Int)(xs:List Int)(k:Nat):wt (fun _=>a) k xs=a * xs.sum:=by
 induction xs generalizing k with
 | nil=>simp[wt]
 | cons x r ih=>simp only[wt];rw[ih,List.sum_cons];grind
theorem Ip{f:Nat->Int}{xs:List Int}{k:Nat}(hx:∀ x ∈ xs,0<=x)(h:∀ j,0<=f j):0<=wt f k xs:=by
 induction xs generalizing k with
 | nil=>simp[wt]
 | cons x r ih =>
   have h1:=ih (k:=k+1) fun y hy=>hx y (List.mem_cons_of_mem _ hy)
   have h2:=Int.mul_nonneg (hx x (List.mem_cons_self ..)) (h k)
   simp only[wt];omega
theorem Iq(F:Int->Nat->Int)(f:Nat->Int)(h:∀ x j,F x j=x * f j)(xs:List Int)(k:Nat):((xs.zipIdx k).map fun p=>F p.1 p.2).sum=wt f k xs:=by
 induction xs generalizing k with
 | nil=>rfl
 | cons x r ih=>rw[List.zipIdx_cons,List.map_cons,List.sum_cons,ih];simp only[wt];rw[h]
theorem Ir{xs:List Int}{c s:Int}(hc:0<=c)(hs:0<=s)(hx:∀ x ∈ xs,0<=x):∀ x ∈ more xs c s,0<=x:=by
 intro x hx'
 obtain⟨j,hj,rfl⟩:=List.getElem_of_mem hx'
 have hg:∀ i,0<=xs.getD i 0:=fun i=>by
  by_cases hi:i < xs.length
  ·rw[gJ _ _ _ hi];exact hx _ (List.getElem_mem _)
  ·rw[List.getD_eq_getElem?_getD,List.getElem?_eq_none (by omega)];exact Int.le_refl 0
 rw[Il hj]
 have h1:=Int.mul_nonneg (hg j) hs
 have h2:=Int.mul_nonneg (hg (j - 1)) hc
 split <;> omega
theorem vH{c s:Int}(hc:0<=c)(hs:0<=s)(n:Nat):∀ x ∈ dn n c s,0<=x:=by
 induction n with
 | zero=>intro x hx;simp[dn] at hx;omega
 | succ n ih=>exact Ir hc hs ih
def fF(room:Int)(j:Nat):Int:=max ((j:Int) - room) 0
def fG(room c s:Int)(n:Nat):Int:=wt (fF room) 0 (dn n c s)
theorem Iu{n:Nat}{r c o d:Int}(hl:n<=100)(hr:0<=r/\r<=1000)(hc:0<=c/\c<=o)(ho:o<=1000000):kH [.int (n:Nat),.tup [.int r,.int c,.int o,.int d]]=some (.int (fG r c (o - c) n)):=by
 refine cF (cK (bS rfl ?_))
 unfold pA
 walk_at "env"
 walk_at "run"
 refine bL (Ii hl hc ho) ?_
 have hlen:=pZ n c (o - c)
 walk_at "run"
 refine er (α:=Int × Nat) ?_
 walk_at "run"
 refine⟨fun p=>.tup [.int (p.2:Nat),.int p.1],fun p=>.int (p.1 * fF r p.2),(dn n c (o - c)).zipIdx,E7 _ _,by simp;omega,fun p hp=>⟨_,rfl,?_⟩,?_⟩
 ·have hp:=List.snd_lt_of_mem_zipIdx hp
  walk_at "env"
  walk_at "run"
  rfl
 rw[show ((dn n c (o - c)).zipIdx.map fun p=>D.int (p.1 * fF r p.2))=((dn n c (o - c)).zipIdx.map fun p=>p.1 * fF r p.2).map D.int by rw[List.map_map];rfl]
 walk_at "run"
 rw[Iq (fun x j=>x * fF r j) (fF r) (fun _ _=>rfl)]
 rfl
def q9(r c o d:Int)(J4 left:Nat):Int:=-d * fG r c (o - c) J4 * o ^ left
theorem Iv{n l:Nat}{r c o d:Int}(hn:n<=100)(hl:l<=100)(hr:0<=r/\r<=1000)(hc:0<=c/\c<=o)(ho:o<=1000000)(hd:0<=d/\d<=1000000)(hm:okMul (-d * fG r c (o - c) n) (o ^ l)):kI [.int (n:Nat),.int (l:Nat),.tup [.int r,.int c,.int o,.int d]]=some (.int (q9 r c o d n l)):=by
 refine cF (cK (bS rfl ?_))
 unfold pB
 walk_at "env"
 walk_at "run"
 refine bL (Iu hn hr hc ho) ?_
 walk_at "run"
 refine bL (vD (by omega) (by omega)) ?_
 walk_at "run"
 rfl
def ends(r c o d:Int)(S:Nat):List Int:=(List.range (S+1)).map fun l=>q9 r c o d (S - l) l
theorem qa(r c o d:Int)(S:Nat):(ends r c o d S).length=S+1:=by simp[ends]
theorem Iw{r c s:Int}(hc:0<=c)(hs:0<=s)(n:Nat):0<=fG r c s n:=Ip (vH hc hs n) fun j=>by unfold fF;omega
theorem Ix{r c s:Int}(hr:0<=r)(hc:0<=c)(hs:0<=s)(n:Nat):fG r c s n<=n * (c+s) ^ n:=by
 have:=Im (f:=fF r) (g:=fun _=>(n:Int)) (xs:=dn n c s) (k:=0) (vH hc hs n) fun j _ h=>by
  rw[pZ] at h;unfold fF;omega
 rwa [Io,Ik] at this
theorem Iy{r c o d:Int}{n l:Nat}(hn:n<=10)(hl:l<=10)(hr:0<=r/\r<=1000)(hc:0<=c/\c<=o)(ho:o<=1000)(h1:1<=o)(hd:0<=d/\d<=1000000):okMul (-d * fG r c (o - c) n) (o ^ l):=by
 have a1:=Iw (r:=r) hc.1 (show 0<=o - c by omega) n
 have a2:=Ix hr.1 hc.1 (show 0<=o - c by omega) n
 rw[show c+(o - c)=o by omega] at a2
 have a3:o ^ n<=1000 ^ 10:=m6 10 (by omega) ho (by omega) hn
 have a4:(n:Int) * o ^ n<=10 * 1000 ^ 10:=Int.mul_le_mul (by omega) a3 (ot (by omega) n) (by omega)
 have b1:=Int.mul_nonneg hd.1 a1
 have b2:d * fG r c (o - c) n<=1000000 * (10 * 1000 ^ 10):=Int.mul_le_mul hd.2 (by omega) a1 (by omega)
 have c1:=ot (show 0<=o by omega) l
 have c2:o ^ l<=1000 ^ 10:=m6 10 (by omega) ho (by omega) hl
 have e:-d * fG r c (o - c) n = -(d * fG r c (o - c) n):=Int.neg_mul ..
 exact tH (jX (by omega) (by omega)) (jX (by omega) (by omega))
theorem Iz{S:Nat}{r c o d:Int}(hS:S<=10)(hr:0<=r/\r<=1000)(hc:0<=c/\c<=o)(ho:o<=1000)(h1:1<=o)(hd:0<=d/\d<=1000000):mJ [.int (S:Nat),.tup [.int r,.int c,.int o,.int d]]=some (DI (ends r c o d S)):=by
 refine cF (bS rfl ?_)
 unfold pC
 walk_at "env"
 walk_at "run"
 refine er (α:=Nat) ?_
 walk_at "run"
 refine⟨⟨by omega,by omega⟩,fun l=>.int (l:Nat),fun l=>.int (q9 r c o d (S - l) l),List.range (S+1),by rw[show ((S:Int)+1).toNat=S+1 by omega],by simp;omega,fun l hl=>⟨_,rfl,?_⟩,?_⟩
 ·have hl:=List.mem_range.mp hl
  walk_at "env"
  walk_at "run"
  rw[show (S:Int) - (l:Int)=((S - l:Nat):Int) by omega]
  refine bL (Iv (by omega) (by omega) hr hc (by omega) hd (Iy (by omega) (by omega) hr hc ho h1 hd)) ?_
  walk_at "run"
 walk_at "run"
 simp[ends]
def bd:List (List Int)->Int->List Int
 | [],l=>[l]
 | r::rs,l=>((bd rs l).headD 0 * r.sum)::bd rs l
theorem vI(rs:List (List Int))(l:Int):bd rs l ≠ []:=by cases rs <;> simp[bd]
theorem kQ(rs:List (List Int))(l:Int):(bd rs l).length=rs.length+1:=by
 induction rs with
 | nil=>rfl
 | cons r rs ih=>simp[bd,ih]
theorem IA{xs:List Int}(h:xs ≠ [])(h':xs.reverse ≠ []):xs.reverse.getLast h'=xs.headD 0:=by
 cases xs with
 | nil=>exact absurd rfl h
 | cons x r=>simp
theorem vJ{J2:List (List Int)}{last:Int}(hr:∀ r ∈ J2,0<=r.sum/\r.sum < 1000000)(hl:J2.length<=1000):gQ [DII J2,.int last]=some (DI (bd J2 last)):=by
 refine cF (bS rfl ?_)
 unfold p5
 walk_at "env"
 walk_at "run"
 rw[<- List.map_reverse]
 refine lW _ _ (fun k ρ=>∃ o,ρ=[some (DII J2),some (.int last),some (DI (bd ((J2.reverse.take k).reverse) last).reverse),o]) ⟨_,rfl⟩ ?_ ?_
 ·rintro ρ ⟨o,rfl⟩
  walk_at "run"
  rw[List.length_reverse,List.take_of_length_le (by simp),List.reverse_reverse,<- List.map_reverse,List.reverse_reverse]
 ·rintro k hk ρ ⟨o,rfl⟩
  rw[List.length_reverse] at hk
  walk_at "env"
  refine tD rfl (by simp[kQ];omega) ?_
  walk_at "run"
  refine E3 (by simp[vI]) ?_
  walk_at "run"
  refine bL vA ?_
  have hm:=hr (J2.reverse[k]) (by rw[<- List.mem_reverse];exact List.getElem_mem _)
  walk_at "run"
  walk_at "env"
  rw[E5]
  have e:(bd (J2.reverse.take (k+1)).reverse last).reverse=(bd (J2.reverse.take k).reverse last).reverse++[(bd (J2.reverse.take k).reverse last).headD 0 * J2.reverse[k].sum]:=by
   rw[List.take_succ_eq_append_getElem (by simpa using hk),List.reverse_append,List.reverse_singleton,List.singleton_append,bd,List.reverse_cons]
  rw[e,IA (vI _ _)]
  exact⟨_,rfl⟩
theorem vK{bs:List Int}{f scale:Int}{s:Nat}(hm:okMul f scale)(hs:s < bs.length)(h0:0 < s):ge [.int f,.int scale,DI bs,.int (s:Nat)]=some (.int (f * scale+bs.getD (s - 1) 0)):=by
 refine cF (cK (bS rfl ?_))
 unfold p8
 walk_at "env"
 walk_at "run"
 refine et (by omega) (by omega) ?_
 walk_at "run"
 rw[show ((s:Int) - 1).toNat=s - 1 by omega]
def mR(f scale:Int)(bs:List Int)(s:Nat):Int:=if s=0 then bs.getD 0 0 else max (bs.getD s 0) (f * scale+bs.getD (s - 1) 0)
def qb(row cs:List Int)(kept:Int):Int:=(List.zipWith (fun a b=>a * b) row (cs++[kept])).sum
def qc(J1 row:List Int)(scale:Int)(bs:List Int)(s:Nat):Int:=qb row (J1.map fun f=>mR f scale bs s) (bs.getD s 0)
def kR(J1 row:List Int)(scale:Int)(bs:List Int):List Int:=(List.range bs.length).map (qc J1 row scale bs)
def fH(xs:List Int):Prop:=∀ x ∈ xs,-1000000000000<=x/\x<=1000000000000
theorem IC{f scale:Int}{bs:List Int}{s:Nat}(hf:-1000000000000<=f/\f<=1000000000000)(hs:s < bs.length):kC [.int f,.int scale,DI bs,.int (s:Nat)]=some (.int (mR f scale bs s)):=by
 refine cF (cK (bS rfl ?_))
 unfold p9 mR
 walk_at "env"
 walk_at "run"
 refine cq (fun h=>?_) fun h=>?_
 ·walk_at "run"
  refine et (by omega) (by omega) ?_
  walk_at "run"
  have:s=0:=by omega
  subst this
  simp
 ·walk_at "run"
  refine et (by omega) (by omega) ?_
  walk_at "run"
  refine bL (vK (ol (by omega) (by omega)) hs (by omega)) ?_
  walk_at "run"
  rw[if_neg (by omega),Int.toNat_natCast]
theorem ID{row cs:List Int}{kept:Int}(hr:fH row)(hl:row.length<=1000)(hc:cs.length<=1000):kB [DI row,DI cs,.int kept]=some (.int (qb row cs kept)):=by
 refine cF (cK (bS rfl ?_))
 unfold p7
 walk_at "env"
 walk_at "run"
 refine ou (α:=Int × Int) ?_
 walk_at "run"
 rw[Eb]
 walk_at "run"
 refine⟨_,fun p=>p.1 * p.2,_,tP _ _ _ _,by simp;omega,fun p hp=>⟨_,rfl,?_⟩,?_⟩
 ·have:=hr _ (List.of_mem_zip hp).1
  walk_at "env"
  walk_at "run"
 walk_at "run"
 rw[qb,<- List.map_uncurry_zip_eq_zipWith]
 rfl
theorem IE{J1 row:List Int}{scale:Int}{bs:List Int}{s:Nat}(hf:fH J1)(hr:fH row)(hlf:J1.length<=1000)(hl:row.length<=1000)(hs:s < bs.length):kD [DI J1,DI row,.int scale,DI bs,.int (s:Nat)]=some (.int (qc J1 row scale bs s)):=by
 refine cF (cK (bS rfl ?_))
 unfold pb
 walk_at "env"
 walk_at "run"
 refine ou (α:=Int) ?_
 walk_at "run"
 refine⟨.int,fun f=>mR f scale bs s,J1,rfl,by omega,fun f hx=>⟨_,rfl,?_⟩,?_⟩
 ·walk_at "env"
  walk_at "run"
  refine bL (IC (hf f hx) hs) ?_
  walk_at "run"
 walk_at "run"
 refine et (by omega) (by omega) ?_
 walk_at "run"
 rw[Int.toNat_natCast]
 refine bL (ID hr hl (by simp;omega)) ?_
 walk_at "run"
 rfl
theorem IF{J1 row:List Int}{scale:Int}{bs:List Int}(hf:fH J1)(hr:fH row)(hlf:J1.length<=1000)(hl:row.length<=1000)(hs:bs.length<=1000):kE [DI J1,DI row,.int scale,DI bs]=some (DI (kR J1 row scale bs)):=by
 refine cF (bS rfl ?_)
 unfold pj
 walk_at "env"
 walk_at "run"
 refine ou (α:=Nat) ?_
 walk_at "run"
 rw[List.length_map]
 refine⟨⟨by omega,by omega⟩,fun s=>.int (s:Nat),fun s=>qc J1 row scale bs s,List.range bs.length,by rw[Int.toNat_natCast],by simp;omega,fun s hx=>⟨_,rfl,?_⟩,?_⟩
 ·have hx:=List.mem_range.mp hx
  walk_at "env"
  walk_at "run"
  refine bL (IE hf hr hlf hl hx) ?_
  walk_at "run"
 walk_at "run"
 rfl
theorem IG(J1 row:List Int)(scale:Int)(bs:List Int):(kR J1 row scale bs).length=bs.length:=by simp[kR]
def bx(J1:List Int):List (List Int)->Int->List Int->List (List Int)
 | [],_,ends=>[ends]
 | r::rs,last,ends=>kR J1 r ((bd rs last).headD 0) ((bx J1 rs last ends).headD [])::bx J1 rs last ends
theorem mS(J1:List Int)(rs:List (List Int))(last:Int)(ends:List Int):bx J1 rs last ends ≠ []:=by cases rs <;> simp[bx]
theorem qd(J1:List Int)(rs:List (List Int))(last:Int)(ends:List Int):(bx J1 rs last ends).length=rs.length+1:=by
 induction rs with
 | nil=>rfl
 | cons r rs ih=>simp[bx,ih]
theorem IH(J1:List Int)(rs:List (List Int))(last:Int)(ends:List Int):∀ r ∈ bx J1 rs last ends,r.length=ends.length:=by
 induction rs with
 | nil=>intro r hr;simp[bx] at hr;rw[hr]
 | cons r rs ih =>
   intro q hq
   simp only[bx,List.mem_cons] at hq
   rcases hq with rfl | hq
   ·rw[IG]
    cases ht:bx J1 rs last ends with
    | nil=>exact absurd ht (mS _ _ _ _)
    | cons a b=>rw[List.headD_cons];exact ih a (by rw[ht];exact List.mem_cons_self)
   ·exact ih q hq
theorem vL(J1:List Int)(rs:List (List Int))(last:Int)(ends:List Int):((bx J1 rs last ends).headD []).length=ends.length:=by
 cases ht:bx J1 rs last ends with
 | nil=>exact absurd ht (mS _ _ _ _)
 | cons a b=>rw[List.headD_cons];exact IH J1 rs last ends a (by rw[ht];exact List.mem_cons_self)
theorem II{xs:List (List Int)}(h:xs ≠ [])(h':xs.reverse ≠ []):xs.reverse.getLast h'=xs.headD []:=by
 cases xs with
 | nil=>exact absurd rfl h
 | cons x r=>simp
theorem qe(l:Int):∀ (rs:List (List Int)) (k:Nat),k<=rs.length->(bd rs l).getD k 0=(bd (rs.drop k) l).headD 0
 | rs,0,_=>by cases h:bd rs l <;> simp[h]
 | r::rs,k+1,h=>by rw[bd,List.getD_cons_succ,List.drop_succ_cons,qe l rs k (by simpa using h)]
theorem IJ{J1:List Int}{J2:List (List Int)}{last:Int}{ends:List Int}(hf:fH J1)(hlf:J1.length<=1000)(hr:∀ r ∈ J2,fH r/\r.length<=1000)(hs:∀ r ∈ J2,0<=r.sum/\r.sum < 1000000)(ht:J2.length<=1000)(he:ends.length<=1000):
  mF [DI J1,DII J2,.int last,DI ends]=some (DII (bx J1 J2 last ends)):=by
 refine cF (bS rfl ?_)
 unfold pk
 walk_at "env"
 walk_at "run"
 refine bL (vJ hs ht) ?_
 walk_at "run"
 rw[List.length_map]
 refine⟨_,_,rfl,⟨by omega,by omega⟩,⟨by omega,by omega⟩,?_⟩
 rw[show ((J2.length:Int) - 1 - -1).toNat=J2.length by omega]
 refine lW _ _ (fun k ρ=>∃ a,ρ=[some (DI J1),some (DII J2),some (.int last),some (DI ends),some (DI (bd J2 last)),some (DII (bx J1 (J2.drop (J2.length - k)) last ends).reverse),a]) ⟨none,by rw[Nat.sub_zero,List.drop_length];rfl⟩ ?_ ?_
 ·rintro ρ ⟨a,rfl⟩
  rw[List.length_range,Nat.sub_self,List.drop_zero]
  walk_at "run"
  rw[<- List.map_reverse,List.reverse_reverse]
 ·rintro k hk ρ ⟨a,rfl⟩
  rw[List.length_range] at hk
  simp only[List.getElem_range]
  walk_at "env"
  have htl:=qd J1 (J2.drop (J2.length - k)) last ends
  rw[List.length_drop] at htl
  refine tD rfl (by rw[List.length_map,List.length_reverse,htl];omega) ?_
  walk_at "run"
  refine on (by omega) (by omega) ?_
  walk_at "run"
  refine et (by omega) (by rw[kQ];omega) ?_
  walk_at "run"
  refine Ed (by simp[mS]) ?_
  walk_at "run"
  have hi:J2.length - 1 - k < J2.length:=by omega
  rw[II (mS _ _ _ _),show ((J2.length:Int) - 1 - (k:Nat)).toNat=J2.length - 1 - k by omega,show ((J2.length:Int) - 1 - (k:Nat)+1).toNat=J2.length - k by omega,qe _ _ _ (by omega),gJ _ _ _ hi]
  have hm:=hr _ (List.getElem_mem hi)
  refine bL (IF hf hm.1 hlf hm.2 (by rw[vL];exact he)) ?_
  walk_at "run"
  walk_at "env"
  rw[E6]
  have e:bx J1 (J2.drop (J2.length - (k+1))) last ends=kR J1 J2[J2.length - 1 - k] ((bd (J2.drop (J2.length - k)) last).headD 0) ((bx J1 (J2.drop (J2.length - k)) last ends).headD [])::bx J1 (J2.drop (J2.length - k)) last ends:=by
   rw[show J2.length - (k+1)=J2.length - 1 - k by omega,List.drop_eq_getElem_cons hi,bx,show J2.length - 1 - k+1=J2.length - k by omega]
  rw[e,List.reverse_cons]
  exact⟨_,rfl⟩
theorem vM(J1:List Int)(last:Int)(ends:List Int):∀ (rs:List (List Int)) (k:Nat),k<=rs.length->(bx J1 rs last ends).getD k []=(bx J1 (rs.drop k) last ends).headD []
 | rs,0,_=>by rw[List.drop_zero];cases bx J1 rs last ends <;> rfl
 | r::rs,k+1,h=>by rw[bx,List.getD_cons_succ,List.drop_succ_cons,vM J1 last ends rs k (by simpa using h)]
theorem vN(J1:List Int)(last:Int)(ends:List Int)(rs:List (List Int))(t:Nat)(h:t<=rs.length):((bx J1 rs last ends).getD t []).length=ends.length:=by
 rw[vM _ _ _ _ _ h,vL]
theorem vO{n:Nat}{l:Int}(hn:n<=10)(h1:1<=l)(h2:l<=10 ^ 40):∀ {rs:List (List Int)},RowsOk n rs->1<=(bd rs l).headD 0/\(bd rs l).headD 0<=10 ^ 40 * 1000000 ^ rs.length
 | [],_=>by simp[bd];omega
 | r::rs,h=>by
   obtain⟨i1,i2⟩:=vO hn h1 h2 (rs:=rs) fun q hq=>h q (List.mem_cons_of_mem _ hq)
   have hs:=h.sum hn r List.mem_cons_self
   have hp:=(h r List.mem_cons_self).2.2
   rw[bd,List.headD_cons,List.length_cons,Int.pow_succ]
   generalize (bd rs l).headD 0=x at i1 i2 ⊢
   generalize r.sum=y at hs hp ⊢
   have e1:x * 1<=x * y:=Int.mul_le_mul_of_nonneg_left (by omega) (by omega)
   have e2:x * y<=(10 ^ 40 * 1000000 ^ rs.length) * 1000000:=Int.mul_le_mul i2 (by omega) (by omega) (by omega)
   rw[Int.mul_assoc] at e2
   exact⟨by omega,e2⟩
theorem IK{n:Nat}{l:Int}(hn:n<=10)(h1:1<=l)(h2:l<=10 ^ 40){rs:List (List Int)}(h:RowsOk n rs)(h8:rs.length<=8):1<=(bd rs l).headD 0/\(bd rs l).headD 0<=10 ^ 88:=by
 obtain⟨i1,i2⟩:=vO hn h1 h2 h
 have:=m6 (x:=1000000) (B:=1000000) (n:=rs.length) 8 (by omega) (by omega) (by omega) h8
 exact⟨i1,by omega⟩
theorem RowsOk.drop{n k:Nat}{ts:List (List Int)}(h:RowsOk n ts):RowsOk n (ts.drop k):=fun r hr=>h r (List.mem_of_mem_drop hr)
def jm(f scale:Int)(bs:List Int)(s:Nat):Bool:=decide (0 < s/\bs.getD s 0<=f * scale+bs.getD (s - 1) 0)
theorem IL{bs:List Int}{f scale:Int}{s:Nat}(hm:okMul f scale)(hs:s < bs.length):mG [.int f,.int scale,DI bs,.int (s:Nat)]=some (.bl (jm f scale bs s)):=by
 refine cF (cK (bS rfl ?_))
 unfold pp jm
 walk_at "env"
 walk_at "run"
 refine cq (fun h=>?_) fun h=>?_
 ·walk_at "run"
  refine bL (vK hm hs (by omega)) ?_
  walk_at "run"
  refine et (by omega) (by omega) ?_
  walk_at "run"
  rw[Int.toNat_natCast]
  exact congrArg D.bl (decide_eq_decide.mpr ⟨fun q=>⟨by omega,q⟩,fun q=>q.2⟩)
 ·walk_at "run"
  exact congrArg D.bl (decide_eq_false fun q=>h (by omega)).symm
theorem IM{bs:List Int}{scale:Int}{s:Nat}(h1:1<=scale)(h2:scale<=10 ^ 130)(h0:0 < s)(hs:s < bs.length):mH [.int scale,DI bs,.int (s:Nat)]=some (.int (-((bs.getD (s - 1) 0 - bs.getD s 0) / scale))):=by
 refine cF (cK (bS rfl ?_))
 unfold pv
 walk_at "env"
 walk_at "run"
 refine et (by omega) (by omega) ?_
 walk_at "run"
 refine et (by omega) (by omega) ?_
 walk_at "run"
 rw[show ((s:Int) - 1).toNat=s - 1 by omega,Int.toNat_natCast]
structure Sale (S:Nat) (J1:List Int) (J2:List (List Int)) (r c o d:Int):Prop where
 hS:S<=10
 f1:1<=J1.length
 f2:J1.length<=6
 f3:∀ x ∈ J1,1<=x/\x<=1000000
 t1:J2.length<=8
 t2:RowsOk J1.length J2
 r1:0<=r
 r2:r<=10
 c1:0<=c
 c2:c<=o
 o1:1<=o
 o2:o<=1000
 d1:0<=d
 d2:d<=1000000
def b9(S:Nat)(J1:List Int)(J2:List (List Int))(r c o d:Int)(J3 J4:Nat)(J8:Int)(J9 K0:D):List D :=
 [.int (S:Nat),DI J1,.tup [.int r,.int c,.int o,.int d],DI (bd J2 (o ^ S)),DII (bx J1 J2 (o ^ S) (ends r c o d S)),.int (J3:Nat),.int (J4:Nat),.int J8,J9,K0]
theorem IN{n:Nat}{r c o d:Int}(hn:n<=100)(ho:0<=o/\o<=1000):mK [.int (n:Nat),.tup [.int r,.int c,.int o,.int d]]=some (.int (o ^ n)):=by
 refine cF (cK (bS rfl ?_))
 unfold pD
 walk_at "env"
 walk_at "run"
 refine bL (vD (by omega) (by omega)) ?_
 walk_at "run"
section
variable {C o:Nat}{M:Sto}{Q:QE}{S:Nat}{J1:List Int}{J2:List (List Int)}{r c of d:Int}{EX:QX}
theorem vP(s:Sale S J1 J2 r c of d)(ho:M o=some (.ins C [] []))(h:∀ M',M' o=some (.ins C b_ (b9 S J1 J2 r c of d 0 0 0 .non .non))->Kp (· = o) M M'->Q .non M'):
  fD C [.ptr o,.int (S:Nat),DI J1,DII J2,.tup [.int r,.int c,.int of,.int d]] M Q EX:=by
 obtain⟨hS,f1,f2,f3,t1,t2,r1,r2,c1,c2,o1,o2,d1,d2⟩:=s
 have hrl:∀ x ∈ J2,x.length<=1000:=fun x hx=>by have:=(t2 x hx).1;omega
 refine cL rfl ?_
 unfold mP
 walk_at "env"
 walk_at "run"
 refine iY (vB (by omega) (by omega) hrl) ?_
 rintro _ ⟨b,rfl,hb⟩
 have hb':b=true:=hb.mpr ⟨by omega,by omega,f1,f2,f3,t1,t2⟩
 subst hb'
 walk_at "run"
 refine bL (vC r c of d) ?_
 rw[show eU r c of d=true from decide_eq_true ⟨r1,r2,o1,o2,c1,c2,d1,d2⟩]
 walk_at "run"
 refine bL (IN (by omega) (by omega)) ?_
 have hfs:fH J1:=fun x hx=>by have:=f3 x hx;omega
 have hts:∀ x ∈ J2,fH x/\x.length<=1000:=fun x hx=>⟨fun y hy=>by have:=(t2 x hx).2.1 y hy;omega,hrl x hx⟩
 have hsum:=t2.sum (by omega)
 walk_at "run"
 refine gP ?_
 walk_at "run"
 refine⟨o,_,rfl,ho,?_⟩
 walk_at "run"
 refine gP ?_
 walk_at "run"
 refine⟨o,_,rfl,aK,?_⟩
 rw[dj]
 walk_at "run"
 refine gP ?_
 walk_at "run"
 refine⟨o,_,rfl,aK,?_⟩
 rw[dj]
 walk_at "run"
 refine gP ?_
 walk_at "run"
 refine bL (vJ hsum (by omega)) ?_
 walk_at "run"
 refine⟨o,_,rfl,aK,?_⟩
 rw[dj]
 walk_at "run"
 refine gP ?_
 walk_at "run"
 refine bL (Iz (by omega) (by omega) ⟨c1,c2⟩ o2 o1 ⟨d1,d2⟩) ?_
 walk_at "run"
 refine bL (IJ hfs (by omega) hts hsum (by omega) (by rw[qa];omega)) ?_
 walk_at "run"
 refine⟨o,_,rfl,aK,?_⟩
 rw[dj]
 walk_at "run"
 iterate 4
  refine gP ?_
  walk_at "run"
  refine⟨o,_,rfl,aK,?_⟩
  rw[dj]
  walk_at "run"
 refine gP ?_
 walk_at "run"
 refine⟨o,_,rfl,aK,?_⟩
 rw[dj]
 walk_at "run"
 exact h _ aK (Kp.upd (.inl rfl))
end
section
variable {C o:Nat}{M:Sto}{Q:QE}{S:Nat}{J1:List Int}{J2:List (List Int)}{r c of d:Int}{J3 J4:Nat}{J8:Int}{J9 K0:D}
theorem kS(hm:M o=some (.ins C b_ (b9 S J1 J2 r c of d J3 J4 J8 J9 K0)))(h:Q (.int (J3:Nat)) M):gh C [.ptr o] M Q:=by
 refine bw rfl ?_
 unfold pU
 walk_at "env"
 walk_at "run"
 exact h
end
section
variable {C o:Nat}{M:Sto}{Q:QE}{S:Nat}{J1:List Int}{J2:List (List Int)}{r c of d:Int}{J3 J4:Nat}{J8:Int}{J9 K0:D}{EX:QX}
theorem eV(hm:M o=some (.ins C b_ (b9 S J1 J2 r c of d J3 J4 J8 J9 K0)))(hs:J4<=S)(h:Q (.int ((S - J4:Nat):Int)) M):dm C [.ptr o] M Q:=by
 refine bw rfl ?_
 unfold pG
 walk_at "env"
 walk_at "run"
 rw[show (S:Int) - (J4:Int)=((S - J4:Nat):Int) by omega]
 exact h
theorem gi(hm:M o=some (.ins C b_ (b9 S J1 J2 r c of d J3 J4 J8 J9 K0)))(h:Q (.bl (decide (J3=J2.length))) M):gS C [.ptr o] M Q:=by
 refine bw rfl ?_
 unfold pF
 walk_at "env"
 walk_at "run"
 rw[show List.map (vw1 M) [DI (bd J2 (of ^ S))]=[DI (bd J2 (of ^ S))] from rfl]
 walk_at "run"
 rw[List.length_map,kQ,show decide ((J3:Int)=((J2.length+1:Nat):Int) - 1)=decide (J3=J2.length) from decide_eq_decide.mpr (by omega)]
 exact h
theorem IO(hm:M o=some (.ins C b_ (b9 S J1 J2 r c of d J3 J4 J8 J9 K0)))(h:Q .non M):gT C [.ptr o,.non] M Q EX:=by
 refine cL rfl ?_
 unfold kK
 walk_at "env"
 walk_at "run"
 exact h
theorem IP{k:Nat}(hm:M o=some (.ins C b_ (b9 S J1 J2 r c of d J3 J4 J8 J9 K0)))(hk:k < J1.length)(h:Q (.int (J1.getD k 0)) M):gT C [.ptr o,.int (k:Nat)] M Q EX:=by
 refine cL rfl ?_
 unfold kK
 walk_at "env"
 walk_at "run"
 rw[show List.map (vw1 M) [DI J1]=[DI J1] from rfl]
 walk_at "run"
 rw[List.length_map,decide_eq_true (show (0:Int)<=(k:Nat)/\((k:Nat):Int)<=(J1.length:Int) - 1 by omega)]
 walk_at "run"
 refine et (by omega) (by omega) ?_
 rw[Int.toNat_natCast]
 exact h
theorem IQ(hm:M o=some (.ins C b_ (b9 S J1 J2 r c of d J3 J4 J8 J9 K0)))(h:Q (.bl false) M):jc C [.ptr o,.non] M Q:=by
 refine bw rfl ?_
 unfold mM
 walk_at "env"
 walk_at "run"
 exact h
theorem IR{f:Int}(hm:M o=some (.ins C b_ (b9 S J1 J2 r c of d J3 J4 J8 J9 K0)))(hs:J4<=S)(ht:J3 < J2.length)(hf:1<=f/\f<=1000000)(h:Q (.bl (jm f ((bd J2 (of ^ S)).getD (J3+1) 0) ((bx J1 J2 (of ^ S) (ends r c of d S)).getD (J3+1) []) (S - J4))) M):jc C [.ptr o,.int f] M Q:=by
 refine bw rfl ?_
 unfold mM
 walk_at "env"
 walk_at "run"
 refine et (by omega) (by rw[kQ];omega) ?_
 walk_at "run"
 refine on (by omega) (by rw[qd];omega) ?_
 walk_at "run"
 rw[show ((J3:Int)+1).toNat=J3+1 by omega]
 refine eV hm hs ?_
 walk_at "run"
 refine bL (IL (ol (by omega) (by omega)) (by rw[vN _ _ _ _ _ (by omega),qa];omega)) ?_
 walk_at "run"
 exact h
def fI(S J4 J3:Nat)(J1:List Int)(J2:List (List Int))(r c of d:Int):D :=
 if S - J4=0 then .non else .int (-((((bx J1 J2 (of ^ S) (ends r c of d S)).getD (J3+1) []).getD (S - J4 - 1) 0 - ((bx J1 J2 (of ^ S) (ends r c of d S)).getD (J3+1) []).getD (S - J4) 0) / (bd J2 (of ^ S)).getD (J3+1) 0))
theorem IS(s:Sale S J1 J2 r c of d){t:Nat}(ht:t<=J2.length):1<=(bd J2 (of ^ S)).getD t 0/\(bd J2 (of ^ S)).getD t 0<=10 ^ 88:=by
 rw[qe _ _ _ ht]
 have h1:=s.o1
 have h2:=s.o2
 have h3:=s.hS
 have p0:(1:Int)<=of ^ S:=by
  have:∀ n:Nat,(1:Int)<=of ^ n:=fun n=>by
   induction n with
   | zero=>simp
   | succ n ih=>rw[Int.pow_succ];have:=Int.mul_le_mul ih h1 (by omega) (by omega);omega
  exact this S
 have p1:of ^ S<=1000 ^ 10:=m6 10 (by omega) h2 (by omega) h3
 exact IK (by have:=s.f2;omega) p0 (by omega) s.t2.drop (by have:=s.t1;rw[List.length_drop];omega)
theorem vQ(s:Sale S J1 J2 r c of d)(hm:M o=some (.ins C b_ (b9 S J1 J2 r c of d J3 J4 J8 J9 K0)))(hs:J4<=S)(ht:J3 < J2.length)(h:Q (fI S J4 J3 J1 J2 r c of d) M):kL C [.ptr o] M Q:=by
 refine bw rfl ?_
 unfold pH
 walk_at "env"
 walk_at "run"
 refine eV hm hs ?_
 walk_at "run"
 refine cq (fun e=>?_) fun e=>?_
 ·walk_at "run"
  rw[fI,if_pos (by omega)] at h
  exact h
 ·walk_at "run"
  refine et (by omega) (by rw[kQ];omega) ?_
  walk_at "run"
  refine on (by omega) (by rw[qd];omega) ?_
  walk_at "run"
  rw[show ((J3:Int)+1).toNat=J3+1 by omega]
  refine eV hm hs ?_
  walk_at "run"
  have hsc:=IS s (t:=J3+1) (by omega)
  refine bL (IM hsc.1 (by omega) (by omega) (by rw[vN _ _ _ _ _ (by omega),qa];omega)) ?_
  walk_at "run"
  rw[fI,if_neg (by omega)] at h
  exact h
theorem IU(s:Sale S J1 J2 r c of d)(hm:M o=some (.ins C b_ (b9 S J1 J2 r c of d J3 J4 J8 J9 K0)))(hs:J4<=S)(ht:J3 < J2.length)(h:∀ M',M' o=some (.ins C b_ (b9 S J1 J2 r c of d (J3+1) J4 J8 J9 (.tup [.int (J3:Nat),.int ((S - J4:Nat):Int),fI S J4 J3 J1 J2 r c of d,.non])))->Kp (· = o) M M'->Q (.bl false) M'):fA C [.ptr o,.non] M Q EX:=by
 refine cL rfl ?_
 unfold jd
 walk_at "env"
 walk_at "run"
 refine gi hm ?_
 rw[decide_eq_false (by omega)]
 walk_at "run"
 refine IO hm ?_
 walk_at "run"
 refine IQ hm ?_
 walk_at "run"
 refine eV hm hs ?_
 walk_at "run"
 refine vQ s hm hs ht ?_
 walk_at "run"
 refine⟨o,_,rfl,hm,?_⟩
 walk_at "run"
 refine⟨o,_,rfl,aK,?_⟩
 rw[dj]
 walk_at "run"
 refine h _ ?_ (Kp.upd (.inl rfl))
 rw[aK]
 rfl
theorem IV{k:Nat}{b:Bool}(s:Sale S J1 J2 r c of d)(hm:M o=some (.ins C b_ (b9 S J1 J2 r c of d J3 J4 J8 J9 K0)))(hs:J4<=S)(ht:J3 < J2.length)(hk:k < J1.length)(hb:jm (J1.getD k 0) ((bd J2 (of ^ S)).getD (J3+1) 0) ((bx J1 J2 (of ^ S) (ends r c of d S)).getD (J3+1) []) (S - J4)=b)(h:∀ M',M' o=some (.ins C b_ (b9 S J1 J2 r c of d (J3+1) (J4+(if b=true then 1 else 0)) (J8+(if b=true then J1.getD k 0 else 0)) J9 (.tup [.int (J3:Nat),.int ((S - J4:Nat):Int),fI S J4 J3 J1 J2 r c of d,.int (J1.getD k 0)])))->Kp (· = o) M M'->Q (.bl b) M'):fA C [.ptr o,.int (k:Nat)] M Q EX:=by
 have hf:1<=J1.getD k 0/\J1.getD k 0<=1000000:=by rw[gJ _ _ _ hk];exact s.f3 _ (List.getElem_mem _)
 refine cL rfl ?_
 unfold jd
 walk_at "env"
 walk_at "run"
 refine gi hm ?_
 rw[decide_eq_false (by omega)]
 walk_at "run"
 refine IP hm hk ?_
 walk_at "run"
 refine IR hm hs ht hf ?_
 rw[hb]
 walk_at "run"
 refine eV hm hs ?_
 walk_at "run"
 refine vQ s hm hs ht ?_
 walk_at "run"
 refine⟨o,_,rfl,hm,?_⟩
 walk_at "run"
 refine⟨o,_,rfl,aK,?_⟩
 rw[dj]
 cases b with
 | true =>
   walk_at "run"
   refine⟨o,_,rfl,aK,?_⟩
   rw[dj]
   walk_at "run"
   refine⟨o,_,rfl,aK,?_⟩
   rw[dj]
   walk_at "run"
   refine h _ ?_ (Kp.upd (.inl rfl))
   rw[aK]
   rfl
 | false =>
   walk_at "run"
   refine h _ ?_ (Kp.upd (.inl rfl))
   rw[aK,if_neg Bool.false_ne_true,if_neg Bool.false_ne_true,Int.add_zero]
   rfl
end
section
variable {C o:Nat}{M:Sto}{Q:QE}{S:Nat}{J1:List Int}{J2:List (List Int)}{r c of d:Int}{J3 J4:Nat}{J8:Int}{J9:D}{EX:QX}
theorem IW{lt:List D}(hm:M o=some (.ins C b_ (b9 S J1 J2 r c of d J3 J4 J8 J9 (.tup lt))))(h:Q (.tup lt) M):gR C [.ptr o] M Q EX:=by
 refine cL rfl ?_
 unfold mL
 walk_at "env"
 walk_at "run"
 exact h
end
section
variable {C o:Nat}{M:Sto}{Q:QE}{S:Nat}{J1:List Int}{J2:List (List Int)}{r c of d:Int}{J3 J4:Nat}{J8:Int}{K0:D}
theorem IY(hm:M o=some (.ins C b_ (b9 S J1 J2 r c of d J3 J4 J8 .non K0)))(h:Q (.int J8) M):dX C [.ptr o] M Q:=by
 refine bw rfl ?_
 unfold mO
 walk_at "env"
 walk_at "run"
 exact h
theorem vR{due:Int}(hm:M o=some (.ins C b_ (b9 S J1 J2 r c of d J3 J4 J8 (.int due) K0)))(h:Q (.int (J8 - due)) M):dX C [.ptr o] M Q:=by
 refine bw rfl ?_
 unfold mO
 walk_at "env"
 walk_at "run"
 exact h
end
section
variable {C o:Nat}{M:Sto}{Q:QE}{S:Nat}{J1:List Int}{J2:List (List Int)}{r c of d:Int}{J3 J4:Nat}{J8:Int}{K0:D}{EX:QX}
theorem IZ{num:Nat}(s:Sale S J1 J2 r c of d)(hm:M o=some (.ins C b_ (b9 S J1 J2 r c of d J2.length J4 J8 .non K0)))(hn:num<=J4)(h:∀ M',M' o=some (.ins C b_ (b9 S J1 J2 r c of d J2.length J4 J8 (.int (d * max ((num:Int) - r) 0)) K0))->Kp (· = o) M M'->Q (.int (J8 - d * max ((num:Int) - r) 0)) M'):fB C [.ptr o,.int (num:Nat)] M Q EX:=by
 have hd1:=s.d1
 have hd2:=s.d2
 refine cL rfl ?_
 unfold je
 walk_at "env"
 walk_at "run"
 refine gi hm ?_
 rw[decide_eq_true rfl]
 walk_at "run"
 rw[decide_eq_true (show (0:Int)<=(num:Nat)/\((num:Nat):Int)<=(J4:Nat) by omega)]
 walk_at "run"
 rw[show List.map (vw1 M) [D.int ((num:Int) - r),D.int 0]=[D.int ((num:Int) - r),D.int 0] from rfl]
 walk_at "run"
 refine⟨o,_,rfl,hm,?_⟩
 walk_at "run"
 refine vR (due:=d * max ((num:Int) - r) 0) (J8:=J8) (S:=S) (J1:=J1) (J2:=J2) (r:=r) (c:=c) (of:=of) (d:=d) (J3:=J2.length) (J4:=J4) (K0:=K0) (by rw[aK];rfl) ?_
 walk_at "run"
 exact h _ (by rw[aK];rfl) (Kp.upd (.inl rfl))
end
def bq(S:Nat)(J1:List Int)(J2:List (List Int))(r c of d:Int):D:=.tup [.int (S:Nat),DI J1,DII J2,.tup [.int r,.int c,.int of,.int d]]
def jn(x:Str):List D:=[.bl (decide (x = "Over")),.bl (decide (x = "Early")),.bl (decide (x = "Done")),.bl (decide (x = "NoClass")),.bl (decide (x = "TooMany")),.bl (decide (x = "NoSale")),.bl (decide (x = "Twice")),.bl (decide (x = "NoTurn")),.bl (decide (x = "Full")),.bl (decide (x = "NoRow")),.bl true]
section
variable {C o a:Nat}{M:Sto}{Q:QE}{x:Str}
theorem vS(hm:M a=some (.exn a x))(hx:x ∈ XS)(h:Q (.lst (jn x)) M):gU C [.ptr a] M Q:=by
 refine bw rfl ?_
 unfold pK
 walk_at "env"
 walk_at "run"
 exact h
theorem qf{th:D}{w:Str}{R:QE}{RX:QX}(hc:∀ (Q':QE) (EX':QX),(∀ d M',R d M'->Q' d M')->(∀ x M',RX x M'->EX' x M')->eE C [.ptr o,.str w,th] M Q' EX')(hQ:∀ d M',R d M'->Q (.lst [.str "told",d]) M')(hX:∀ x M',RX x M'->x ∈ XS/\∀ M'',Kp (fun _=>False) M' M''->Q (.lst [.str "refused",.lst (jn x)]) M''):jk C [.ptr o,.str w,th] M Q:=by
 refine bw rfl ?_
 unfold pT
 walk_at "env"
 walk_at "run"
 refine hc _ _ (fun d M' hR=>?_) fun x M' hR=>?_
 ·walk_at "run"
  exact hQ d M' hR
 ·obtain⟨hx,h⟩:=hX x M' hR
  walk_at "run"
  intro a ha
  walk_at "run"
  refine vS aK hx ?_
  walk_at "run"
  exact h _ (Kp.upd (.inr ha))
abbrev KS:List Str:=["turn","sold","done","office","beside"]
end
section
variable {C o:Nat}{M:Sto}{Q:QE}{S:Nat}{J1:List Int}{J2:List (List Int)}{r c of d:Int}{J3 J4:Nat}{J8:Int}{J9 K0:D}{EX:QX}
theorem Ja{th:D}(hm:M o=some (.ins C b_ (b9 S J1 J2 r c of d J2.length J4 J8 J9 K0)))(h:EX "Over" M):fA C [.ptr o,th] M Q EX:=by
 refine cL rfl ?_
 unfold jd
 walk_at "env"
 walk_at "run"
 refine gi hm ?_
 rw[decide_eq_true rfl]
 walk_at "run"
 exact⟨by decide,h⟩
theorem Jb{v:Int}(hm:M o=some (.ins C b_ (b9 S J1 J2 r c of d J3 J4 J8 J9 K0)))(hv:v < 0\/(J1.length:Int)<=v)(h:EX "NoClass" M):gT C [.ptr o,.int v] M Q EX:=by
 refine cL rfl ?_
 unfold kK
 walk_at "env"
 walk_at "run"
 rw[show List.map (vw1 M) [DI J1]=[DI J1] from rfl]
 walk_at "run"
 rw[List.length_map,decide_eq_false (show ¬ ((0:Int)<=v/\v<=(J1.length:Int) - 1) by omega)]
 walk_at "run"
 exact⟨by decide,h⟩
theorem Jc{v:Int}(hm:M o=some (.ins C b_ (b9 S J1 J2 r c of d J3 J4 J8 J9 K0)))(ht:J3 < J2.length)(hv:v < 0\/(J1.length:Int)<=v)(h:EX "NoClass" M):fA C [.ptr o,.int v] M Q EX:=by
 refine cL rfl ?_
 unfold jd
 walk_at "env"
 walk_at "run"
 refine gi hm ?_
 rw[decide_eq_false (by omega)]
 walk_at "run"
 refine Jb hm hv ?_
 exact h
theorem Jd(hm:M o=some (.ins C b_ (b9 S J1 J2 r c of d J3 J4 J8 J9 .non)))(h:EX "Early" M):gR C [.ptr o] M Q EX:=by
 refine cL rfl ?_
 unfold mL
 walk_at "env"
 walk_at "run"
 exact⟨by decide,h⟩
theorem Je{th:D}(hm:M o=some (.ins C b_ (b9 S J1 J2 r c of d J3 J4 J8 J9 K0)))(ht:J3 < J2.length)(h:EX "Early" M):fB C [.ptr o,th] M Q EX:=by
 refine cL rfl ?_
 unfold je
 walk_at "env"
 walk_at "run"
 refine gi hm ?_
 rw[decide_eq_false (by omega)]
 walk_at "run"
 exact⟨by decide,h⟩
theorem Jf{th:D}{due:Int}(hm:M o=some (.ins C b_ (b9 S J1 J2 r c of d J2.length J4 J8 (.int due) K0)))(h:EX "Done" M):fB C [.ptr o,th] M Q EX:=by
 refine cL rfl ?_
 unfold je
 walk_at "env"
 walk_at "run"
 refine gi hm ?_
 rw[decide_eq_true rfl]
 walk_at "run"
 exact⟨by decide,h⟩
theorem Jg{v:Int}(hm:M o=some (.ins C b_ (b9 S J1 J2 r c of d J2.length J4 J8 .non K0)))(hv:v < 0\/(J4:Int) < v)(h:EX "TooMany" M):fB C [.ptr o,.int v] M Q EX:=by
 refine cL rfl ?_
 unfold je
 walk_at "env"
 walk_at "run"
 refine gi hm ?_
 rw[decide_eq_true rfl]
 walk_at "run"
 rw[decide_eq_false (show ¬ ((0:Int)<=v/\v<=(J4:Nat)) by omega)]
 walk_at "run"
 exact⟨by decide,h⟩
theorem fJ{K:D->Prop}{x:Str}(h:K (.bl true)):W2 eqD (.str x) (.str x) K:=⟨_,by simp[eqD,aN,aZ,eg,bg],h⟩
theorem dq{K:D->Prop}{x y:Str}(e:x ≠ y)(h:K (.bl false)):W2 eqD (.str x) (.str y) K:=⟨_,by simp[eqD,aN,aZ,eg,bg,e],h⟩
theorem Jh{K:D->Prop}{x y:Str}(e:x ≠ y)(h:K (.bl true)):W2 neD (.str x) (.str y) K:=⟨_,by simp[neD,aN,aZ,eg,bg,e],h⟩
theorem vT{K:D->Prop}{x:Str}(h:K (.bl false)):W2 neD (.str x) (.str x) K:=⟨_,by simp[neD,aN,aZ,eg,bg],h⟩
theorem mT{th:D}{ds0:List D}(hm:M o=some (.ins C b_ ds0))(h:fA C [.ptr o,th] M Q EX):eE C [.ptr o,.str "asked",th] M Q EX:=by
 refine cL rfl ?_
 unfold kM
 walk_at "env"
 walk_at "run"
 refine fJ ?_
 walk_at "run"
 exact h
theorem mU{th:D}{ds0:List D}(hm:M o=some (.ins C b_ ds0))(h:fB C [.ptr o,th] M Q EX):eE C [.ptr o,.str "came",th] M Q EX:=by
 refine cL rfl ?_
 unfold kM
 walk_at "env"
 walk_at "run"
 refine dq (by decide) ?_
 walk_at "run"
 refine fJ ?_
 walk_at "run"
 exact h
theorem vU{th:D}{ds0:List D}(hm:M o=some (.ins C b_ ds0))(h:gR C [.ptr o] M Q EX):eE C [.ptr o,.str "paper",th] M Q EX:=by
 refine cL rfl ?_
 unfold kM
 walk_at "env"
 walk_at "run"
 refine dq (by decide) ?_
 walk_at "run"
 refine dq (by decide) ?_
 walk_at "run"
 exact h
end
theorem gW{K:D->Prop}{b:Bool}(h:K (.int (if b=true then 1 else 0))):WF (aI fq) [.bl b] K:=⟨_,rfl,h⟩
theorem jo{K:D->Prop}{b:Bool}{x y:D}(h:K (if b=true then y else x)):W2 ixD (.lst [x,y]) (.int (if b=true then 1 else 0)) K:=by
 cases b
 ·exact⟨_,rfl,h⟩
 ·exact⟨_,rfl,h⟩
section
variable {C o b st:Nat}{M:Sto}{Q:QE}{S:Nat}{J1:List Int}{J2:List (List Int)}{r c of d:Int}{J3 J4:Nat}{done:Bool}
theorem Ji{th:D}(hs:M st=some (.dic KS [.int (J3:Nat),.int (J4:Nat),.bl done,.ptr o,.ptr b]))(ht:J3=J2.length)(h:Q (.str "over") M):dE C [bq S J1 J2 r c of d,.ptr st,.str "asked",th] M Q:=by
 refine bw rfl ?_
 unfold fC bq
 walk_at "env"
 walk_at "run"
 rw[List.length_map]
 refine fJ ?_
 walk_at "run"
 refine cq (fun _=>?_) fun e=>absurd ht (by omega)
 walk_at "run"
 exact h
theorem Jj(hs:M st=some (.dic KS [.int (J3:Nat),.int (J4:Nat),.bl done,.ptr o,.ptr b]))(ht:J3 < J2.length)(h:Q (.str "") M):dE C [bq S J1 J2 r c of d,.ptr st,.str "asked",.non] M Q:=by
 refine bw rfl ?_
 unfold fC bq
 walk_at "env"
 walk_at "run"
 rw[List.length_map]
 refine fJ ?_
 walk_at "run"
 refine cq (fun _=>absurd ht (by omega)) fun e=>?_
 walk_at "run"
 refine gW ?_
 refine jo ?_
 exact h
theorem vV{v:Int}(hs:M st=some (.dic KS [.int (J3:Nat),.int (J4:Nat),.bl done,.ptr o,.ptr b]))(ht:J3 < J2.length)(h:Q (.str (if v < 0\/(J1.length:Int)<=v then "class" else "")) M):dE C [bq S J1 J2 r c of d,.ptr st,.str "asked",.int v] M Q:=by
 refine bw rfl ?_
 unfold fC bq
 walk_at "env"
 walk_at "run"
 rw[List.length_map]
 refine fJ ?_
 walk_at "run"
 refine cq (fun _=>absurd ht (by omega)) fun e=>?_
 walk_at "run"
 refine cq (fun e1=>?_) fun e1=>?_
 ·walk_at "run"
  refine gW (jo ?_)
  rw[if_pos (.inl e1)] at h
  exact h
 ·walk_at "run"
  rw[List.length_map]
  refine gW (jo ?_)
  by_cases e2:(J1.length:Int)<=v
  ·rw[if_pos (.inr e2)] at h
   rw[if_pos (decide_eq_true e2)]
   exact h
  ·rw[if_neg (by omega)] at h
   rw[if_neg (by rw[decide_eq_false e2];exact Bool.false_ne_true)]
   exact h
theorem vW{th:D}(hs:M st=some (.dic KS [.int (J3:Nat),.int (J4:Nat),.bl done,.ptr o,.ptr b]))(h:Q (.str (if J3=0 then "early" else "")) M):dE C [bq S J1 J2 r c of d,.ptr st,.str "paper",th] M Q:=by
 refine bw rfl ?_
 unfold fC bq
 walk_at "env"
 walk_at "run"
 rw[List.length_map]
 refine dq (by decide) ?_
 walk_at "run"
 refine fJ ?_
 walk_at "run"
 rw[show List.map (vw1 M) [D.bl (decide ((J3:Int)=0))]=[D.bl (decide ((J3:Int)=0))] from rfl]
 refine gW ⟨rfl,jo ?_⟩
 by_cases e:J3=0
 ·rw[if_pos e] at h
  rw[if_pos (decide_eq_true (by omega))]
  exact h
 ·rw[if_neg e] at h
  rw[if_neg (by rw[decide_eq_false (by omega)];exact Bool.false_ne_true)]
  exact h
theorem Jk{th:D}(hs:M st=some (.dic KS [.int (J3:Nat),.int (J4:Nat),.bl done,.ptr o,.ptr b]))(ht:J3 < J2.length)(h:Q (.str "early") M):dE C [bq S J1 J2 r c of d,.ptr st,.str "came",th] M Q:=by
 refine bw rfl ?_
 unfold fC bq
 walk_at "env"
 walk_at "run"
 rw[List.length_map]
 refine dq (by decide) ?_
 walk_at "run"
 refine dq (by decide) ?_
 walk_at "run"
 refine jW (fun _=>?_) fun e=>absurd ht (by omega)
 walk_at "run"
 exact h
theorem Jl{th:D}(hs:M st=some (.dic KS [.int (J3:Nat),.int (J4:Nat),.bl true,.ptr o,.ptr b]))(ht:J3=J2.length)(h:Q (.str "done") M):dE C [bq S J1 J2 r c of d,.ptr st,.str "came",th] M Q:=by
 refine bw rfl ?_
 unfold fC bq
 walk_at "env"
 walk_at "run"
 rw[List.length_map]
 refine dq (by decide) ?_
 walk_at "run"
 refine dq (by decide) ?_
 walk_at "run"
 refine jW (fun _=>absurd ht (by omega)) fun e=>?_
 walk_at "run"
 exact h
theorem vX{v:Int}(hs:M st=some (.dic KS [.int (J3:Nat),.int (J4:Nat),.bl false,.ptr o,.ptr b]))(ht:J3=J2.length)(h:Q (.str (if v < 0\/(J4:Int) < v then "many" else "")) M):dE C [bq S J1 J2 r c of d,.ptr st,.str "came",.int v] M Q:=by
 refine bw rfl ?_
 unfold fC bq
 walk_at "env"
 walk_at "run"
 rw[List.length_map]
 refine dq (by decide) ?_
 walk_at "run"
 refine dq (by decide) ?_
 walk_at "run"
 refine jW (fun _=>absurd ht (by omega)) fun e=>?_
 walk_at "run"
 refine cq (fun e1=>?_) fun e1=>?_
 ·walk_at "run"
  refine gW ⟨rfl,jo ?_⟩
  rw[if_pos (.inl e1)] at h
  exact h
 ·walk_at "run"
  refine gW (b:=decide ((J4:Int) < v)) ⟨rfl,jo ?_⟩
  by_cases e2:(J4:Int) < v
  ·rw[if_pos (.inr e2)] at h
   rw[if_pos (decide_eq_true e2)]
   exact h
  ·rw[if_neg (by omega)] at h
   rw[if_neg (by rw[decide_eq_false e2];exact Bool.false_ne_true)]
   exact h
end
structure Duo (C:Nat) (M:Sto) (st o b:Nat) (S:Nat) (J1:List Int) (J2:List (List Int)) (r c of d:Int) (J3 J4:Nat) (done:Bool) (J8:Int) (J9 K0:D):Prop where
 hs:M st=some (.dic KS [.int (J3:Nat),.int (J4:Nat),.bl done,.ptr o,.ptr b])
 ho:M o=some (.ins C b_ (b9 S J1 J2 r c of d J3 J4 J8 J9 K0))
 hb:M b=some (.ins C b_ (b9 S J1 J2 r c of d J3 J4 J8 J9 K0))
 ne:o ≠ b
 h1:J4<=S
 h2:J3<=J2.length
 h3:(done=false/\J9=.non)\/(done=true/\J3=J2.length/\∃ due,J9=.int due)
 h4:(J3=0/\K0=.non)\/(0 < J3/\∃ lt,K0=.tup lt/\aN 3 (.tup lt)=true)
def qg(J8:Int):D->Int
 | .int due=>J8 - due
 | _=>J8
def mV(due:Str):List D:=[.bl (decide (due = "over")),.bl (decide (due = "early")),.bl (decide (due = "done")),.bl (decide (due = "class")),.bl (decide (due = "many")),.bl false,.bl false,.bl false,.bl false,.bl false,.bl true]
section
variable {C o b st:Nat}{M:Sto}{Q:QE}{S:Nat}{J1:List Int}{J2:List (List Int)}{r c of d:Int}{J3 J4:Nat}{done:Bool}{J8:Int}{J9 K0:D}
theorem kU(hd:J9=.non\/∃ due,J9=.int due)(hm:M o=some (.ins C b_ (b9 S J1 J2 r c of d J3 J4 J8 J9 K0)))(h:Q (.int (qg J8 J9)) M):dX C [.ptr o] M Q:=by
 rcases hd with rfl | ⟨due,rfl⟩
 ·exact IY hm h
 ·exact vR hm h
theorem Duo.ds(D:Duo C M st o b S J1 J2 r c of d J3 J4 done J8 J9 K0):J9=.non\/∃ due,J9=.int due:=by
 rcases D.h3 with⟨_,h⟩ | ⟨_,_,h⟩
 ·exact .inl h
 ·exact .inr h
theorem Duo.nso(D:Duo C M st o b S J1 J2 r c of d J3 J4 done J8 J9 K0):st ≠ o:=fun e=>by have h1:=D.hs;rw[e,D.ho] at h1;cases h1
theorem Duo.nsb(D:Duo C M st o b S J1 J2 r c of d J3 J4 done J8 J9 K0):st ≠ b:=fun e=>by have h1:=D.hs;rw[e,D.hb] at h1;cases h1
theorem Jm{K:VL.D->Prop}{x y:Str}(h:K (.bl (decide (x=y)))):W2 eqD (.str x) (.str y) K:=by
 by_cases e:x=y
 ·subst e
  rw[decide_eq_true rfl] at h
  exact fJ h
 ·rw[decide_eq_false e] at h
  exact dq e h
theorem mW{K:VL.D->Prop}{xs ys:List VL.D}(h1:aN 4 (.lst xs)=true)(e:xs=ys)(h:K (.bl true)):W2 eqD (.lst xs) (.lst ys) K:=by
 subst e
 exact jZ h1 h
theorem Jn{th:D}{w due x:Str}(D:Duo C M st o b S J1 J2 r c of d J3 J4 done J8 J9 K0)(hdue:∀ Q:QE,Q (.str due) M->dE C [bq S J1 J2 r c of d,.ptr st,.str w,th] M Q)(he:due ≠ "")(hx:x ∈ XS)(hk:mV due=jn x)(hcall:∀ (Q':QE) (EX':QX),EX' x M->eE C [.ptr o,.str w,th] M Q' EX')(h:∀ M',Kp (fun _=>False) M M'->Q (.bl true) M'):fE C [bq S J1 J2 r c of d,.ptr st,.str w,th] M Q:=by
 have hs:=D.hs
 have ho:=D.ho
 refine bw rfl ?_
 unfold mQ
 walk_at "env"
 walk_at "run"
 refine hdue _ ?_
 walk_at "run"
 refine kS ho ?_
 walk_at "run"
 refine eV ho D.h1 ?_
 walk_at "run"
 refine kU D.ds ho ?_
 walk_at "run"
 refine qf (R:=fun _ _=>False) (RX:=fun y M'=>y=x/\M'=M) (fun Q' EX' _ hX=>hcall Q' EX' (hX x M ⟨rfl,rfl⟩)) (fun _ _ z=>z.elim) ?_
 intro x' M' hq
 obtain rfl:x=x':=hq.1.symm
 obtain rfl:M=M':=hq.2.symm
 refine⟨hx,fun M2 K2=>?_⟩
 have o2:=K2 _ _ ho id
 walk_at "run"
 refine Jh he ?_
 walk_at "run"
 refine kS o2 ?_
 walk_at "run"
 refine eV o2 D.h1 ?_
 walk_at "run"
 refine kU D.ds o2 ?_
 walk_at "run"
 refine er (α:=Str) ?_
 walk_at "run"
 refine⟨.str,fun n=>.bl (decide (due=n)),["over","early","done","class","many"],rfl,by decide,fun x hx=>⟨_,rfl,?_⟩,?_⟩
 ·walk_at "env"
  walk_at "run"
  refine Jm ?_
  rfl
 walk_at "run"
 refine⟨_,rfl,?_⟩
 refine⟨_,rfl,?_⟩
 walk_at "run"
 refine⟨_,rfl,?_⟩
 walk_at "run"
 have e:aZ 4 (.lst [.str "refused",.lst (jn x)]) (.lst [.str "refused",.lst (mV due)])=true:=by rw[hk];exact jY 4 _ rfl
 refine⟨fun _=>?_,fun z=>?_⟩
 ·walk_at "run"
  refine jZ rfl ?_
  walk_at "run"
  exact h _ K2
 ·exact absurd (e.symm.trans z) (by decide)
end
theorem vY{n:Nat}{te:NTE}{ρb:am}{x:D}{r done:List D}{M:Sto}{Q:List D->Sto->Prop}(h:te (ρb.set 0 (some x)) M fun d M1=>dA n te ρb r (done++[d]) M1 Q):dA n te ρb (x::r) done M Q:=h
theorem Jo{n:Nat}{te:NTE}{ρb:am}{done:List D}{M:Sto}{Q:List D->Sto->Prop}(h:Q done M):dA n te ρb [] done M Q:=h
section
variable {C o b st:Nat}{M:Sto}{Q:QE}{S:Nat}{J1:List Int}{J2:List (List Int)}{r c of d:Int}{J3 J4:Nat}{done:Bool}{J8:Int}{J9 K0:D}
theorem qh{QL:List D->Sto->Prop}{ρ0:am}(ho:M o=some (.ins C b_ (b9 S J1 J2 r c of d J3 J4 J8 J9 K0)))(hb:M b=some (.ins C b_ (b9 S J1 J2 r c of d J3 J4 J8 J9 K0)))(h1:J4<=S)(hd:J9=.non\/∃ due,J9=.int due)(h:QL [.lst [.int (J3:Nat),.int ((S - J4:Nat):Int),.int (qg J8 J9)],.lst [.int (J3:Nat),.int ((S - J4:Nat):Int),.int (qg J8 J9)]] M):
  dA 1 (dk (aj (bJ C b_ (gh C) (nP (aa 0)) aw) (aj (bJ C b_ (dm C) (nP (aa 0)) aw) (aj (bJ C b_ (dX C) (nP (aa 0)) aw) aw)))) (bn 1 [] ρ0) [.ptr o,.ptr b] [] M QL:=by
 refine vY ?_
 rw[show bn 1 [] ρ0=[none] from rfl]
 walk_at "env"
 walk_at "run"
 refine kS ho ?_
 walk_at "run"
 refine eV ho h1 ?_
 walk_at "run"
 refine kU hd ho ?_
 walk_at "run"
 refine vY ?_
 walk_at "env"
 walk_at "run"
 refine kS hb ?_
 walk_at "run"
 refine eV hb h1 ?_
 walk_at "run"
 refine kU hd hb ?_
 walk_at "run"
 exact Jo h
theorem mX{w:Str}{th res:D}{told' J5:Nat}{done':Bool}{paid':Int}{dues' N0:D}(D:Duo C M st o b S J1 J2 r c of d J3 J4 done J8 J9 K0)(hdue:∀ Q:QE,Q (.str "") M->dE C [bq S J1 J2 r c of d,.ptr st,.str w,th] M Q)(hcall:∀ (p:Nat) (M1:Sto) (Q':QE) (EX':QX),M1 p=some (.ins C b_ (b9 S J1 J2 r c of d J3 J4 J8 J9 K0))->(∀ M2,M2 p=some (.ins C b_ (b9 S J1 J2 r c of d told' J5 paid' dues' N0))->Kp (· = p) M1 M2->Q' res M2)->eE C [.ptr p,.str w,th] M1 Q' EX')(hres:aN 3 res=true)(hw:(w = "asked"/\told'=J3+1/\done'=done/\∃ bb:Bool,res=.bl bb/\J5=J4+(if bb=true then 1 else 0))\/(w = "came"/\told'=J3/\J5=J4/\done'=true)\/(w = "paper"/\told'=J3/\J5=J4/\done'=done))(hs':J5<=S)(hd':dues'=.non\/∃ due,dues'=.int due)(h:∀ M',M' st=some (.dic KS [.int (told':Nat),.int (J5:Nat),.bl done',.ptr o,.ptr b])->M' o=some (.ins C b_ (b9 S J1 J2 r c of d told' J5 paid' dues' N0))->M' b=some (.ins C b_ (b9 S J1 J2 r c of d told' J5 paid' dues' N0))->Kp (fun x=>x=st\/x=o\/x=b) M M'->Q (.bl true) M'):
  fE C [bq S J1 J2 r c of d,.ptr st,.str w,th] M Q:=by
 have hs:=D.hs
 have ho:=D.ho
 have nso:=D.nso
 have nsb:=D.nsb
 refine bw rfl ?_
 unfold mQ
 walk_at "env"
 walk_at "run"
 refine hdue _ ?_
 walk_at "run"
 refine kS ho ?_
 walk_at "run"
 refine eV ho D.h1 ?_
 walk_at "run"
 refine kU D.ds ho ?_
 walk_at "run"
 refine qf (R:=fun y M'=>y=res/\M' o=some (.ins C b_ (b9 S J1 J2 r c of d told' J5 paid' dues' N0))/\Kp (· = o) M M') (RX:=fun _ _=>False) (fun Q' EX' hR _=>hcall o M Q' EX' ho fun M2 a1 a2=>hR _ _ ⟨rfl,a1,a2⟩) ?_ (fun _ _ z=>z.elim)
 rintro y M1 ⟨rfl,o1,K1⟩
 have s1:=K1 _ _ hs nso
 have b1:=K1 _ _ D.hb (Ne.symm D.ne)
 walk_at "run"
 refine vT ?_
 walk_at "run"
 refine vT ?_
 walk_at "run"
 refine qf (R:=fun y' M'=>y'=y/\M' b=some (.ins C b_ (b9 S J1 J2 r c of d told' J5 paid' dues' N0))/\Kp (· = b) M1 M') (RX:=fun _ _=>False) (fun Q' EX' hR _=>hcall b M1 Q' EX' b1 fun M2 a1 a2=>hR _ _ ⟨rfl,a1,a2⟩) ?_ (fun _ _ z=>z.elim)
 rintro y' M2 ⟨rfl,b2,K2⟩
 have s2:=K2 _ _ s1 nsb
 have o2:=K2 _ _ o1 D.ne
 walk_at "run"
 refine tT (by rw[aN];simp only[List.all_cons,List.all_nil,hres,Bool.and_true];rfl) ?_
 walk_at "run"
 have K12:Kp (fun x=>x=st\/x=o\/x=b) M M2:=Kp.trans (S':=(· = b)) (fun x c e n=>K1 x c e fun z=>n (.inr (.inl z))) K2 fun x z _=>.inr (.inr z)
 rcases hw with⟨rfl,rfl,rfl,bb,rfl,rfl⟩ | ⟨rfl,rfl,rfl,rfl⟩ | ⟨rfl,rfl,rfl,rfl⟩
 ·refine fJ ?_
  walk_at "run"
  refine⟨st,_,rfl,s2,?_⟩
  walk_at "run"
  refine gW ?_
  walk_at "run"
  refine⟨st,_,rfl,aK,?_⟩
  rw[dj]
  walk_at "run"
  refine dq (by decide) ?_
  walk_at "run"
  have e1:((J3:Nat):Int)+1=((J3+1:Nat):Int):=by omega
  have e2:((J4:Nat):Int)+(if bb=true then 1 else 0)=((J4+(if bb=true then 1 else 0):Nat):Int):=by cases bb <;> simp
  rw[e1,e2]
  have g1:=bo (M:=M2) (c:=.dic KS [.int ((J3+1:Nat):Int),.int ((J4+(if bb=true then 1 else 0):Nat):Int),.bl done',.ptr o,.ptr b]) (Ne.symm nso)
  have g2:=bo (M:=M2) (c:=.dic KS [.int ((J3+1:Nat):Int),.int ((J4+(if bb=true then 1 else 0):Nat):Int),.bl done',.ptr o,.ptr b]) (Ne.symm nsb)
  rw[o2] at g1
  rw[b2] at g2
  refine qh g1 g2 hs' hd' ?_
  walk_at "run"
  refine jZ rfl ?_
  walk_at "run"
  refine mW rfl ?_ ?_
  ·show [VL.D.int _,VL.D.int _]=[VL.D.int _,VL.D.int _]
   rw[show (S:Int) - (((J4+(if bb=true then 1 else 0):Nat)):Int)=((S - (J4+if bb=true then 1 else 0):Nat):Int) by omega]
   try rfl
  walk_at "run"
  exact h _ aK g1 g2 (K12.trans (S':=(· = st)) (Kp.upd (.inl rfl)) fun x z _=>.inl z)
 ·refine dq (by decide) ?_
  walk_at "run"
  refine fJ ?_
  walk_at "run"
  refine⟨st,_,rfl,s2,?_⟩
  walk_at "run"
  have g1:aP M2 st (.dic KS [.int (told':Nat),.int (J5:Nat),.bl true,.ptr o,.ptr b]) o=some (.ins C b_ (b9 S J1 J2 r c of d told' J5 paid' dues' N0)):=by rw[bo (Ne.symm nso)];exact o2
  have g2:aP M2 st (.dic KS [.int (told':Nat),.int (J5:Nat),.bl true,.ptr o,.ptr b]) b=some (.ins C b_ (b9 S J1 J2 r c of d told' J5 paid' dues' N0)):=by rw[bo (Ne.symm nsb)];exact b2
  refine qh g1 g2 hs' hd' ?_
  walk_at "run"
  refine jZ rfl ?_
  walk_at "run"
  refine mW rfl ?_ ?_
  ·show [VL.D.int _,VL.D.int _]=[VL.D.int _,VL.D.int _]
   rw[show (S:Int) - (J5:Int)=((S - (J5):Nat):Int) by omega]
   try rfl
  walk_at "run"
  exact h _ aK g1 g2 (K12.trans (S':=(· = st)) (Kp.upd (.inl rfl)) fun x z _=>.inl z)
 ·refine dq (by decide) ?_
  walk_at "run"
  refine dq (by decide) ?_
  walk_at "run"
  refine qh o2 b2 hs' hd' ?_
  walk_at "run"
  refine jZ rfl ?_
  walk_at "run"
  refine mW rfl ?_ ?_
  ·show [VL.D.int _,VL.D.int _]=[VL.D.int _,VL.D.int _]
   rw[show (S:Int) - (J5:Int)=((S - (J5):Nat):Int) by omega]
   try rfl
  walk_at "run"
  exact h _ s2 o2 b2 K12
end
def mY(x:Str):List Bool:=[decide (x = "Over"),decide (x = "Early"),decide (x = "Done"),decide (x = "NoClass"),decide (x = "TooMany"),decide (x = "NoSale"),decide (x = "Twice"),decide (x = "NoTurn"),decide (x = "Full"),decide (x = "NoRow"),true]
def vZ(due:Str):List Bool:=[decide (due = "over"),decide (due = "early"),decide (due = "done"),decide (due = "class"),decide (due = "many"),false,false,false,false,false,true]
theorem jp{due x:Str}(h:vZ due=mY x):mV due=jn x:=by
 show (vZ due).map D.bl=(mY x).map D.bl
 rw[h]
def w5(w:Str)(th:D):Prop:=(w = "asked"/\(th=.non\/∃ v:Int,th=.int v))\/(w = "paper"/\th=.non)\/(w = "came"/\∃ v:Int,th=.int v)
theorem w6(S J4 J3:Nat)(J1:List Int)(J2:List (List Int))(r c of d:Int):aN 2 (fI S J4 J3 J1 J2 r c of d)=true:=by
 unfold fI;split <;> rfl
theorem w8{a b:Int}{x y:D}(hx:aN 2 x=true)(hy:aN 2 y=true):aN 3 (.tup [.int a,.int b,x,y])=true:=by
 rw[aN]
 simp only[List.all_cons,List.all_nil,hx,hy,Bool.and_true]
 rfl
section
variable {C o b st:Nat}{M:Sto}{Q:QE}{S:Nat}{J1:List Int}{J2:List (List Int)}{r c of d:Int}{J3 J4:Nat}{done:Bool}{J8:Int}{J9 K0:D}
theorem Duo.keep{M':Sto}(D:Duo C M st o b S J1 J2 r c of d J3 J4 done J8 J9 K0)(K:Kp (fun _=>False) M M'):Duo C M' st o b S J1 J2 r c of d J3 J4 done J8 J9 K0 :=
 ⟨K _ _ D.hs id,K _ _ D.ho id,K _ _ D.hb id,D.ne,D.h1,D.h2,D.h3,D.h4⟩
theorem Jp{w:Str}{th:VL.D}(s:Sale S J1 J2 r c of d)(D:Duo C M st o b S J1 J2 r c of d J3 J4 done J8 J9 K0)(hw:w5 w th)(h:∀ M' told' J5 done' paid' dues' N0,Duo C M' st o b S J1 J2 r c of d told' J5 done' paid' dues' N0->Kp (fun x=>x=st\/x=o\/x=b) M M'->Q (.bl true) M'):fE C [bq S J1 J2 r c of d,.ptr st,.str w,th] M Q:=by
 have hs:=D.hs
 have no:∀ {due x:Str},(∀ Q:QE,Q (.str due) M->dE C [bq S J1 J2 r c of d,.ptr st,.str w,th] M Q)->due ≠ ""->x ∈ XS->mV due=jn x->(∀ (Q':QE) (EX':QX),EX' x M->eE C [.ptr o,.str w,th] M Q' EX')->fE C [bq S J1 J2 r c of d,.ptr st,.str w,th] M Q :=
  fun a1 a2 a3 a4 a5=>Jn D a1 a2 a3 a4 a5 fun M' K=>h M' _ _ _ _ _ _ (D.keep K) fun x c e _=>K x c e id
 have h2:=D.h2
 rcases hw with⟨rfl,hth⟩ | ⟨rfl,rfl⟩ | ⟨rfl,v,rfl⟩
 ·by_cases ht:J3=J2.length
  ·exact no (due:="over") (x:="Over") (fun Q q=>Ji hs ht q) (by decide) (by decide) (jp (by decide)) fun Q' EX' e=>mT D.ho (Ja (ht ▸ D.ho) e)
  have ht':J3 < J2.length:=by omega
  rcases hth with rfl | ⟨v,rfl⟩
  ·refine mX (res:=.bl false) (told':=J3+1) (J5:=J4) (done':=done) (paid':=J8) (dues':=J9) (N0:=.tup [.int (J3:Nat),.int ((S - J4:Nat):Int),fI S J4 J3 J1 J2 r c of d,.non]) D (fun Q q=>Jj hs ht' q)
    (fun p M1 Q' EX' g k=>mT g (IU s g D.h1 ht' k)) rfl (.inl ⟨rfl,rfl,rfl,false,rfl,rfl⟩) D.h1 D.ds fun M' a1 a2 a3 K=>h M' _ _ _ _ _ _ ⟨a1,a2,a3,D.ne,D.h1,ht',?_,?_⟩ K
   ·rcases D.h3 with z | ⟨_,z,_⟩
    ·exact .inl z
    ·omega
   ·exact .inr ⟨by omega,_,rfl,w8 (w6 ..) rfl⟩
  ·by_cases hv:v < 0\/(J1.length:Int)<=v
   ·exact no (due:="class") (x:="NoClass") (fun Q q=>vV hs ht' (by rw[if_pos hv];exact q)) (by decide) (by decide) (jp (by decide)) fun Q' EX' e=>mT D.ho (Jc D.ho ht' hv e)
   ·obtain⟨k,rfl⟩:∃ k:Nat,v=k:=⟨v.toNat,by omega⟩
    have hk:k < J1.length:=by omega
    have hx:jm (J1.getD k 0) ((bd J2 (of ^ S)).getD (J3+1) 0) ((bx J1 J2 (of ^ S) (ends r c of d S)).getD (J3+1) []) (S - J4)=true->J4+1<=S:=fun e=>by
     have:=of_decide_eq_true e
     omega
    generalize hb:jm (J1.getD k 0) ((bd J2 (of ^ S)).getD (J3+1) 0) ((bx J1 J2 (of ^ S) (ends r c of d S)).getD (J3+1) []) (S - J4)=bb at hx
    have hS:J4+(if bb=true then 1 else 0)<=S:=by
     have:=D.h1
     cases bb
     ·simpa using this
     ·simpa using hx rfl
    refine mX (res:=.bl bb) (told':=J3+1) (J5:=J4+(if bb=true then 1 else 0)) (done':=done) (paid':=J8+(if bb=true then J1.getD k 0 else 0)) (dues':=J9) (N0:=.tup [.int (J3:Nat),.int ((S - J4:Nat):Int),fI S J4 J3 J1 J2 r c of d,.int (J1.getD k 0)]) D (fun Q q=>vV hs ht' (by rw[if_neg hv];exact q))
     (fun p M1 Q' EX' g z=>mT g (IV s g D.h1 ht' hk hb z)) rfl (.inl ⟨rfl,rfl,rfl,bb,rfl,rfl⟩) hS D.ds fun M' a1 a2 a3 K=>h M' _ _ _ _ _ _ ⟨a1,a2,a3,D.ne,hS,ht',?_,?_⟩ K
    ·rcases D.h3 with z | ⟨_,z,_⟩
     ·exact .inl z
     ·omega
    ·exact .inr ⟨by omega,_,rfl,w8 (w6 ..) rfl⟩
 ·rcases D.h4 with⟨h0,hl⟩ | ⟨h0,lt,hl,hfl⟩
  ·exact no (due:="early") (x:="Early") (fun Q q=>vW hs (by rw[if_pos h0];exact q)) (by decide) (by decide) (jp (by decide)) fun Q' EX' e=>vU D.ho (Jd (hl ▸ D.ho) e)
  ·subst hl
   exact mX (res:=.tup lt) (told':=J3) (J5:=J4) (done':=done) (paid':=J8) (dues':=J9) (N0:=.tup lt) D (fun Q q=>vW hs (by rw[if_neg (by omega)];exact q))
    (fun p M1 Q' EX' g k=>vU g (IW g (k M1 g Kp.refl))) hfl (.inr (.inr ⟨rfl,rfl,rfl,rfl⟩)) D.h1 D.ds fun M' a1 a2 a3 K=>h M' _ _ _ _ _ _ ⟨a1,a2,a3,D.ne,D.h1,D.h2,D.h3,D.h4⟩ K
 ·by_cases ht:J3=J2.length
  ·rcases D.h3 with⟨hd1,hd2⟩ | ⟨hd1,hd2,due,hd3⟩
   ·by_cases hv:v < 0\/(J4:Int) < v
    ·exact no (due:="many") (x:="TooMany") (fun Q q=>vX (hd1 ▸ hs) ht (by rw[if_pos hv];exact q)) (by decide) (by decide) (jp (by decide)) fun Q' EX' e=>mU D.ho (Jg (hd2 ▸ ht ▸ D.ho) hv e)
    ·obtain⟨k,rfl⟩:∃ k:Nat,v=k:=⟨v.toNat,by omega⟩
     subst hd1 hd2 ht
     exact mX (res:=.int (J8 - d * max ((k:Int) - r) 0)) (told':=J2.length) (J5:=J4) (done':=true) (paid':=J8) (dues':=.int (d * max ((k:Int) - r) 0)) (N0:=K0) D (fun Q q=>vX hs rfl (by rw[if_neg hv];exact q))
      (fun p M1 Q' EX' g z=>mU g (IZ s g (by omega) z)) rfl (.inr (.inl ⟨rfl,rfl,rfl,rfl⟩)) D.h1 (.inr ⟨_,rfl⟩) fun M' a1 a2 a3 K=>h M' _ _ _ _ _ _ ⟨a1,a2,a3,D.ne,D.h1,Nat.le_refl _,.inr ⟨rfl,rfl,_,rfl⟩,D.h4⟩ K
   ·exact no (due:="done") (x:="Done") (fun Q q=>Jl (hd1 ▸ hs) ht q) (by decide) (by decide) (jp (by decide)) fun Q' EX' e=>mU D.ho (Jf (hd3 ▸ ht ▸ D.ho) e)
  ·exact no (due:="early") (x:="Early") (fun Q q=>Jk hs (by omega) q) (by decide) (by decide) (jp (by decide)) fun Q' EX' e=>mU D.ho (Je D.ho (by omega) e)
end
section
variable {C:Nat}{M:Sto}{Q:QE}{S:Nat}{J1:List Int}{J2:List (List Int)}{r c of d:Int}
theorem w9(s:Sale S J1 J2 r c of d)(h:∀ st o b M',M st=none->M o=none->M b=none->Duo C M' st o b S J1 J2 r c of d 0 0 false 0 .non .non->Kp (fun _=>False) M M'->Q (.ptr st) M'):ji C [bq S J1 J2 r c of d] M Q:=by
 have f2:=s.f2
 have t1:=s.t1
 refine bw rfl ?_
 unfold pM bq
 walk_at "env"
 walk_at "run"
 refine uO ?_
 walk_at "run"
 intro st hst
 walk_at "run"
 refine uP ?_
 walk_at "run"
 refine er (α:=List Int) ?_
 walk_at "run"
 refine⟨DI,DI,J2,rfl,by omega,fun x hx=>⟨_,rfl,?_⟩,?_⟩
 ·walk_at "env"
  walk_at "run"
 walk_at "run"
 intro o ho
 walk_at "run"
 refine vP s aK fun M4 h4 K4=>⟨rfl,?_⟩
 have nso:st ≠ o:=fun e=>by subst e;rw[aK] at ho;cases ho
 have hst4:M4 st=some (.dic ["turn","sold","done"] [.int 0,.int 0,.bl false]):=K4 _ _ (by rw[bo nso];exact aK) nso
 walk_at "run"
 refine⟨st,_,rfl,hst4,?_⟩
 walk_at "run"
 refine uP ?_
 walk_at "run"
 refine er (α:=List Int) ?_
 walk_at "run"
 refine⟨DI,DI,J2,rfl,by omega,fun x hx=>⟨_,rfl,?_⟩,?_⟩
 ·walk_at "env"
  walk_at "run"
 walk_at "run"
 intro b hb
 walk_at "run"
 refine vP s aK fun M5 h5 K5=>⟨rfl,?_⟩
 have nsb:st ≠ b:=fun e=>by subst e;rw[aK] at hb;cases hb
 have nob:o ≠ b:=fun e=>by subst e;rw[bo (Ne.symm nso),h4] at hb;cases hb
 have hst5:M5 st=some (.dic ["turn","sold","done","office"] [.int 0,.int 0,.bl false,.ptr o]):=K5 _ _ (by rw[bo nsb];exact aK) nsb
 have ho5:M5 o=some (.ins C b_ (b9 S J1 J2 r c of d 0 0 0 .non .non)):=K5 _ _ (by rw[bo nob,bo (Ne.symm nso)];exact h4) nob
 walk_at "run"
 refine⟨st,_,rfl,hst5,?_⟩
 walk_at "run"
 have ho':M o=none:=by rw[bo (Ne.symm nso)] at ho;exact ho
 have K45:Kp (fun _=>False) M M4:=fun x c e _=>K4 x c (by
  have n1:x ≠ st:=fun z=>by rw[z,hst] at e;cases e
  have n2:x ≠ o:=fun z=>by rw[z,ho'] at e;cases e
  rw[bo n2,bo n1];exact e) fun z=>by rw[z,ho'] at e;cases e
 have hb':M b=none:=by
  rw[bo (Ne.symm nsb)] at hb
  cases e:M b with
  | none=>rfl
  | some c=>rw[K45 _ _ e id] at hb;cases hb
 refine h st o b _ hst ho' hb' ⟨aK,by rw[bo (Ne.symm nso)];exact ho5,by rw[bo (Ne.symm nsb)];exact h5,nob,Nat.zero_le _,Nat.zero_le _,.inl ⟨rfl,rfl⟩,.inl ⟨rfl,rfl⟩⟩ fun x c e _=>?_
 have n1:x ≠ st:=fun z=>by rw[z,hst] at e;cases e
 have n3:x ≠ b:=fun z=>by rw[z,hb'] at e;cases e
 rw[bo n1]
 refine K5 x c ?_ n3
 rw[bo n3,bo n1]
 exact K45 x c e id
end
theorem qi{K:D->Prop}{xs:List D}{k:Int}(hl:xs.length * k.toNat<=100000/\k < 100000/\-100000 < k)(h:K (.lst (List.replicate k.toNat xs).flatten)):W2 dS (.lst xs) (.int k) K:=⟨_,by simp only[dS,if_pos hl],h⟩
section
variable {C a n st o b:Nat}{M:Sto}{Q:QE}{S:Nat}{J1:List Int}{J2:List (List Int)}{r c of d:Int}{J3 J4:Nat}{done:Bool}
theorem Jq(hp:Pool M a n)(hn:n<=50000)(hs:M st=some (.dic KS [.int (J3:Nat),.int (J4:Nat),.bl done,.ptr o,.ptr b]))(hf:J1.length<=6)(hsd:J4<=10)(h:∀ w th M',w5 w th->Pool M' a (n+3)->Kp (· = a) M M'->Q (.tup [.str w,th]) M'):jf C [.ptr a,bq S J1 J2 r c of d,.ptr st] M Q:=by
 have ne:st ≠ a:=fun e=>by obtain⟨_,_,_,h1,_⟩:=hp;rw[e,h1] at hs;cases hs
 refine bw rfl ?_
 unfold pJ bq
 walk_at "env"
 walk_at "run"
 refine cb hp (by omega) (by omega) (by omega) fun way M1 w1 w2 P1 K1=>?_
 walk_at "run"
 refine cb P1 (by omega) (by omega) (by omega) fun far M2 v1 v2 P2 K2=>?_
 have hs2:=K2 _ _ (K1 _ _ hs ne) ne
 have K12:Kp (· = a) M M2:=K1.trans K2 fun _ z _=>z
 walk_at "run"
 refine cq (fun e1=>?_) fun e1=>?_
 ·walk_at "run"
  rw[List.length_map]
  refine uV (by omega) (by omega) ?_
  walk_at "run"
  refine qi (by rw[List.length_map,List.length_range,show Int.toNat 3=3 from rfl];omega) ?_
  walk_at "run"
  rw[List.length_map]
  generalize hX:(List.replicate (Int.toNat 3) (List.map (fun (k:Nat)=>D.int (k:Nat)) (List.range (J1.length:Int).toNat))).flatten=X
  have hXl:X.length<=18:=by
   rw[<- hX]
   simp
   omega
  have hXp:∀ v ∈ X,∃ i:Int,v=.int i:=by
   rw[<- hX]
   intro v hv
   simp at hv
   obtain⟨j,_,rfl⟩:=hv
   exact⟨_,rfl⟩
  refine cb P2 (by omega) (by simp;omega) (by simp;omega) fun v M3 a1 a2 P3 K3=>?_
  walk_at "run"
  refine lY (P:=fun v=>v=.non\/∃ i:Int,v=.int i) a1 a2 (fun v hv=>?_) fun v hv=>?_
  ·rcases List.mem_append.mp hv with hv | hv
   ·exact .inr (hXp v hv)
   ·simp only[List.mem_cons,List.not_mem_nil,or_false] at hv
    rcases hv with rfl | rfl | rfl | rfl | rfl
    ·exact .inl rfl
    all_goals exact .inr ⟨_,rfl⟩
  ·walk_at "run"
   exact h _ _ _ (.inl ⟨rfl,hv⟩) (P3.le (by omega)) (K12.trans K3 fun _ z _=>z)
 ·walk_at "run"
  refine cq (fun e2=>?_) fun e2=>?_
  ·walk_at "run"
   exact h _ _ _ (.inr (.inl ⟨rfl,rfl⟩)) (P2.le (by omega)) K12
  ·walk_at "run"
   refine uV (by omega) (by omega) ?_
   walk_at "run"
   generalize hX:(List.map (fun (k:Nat)=>D.int (k:Nat)) (List.range ((J4:Int)+2).toNat))=X
   have hXl:X.length<=12:=by
    rw[<- hX]
    simp
    omega
   have hXp:∀ v ∈ X,∃ i:Int,v=.int i:=by
    rw[<- hX]
    intro v hv
    simp at hv
    obtain⟨j,_,rfl⟩:=hv
    exact⟨_,rfl⟩
   refine cb P2 (by omega) (by simp;omega) (by simp;omega) fun v M3 a1 a2 P3 K3=>?_
   walk_at "run"
   refine lY (P:=fun v=>∃ i:Int,v=.int i) a1 a2 (fun v hv=>?_) fun v hv=>?_
   ·rcases List.mem_append.mp hv with hv | hv
    ·exact hXp v hv
    ·simp only[List.mem_cons,List.not_mem_nil,or_false] at hv
     rcases hv with rfl | rfl | rfl
     all_goals exact⟨_,rfl⟩
   ·walk_at "run"
    exact h _ _ _ (.inr (.inr ⟨rfl,hv⟩)) (P3.le (by omega)) (K12.trans K3 fun _ z _=>z)
end
def cx(x:D):Prop:=∃ (v:Int) (fs:List Int) (ts:List (List Int)) (r c of d:Int),x=.tup [.int v,DI fs,DII ts,.tup [.int r,.int c,.int of,.int d]]/\fs.length<=100/\ts.length<=100/\(∀ x ∈ ts,x.length<=100)/\(SaleOk v fs ts->eU r c of d=false)
section
variable {C o:Nat}{M:Sto}{Q:QE}{EX:QX}
theorem Jr{v:Int}{fs:List Int}{ts:List (List Int)}{r c of d:Int}(h1:fs.length<=100)(h2:ts.length<=100)(h3:∀ x ∈ ts,x.length<=100)(hn:SaleOk v fs ts->eU r c of d=false)(h:EX "NoSale" M):
  fD C [.ptr o,.int v,DI fs,DII ts,.tup [.int r,.int c,.int of,.int d]] M Q EX:=by
 refine cL rfl ?_
 unfold mP
 walk_at "env"
 walk_at "run"
 refine iY (vB (by omega) (by omega) fun x hx=>by have:=h3 x hx;omega) ?_
 rintro _ ⟨b,rfl,hb⟩
 cases b with
 | false =>
   walk_at "run"
   exact⟨by decide,h⟩
 | true =>
   walk_at "run"
   refine bL (vC r c of d) ?_
   rw[hn (hb.mp rfl)]
   walk_at "run"
   exact⟨by decide,h⟩
theorem Js{x:D}(hx:cx x)(h:∀ M',Kp (fun _=>False) M M'->Q (.bl true) M'):jj C [x] M Q:=by
 obtain⟨v,fs,ts,r,c,of,d,rfl,h1,h2,h3,hn⟩:=hx
 refine bw rfl ?_
 unfold pO
 walk_at "env"
 walk_at "run"
 refine er (α:=List Int) ?_
 walk_at "run"
 refine⟨DI,DI,ts,rfl,by omega,fun x hx=>⟨_,rfl,?_⟩,?_⟩
 ·walk_at "env"
  walk_at "run"
 walk_at "run"
 refine HK ?_
 walk_at "run"
 intro o ho
 refine Jr h1 h2 h3 hn ?_
 walk_at "run"
 intro a ha
 walk_at "run"
 refine tT (d:=.lst [DI fs,DII ts]) (by rw[aN];simp only[List.all_cons,List.all_nil,tN,E4,Bool.and_true]) ?_
 walk_at "run"
 refine vS aK (by decide) ?_
 walk_at "run"
 refine er (α:=Nat) ?_
 walk_at "run"
 refine⟨⟨by omega,by omega⟩,fun (k:Nat)=>.int (k:Nat),fun (k:Nat)=>.bl (decide (k=5\/k=10)),List.range 11,rfl,by decide,fun k hk=>⟨_,rfl,?_⟩,?_⟩
 ·walk_at "env"
  walk_at "run"
  refine cq (fun e=>?_) fun e=>?_
  ·walk_at "run"
   rw[decide_eq_true (.inl (by omega))]
  ·walk_at "run"
   rw[show decide ((k:Int)=10)=decide (k=5\/k=10) from decide_eq_decide.mpr (by omega)]
 refine mW rfl ?_ ?_
 ·show (mY "NoSale").map D.bl=((List.range 11).map fun k=>decide (k=5\/k=10)).map D.bl
  rw[show mY "NoSale" = (List.range 11).map fun k=>decide (k=5\/k=10) from by decide]
 walk_at "run"
 exact h _ fun x c e _=>by
  have n1:x ≠ o:=fun z=>by rw[z,ho] at e;cases e
  have n2:x ≠ a:=fun z=>by rw[z] at e n1;rw[bo n1,e] at ha;cases ha
  rw[bo n2,bo n1]
  exact e
end
theorem Jt(m:Nat)(x:Int):(List.replicate m [D.int x]).flatten=(List.replicate m x).map D.int:=by
 induction m with
 | zero=>rfl
 | succ m ih=>rw[List.replicate_succ,List.flatten_cons,ih,List.replicate_succ,List.map_cons];rfl
def putAt(xs:List Int)(k:Nat)(v:Int):List Int:=xs.take k++[v]++xs.drop (k+1)
theorem wa{xs:List Int}{k:Nat}{v:Int}(h:k < xs.length):(putAt xs k v).length=xs.length:=by
 unfold putAt
 rw[List.length_append,List.length_append,List.length_take,List.length_drop]
 simp only[List.length_cons,List.length_nil]
 omega
theorem wb{xs:List Int}{k:Nat}{v:Int}:v ∈ putAt xs k v:=by
 unfold putAt
 simp
theorem mZ{K:D->Prop}{xs:List Int}{k:Nat}{v:Int}(hl:xs.length<=1000)(h:K (.lst ((xs.take k++[v]).map D.int))):W2 bh (.lst (cB (xs.map D.int) none (some (k:Int)))) (.lst [.int v]) K:=by
 rw[oo]
 refine iZ (by rw[List.length_map,List.length_take];simp only[List.length_cons,List.length_nil];omega) ?_
 rw[List.map_append] at h
 exact h
theorem n0{K:D->Prop}{xs ys:List Int}{k:Int}{j:Nat}(hk:k=(j:Int))(hl:xs.length<=1000)(hl2:ys.length<=1000)(h:K (DI (ys++xs.drop j))):W2 bh (.lst (ys.map D.int)) (.lst (cB (xs.map D.int) (some k) none)) K:=by
 subst hk
 rw[oq]
 refine iZ (by rw[List.length_map,List.length_map,List.length_drop];omega) ?_
 unfold DI at h
 rw[List.map_append] at h
 exact h
theorem jq{X:List D}{x:D}{n:Nat}(hB:∀ x ∈ X,cx x)(hL:X.length=n)(hx:cx x):∃ Y,X++[x]=Y/\(∀ y ∈ Y,cx y)/\Y.length=n+1 :=
 ⟨_,rfl,fun y hy=>(List.mem_append.mp hy).elim (hB y) fun h=>by rw[List.mem_singleton.mp h];exact hx,by rw[List.length_append,hL];rfl⟩
def Ju(m:Nat)(x:List Int):Prop:=x.length<=100/\¬ (x.length=m+1/\(∀ y ∈ x,0<=y/\y<=1000)/\0 < x.sum)
theorem Jv(n:Nat):(List.replicate n (0:Int)).sum=0:=by
 induction n with
 | zero=>rfl
 | succ n ih=>rw[List.replicate_succ,List.sum_cons,ih];rfl
def qj(p:Int × Int × Int × Int):D:=.tup [.int p.1,.int p.2.1,.int p.2.2.1,.int p.2.2.2]
section
variable {C a n:Nat}{M:Sto}{Q:QE}{S:Nat}{J1:List Int}{J2:List (List Int)}{r c of d:Int}
theorem Jw(s:Sale S J1 J2 r c of d)(hp:Pool M a n)(hn:n<=50000)(h:∀ x M',cx x->Pool M' a (n+20)->Kp (· = a) M M'->Q x M'):jh C [.ptr a,bq S J1 J2 r c of d] M Q:=by
 obtain⟨hS,f1,f2,f3,t1,t2,r1,r2,c1,c2,o1,o2,d1,d2⟩:=s
 refine bw rfl ?_
 unfold pL bq
 walk_at "env"
 walk_at "run"
 refine cb hp (by omega) (by omega) (by omega) fun f0 M1 u1 u2 P1 K1=>?_
 walk_at "run"
 refine cb P1 (by omega) (by omega) (by omega) fun i0 M2 v1 v2 P2 K2=>?_
 walk_at "run"
 refine tI 0 (10 ^ 40) v1 (by simpa using v2) ⟨⟨by omega,by omega⟩,⟨by omega,by omega⟩,trivial⟩ fun far g1 g2=>?_
 walk_at "run"
 rw[List.length_map]
 refine cb P2 (by omega) (by omega) (by omega) fun at1 M3 w1 w2 P3 K3=>?_
 obtain⟨k1,rfl⟩:∃ k:Nat,at1=k:=⟨at1.toNat,by omega⟩
 have hk1:k1 < J1.length:=by omega
 walk_at "run"
 rw[List.length_map]
 refine qi ⟨by simp only[List.length_cons,List.length_nil];omega,by omega,by omega⟩ ?_
 rw[Jt,show ((J1.length:Int)+1).toNat=J1.length+1 by omega]
 rw[show D.lst (List.map D.int (List.replicate (J1.length+1) 5))=DI (List.replicate (J1.length+1) 5) from rfl]
 generalize hrow:List.replicate (J1.length+1) (5:Int)=row
 walk_at "run"
 refine uN ?_
 walk_at "run"
 have cut0:cB (J2.map DI) none (some 0)=([]:List D):=by rw[show (0:Int)=((0:Nat):Int) from rfl,tL];rfl
 rw[cut0]
 have cut7:cB (J2.map DI) none (some 7)=(J2.take 7).map DI:=by rw[show (7:Int)=((7:Nat):Int) from rfl,oo]
 have row1:row.length=J1.length+1:=by rw[<- hrow,List.length_replicate]
 have hr:∀ x ∈ J2,x.length<=100:=fun x hx=>by have:=(t2 x hx).1;omega
 have mk:∀ {v:Int} {fs:List Int} {ts:List (List Int)},fs.length<=100->ts.length<=100->(∀ x ∈ ts,x.length<=100)->(¬ SaleOk v fs ts)->cx (.tup [.int v,DI fs,DII ts,.tup [.int r,.int c,.int of,.int d]]):=fun {v fs ts} a1 a2 a3 a4=>⟨v,fs,ts,r,c,of,d,rfl,a1,a2,a3,fun z=>absurd z a4⟩
 have mr:∀ {r c of d:Int},eU r c of d=false->cx (.tup [.int (S:Nat),DI J1,DII J2,.tup [.int r,.int c,.int of,.int d]]):=fun {r c of d} a4=>⟨_,_,_,r,c,of,d,rfl,by omega,by omega,hr,fun _=>a4⟩
 have A1:cx (.tup [.int (-1 - far),DI J1,DII J2,.tup [.int r,.int c,.int of,.int d]]):=mk (by omega) (by omega) hr fun z=>by have:=z.s0;omega
 have A2:cx (.tup [.int (11+far),DI J1,DII J2,.tup [.int r,.int c,.int of,.int d]]):=mk (by omega) (by omega) hr fun z=>by have:=z.s1;omega
 have A3:cx (.tup [.int (S:Nat),.lst [],.lst [],.tup [.int r,.int c,.int of,.int d]]):=mk (fs:=[]) (ts:=[]) (by decide) (by decide) (fun x hx=>nomatch hx) fun z=>by have:=z.f0;simp at this
 intro q hq
 have B1:∀ x ∈ [D.tup [.int (-1 - far),DI J1,DII J2,.tup [.int r,.int c,.int of,.int d]],.tup [.int (11+far),DI J1,DII J2,.tup [.int r,.int c,.int of,.int d]],.tup [.int (S:Nat),.lst [],.lst [],.tup [.int r,.int c,.int of,.int d]]],cx x:=by
  intro x hx
  simp only[List.mem_cons,List.not_mem_nil,or_false] at hx
  rcases hx with rfl | rfl | rfl
  ·exact A1
  ·exact A2
  ·exact A3
 generalize hX1:[D.tup [.int (-1 - far),DI J1,DII J2,.tup [.int r,.int c,.int of,.int d]],.tup [.int (11+far),DI J1,DII J2,.tup [.int r,.int c,.int of,.int d]],.tup [.int (S:Nat),.lst [],.lst [],.tup [.int r,.int c,.int of,.int d]]]=X1 at B1
 have L1:X1.length=3:=by rw[<- hX1];rfl
 clear hX1 A1 A2 A3
 walk_at "run"
 refine⟨q,_,rfl,aK,?_⟩
 walk_at "run"
 refine mZ (by omega) ?_
 walk_at "run"
 refine n0 (j:=k1+1) (by omega) (by omega) (by rw[List.length_append,List.length_take];simp only[List.length_cons,List.length_nil];omega) ?_
 walk_at "run"
 refine⟨_,aK,by omega,?_⟩
 rw[dj]
 have pl:∀ v:Int,(J1.take k1++[v]++J1.drop (k1+1)).length=J1.length:=fun v=>wa hk1
 have pm:∀ v:Int,v ∈ J1.take k1++[v]++J1.drop (k1+1):=fun v=>wb
 have A4:cx (.tup [.int (S:Nat),DI (J1.take k1++[0 - far]++J1.drop (k1+1)),DII J2,.tup [.int r,.int c,.int of,.int d]]):=mk (by rw[pl];omega) (by omega) hr fun z=>by have:=z.f _ (pm (0 - far));omega
 obtain⟨X2,hX2,B2,L2⟩:=jq B1 L1 A4
 rw[hX2]
 clear hX2 B1 L1 A4
 walk_at "run"
 refine⟨q,_,rfl,aK,?_⟩
 walk_at "run"
 refine mZ (by omega) ?_
 walk_at "run"
 refine n0 (j:=k1+1) (by omega) (by omega) (by rw[List.length_append,List.length_take];simp only[List.length_cons,List.length_nil];omega) ?_
 walk_at "run"
 refine⟨_,aK,by omega,?_⟩
 rw[dj]
 have A5:cx (.tup [.int (S:Nat),DI (J1.take k1++[1000000+1+far]++J1.drop (k1+1)),DII J2,.tup [.int r,.int c,.int of,.int d]]):=mk (by rw[pl];omega) (by omega) hr fun z=>by have:=z.f _ (pm (1000000+1+far));omega
 obtain⟨X3,hX3,B3,L3⟩:=jq B2 L2 A5
 rw[hX3]
 clear hX3 B2 L2 A5
 walk_at "run"
 refine⟨q,_,rfl,aK,?_⟩
 walk_at "run"
 refine tR (by omega) (by omega) ?_
 rw[show Int.toNat 7=7 from rfl]
 walk_at "run"
 rw[cut0]
 refine⟨_,aK,by omega,?_⟩
 rw[dj]
 have A6:cx (.tup [.int (S:Nat),DI (List.replicate 7 7),.lst [],.tup [.int r,.int c,.int of,.int d]]):=mk (ts:=[]) (by decide) (by decide) (fun x hx=>nomatch hx) fun z=>by have:=z.f1;simp at this
 obtain⟨X4,hX4,B4,L4⟩:=jq B3 L3 A6
 rw[hX4]
 clear hX4 B3 L3 A6
 have hqa:q ≠ a:=fun e=>by obtain⟨_,_,_,h1,_⟩:=P3;rw[e,h1] at hq;cases hq
 have P4:Pool (aP M3 q (.lst X4)) a (n+3):=P3.keep (S:=fun _=>False) (Kp.upd (.inr hq)) id
 walk_at "run"
 rw[List.length_map,row1]
 refine cb P4 (by omega) (by omega) (by omega) fun at2 M5 w1 w2 P5 K5=>?_
 obtain⟨k2,rfl⟩:∃ k:Nat,at2=k:=⟨at2.toNat,by omega⟩
 have hk2:k2 < row.length:=by omega
 have q5:M5 q=some (.lst X4):=K5 _ _ aK hqa
 walk_at "run"
 refine mZ (by omega) ?_
 walk_at "run"
 refine n0 (j:=k2+1) (by omega) (by omega) (by rw[List.length_append,List.length_take];simp only[List.length_cons,List.length_nil];omega) ?_
 walk_at "run"
 refine mZ (by omega) ?_
 walk_at "run"
 refine n0 (j:=k2+1) (by omega) (by omega) (by rw[List.length_append,List.length_take];simp only[List.length_cons,List.length_nil];omega) ?_
 walk_at "run"
 rw[List.length_map,row1]
 refine tR (by omega) (by omega) ?_
 walk_at "run"
 have eB:([DI (List.take k2 row++[1001+far]++List.drop (k2+1) row),DI (List.take k2 row++[-1 - far]++List.drop (k2+1) row),DI (List.replicate ((J1.length+1:Nat):Int).toNat 0),D.lst (List.map D.int row++[D.int 1])]++[D.lst (cB (List.map D.int row) (some 1) none)])
   = [List.take k2 row++[1001+far]++List.drop (k2+1) row,List.take k2 row++[-1 - far]++List.drop (k2+1) row,List.replicate (J1.length+1) 0,row++[1],row.drop 1].map DI:=by
  rw[show (1:Int)=((1:Nat):Int) from rfl,oq,Int.toNat_natCast]
  simp[DI,List.map_append]
 rw[eB]
 have bad:∀ x ∈ [List.take k2 row++[1001+far]++List.drop (k2+1) row,List.take k2 row++[-1 - far]++List.drop (k2+1) row,List.replicate (J1.length+1) 0,row++[1],row.drop 1],Ju J1.length x:=by
  have pl2:∀ v:Int,(row.take k2++[v]++row.drop (k2+1)).length=row.length:=fun v=>wa hk2
  have pm2:∀ v:Int,v ∈ row.take k2++[v]++row.drop (k2+1):=fun v=>wb
  intro x hx
  simp only[List.mem_cons,List.not_mem_nil,or_false] at hx
  rcases hx with rfl | rfl | rfl | rfl | rfl
  ·exact⟨by rw[pl2];omega,fun z=>by have:=z.2.1 _ (pm2 _);omega⟩
  ·exact⟨by rw[pl2];omega,fun z=>by have:=z.2.1 _ (pm2 _);omega⟩
  ·exact⟨by rw[List.length_replicate];omega,fun z=>by have:=z.2.2;rw[Jv] at this;omega⟩
  ·exact⟨by rw[List.length_append];simp only[List.length_cons,List.length_nil];omega,fun z=>by have:=z.1;rw[List.length_append] at this;simp only[List.length_cons,List.length_nil] at this;omega⟩
  ·exact⟨by rw[List.length_drop];omega,fun z=>by have:=z.1;rw[List.length_drop] at this;omega⟩
 have lB:[List.take k2 row++[1001+far]++List.drop (k2+1) row,List.take k2 row++[-1 - far]++List.drop (k2+1) row,List.replicate (J1.length+1) 0,row++[1],row.drop 1].length=5:=rfl
 generalize [List.take k2 row++[1001+far]++List.drop (k2+1) row,List.take k2 row++[-1 - far]++List.drop (k2+1) row,List.replicate (J1.length+1) 0,row++[1],row.drop 1]=BR at bad lB
 generalize (D.lst [DI (List.take k2 row++[1001+far]++List.drop (k2+1) row),DI (List.take k2 row++[-1 - far]++List.drop (k2+1) row),DI (List.replicate ((J1.length+1:Nat):Int).toNat 0),D.lst (List.map D.int row++[D.int 1])])=y10
 have Ka5:Kp (fun x=>x=a\/x=q) M M5:=fun x c e n=>K5 x c (by
  have e3:=K3 x c (K2 x c (K1 x c e fun z=>n (.inl z)) fun z=>n (.inl z)) fun z=>n (.inl z)
  rw[bo fun z=>n (.inr z)];exact e3) fun z=>n (.inl z)
 have hqM:M q=none:=by
  cases e:M q with
  | none=>rfl
  | some c=>rw[K3 q c (K2 q c (K1 q c e hqa) hqa) hqa] at hq;cases hq
 clear eB K1 K2 K3 K5 P1 P2 P3 P4 hp
 refine mD DI BR (fun k ρ M'=>∃ X b11 b12,ρ=[some (.ptr a),some (.tup [.int (S:Nat),DI J1,DII J2,.tup [.int r,.int c,.int of,.int d]]),some (.int (S:Nat)),some (DI J1),some (DII J2),some (.tup [.int r,.int c,.int of,.int d]),some (.int far),some (.int (k2:Nat)),some (DI row),some (.ptr q),some y10,b11,b12] /\
  M' q=some (.lst X)/\(∀ x ∈ X,cx x)/\X.length=6+k/\Pool M' a (n+4+k)/\Kp (fun x=>x=a\/x=q) M M') ⟨X4,_,_,rfl,q5,B4,L4,P5,Ka5⟩ ?_ ?_
 ·rintro ρ M6 ⟨X,b11,b12,rfl,q6,B6,L6,P6,K6⟩
  rw[lB] at L6 P6
  walk_at "run"
  refine⟨q,_,rfl,q6,?_⟩
  walk_at "run"
  rw[List.length_map]
  refine qi ⟨by simp only[List.length_cons,List.length_nil];omega,by omega,by omega⟩ ?_
  have eR:(List.replicate (9 - (J2.length:Int)).toNat [DI row]).flatten=(List.replicate (9 - J2.length) row).map DI:=by
   rw[show (9 - (J2.length:Int)).toNat=9 - J2.length by omega]
   generalize 9 - J2.length=m
   induction m with
   | zero=>rfl
   | succ m ih=>rw[List.replicate_succ,List.flatten_cons,ih,List.replicate_succ,List.map_cons];rfl
  rw[eR]
  refine iZ (by rw[List.length_map,List.length_map,List.length_replicate];omega) ?_
  walk_at "run"
  refine⟨_,q6,by omega,?_⟩
  have A8:cx (.tup [.int (S:Nat),DI J1,DII (J2++List.replicate (9 - J2.length) row),.tup [.int r,.int c,.int of,.int d]]):=mk (by omega) (by rw[List.length_append,List.length_replicate];omega) (fun z hz=>by
    rcases List.mem_append.mp hz with hz | hz
    ·exact hr z hz
    ·rw[List.eq_of_mem_replicate hz];omega) fun z=>by have:=z.t;rw[List.length_append,List.length_replicate] at this;omega
  rw[show D.lst (List.map DI J2++List.map DI (List.replicate (9 - J2.length) row))=DII (J2++List.replicate (9 - J2.length) row) by unfold DII;rw[List.map_append]]
  obtain⟨X7,hX7,B7,L7⟩:=jq B6 L6 A8
  rw[hX7]
  have K7:Kp (fun x=>x=a\/x=q) M (aP M6 q (.lst X7)):=fun z c e n=>by rw[bo fun w=>n (.inr w)];exact K6 z c e n
  have P7:Pool (aP M6 q (.lst X7)) a (n+9):=P6.keep (S:=(· = q)) (Kp.upd (.inl rfl)) (Ne.symm hqa)
  have q7:aP M6 q (.lst X7) q=some (.lst X7):=aK
  generalize aP M6 q (.lst X7)=M7 at K7 P7 q7
  walk_at "run"
  have badR:∀ p ∈ [((11:Int),(1:Int),(1:Int),(0:Int)),(-1,1,1,0),(0,2+far,1,0),(0,-1,1,0),(0,0,0,0),(0,1,1001+far,0)],eU p.1 p.2.1 p.2.2.1 p.2.2.2=false:=by
   intro p hp
   simp only[List.mem_cons,List.not_mem_nil,or_false] at hp
   rcases hp with rfl | rfl | rfl | rfl | rfl | rfl <;> (unfold eU;exact decide_eq_false (by dsimp only;omega))
  have lR:[((11:Int),(1:Int),(1:Int),(0:Int)),(-1,1,1,0),(0,2+far,1,0),(0,-1,1,0),(0,0,0,0),(0,1,1001+far,0)].length=6:=rfl
  rw[show [D.tup [D.int 11,D.int 1,D.int 1,D.int 0],D.tup [D.int (-1),D.int 1,D.int 1,D.int 0],D.tup [D.int 0,D.int (2+far),D.int 1,D.int 0],D.tup [D.int 0,D.int (-1),D.int 1,D.int 0],D.tup [D.int 0,D.int 0,D.int 0,D.int 0],D.tup [D.int 0,D.int 1,D.int (1001+far),D.int 0]]
   = [((11:Int),(1:Int),(1:Int),(0:Int)),(-1,1,1,0),(0,2+far,1,0),(0,-1,1,0),(0,0,0,0),(0,1,1001+far,0)].map qj from rfl]
  generalize [((11:Int),(1:Int),(1:Int),(0:Int)),(-1,1,1,0),(0,2+far,1,0),(0,-1,1,0),(0,0,0,0),(0,1,1001+far,0)]=RL at badR lR
  clear B6 L6 P6 K6 q6 hX7 A8 eR
  refine mD qj RL (fun k ρ M'=>∃ X b11 b12,ρ=[some (.ptr a),some (.tup [.int (S:Nat),DI J1,DII J2,.tup [.int r,.int c,.int of,.int d]]),some (.int (S:Nat)),some (DI J1),some (DII J2),some (.tup [.int r,.int c,.int of,.int d]),some (.int far),some (.int (k2:Nat)),some (DI row),some (.ptr q),some y10,b11,b12] /\
   M' q=some (.lst X)/\(∀ x ∈ X,cx x)/\X.length=12+k/\Pool M' a (n+9)/\Kp (fun x=>x=a\/x=q) M M') ⟨X7,_,_,rfl,q7,B7,L7,P7,K7⟩ ?_ ?_
  ·rintro ρ M8 ⟨X,b11,b12,rfl,q8,B8,L8,P8,K8⟩
   rw[lR] at L8
   walk_at "run"
   refine HC rfl q8 ?_
   have P9:Pool (di M8 q) a (n+9):=P8.keep (S:=(· = q)) (Kp.del rfl) (Ne.symm hqa)
   walk_at "run"
   have E1:cx (.tup [.int (S:Nat),DI J1,DII J2,.tup [.int 0,.int 1,.int 1,.int (-1 - far)]]):=mr (by unfold eU;exact decide_eq_false (by omega))
   have E2:cx (.tup [.int (S:Nat),DI J1,DII J2,.tup [.int 0,.int 1,.int 1,.int (1000000+1+far)]]):=mr (by unfold eU;exact decide_eq_false (by omega))
   have lX:(X++[D.tup [D.int (S:Nat),DI J1,DII J2,D.tup [D.int 0,D.int 1,D.int 1,D.int (-1 - far)]],D.tup [D.int (S:Nat),DI J1,DII J2,D.tup [D.int 0,D.int 1,D.int 1,D.int (1000000+1+far)]]]).length=20:=by
    rw[List.length_append,L8];rfl
   rw[lX]
   refine cb P9 (by omega) (by omega) (by omega) fun v M9 v1 v2 P10 K9=>?_
   refine lY (P:=cx) v1 (by rw[lX];exact v2) (fun z hz=>?_) fun z hz=>?_
   ·rcases List.mem_append.mp hz with hz | hz
    ·exact B8 z hz
    ·simp only[List.mem_cons,List.not_mem_nil,or_false] at hz
     rcases hz with rfl | rfl
     ·exact E1
     ·exact E2
   ·refine h z M9 hz (P10.le (by omega)) fun w c e n=>K9 w c ?_ n
    have hwq:w ≠ q:=fun e1=>by subst e1;exact absurd e (by rw[hqM];exact fun z=>nomatch z)
    rw[m8 hwq]
    exact K8 w c e fun z=>z.elim n hwq
  ·rintro k hk ρ M8 ⟨X,b11,b12,rfl,q8,B8,L8,P8,K8⟩ N hN
   have hx:=badR _ (List.getElem_mem hk)
   generalize RL[k]=p at hx
   obtain⟨p1,p2,p3,p4⟩:=p
   unfold qj
   walk_at "env"
   walk_at "run"
   refine⟨q,_,rfl,q8,?_⟩
   walk_at "run"
   refine⟨_,q8,by omega,?_⟩
   walk_at "run"
   obtain⟨Y,hY,BY,LY⟩:=jq B8 L8 (mr hx)
   rw[hY]
   refine hN _ _ ⟨Y,_,_,rfl,aK,BY,by omega,P8.keep (S:=(· = q)) (Kp.upd (.inl rfl)) (Ne.symm hqa),fun z c e n=>?_⟩
   rw[bo fun w=>n (.inr w)]
   exact K8 z c e n
 ·rintro k hk ρ M6 ⟨X,b11,b12,rfl,q6,B6,L6,P6,K6⟩ N hN
  have hx:=bad _ (List.getElem_mem hk)
  generalize BR[k]=x at hx
  walk_at "env"
  walk_at "run"
  have l7:(J2.take 7).length<=7:=by rw[List.length_take];omega
  rw[cut7,List.length_map]
  refine cb P6 (by omega) (by omega) (by omega) fun pl0 M7 v1 v2 P7 K7=>?_
  obtain⟨j,rfl⟩:∃ j:Nat,pl0=j:=⟨pl0.toNat,by omega⟩
  have q7:=K7 _ _ q6 hqa
  walk_at "run"
  refine⟨q,_,rfl,q7,?_⟩
  walk_at "run"
  rw[cut7,oo]
  refine iZ (by rw[List.length_map,List.length_take];simp only[List.length_cons,List.length_nil];omega) ?_
  walk_at "run"
  rw[cut7,oq]
  refine iZ (by rw[List.length_map,List.length_append,List.length_map,List.length_take,List.length_drop];simp only[List.length_cons,List.length_nil];omega) ?_
  walk_at "run"
  refine⟨_,q7,by omega,?_⟩
  walk_at "run"
  have A7:cx (.tup [.int (S:Nat),DI J1,DII ((J2.take 7).take j++[x]++(J2.take 7).drop j),.tup [.int r,.int c,.int of,.int d]]):=mk (by omega) (by
    rw[List.length_append,List.length_append,List.length_take,List.length_drop];simp only[List.length_cons,List.length_nil];omega) (fun z hz=>by
    rcases List.mem_append.mp hz with hz | hz
    ·rcases List.mem_append.mp hz with hz | hz
     ·exact hr z (List.mem_of_mem_take (List.mem_of_mem_take hz))
     ·rw[List.mem_singleton.mp hz];exact hx.1
    ·exact hr z (List.mem_of_mem_take (List.mem_of_mem_drop hz))) fun z=>hx.2 (z.r x (by simp))
  have eX:D.lst (List.map DI (List.take j (List.take 7 J2))++[DI x]++List.map DI (List.drop j (List.take 7 J2)))=DII ((J2.take 7).take j++[x]++(J2.take 7).drop j):=by
   unfold DII
   rw[List.map_append,List.map_append]
   rfl
  rw[eX]
  obtain⟨Y,hY,BY,LY⟩:=jq B6 L6 A7
  rw[hY]
  refine hN _ _ ⟨Y,_,_,rfl,aK,BY,by omega,P7.keep (S:=(· = q)) (Kp.upd (.inl rfl)) (Ne.symm hqa),fun z c e n=>?_⟩
  rw[bo fun w=>n (.inr w)]
  exact K7 z c (K6 z c e n) fun w=>n (.inl w)
end
def qk(a_:Nat):NTS:=(au (gK [5,6] (aO (jf a_) (aj (nP (aa 4)) (aj (nP (aa 1)) (aj (nP (aa 2)) (aw)))))) (au (b7 (eu (du (aO (fE a_) (aj (nP (aa 1)) (aj (nP (aa 2)) (aj (nP (aa 5)) (aj (nP (aa 6)) (aw)))))))) (aS (nP (eC (.bl false)))) (sN)) (b7 (j1 (nPB (eT (e2 eqD (e2 e7 (aa 3) (eC (.int 8))) (eC (.int 3))))) (eu (du (aO (jj a_) (aj (aO (jh a_) (aj (nP (aa 4)) (aj (nP (aa 1)) (aw)))) (aw)))))) (aS (nP (eC (.bl false)))) (sN))))
theorem Jx{C:Nat}{M:Sto}{N B T:am->Sto->Prop}{R:QE}{X:QX}{S:Nat}{J1:List Int}{J2:List (List Int)}{r c of d:Int}{st o b J3 J4 p n:Nat}{done:Bool}{J8 k:Int}{J9 K0:D}{x0 b5 b6:Option D}(s:Sale S J1 J2 r c of d)(hk:0<=k)(hk2:k<=1000)(D0:Duo C M st o b S J1 J2 r c of d J3 J4 done J8 J9 K0)(P0:Pool M p n)(hn:n<=40000)(h:∀ M' J3 J4 done J8 J9 K0 b5 b6,Duo C M' st o b S J1 J2 r c of d J3 J4 done J8 J9 K0->N [x0,some (bq S J1 J2 r c of d),some (.ptr st),some (.int k),some (.ptr p),b5,b6] M'):
  qk C ⟨N,R,B,T,X⟩ [x0,some (bq S J1 J2 r c of d),some (.ptr st),some (.int k),some (.ptr p),b5,b6] M:=by
 have hS:=s.hS
 have h1:=D0.h1
 have nps:st ≠ p:=fun e=>by obtain⟨_,_,_,z,_⟩:=P0;have:=D0.hs;rw[e,z] at this;cases this
 have npo:o ≠ p:=fun e=>by obtain⟨_,_,_,z,_⟩:=P0;have:=D0.ho;rw[e,z] at this;cases this
 have npb:b ≠ p:=fun e=>by obtain⟨_,_,_,z,_⟩:=P0;have:=D0.hb;rw[e,z] at this;cases this
 unfold qk
 walk_at "run"
 refine Jq P0 (by omega) D0.hs s.f2 (by omega) fun w th M1 hw P1 K1=>?_
 have D1:Duo C M1 st o b S J1 J2 r c of d J3 J4 done J8 J9 K0:=⟨K1 _ _ D0.hs nps,K1 _ _ D0.ho npo,K1 _ _ D0.hb npb,D0.ne,D0.h1,D0.h2,D0.h3,D0.h4⟩
 walk_at "run"
 refine Jp s D1 hw fun M2 told2 sold2 done2 paid2 dues2 latest2 D2 K2=>?_
 have P2:Pool M2 p (n+3):=P1.keep K2 fun z=>z.elim (fun z=>nps z.symm) fun z=>z.elim (fun z=>npo z.symm) fun z=>npb z.symm
 walk_at "run"
 refine cq (fun e=>?_) fun e=>?_
 ·walk_at "run"
  refine Jw s P2 (by omega) fun x M3 hx P3 K3=>?_
  have D3:Duo C M3 st o b S J1 J2 r c of d told2 sold2 done2 paid2 dues2 latest2:=⟨K3 _ _ D2.hs nps,K3 _ _ D2.ho npo,K3 _ _ D2.hb npb,D2.ne,D2.h1,D2.h2,D2.h3,D2.h4⟩
  walk_at "run"
  refine Js hx fun M4 K4=>?_
  walk_at "run"
  exact h M4 _ _ _ _ _ _ _ _ (D3.keep K4)
 ·walk_at "run"
  exact h M2 _ _ _ _ _ _ _ _ D2
theorem Jy(ns:List Int)(hl:ns.length<=63)(C:Nat):pW C [.scr ns] (fun _=>none) fun d _=>d=.bl true:=by
 refine bw rfl ?_
 unfold pV
 walk_at "env"
 walk_at "run"
 refine Ic (by omega) (by omega) fun S J1 J2 r c of d M1 hS f1 f2 f3 t1 t2 r1 r2 c1 c2 o1 o2 d1 d2 K1=>?_
 have s:Sale S J1 J2 r c of d:=⟨hS,f1,f2,f3,t1,t2,r1,r2,c1,c2,o1,o2,d1,d2⟩
 walk_at "run"
 rw[show D.tup [.int (S:Nat),DI J1,DII J2,.tup [.int r,.int c,.int of,.int d]]=bq S J1 J2 r c of d from rfl]
 refine w9 s fun st o b M2 _ _ _ D2 K2=>?_
 walk_at "run"
 refine⟨_,_,rfl,⟨by omega,by omega⟩,⟨by omega,by omega⟩,?_⟩
 refine mD (fun (k:Nat)=>.int (3+(k:Nat))) _ (fun k ρ M'=>∃ st o b J3 J4 done J8 J9 K0 b3 b4 b5 b6,ρ=[some (.scr ns),some (bq S J1 J2 r c of d),some (.ptr st),b3,b4,b5,b6]/\Duo C M' st o b S J1 J2 r c of d J3 J4 done J8 J9 K0) ⟨st,o,b,_,_,_,_,_,_,_,_,_,_,rfl,D2⟩ ?_ ?_
 ·rintro ρ M3 ⟨st,o,b,J3,J4,done,J8,J9,K0,b3,b4,b5,b6,rfl,D3⟩
  walk_at "run"
 ·rintro k hk ρ M3 ⟨st,o,b,J3,J4,done,J8,J9,K0,b3,b4,b5,b6,rfl,D3⟩ N hN
  rw[List.length_range] at hk
  rw[List.getElem_range]
  have hk':(3:Int)+(k:Nat)<=1000:=by omega
  walk_at "env"
  walk_at "run"
  refine pX (by omega) (by omega) fun p M4 hp P4 K4=>?_
  have D4:=D3.keep K4
  have s4:=D4.hs
  walk_at "run"
  have go:∀ {st o b J3 J4 n:Nat} {done:Bool} {J8:Int} {J9 K0:D} {M:Sto} {B T:am->Sto->Prop} {R:QE} {X:QX},Duo C M st o b S J1 J2 r c of d J3 J4 done J8 J9 K0->Pool M p n->n<=40000 ->
    qk C ⟨N,R,B,T,X⟩ [some (.scr ns),some (bq S J1 J2 r c of d),some (.ptr st),some (.int (3+(k:Nat))),some (.ptr p),b5,b6] M:=fun {st o b J3 J4 n done J8 J9 K0 M B T R X} D0 P0 hn =>
   Jx s (by omega) (by omega) D0 P0 hn fun M' J3 J4 done J8 J9 K0 b5 b6 D'=>hN _ _ ⟨st,o,b,J3,J4,done,J8,J9,K0,_,_,_,_,rfl,D'⟩
  have nps:st ≠ p:=fun e=>by obtain⟨_,_,_,z,_⟩:=P4;rw[e,z] at s4;cases s4
  have npo:o ≠ p:=fun e=>by obtain⟨_,_,_,z,_⟩:=P4;have:=D4.ho;rw[e,z] at this;cases this
  have npb:b ≠ p:=fun e=>by obtain⟨_,_,_,z,_⟩:=P4;have:=D4.hb;rw[e,z] at this;cases this
  cases done with
  | false =>
    refine⟨fun z=>(nomatch z),fun _=>?_⟩
    refine⟨fun z=>(nomatch z),fun _=>?_⟩
    exact go D4 P4 (by omega)
  | true =>
    refine⟨fun _=>?_,fun z=>(nomatch z)⟩
    walk_at "run"
    refine cb P4 (by omega) (by omega) (by omega) fun v M5 v1 v2 P5 K5=>?_
    have D5:Duo C M5 st o b S J1 J2 r c of d J3 J4 true J8 J9 K0:=⟨K5 _ _ D4.hs nps,K5 _ _ D4.ho npo,K5 _ _ D4.hb npb,D4.ne,D4.h1,D4.h2,D4.h3,D4.h4⟩
    walk_at "run"
    refine cq (fun e=>?_) fun e=>?_
    ·walk_at "run"
     refine w9 s fun st' o' b' M6 _ _ _ D6 K6=>?_
     exact go D6 (P5.keep K6 id) (by omega)
    ·exact go D5 P5 (by omega)
end My
end VL
namespace VL
namespace My
open PySem PySem.Spec PyProof.Rows L2
def top(i:Nat):Stmt:=PySem.Challenge.pw_latefare_k40_refused_in_order.main.body.getD i (.Pass ⟨0,0,0,0⟩)
section
variable {P:Program}{w:World}{K:W.Frag}{mg:Str->Option Value}{base:Heap}
abbrev gX:Stmt:=top 13
theorem wc:FnScope ["number","least","most"] ["number","least","most"] (ao gX):=⟨rfl,rfl,rfl,by decide +kernel,rfl,by decide +kernel,by decide +kernel⟩
theorem Jz{a:Addr}{fd:FuncData}(Fn:Fun K "is_within" "is_within" gX a fd)(D_:mg "bool" = none)(ke:mg "int" = none)(i_:mg "isinstance" = none):FnOk P w K mg base CX0 1 a fd ["number","least","most"] (spF K uW false):=by
 refine bR (np:=3) (n:=3) (body:=oT) [] [] rfl rfl rfl Fn wc (fun cdv A outer s H E F hn hr=>?_)
 have sc:=wc
 exact (bt (cm (O':=[]) (dN (t8 Bj (by decide +kernel) i_ ke (ad 0)) (dN (Cy (t8 Bk (by decide +kernel) i_ D_ (ad 0))) (dW (sY (ad 1) (ad 0) (ad 2)))))))
theorem JC{a:Addr}{fd:FuncData}(Fn:Fun K "is_within" "is_within" gX a fd)(m:mg "is_within" = some (.ref a))(D_:mg "bool" = none)(ke:mg "int" = none)(i_:mg "isinstance" = none):Def P w K mg base "is_within" 1 ["number","least","most"] cw false :=
 Def.sc ⟨a,fd,Jz Fn D_ ke i_,m,Fn.kp,Fn.binds fun _ _ _ _ _ _ us hl=>match us,hl with | [_,_,_],_=>rfl⟩
abbrev gY:Stmt:=top 14
theorem wd:FnScope ["base","times","product","step"] ["base","times"] (ao gY):=⟨rfl,rfl,rfl,by decide +kernel,rfl,by decide +kernel,by decide +kernel⟩
theorem JH{a:Addr}{fd:FuncData}(Fn:Fun K "power" "power" gY a fd)(e_:mg "range" = none):FnOk P w K mg base CX0 1 a fd ["base","times"] (spF K uX false):=by
 refine bR (np:=2) (n:=4) (body:=oU) [] [] rfl rfl rfl Fn wd (fun cdv A outer s H E F hn hr=>?_)
 have sc:=wd
 exact (ca (fu 2 sc.nd ai) (ca (t7 3 [] sc.nd rfl e_ (ah (ad 1) ar) (bt (fu 2 sc.nd (eh (ad 2) (ad 0))))) (bt (cm (O':=[]) (ad 2)))))
theorem JJ{a:Addr}{fd:FuncData}(Fn:Fun K "power" "power" gY a fd)(m:mg "power" = some (.ref a))(e_:mg "range" = none):Def P w K mg base "power" 1 ["base","times"] gc false :=
 Def.sc ⟨a,fd,JH Fn e_,m,Fn.kp,Fn.binds fun _ _ _ _ _ _ us hl=>match us,hl with | [_,_],_=>rfl⟩
abbrev gj:Stmt:=top 22
theorem we:FnScope ["fares"] ["fares"] (ao gj):=⟨rfl,rfl,rfl,by decide +kernel,rfl,by decide +kernel,by decide +kernel⟩
theorem JL{a:Addr}{fd:FuncData}(Fn:Fun K "are_fares" "are_fares" gj a fd)(j_:mg "all" = none)(d_:mg "len" = none){E_:Tok}(F_:mg "MOST_FARE" = some (.int 1000000 E_)){G_:Tok}(H_:mg "MOST_FARES" = some (.int 6 G_))(fx:Def P w K mg base "is_within" 1 ["number","least","most"] cw false):FnOk P w K mg base CX0 2 a fd ["fares"] (spF K uY false):=by
 refine bR (np:=1) (n:=1) (body:=oV) [] [] rfl rfl rfl Fn we (fun cdv A outer s H E F hn hr=>?_)
 have sc:=we
 exact (bt (cm (O':=[]) (dN (sY ai (bZ d_ (ah (ad 0) ar)) (g4 H_)) (dW (oh rfl j_ (ah (aA (d9 (own:=["fare"]) (J7:=[]) (cn:=[]) ⟨rfl,by decide +kernel,by decide +kernel,cD (ao gj) rfl (by decide +kernel),by first | rfl | decide +kernel,by decide +kernel,by decide +kernel⟩ rfl (eI (aC 0)) (fun _ _ _ _=>bN (i:=0) (show (["fare"]:List Str).Nodup from by decide +kernel) rfl (Or.inl rfl) (.inr rfl)) (dM 0) (by decide) (fun _ _ _ _=>cY) (fun _ _ _ _=>(bI fx hr (ah (ad 0) (ah ai (ah (g4 F_) ar))))))) ar))))))
theorem JM{a:Addr}{fd:FuncData}(Fn:Fun K "are_fares" "are_fares" gj a fd)(m:mg "are_fares" = some (.ref a))(j_:mg "all" = none)(d_:mg "len" = none){E_:Tok}(F_:mg "MOST_FARE" = some (.int 1000000 E_)){G_:Tok}(H_:mg "MOST_FARES" = some (.int 6 G_))(fx:Def P w K mg base "is_within" 1 ["number","least","most"] cw false):Def P w K mg base "are_fares" 2 ["fares"] ky false :=
 Def.sc ⟨a,fd,JL Fn j_ d_ F_ H_ fx,m,Fn.kp,Fn.binds fun _ _ _ _ _ _ us hl=>match us,hl with | [_],_=>rfl⟩
abbrev gZ:Stmt:=top 25
theorem wf:FnScope ["row"] ["row"] (ao gZ):=⟨rfl,rfl,rfl,by decide +kernel,rfl,by decide +kernel,by decide +kernel⟩
theorem JN{a:Addr}{fd:FuncData}(Fn:Fun K "total_of" "total_of" gZ a fd)(ix:mg "sum" = none):FnOk P w K mg base CX0 1 a fd ["row"] (spF K uZ false):=by
 refine bR (np:=1) (n:=1) (body:=oW) [] [] rfl rfl rfl Fn wf (fun cdv A outer s H E F hn hr=>?_)
 have sc:=wf
 exact (bt (cm (O':=[]) (oe rfl ix (ah (ad 0) ar))))
theorem JP{a:Addr}{fd:FuncData}(Fn:Fun K "total_of" "total_of" gZ a fd)(m:mg "total_of" = some (.ref a))(ix:mg "sum" = none):Def P w K mg base "total_of" 1 ["row"] gd false :=
 Def.sc ⟨a,fd,JN Fn ix,m,Fn.kp,Fn.binds fun _ _ _ _ _ _ us hl=>match us,hl with | [_],_=>rfl⟩
abbrev gk:Stmt:=top 24
theorem wg:FnScope ["row","classes"] ["row","classes"] (ao gk):=⟨rfl,rfl,rfl,by decide +kernel,rfl,by decide +kernel,by decide +kernel⟩
theorem JQ{a:Addr}{fd:FuncData}(Fn:Fun K "is_row" "is_row" gk a fd)(j_:mg "all" = none)(d_:mg "len" = none){I_:Tok}(J_:mg "MOST_WEIGHT" = some (.int 1000 I_))(fx:Def P w K mg base "is_within" 1 ["number","least","most"] cw false)(pq:Def P w K mg base "total_of" 1 ["row"] gd false):FnOk P w K mg base CX0 2 a fd ["row","classes"] (spF K v4 false):=by
 refine bR (np:=2) (n:=2) (body:=oX) [] [] rfl rfl rfl Fn wg (fun cdv A outer s H E F hn hr=>?_)
 have sc:=wg
 exact (ca (t5 (O':=[]) (lU hr (bZ d_ (ah (ad 0) ar)) (bB (ad 1) ai)) (bt (cm (O':=[]) eG)) t4) (bt (cm (O':=[]) (dN (oh rfl j_ (ah (aA (d9 (own:=["weight"]) (J7:=[]) (cn:=[]) ⟨rfl,by decide +kernel,by decide +kernel,cD (ao gk) rfl (by decide +kernel),by first | rfl | decide +kernel,by decide +kernel,by decide +kernel⟩ rfl (eI (aC 0)) (fun _ _ _ _=>bN (i:=0) (show (["weight"]:List Str).Nodup from by decide +kernel) rfl (Or.inl rfl) (.inr rfl)) (dM 0) (by decide) (fun _ _ _ _=>cY) (fun _ _ _ _=>(bI fx hr (ah (ad 0) (ah ai (ah (g4 J_) ar))))))) ar)) (dW (sW (bI pq hr (ah (ad 0) ar)) ai))))))
theorem JR{a:Addr}{fd:FuncData}(Fn:Fun K "is_row" "is_row" gk a fd)(m:mg "is_row" = some (.ref a))(j_:mg "all" = none)(d_:mg "len" = none){I_:Tok}(J_:mg "MOST_WEIGHT" = some (.int 1000 I_))(fx:Def P w K mg base "is_within" 1 ["number","least","most"] cw false)(pq:Def P w K mg base "total_of" 1 ["row"] gd false):Def P w K mg base "is_row" 2 ["row","classes"] kz false :=
 Def.sc ⟨a,fd,JQ Fn j_ d_ J_ fx pq,m,Fn.kp,Fn.binds fun _ _ _ _ _ _ us hl=>match us,hl with | [_,_],_=>rfl⟩
abbrev gm:Stmt:=top 23
theorem wj:FnScope ["turns","classes"] ["turns","classes"] (ao gm):=⟨rfl,rfl,rfl,by decide +kernel,rfl,by decide +kernel,by decide +kernel⟩
theorem JU{a:Addr}{fd:FuncData}(Fn:Fun K "are_turns" "are_turns" gm a fd)(j_:mg "all" = none)(d_:mg "len" = none){K_:Tok}(L_:mg "MOST_TURNS" = some (.int 8 K_))(Lr:Def P w K mg base "is_row" 2 ["row","classes"] kz false):FnOk P w K mg base CX0 3 a fd ["turns","classes"] (spF K v5 false):=by
 refine bR (np:=2) (n:=2) (body:=oY) [] [] rfl rfl rfl Fn wj (fun cdv A outer s H E F hn hr=>?_)
 have sc:=wj
 exact (bt (cm (O':=[]) (dN (Cs (bZ d_ (ah (ad 0) ar)) (g4 L_)) (dW (oh rfl j_ (ah (aA (d9 (own:=["row"]) (J7:=[1]) (cn:=["classes"]) ⟨rfl,by decide +kernel,by decide +kernel,cD (ao gm) rfl (by decide +kernel),by first | rfl | decide +kernel,by decide +kernel,by decide +kernel⟩ rfl (eI (aC 0)) (fun _ _ _ _=>bN (i:=0) (show (["row","classes"]:List Str).Nodup from by decide +kernel) rfl (Or.inl rfl) (.inr rfl)) (dM 0) (by decide) (fun _ _ _ _=>cY) (fun _ _ _ _=>(bI Lr hr (ah (ad 0) (ah (ad 1) ar)))))) ar))))))
theorem JV{a:Addr}{fd:FuncData}(Fn:Fun K "are_turns" "are_turns" gm a fd)(m:mg "are_turns" = some (.ref a))(j_:mg "all" = none)(d_:mg "len" = none){K_:Tok}(L_:mg "MOST_TURNS" = some (.int 8 K_))(Lr:Def P w K mg base "is_row" 2 ["row","classes"] kz false):Def P w K mg base "are_turns" 3 ["turns","classes"] kA false :=
 Def.sc ⟨a,fd,JU Fn j_ d_ L_ Lr,m,Fn.kp,Fn.binds fun _ _ _ _ _ _ us hl=>match us,hl with | [_,_],_=>rfl⟩
abbrev hG:Stmt:=top 21
theorem wk:FnScope ["seats","fares","turns"] ["seats","fares","turns"] (ao hG):=⟨rfl,rfl,rfl,by decide +kernel,rfl,by decide +kernel,by decide +kernel⟩
theorem JZ{a:Addr}{fd:FuncData}(Fn:Fun K "is_sale" "is_sale" hG a fd)(d_:mg "len" = none){Ls:Tok}(Lu:mg "MOST_SEATS" = some (.int 10 Ls))(fx:Def P w K mg base "is_within" 3 ["number","least","most"] cw false)(Lv:Def P w K mg base "are_fares" 3 ["fares"] ky false)(Lw:Def P w K mg base "are_turns" 3 ["turns","classes"] kA false):FnOk P w K mg base CX0 4 a fd ["seats","fares","turns"] (spF K v6 false):=by
 refine bR (np:=3) (n:=3) (body:=oZ) [] [] rfl rfl rfl Fn wk (fun cdv A outer s H E F hn hr=>?_)
 have sc:=wk
 exact (bt (cm (O':=[]) (dN (bI fx hr (ah (ad 0) (ah ai (ah (g4 Lu) ar)))) (dN (bI Lv hr (ah (ad 1) ar)) (dW (bI Lw hr (ah (ad 2) (ah (bZ d_ (ah (ad 1) ar)) ar))))))))
theorem Ka{a:Addr}{fd:FuncData}(Fn:Fun K "is_sale" "is_sale" hG a fd)(m:mg "is_sale" = some (.ref a))(d_:mg "len" = none){Ls:Tok}(Lu:mg "MOST_SEATS" = some (.int 10 Ls))(fx:Def P w K mg base "is_within" 3 ["number","least","most"] cw false)(Lv:Def P w K mg base "are_fares" 3 ["fares"] ky false)(Lw:Def P w K mg base "are_turns" 3 ["turns","classes"] kA false):Def P w K mg base "is_sale" 4 ["seats","fares","turns"] mE false :=
 Def.sc ⟨a,fd,JZ Fn d_ Lu fx Lv Lw,m,Fn.kp,Fn.binds fun _ _ _ _ _ _ us hl=>match us,hl with | [_,_,_],_=>rfl⟩
abbrev hJ:Stmt:=top 26
theorem wl:FnScope ["turns","last","scales","row"] ["turns","last"] (ao hJ):=⟨rfl,rfl,rfl,by decide +kernel,rfl,by decide +kernel,by decide +kernel⟩
theorem Kb{a:Addr}{fd:FuncData}(Fn:Fun K "scales_of" "scales_of" hJ a fd)(g_:mg "list" = none)(n_:mg "reversed" = none)(pq:Def P w K mg base "total_of" 1 ["row"] gd false):FnOk P w K mg base CX0 2 a fd ["turns","last"] (spF K v7 true):=by
 refine bR (np:=2) (n:=4) (body:=p5) [] [] rfl rfl rfl Fn wl (fun cdv A outer s H E F hn hr=>?_)
 have sc:=wl
 exact (ca (g6 2 sc.nd (bf (ah (ad 1) ar)) (by rw[hn];decide)) (ca (CD 3 [2] sc.nd rfl n_ (ad 0) (bt (t6 2 (eh (b0 (aC 2) (dh ai) (fun _ _=>rfl)) (bI pq hr (ah (ad 3) ar)))))) (bt (jU (O':=[]) (tm g_ n_ (aC 2))))))
theorem Kc{a:Addr}{fd:FuncData}(Fn:Fun K "scales_of" "scales_of" hJ a fd)(m:mg "scales_of" = some (.ref a))(g_:mg "list" = none)(n_:mg "reversed" = none)(pq:Def P w K mg base "total_of" 1 ["row"] gd false):Def P w K mg base "scales_of" 2 ["turns","last"] gQ true :=
 ⟨a,fd,Kb Fn g_ n_ pq,m,Fn.kp,Fn.binds fun _ _ _ _ _ _ us hl=>match us,hl with | [_,_],_=>rfl⟩
abbrev gn:Stmt:=top 31
theorem wm:FnScope ["row","classes","kept"] ["row","classes","kept"] (ao gn):=⟨rfl,rfl,rfl,by decide +kernel,rfl,by decide +kernel,by decide +kernel⟩
theorem Kd{a:Addr}{fd:FuncData}(Fn:Fun K "weighed" "weighed" gn a fd)(ix:mg "sum" = none)(px:mg "zip" = none):FnOk P w K mg base CX0 1 a fd ["row","classes","kept"] (spF K v8 false):=by
 refine bR (np:=3) (n:=3) (body:=p7) [] [] rfl rfl rfl Fn wm (fun cdv A outer s H E F hn hr=>?_)
 have sc:=wm
 exact (bt (cm (O':=[]) (oe rfl ix (ah (aA (d9 (own:=["weight","worth"]) (J7:=[]) (cn:=[]) ⟨rfl,by decide +kernel,by decide +kernel,cD (ao gn) rfl (by decide +kernel),by first | rfl | decide +kernel,by decide +kernel,by decide +kernel⟩ rfl (tj px (aC 0) (aW (aA (cA (aC 1) (aW (aA (bf (ah (ad 2) ar)))))))) (fun _ _ _ _=>kY rfl (Tgs.ok (is:=[0,1]) (show (["weight","worth"]:List Str).Nodup from by decide +kernel) (.cons (i:=0) rfl (Or.inl rfl) (.inr rfl) (.cons (i:=1) rfl (Or.inl rfl) (.inr rfl) Tgs.nil rfl) rfl))) (nU [0,1]) (by decide) (fun _ _ _ _=>cY) (fun _ _ _ _=>(eh (ad 0) (ad 1))))) ar))))
theorem Ke{a:Addr}{fd:FuncData}(Fn:Fun K "weighed" "weighed" gn a fd)(m:mg "weighed" = some (.ref a))(ix:mg "sum" = none)(px:mg "zip" = none):Def P w K mg base "weighed" 1 ["row","classes","kept"] kB false :=
 Def.sc ⟨a,fd,Kd Fn ix px,m,Fn.kp,Fn.binds fun _ _ _ _ _ _ us hl=>match us,hl with | [_,_,_],_=>rfl⟩
abbrev hU:Stmt:=top 33
theorem wn:FnScope ["fare","scale","behind","s"] ["fare","scale","behind","s"] (ao hU):=⟨rfl,rfl,rfl,by decide +kernel,rfl,by decide +kernel,by decide +kernel⟩
theorem Kf{a:Addr}{fd:FuncData}(Fn:Fun K "sold_worth" "sold_worth" hU a fd):FnOk P w K mg base CX0 1 a fd ["fare","scale","behind","s"] (spF K v9 false):=by
 refine bR (np:=4) (n:=4) (body:=p8) [] [] rfl rfl rfl Fn wn (fun cdv A outer s H E F hn hr=>?_)
 have sc:=wn
 exact (bt (cm (O':=[]) (bB (eh (ad 0) (ad 1)) (b0 (aC 2) (dg (ad 3) ai) (fun _ _=>rfl)))))
theorem Kg{a:Addr}{fd:FuncData}(Fn:Fun K "sold_worth" "sold_worth" hU a fd)(m:mg "sold_worth" = some (.ref a)):Def P w K mg base "sold_worth" 1 ["fare","scale","behind","s"] ge false :=
 Def.sc ⟨a,fd,Kf Fn , m,Fn.kp,Fn.binds fun _ _ _ _ _ _ us hl=>match us,hl with | [_,_,_,_],_=>rfl⟩
abbrev hV:Stmt:=top 32
theorem wo:FnScope ["fare","scale","behind","s"] ["fare","scale","behind","s"] (ao hV):=⟨rfl,rfl,rfl,by decide +kernel,rfl,by decide +kernel,by decide +kernel⟩
theorem Kh{a:Addr}{fd:FuncData}(Fn:Fun K "class_worth" "class_worth" hV a fd)(kx:mg "max" = none)(q_:Def P w K mg base "sold_worth" 1 ["fare","scale","behind","s"] ge false):FnOk P w K mg base CX0 2 a fd ["fare","scale","behind","s"] (spF K va false):=by
 refine bR (np:=4) (n:=4) (body:=p9) [] [] rfl rfl rfl Fn wo (fun cdv A outer s H E F hn hr=>?_)
 have sc:=wo
 exact (ca (t5 (O':=[]) (eo hr (ad 3) ai) (bt (cm (O':=[]) (b0 (aC 2) (ad 3) (fun _ _=>rfl)))) t4) (bt (cm (O':=[]) (t0 rfl kx (ah (b0 (aC 2) (ad 3) (fun _ _=>rfl)) (ah (bI q_ hr (ah (ad 0) (ah (ad 1) (ah (ad 2) (ah (ad 3) ar))))) ar))))))
theorem Ki{a:Addr}{fd:FuncData}(Fn:Fun K "class_worth" "class_worth" hV a fd)(m:mg "class_worth" = some (.ref a))(kx:mg "max" = none)(q_:Def P w K mg base "sold_worth" 1 ["fare","scale","behind","s"] ge false):Def P w K mg base "class_worth" 2 ["fare","scale","behind","s"] kC false :=
 Def.sc ⟨a,fd,Kh Fn kx q_,m,Fn.kp,Fn.binds fun _ _ _ _ _ _ us hl=>match us,hl with | [_,_,_,_],_=>rfl⟩
abbrev gp:Stmt:=top 30
theorem wp:FnScope ["fares","row","scale","behind","s"] ["fares","row","scale","behind","s"] (ao gp):=⟨rfl,rfl,rfl,by decide +kernel,rfl,by decide +kernel,by decide +kernel⟩
theorem Kj{a:Addr}{fd:FuncData}(Fn:Fun K "stand_worth" "stand_worth" gp a fd)(Lx:Def P w K mg base "weighed" 2 ["row","classes","kept"] kB false)(Ly:Def P w K mg base "class_worth" 2 ["fare","scale","behind","s"] kC false):FnOk P w K mg base CX0 3 a fd ["fares","row","scale","behind","s"] (spF K vc false):=by
 refine bR (np:=5) (n:=5) (body:=pb) [] [] rfl rfl rfl Fn wp (fun cdv A outer s H E F hn hr=>?_)
 have sc:=wp
 exact (bt (cm (O':=[]) (bI Lx hr (ah (ad 1) (ah (aA (d9 (own:=["fare"]) (J7:=[2,3,4]) (cn:=["scale","behind","s"]) ⟨rfl,by decide +kernel,by decide +kernel,cD (ao gp) rfl (by decide +kernel),by first | rfl | decide +kernel,by decide +kernel,by decide +kernel⟩ rfl (eI (aC 0)) (fun _ _ _ _=>bN (i:=0) (show (["fare","scale","behind","s"]:List Str).Nodup from by decide +kernel) rfl (Or.inl rfl) (.inr rfl)) (dM 0) (by decide) (fun _ _ _ _=>cY) (fun _ _ _ _=>(bI Ly hr (ah (ad 0) (ah (ad 1) (ah (ad 2) (ah (ad 3) ar)))))))) (ah (b0 (aC 3) (ad 4) (fun _ _=>rfl)) ar))))))
theorem Kk{a:Addr}{fd:FuncData}(Fn:Fun K "stand_worth" "stand_worth" gp a fd)(m:mg "stand_worth" = some (.ref a))(Lx:Def P w K mg base "weighed" 2 ["row","classes","kept"] kB false)(Ly:Def P w K mg base "class_worth" 2 ["fare","scale","behind","s"] kC false):Def P w K mg base "stand_worth" 3 ["fares","row","scale","behind","s"] kD false :=
 Def.sc ⟨a,fd,Kj Fn Lx Ly,m,Fn.kp,Fn.binds fun _ _ _ _ _ _ us hl=>match us,hl with | [_,_,_,_,_],_=>rfl⟩
abbrev gq:Stmt:=top 29
theorem wq:FnScope ["fares","row","scale","behind"] ["fares","row","scale","behind"] (ao gq):=⟨rfl,rfl,rfl,by decide +kernel,rfl,by decide +kernel,by decide +kernel⟩
theorem Kl{a:Addr}{fd:FuncData}(Fn:Fun K "row_worths" "row_worths" gq a fd)(d_:mg "len" = none)(e_:mg "range" = none)(Lz:Def P w K mg base "stand_worth" 3 ["fares","row","scale","behind","s"] kD false):FnOk P w K mg base CX0 4 a fd ["fares","row","scale","behind"] (spF K vd true):=by
 refine bR (np:=4) (n:=4) (body:=pj) [] [] rfl rfl rfl Fn wq (fun cdv A outer s H E F hn hr=>?_)
 have sc:=wq
 exact (bt (jU (O':=[]) (d9 (own:=["s"]) (J7:=[0,1,2,3]) (cn:=["fares","row","scale","behind"]) ⟨rfl,by decide +kernel,by decide +kernel,cD (ao gq) rfl (by decide +kernel),by first | rfl | decide +kernel,by decide +kernel,by decide +kernel⟩ rfl (og e_ (ah (bZ d_ (ah (ad 3) ar)) ar)) (fun _ _ _ _=>bN (i:=0) (show (["s","fares","row","scale","behind"]:List Str).Nodup from by decide +kernel) rfl (Or.inl rfl) (.inr rfl)) (dM 0) (by decide) (fun _ _ _ _=>cY) (fun _ _ _ _=>(bI Lz hr (ah (ad 1) (ah (ad 2) (ah (ad 3) (ah (ad 4) (ah (ad 0) ar))))))))))
theorem Km{a:Addr}{fd:FuncData}(Fn:Fun K "row_worths" "row_worths" gq a fd)(m:mg "row_worths" = some (.ref a))(d_:mg "len" = none)(e_:mg "range" = none)(Lz:Def P w K mg base "stand_worth" 3 ["fares","row","scale","behind","s"] kD false):Def P w K mg base "row_worths" 4 ["fares","row","scale","behind"] kE true :=
 ⟨a,fd,Kl Fn d_ e_ Lz,m,Fn.kp,Fn.binds fun _ _ _ _ _ _ us hl=>match us,hl with | [_,_,_,_],_=>rfl⟩
abbrev hW:Stmt:=top 28
theorem wu:FnScope ["fares","turns","last","ends","scales","table","t"] ["fares","turns","last","ends"] (ao hW):=⟨rfl,rfl,rfl,by decide +kernel,rfl,by decide +kernel,by decide +kernel⟩
theorem Kn{a:Addr}{fd:FuncData}(Fn:Fun K "worths_of" "worths_of" hW a fd)(d_:mg "len" = none)(g_:mg "list" = none)(e_:mg "range" = none)(n_:mg "reversed" = none)(tp:Def P w K mg base "scales_of" 4 ["turns","last"] gQ true)(LA:Def P w K mg base "row_worths" 4 ["fares","row","scale","behind"] kE true):FnOk P w K mg base CX0 5 a fd ["fares","turns","last","ends"] (spF K vf true):=by
 refine bR (np:=4) (n:=7) (body:=pk) [] [] rfl rfl rfl Fn wu (fun cdv A outer s H E F hn hr=>?_)
 have sc:=wu
 exact (ca (g6 4 sc.nd (gH tp hr (ah (ad 1) (ah (ad 2) ar))) (by rw[hn];decide)) (ca (g6 5 sc.nd (bf (ah (aA (g5 g_ (aC 3))) ar)) (by rw[hn];decide)) (ca (CF 6 [5,4] sc.nd rfl e_ (ah (dg (bZ d_ (ah (ad 1) ar)) ai) (ah (dh ai) (ah (dh ai) ar))) (bt (t6 5 (aA (gH LA hr (ah (ad 0) (ah (b0 (aC 1) (ad 6) (fun _ _=>rfl)) (ah (b0 (aC 4) (bB (ad 6) ai) (fun _ _=>rfl)) (ah (b0 (aC 5) (dh ai) (fun _ _=>rfl)) ar))))))))) (bt (jU (O':=[]) (tm g_ n_ (aC 5)))))))
theorem Ko{a:Addr}{fd:FuncData}(Fn:Fun K "worths_of" "worths_of" hW a fd)(m:mg "worths_of" = some (.ref a))(d_:mg "len" = none)(g_:mg "list" = none)(e_:mg "range" = none)(n_:mg "reversed" = none)(tp:Def P w K mg base "scales_of" 4 ["turns","last"] gQ true)(LA:Def P w K mg base "row_worths" 4 ["fares","row","scale","behind"] kE true):Def P w K mg base "worths_of" 5 ["fares","turns","last","ends"] mF true :=
 ⟨a,fd,Kn Fn d_ g_ e_ n_ tp LA,m,Fn.kp,Fn.binds fun _ _ _ _ _ _ us hl=>match us,hl with | [_,_,_,_],_=>rfl⟩
abbrev hZ:Stmt:=top 35
theorem wv:FnScope ["fare","scale","behind","s"] ["fare","scale","behind","s"] (ao hZ):=⟨rfl,rfl,rfl,by decide +kernel,rfl,by decide +kernel,by decide +kernel⟩
theorem Kq{a:Addr}{fd:FuncData}(Fn:Fun K "is_taken" "is_taken" hZ a fd)(q_:Def P w K mg base "sold_worth" 1 ["fare","scale","behind","s"] ge false):FnOk P w K mg base CX0 2 a fd ["fare","scale","behind","s"] (spF K vg false):=by
 refine bR (np:=4) (n:=4) (body:=pp) [] [] rfl rfl rfl Fn wv (fun cdv A outer s H E F hn hr=>?_)
 have sc:=wv
 exact (bt (cm (O':=[]) (dN (sW (ad 3) ai) (dW (sX (bI q_ hr (ah (ad 0) (ah (ad 1) (ah (ad 2) (ah (ad 3) ar))))) (b0 (aC 2) (ad 3) (fun _ _=>rfl)))))))
theorem Kr{a:Addr}{fd:FuncData}(Fn:Fun K "is_taken" "is_taken" hZ a fd)(m:mg "is_taken" = some (.ref a))(q_:Def P w K mg base "sold_worth" 1 ["fare","scale","behind","s"] ge false):Def P w K mg base "is_taken" 2 ["fare","scale","behind","s"] mG false :=
 Def.sc ⟨a,fd,Kq Fn q_,m,Fn.kp,Fn.binds fun _ _ _ _ _ _ us hl=>match us,hl with | [_,_,_,_],_=>rfl⟩
abbrev i3:Stmt:=top 36
theorem ww:FnScope ["scale","behind","s"] ["scale","behind","s"] (ao i3):=⟨rfl,rfl,rfl,by decide +kernel,rfl,by decide +kernel,by decide +kernel⟩
theorem Ks{a:Addr}{fd:FuncData}(Fn:Fun K "least_fare" "least_fare" i3 a fd):FnOk P w K mg base CX0 1 a fd ["scale","behind","s"] (spF K vh false):=by
 refine bR (np:=3) (n:=3) (body:=pv) [] [] rfl rfl rfl Fn ww (fun cdv A outer s H E F hn hr=>?_)
 have sc:=ww
 exact (bt (cm (O':=[]) (dh (o9 (dg (b0 (aC 1) (dg (ad 2) ai) (fun _ _=>rfl)) (b0 (aC 1) (ad 2) (fun _ _=>rfl))) (ad 0)))))
theorem Kt{a:Addr}{fd:FuncData}(Fn:Fun K "least_fare" "least_fare" i3 a fd)(m:mg "least_fare" = some (.ref a)):Def P w K mg base "least_fare" 1 ["scale","behind","s"] mH false :=
 Def.sc ⟨a,fd,Ks Fn , m,Fn.kp,Fn.binds fun _ _ _ _ _ _ us hl=>match us,hl with | [_,_,_],_=>rfl⟩
abbrev i4:Stmt:=top 41
theorem wx:FnScope ["rule","room","came","of","due","chances_hold"] ["rule"] (ao i4):=⟨rfl,rfl,rfl,by decide +kernel,rfl,by decide +kernel,by decide +kernel⟩
theorem Ku{a:Addr}{fd:FuncData}(Fn:Fun K "is_rule" "is_rule" i4 a fd){LB:Tok}(LC:mg "MOST_DUE" = some (.int 1000000 LB)){LD:Tok}(LE:mg "MOST_OF" = some (.int 1000 LD)){LF:Tok}(LG:mg "MOST_ROOM" = some (.int 10 LF))(fx:Def P w K mg base "is_within" 1 ["number","least","most"] cw false):FnOk P w K mg base CX0 2 a fd ["rule"] (spF K vi false):=by
 refine bR (np:=1) (n:=6) (body:=pw) [] [] rfl rfl rfl Fn wx (fun cdv A outer s H E F hn hr=>?_)
 have sc:=wx
 exact (ca (fu 1 sc.nd (b0 (aC 0) ai (fun _ _=>rfl))) (ca (fu 2 sc.nd (b0 (aC 0) ai (fun _ _=>rfl))) (ca (fu 3 sc.nd (b0 (aC 0) ai (fun _ _=>rfl))) (ca (fu 4 sc.nd (b0 (aC 0) ai (fun _ _=>rfl))) (ca (fu 5 sc.nd (dN (bI fx hr (ah (ad 3) (ah ai (ah (g4 LE) ar)))) (dW (bI fx hr (ah (ad 2) (ah ai (ah (ad 3) ar))))))) (bt (cm (O':=[]) (dN (bI fx hr (ah (ad 1) (ah ai (ah (g4 LG) ar)))) (dN (ad 5) (dW (bI fx hr (ah (ad 4) (ah ai (ah (g4 LC) ar))))))))))))))
theorem Kv{a:Addr}{fd:FuncData}(Fn:Fun K "is_rule" "is_rule" i4 a fd)(m:mg "is_rule" = some (.ref a)){LB:Tok}(LC:mg "MOST_DUE" = some (.int 1000000 LB)){LD:Tok}(LE:mg "MOST_OF" = some (.int 1000 LD)){LF:Tok}(LG:mg "MOST_ROOM" = some (.int 10 LF))(fx:Def P w K mg base "is_within" 1 ["number","least","most"] cw false):Def P w K mg base "is_rule" 2 ["rule"] mI false :=
 Def.sc ⟨a,fd,Ku Fn LC LE LG fx,m,Fn.kp,Fn.binds fun _ _ _ _ _ _ us hl=>match us,hl with | [_],_=>rfl⟩
abbrev eW:Stmt:=top 43
theorem wy:FnScope ["shows","came","stayed","without","along"] ["shows","came","stayed"] (ao eW):=⟨rfl,rfl,rfl,by decide +kernel,rfl,by decide +kernel,by decide +kernel⟩
theorem Kw{a:Addr}{fd:FuncData}(Fn:Fun K "with_one_more" "with_one_more" eW a fd)(px:mg "zip" = none):FnOk P w K mg base CX0 1 a fd ["shows","came","stayed"] (spF K vj true):=by
 refine bR (np:=3) (n:=5) (body:=py) [] [] rfl rfl rfl Fn wy (fun cdv A outer s H E F hn hr=>?_)
 have sc:=wy
 exact (ca (g6 3 sc.nd (cA (aW (aA (d9 (own:=["weight"]) (J7:=[2]) (cn:=["stayed"]) ⟨rfl,by decide +kernel,by decide +kernel,cD (ao eW) rfl (by decide +kernel),by first | rfl | decide +kernel,by decide +kernel,by decide +kernel⟩ rfl (eI (aC 0)) (fun _ _ _ _=>bN (i:=0) (show (["weight","stayed"]:List Str).Nodup from by decide +kernel) rfl (Or.inl rfl) (.inr rfl)) (dM 0) (by decide) (fun _ _ _ _=>cY) (fun _ _ _ _=>(eh (ad 0) (ad 1)))))) (aW (aA (bf (ah ai ar))))) (by rw[hn];decide)) (ca (g6 4 sc.nd (cA (aW (aA (bf (ah ai ar)))) (aW (aA (d9 (own:=["weight"]) (J7:=[1]) (cn:=["came"]) ⟨rfl,by decide +kernel,by decide +kernel,cD (ao eW) rfl (by decide +kernel),by first | rfl | decide +kernel,by decide +kernel,by decide +kernel⟩ rfl (eI (aC 0)) (fun _ _ _ _=>bN (i:=0) (show (["weight","came"]:List Str).Nodup from by decide +kernel) rfl (Or.inl rfl) (.inr rfl)) (dM 0) (by decide) (fun _ _ _ _=>cY) (fun _ _ _ _=>(eh (ad 0) (ad 1))))))) (by rw[hn];decide)) (bt (jU (O':=[]) (d9 (own:=["one","other"]) (J7:=[]) (cn:=[]) ⟨rfl,by decide +kernel,by decide +kernel,cD (ao eW) rfl (by decide +kernel),by first | rfl | decide +kernel,by decide +kernel,by decide +kernel⟩ rfl (tj px (aC 3) (aC 4)) (fun _ _ _ _=>kY rfl (Tgs.ok (is:=[0,1]) (show (["one","other"]:List Str).Nodup from by decide +kernel) (.cons (i:=0) rfl (Or.inl rfl) (.inr rfl) (.cons (i:=1) rfl (Or.inl rfl) (.inr rfl) Tgs.nil rfl) rfl))) (nU [0,1]) (by decide) (fun _ _ _ _=>cY) (fun _ _ _ _=>(bB (ad 0) (ad 1))))))))
theorem Kx{a:Addr}{fd:FuncData}(Fn:Fun K "with_one_more" "with_one_more" eW a fd)(m:mg "with_one_more" = some (.ref a))(px:mg "zip" = none):Def P w K mg base "with_one_more" 1 ["shows","came","stayed"] kF true :=
 ⟨a,fd,Kw Fn px,m,Fn.kp,Fn.binds fun _ _ _ _ _ _ us hl=>match us,hl with | [_,_,_],_=>rfl⟩
abbrev i5:Stmt:=top 42
theorem wz:FnScope ["sold","came","of","shows","seat"] ["sold","came","of"] (ao i5):=⟨rfl,rfl,rfl,by decide +kernel,rfl,by decide +kernel,by decide +kernel⟩
theorem Ky{a:Addr}{fd:FuncData}(Fn:Fun K "shows_of" "shows_of" i5 a fd)(e_:mg "range" = none)(LH:Def P w K mg base "with_one_more" 1 ["shows","came","stayed"] kF true):FnOk P w K mg base CX0 2 a fd ["sold","came","of"] (spF K vk true):=by
 refine bR (np:=3) (n:=5) (body:=pz) [] [] rfl rfl rfl Fn wz (fun cdv A outer s H E F hn hr=>?_)
 have sc:=wz
 exact (ca (g6 3 sc.nd (bf (ah ai ar)) (by rw[hn];decide)) (ca (t7 4 [3] sc.nd rfl e_ (ah (ad 0) ar) (bt (g6 3 sc.nd (gH LH hr (ah (ad 3) (ah (ad 1) (ah (dg (ad 2) (ad 1)) ar)))) (by rw[hn];decide)))) (bt (Cz (O':=[]) 3))))
theorem Kz{a:Addr}{fd:FuncData}(Fn:Fun K "shows_of" "shows_of" i5 a fd)(m:mg "shows_of" = some (.ref a))(e_:mg "range" = none)(LH:Def P w K mg base "with_one_more" 1 ["shows","came","stayed"] kF true):Def P w K mg base "shows_of" 2 ["sold","came","of"] kG true :=
 ⟨a,fd,Ky Fn e_ LH,m,Fn.kp,Fn.binds fun _ _ _ _ _ _ us hl=>match us,hl with | [_,_,_],_=>rfl⟩
abbrev gr:Stmt:=top 46
theorem wA:FnScope ["sold","rule","room","shows"] ["sold","rule"] (ao gr):=⟨rfl,rfl,rfl,by decide +kernel,rfl,by decide +kernel,by decide +kernel⟩
theorem KA{a:Addr}{fd:FuncData}(Fn:Fun K "beyond_room" "beyond_room" gr a fd)(LJ:mg "enumerate" = none)(kx:mg "max" = none)(ix:mg "sum" = none)(LK:Def P w K mg base "shows_of" 2 ["sold","came","of"] kG true):FnOk P w K mg base CX0 3 a fd ["sold","rule"] (spF K vm false):=by
 refine bR (np:=2) (n:=4) (body:=pA) [] [] rfl rfl rfl Fn wA (fun cdv A outer s H E F hn hr=>?_)
 have sc:=wA
 exact (ca (fu 2 sc.nd (b0 (aC 1) ai (fun _ _=>rfl))) (ca (g6 3 sc.nd (gH LK hr (ah (ad 0) (ah (b0 (aC 1) ai (fun _ _=>rfl)) (ah (b0 (aC 1) ai (fun _ _=>rfl)) ar)))) (by rw[hn];decide)) (bt (cm (O':=[]) (oe rfl ix (ah (aA (d9 (own:=["many","weight"]) (J7:=[2]) (cn:=["room"]) ⟨rfl,by decide +kernel,by decide +kernel,cD (ao gr) rfl (by decide +kernel),by first | rfl | decide +kernel,by decide +kernel,by decide +kernel⟩ rfl (CC LJ (aC 3)) (fun _ _ _ _=>kY rfl (Tgs.ok (is:=[0,1]) (show (["many","weight","room"]:List Str).Nodup from by decide +kernel) (.cons (i:=0) rfl (Or.inl rfl) (.inr rfl) (.cons (i:=1) rfl (Or.inl rfl) (.inr rfl) Tgs.nil rfl) rfl))) (nU [0,1]) (by decide) (fun _ _ _ _=>cY) (fun _ _ _ _=>(eh (ad 1) (t0 rfl kx (ah (dg (ad 0) (ad 2)) (ah ai ar))))))) ar))))))
theorem KC{a:Addr}{fd:FuncData}(Fn:Fun K "beyond_room" "beyond_room" gr a fd)(m:mg "beyond_room" = some (.ref a))(LJ:mg "enumerate" = none)(kx:mg "max" = none)(ix:mg "sum" = none)(LK:Def P w K mg base "shows_of" 2 ["sold","came","of"] kG true):Def P w K mg base "beyond_room" 3 ["sold","rule"] kH false :=
 Def.sc ⟨a,fd,KA Fn LJ kx ix LK,m,Fn.kp,Fn.binds fun _ _ _ _ _ _ us hl=>match us,hl with | [_,_],_=>rfl⟩
abbrev i6:Stmt:=top 45
theorem wB:FnScope ["sold","left","rule","due"] ["sold","left","rule"] (ao i6):=⟨rfl,rfl,rfl,by decide +kernel,rfl,by decide +kernel,by decide +kernel⟩
theorem KD{a:Addr}{fd:FuncData}(Fn:Fun K "end_of" "end_of" i6 a fd)(r_:Def P w K mg base "power" 3 ["base","times"] gc false)(LL:Def P w K mg base "beyond_room" 3 ["sold","rule"] kH false):FnOk P w K mg base CX0 4 a fd ["sold","left","rule"] (spF K vn false):=by
 refine bR (np:=3) (n:=4) (body:=pB) [] [] rfl rfl rfl Fn wB (fun cdv A outer s H E F hn hr=>?_)
 have sc:=wB
 exact (ca (fu 3 sc.nd (b0 (aC 2) ai (fun _ _=>rfl))) (bt (cm (O':=[]) (eh (eh (dh (ad 3)) (bI LL hr (ah (ad 0) (ah (ad 2) ar)))) (bI r_ hr (ah (b0 (aC 2) ai (fun _ _=>rfl)) (ah (ad 1) ar)))))))
theorem KE{a:Addr}{fd:FuncData}(Fn:Fun K "end_of" "end_of" i6 a fd)(m:mg "end_of" = some (.ref a))(r_:Def P w K mg base "power" 3 ["base","times"] gc false)(LL:Def P w K mg base "beyond_room" 3 ["sold","rule"] kH false):Def P w K mg base "end_of" 4 ["sold","left","rule"] kI false :=
 Def.sc ⟨a,fd,KD Fn r_ LL,m,Fn.kp,Fn.binds fun _ _ _ _ _ _ us hl=>match us,hl with | [_,_,_],_=>rfl⟩
abbrev gs:Stmt:=top 44
theorem wC:FnScope ["seats","rule"] ["seats","rule"] (ao gs):=⟨rfl,rfl,rfl,by decide +kernel,rfl,by decide +kernel,by decide +kernel⟩
theorem KF{a:Addr}{fd:FuncData}(Fn:Fun K "ends_of" "ends_of" gs a fd)(e_:mg "range" = none)(LM:Def P w K mg base "end_of" 4 ["sold","left","rule"] kI false):FnOk P w K mg base CX0 5 a fd ["seats","rule"] (spF K vo true):=by
 refine bR (np:=2) (n:=2) (body:=pC) [] [] rfl rfl rfl Fn wC (fun cdv A outer s H E F hn hr=>?_)
 have sc:=wC
 exact (bt (jU (O':=[]) (d9 (own:=["left"]) (J7:=[0,1]) (cn:=["seats","rule"]) ⟨rfl,by decide +kernel,by decide +kernel,cD (ao gs) rfl (by decide +kernel),by first | rfl | decide +kernel,by decide +kernel,by decide +kernel⟩ rfl (og e_ (ah (bB (ad 0) ai) ar)) (fun _ _ _ _=>bN (i:=0) (show (["left","seats","rule"]:List Str).Nodup from by decide +kernel) rfl (Or.inl rfl) (.inr rfl)) (dM 0) (by decide) (fun _ _ _ _=>cY) (fun _ _ _ _=>(bI LM hr (ah (dg (ad 1) (ad 0)) (ah (ad 0) (ah (ad 2) ar))))))))
theorem KG{a:Addr}{fd:FuncData}(Fn:Fun K "ends_of" "ends_of" gs a fd)(m:mg "ends_of" = some (.ref a))(e_:mg "range" = none)(LM:Def P w K mg base "end_of" 4 ["sold","left","rule"] kI false):Def P w K mg base "ends_of" 5 ["seats","rule"] mJ true :=
 ⟨a,fd,KF Fn e_ LM,m,Fn.kp,Fn.binds fun _ _ _ _ _ _ us hl=>match us,hl with | [_,_],_=>rfl⟩
abbrev i7:Stmt:=top 47
theorem wD:FnScope ["seats","rule"] ["seats","rule"] (ao i7):=⟨rfl,rfl,rfl,by decide +kernel,rfl,by decide +kernel,by decide +kernel⟩
theorem KH{a:Addr}{fd:FuncData}(Fn:Fun K "last_scale" "last_scale" i7 a fd)(r_:Def P w K mg base "power" 1 ["base","times"] gc false):FnOk P w K mg base CX0 2 a fd ["seats","rule"] (spF K vp false):=by
 refine bR (np:=2) (n:=2) (body:=pD) [] [] rfl rfl rfl Fn wD (fun cdv A outer s H E F hn hr=>?_)
 have sc:=wD
 exact (bt (cm (O':=[]) (bI r_ hr (ah (b0 (aC 1) ai (fun _ _=>rfl)) (ah (ad 0) ar)))))
theorem KI{a:Addr}{fd:FuncData}(Fn:Fun K "last_scale" "last_scale" i7 a fd)(m:mg "last_scale" = some (.ref a))(r_:Def P w K mg base "power" 1 ["base","times"] gc false):Def P w K mg base "last_scale" 2 ["seats","rule"] mK false :=
 Def.sc ⟨a,fd,KH Fn r_,m,Fn.kp,Fn.binds fun _ _ _ _ _ _ us hl=>match us,hl with | [_,_],_=>rfl⟩
abbrev i8:Stmt:=top 51
theorem wE:FnScope ["script","k","cell"] ["script","k"] (ao i8):=⟨rfl,rfl,rfl,by decide +kernel,rfl,by decide +kernel,by decide +kernel⟩
theorem KJ{a:Addr}{fd:FuncData}(Fn:Fun K "_law_nth" "_law_nth" i8 a fd):FnOk P w K mg base CX0 1 a fd ["script","k"] (spF K vq false):=by
 refine bR (np:=2) (n:=3) (body:=pE) [] [] rfl rfl rfl Fn wE (fun cdv A outer s H E F hn hr=>?_)
 have sc:=wE
 exact (ca (CA 2 [] sc.nd rfl (aA (cJ (aC 0) (cE (ad 1)) (cE (bB (ad 1) ai)))) (bt (cm (O':=[]) (ad 2)))) (bt (cm (O':=[]) ai)))
theorem KM{a:Addr}{fd:FuncData}(Fn:Fun K "_law_nth" "_law_nth" i8 a fd)(m:mg "_law_nth" = some (.ref a)):Def P w K mg base "_law_nth" 1 ["script","k"] kJ false :=
 Def.sc ⟨a,fd,KJ Fn , m,Fn.kp,Fn.binds fun _ _ _ _ _ _ us hl=>match us,hl with | [_,_],_=>rfl⟩
abbrev i9:Stmt:=dY (top 49) 10
theorem wF:FnScope ["self"] ["self"] (ao i9):=⟨rfl,rfl,rfl,by decide +kernel,rfl,by decide +kernel,by decide +kernel⟩
theorem KN{a_:Addr}{a:Addr}{fd:FuncData}(Fn:Fun K "paper" "Office.paper" i9 a fd)(xt:bT K=true)(c_:Cls K a_)(s_:NoAttr K a_ "latest"):FnOk P w K mg base (CXN P w) 1 a fd ["self"] (spE K (gR a_)):=by
 refine jb (np:=1) (n:=1) (body:=mL a_) rfl rfl rfl Fn wF (fun cdv A outer s H E PP EX hr ho=>?_)
 have sc:=wF
 exact (bF (eQ (uA (bE (i:=9) (ns:=b_) c_ s_ (ae (ad 0)))) (dc (gb xt ho)) eP) (dc (cu (aY (bE (i:=9) (ns:=b_) c_ s_ (ae (ad 0)))))))
abbrev ia:Stmt:=dY (top 49) 6
theorem wG:FnScope ["self"] ["self"] (ao ia):=⟨rfl,rfl,rfl,by decide +kernel,rfl,by decide +kernel,by decide +kernel⟩
theorem KP{a_:Addr}{a:Addr}{fd:FuncData}(Fn:Fun K "is_over" "Office.is_over" ia a fd)(d_:mg "len" = none)(c_:Cls K a_)(m_:NoAttr K a_ "scales")(h_:NoAttr K a_ "told"):FnOk P w K mg base CX0 1 a fd ["self"] (spN K (gS a_)):=by
 refine cv (np:=1) (n:=1) (body:=pF a_) rfl rfl rfl Fn wG (fun cdv A outer s H E hr=>?_)
 have sc:=wG
 exact (aQ (aY (kr hr (bE (i:=5) (ns:=b_) c_ h_ (ae (ad 0))) (j7 (uK d_ (ak (bE (i:=3) (ns:=b_) c_ m_ (ae (ad 0))) aD)) (ae ai)))))
abbrev ib:Stmt:=dY (top 49) 7
theorem wH:FnScope ["self","asker"] ["self","asker"] (ao ib):=⟨rfl,rfl,rfl,by decide +kernel,rfl,by decide +kernel,by decide +kernel⟩
theorem KQ{a_:Addr}{a:Addr}{fd:FuncData}(Fn:Fun K "fare_of" "Office.fare_of" ib a fd)(d_:mg "len" = none)(xt:bT K=true)(c_:Cls K a_)(u_:NoAttr K a_ "fares")(fx:Def P w K mg base "is_within" 1 ["number","least","most"] cw false):FnOk P w K mg base (CXN P w) 2 a fd ["self","asker"] (spE K (gT a_)):=by
 refine jb (np:=2) (n:=2) (body:=kK a_) rfl rfl rfl Fn wH (fun cdv A outer s H E PP EX hr ho=>?_)
 have sc:=wH
 exact (bF (cu (bW (cr (t9 (ad 1))) (aQ (aY (ae ft))) bV)) (bF (eQ (j8 (fy (mC fx hr (ak (ae (ad 1)) (ak (ae ai) (ak (j7 (uK d_ (ak (bE (i:=1) (ns:=b_) c_ u_ (ae (ad 0))) aD)) (ae ai)) aD)))))) (dc (gb xt ho)) eP) (dc (cu (aY (dD (bE (i:=1) (ns:=b_) c_ u_ (ae (ad 0))) (ae (ad 1)) (fun _ _=>rfl)))))))
abbrev ic:Stmt:=dY (top 49) 2
theorem wI:FnScope ["self"] ["self"] (ao ic):=⟨rfl,rfl,rfl,by decide +kernel,rfl,by decide +kernel,by decide +kernel⟩
theorem KR{a_:Addr}{a:Addr}{fd:FuncData}(Fn:Fun K "left" "Office.left" ic a fd)(c_:Cls K a_)(y_:NoAttr K a_ "seats")(l_:NoAttr K a_ "sold"):FnOk P w K mg base CX0 1 a fd ["self"] (spN K (dm a_)):=by
 refine cv (np:=1) (n:=1) (body:=pG a_) rfl rfl rfl Fn wI (fun cdv A outer s H E hr=>?_)
 have sc:=wI
 exact (aQ (aY (j7 (bE (i:=0) (ns:=b_) c_ y_ (ae (ad 0))) (bE (i:=6) (ns:=b_) c_ l_ (ae (ad 0))))))
abbrev ie:Stmt:=dY (top 49) 8
theorem wJ:FnScope ["self","fare","behind"] ["self","fare"] (ao ie):=⟨rfl,rfl,rfl,by decide +kernel,rfl,by decide +kernel,by decide +kernel⟩
theorem KU{a_:Addr}{a:Addr}{fd:FuncData}(Fn:Fun K "takes" "Office.takes" ie a fd)(c_:Cls K a_)(m_:NoAttr K a_ "scales")(t_:NoAttr K a_ "table")(h_:NoAttr K a_ "told")(LX:Def P w K mg base "is_taken" 2 ["fare","scale","behind","s"] mG false)(k_:MetN P w K mg base a_ "left" 2 ["self"] (dm a_)):FnOk P w K mg base CX0 3 a fd ["self","fare"] (spN K (jc a_)):=by
 refine cv (np:=2) (n:=3) (body:=mM a_) rfl rfl rfl Fn wJ (fun cdv A outer s H E hr=>?_)
 have sc:=wJ
 exact (aB (aR 2 sc.nd (dQ (bE (i:=5) (ns:=b_) c_ h_ (ae (ad 0))) (ae ai))) (aQ (aY (uD (ae (tf (ad 1))) (oO (mC LX hr (ak (ae (ad 1)) (ak (dD (bE (i:=3) (ns:=b_) c_ m_ (ae (ad 0))) (ae (ad 2)) (fun _ _=>rfl)) (ak (dD (bE (i:=4) (ns:=b_) c_ t_ (ae (ad 0))) (ae (ad 2)) (fun _ _=>rfl)) (ak (cV (ns:=b_) c_ k_ hr (ae (ad 0))) aD))))))))))
abbrev ig:Stmt:=dY (top 49) 9
theorem wK:FnScope ["self","behind"] ["self"] (ao ig):=⟨rfl,rfl,rfl,by decide +kernel,rfl,by decide +kernel,by decide +kernel⟩
theorem KW{a_:Addr}{a:Addr}{fd:FuncData}(Fn:Fun K "least" "Office.least" ig a fd)(c_:Cls K a_)(m_:NoAttr K a_ "scales")(t_:NoAttr K a_ "table")(h_:NoAttr K a_ "told")(LZ:Def P w K mg base "least_fare" 1 ["scale","behind","s"] mH false)(k_:MetN P w K mg base a_ "left" 1 ["self"] (dm a_)):FnOk P w K mg base CX0 2 a fd ["self"] (spN K (kL a_)):=by
 refine cv (np:=1) (n:=2) (body:=pH a_) rfl rfl rfl Fn wK (fun cdv A outer s H E hr=>?_)
 have sc:=wK
 exact (aB (bW (oM hr (cV (ns:=b_) c_ k_ hr (ae (ad 0))) (ae ai)) (aQ (aY (ae ft))) bV) (aB (aR 1 sc.nd (dQ (bE (i:=5) (ns:=b_) c_ h_ (ae (ad 0))) (ae ai))) (aQ (aY (mC LZ hr (ak (dD (bE (i:=3) (ns:=b_) c_ m_ (ae (ad 0))) (ae (ad 1)) (fun _ _=>rfl)) (ak (dD (bE (i:=4) (ns:=b_) c_ t_ (ae (ad 0))) (ae (ad 1)) (fun _ _=>rfl)) (ak (cV (ns:=b_) c_ k_ hr (ae (ad 0))) aD))))))))
abbrev ii:Stmt:=dY (top 49) 5
theorem wL:FnScope ["self","asker","fare","taken"] ["self","asker"] (ao ii):=⟨rfl,rfl,rfl,by decide +kernel,rfl,by decide +kernel,by decide +kernel⟩
theorem KY{a_:Addr}{a:Addr}{fd:FuncData}(Fn:Fun K "asked" "Office.asked" ii a fd)(xt:bT K=true)(c_:Cls K a_)(s_:NoAttr K a_ "latest")(o_:NoAttr K a_ "paid")(l_:NoAttr K a_ "sold")(h_:NoAttr K a_ "told")(z_:MetN P w K mg base a_ "is_over" 3 ["self"] (gS a_))(LO:MetE P w K mg base a_ "fare_of" 3 ["self","asker"] (gT a_))(M_:MetN P w K mg base a_ "takes" 3 ["self","fare"] (jc a_))(k_:MetN P w K mg base a_ "left" 3 ["self"] (dm a_))(Ma:MetN P w K mg base a_ "least" 3 ["self"] (kL a_)):FnOk P w K mg base (CXN P w) 4 a fd ["self","asker"] (spE K (fA a_)):=by
 refine jb (np:=2) (n:=4) (body:=jd a_) rfl rfl rfl Fn wL (fun cdv A outer s H E PP EX hr ho=>?_)
 have sc:=wL
 exact (bF (eQ (fy (cV (ns:=b_) c_ z_ hr (ae (ad 0)))) (dc (gb xt ho)) eP) (bF (GL 2 ho sc.nd (oQ (ns:=b_) c_ LO hr (ae (ad 0)) (ak (ae (ad 1)) aD))) (bF (cu (aR 3 sc.nd (Gz (ns:=b_) c_ M_ hr (ae (ad 0)) (ak (ae (ad 2)) aD)))) (bF (cu (ku (i:=9) (ns:=b_) c_ s_ (ae (ad 0)) (kt (ak (bE (i:=5) (ns:=b_) c_ h_ (ae (ad 0))) (ak (cV (ns:=b_) c_ k_ hr (ae (ad 0))) (ak (cV (ns:=b_) c_ Ma hr (ae (ad 0))) (ak (ae (ad 2)) aD))))))) (bF (cu (ku (i:=5) (ns:=b_) c_ h_ (ae (ad 0)) (dQ (bE (i:=5) (ns:=b_) c_ h_ (ae (ad 0))) (ae ai)))) (bF (cu (bW (cr (jT (ad 3))) (aB (ku (i:=6) (ns:=b_) c_ l_ (ae (ad 0)) (dQ (bE (i:=6) (ns:=b_) c_ l_ (ae (ad 0))) (ae ai))) (aQ (ku (i:=7) (ns:=b_) c_ o_ (ae (ad 0)) (dQ (bE (i:=7) (ns:=b_) c_ o_ (ae (ad 0))) (ae (ad 2)))))) bV)) (dc (cu (aY (ae (ad 3)))))))))))
abbrev ij:Stmt:=dY (top 49) 3
theorem wM:FnScope ["self"] ["self"] (ao ij):=⟨rfl,rfl,rfl,by decide +kernel,rfl,by decide +kernel,by decide +kernel⟩
theorem KZ{a_:Addr}{a:Addr}{fd:FuncData}(Fn:Fun K "coins" "Office.coins" ij a fd)(c_:Cls K a_)(p_:NoAttr K a_ "dues")(o_:NoAttr K a_ "paid"):FnOk P w K mg base CX0 1 a fd ["self"] (spN K (dX a_)):=by
 refine cv (np:=1) (n:=1) (body:=mO a_) rfl rfl rfl Fn wM (fun cdv A outer s H E hr=>?_)
 have sc:=wM
 exact (aQ (aY (Gx (uA (bE (i:=8) (ns:=b_) c_ p_ (ae (ad 0)))) (bE (i:=7) (ns:=b_) c_ o_ (ae (ad 0))) (j7 (bE (i:=7) (ns:=b_) c_ o_ (ae (ad 0))) (bE (i:=8) (ns:=b_) c_ p_ (ae (ad 0)))))))
abbrev ik:Stmt:=dY (top 49) 11
theorem wN:FnScope ["self","number"] ["self","number"] (ao ik):=⟨rfl,rfl,rfl,by decide +kernel,rfl,by decide +kernel,by decide +kernel⟩
theorem L5{a_:Addr}{a:Addr}{fd:FuncData}(Fn:Fun K "came" "Office.came" ik a fd)(kx:mg "max" = none)(xt:bT K=true)(c_:Cls K a_)(p_:NoAttr K a_ "dues")(v_:NoAttr K a_ "rule")(l_:NoAttr K a_ "sold")(fx:Def P w K mg base "is_within" 1 ["number","least","most"] cw false)(tx:MetN P w K mg base a_ "coins" 1 ["self"] (dX a_))(z_:MetN P w K mg base a_ "is_over" 1 ["self"] (gS a_)):FnOk P w K mg base (CXN P w) 2 a fd ["self","number"] (spE K (fB a_)):=by
 refine jb (np:=2) (n:=2) (body:=je a_) rfl rfl rfl Fn wN (fun cdv A outer s H E PP EX hr ho=>?_)
 have sc:=wN
 exact (bF (eQ (j8 (fy (cV (ns:=b_) c_ z_ hr (ae (ad 0))))) (dc (gb xt ho)) eP) (bF (eQ (Gu (bE (i:=8) (ns:=b_) c_ p_ (ae (ad 0)))) (dc (gb xt ho)) eP) (bF (eQ (j8 (fy (mC fx hr (ak (ae (ad 1)) (ak (ae ai) (ak (bE (i:=6) (ns:=b_) c_ l_ (ae (ad 0))) aD)))))) (dc (gb xt ho)) eP) (bF (cu (ku (i:=8) (ns:=b_) c_ p_ (ae (ad 0)) (uz (dD (bE (i:=2) (ns:=b_) c_ v_ (ae (ad 0))) (ae ai) (fun _ _=>rfl)) (GF rfl kx (ak (j7 (ae (ad 1)) (dD (bE (i:=2) (ns:=b_) c_ v_ (ae (ad 0))) (ae ai) (fun _ _=>rfl))) (ak (ae ai) aD)))))) (dc (cu (aY (cV (ns:=b_) c_ tx hr (ae (ad 0))))))))))
abbrev il:Stmt:=top 59
theorem wO:FnScope ["office","word","thing"] ["office","word","thing"] (ao il):=⟨rfl,rfl,rfl,by decide +kernel,rfl,by decide +kernel,by decide +kernel⟩
theorem L9{a_:Addr}{a:Addr}{fd:FuncData}(Fn:Fun K "_law_call" "_law_call" il a fd)(c_:Cls K a_)(LP:MetE P w K mg base a_ "paper" 4 ["self"] (gR a_))(LQ:MetE P w K mg base a_ "asked" 4 ["self","asker"] (fA a_))(LR:MetE P w K mg base a_ "came" 4 ["self","number"] (fB a_)):FnOk P w K mg base (CXN P w) 5 a fd ["office","word","thing"] (spE K (eE a_)):=by
 refine jb (np:=3) (n:=3) (body:=kM a_) rfl rfl rfl Fn wO (fun cdv A outer s H E PP EX hr ho=>?_)
 have sc:=wO
 exact (bF (eQ (cr (eo hr (ad 1) bA)) (dc (oR ho (oQ (ns:=b_) c_ LQ hr (ae (ad 0)) (ak (ae (ad 2)) aD)))) eP) (bF (eQ (cr (eo hr (ad 1) bA)) (dc (oR ho (oQ (ns:=b_) c_ LR hr (ae (ad 0)) (ak (ae (ad 2)) aD)))) eP) (dc (oR ho (GJ (ns:=b_) c_ LP hr (ae (ad 0)))))))
abbrev im:Stmt:=top 53
theorem wP:FnScope ["pool","many","rest"] ["pool","many"] (ao im):=⟨rfl,rfl,rfl,by decide +kernel,rfl,by decide +kernel,by decide +kernel⟩
theorem La{a_:Addr}{a:Addr}{fd:FuncData}(Fn:Fun K "_law_take" "_law_take" im a fd):FnOk P w K mg base CX0 1 a fd ["pool","many"] (spN K (bp a_)):=by
 refine cv (np:=2) (n:=3) (body:=pI a_) rfl rfl rfl Fn wP (fun cdv A outer s H E hr=>?_)
 have sc:=wP
 exact (aB (aR 2 sc.nd (cU (ns:=["rest","mixed","count"]) (i:=0) hr (ae (ad 0)) (fun _ _=>rfl))) (aB (bW (j8 (fy (cU (ns:=["rest","mixed","count"]) (i:=1) hr (ae (ad 0)) (fun _ _=>rfl)))) (aB (j9 (ns:=["rest","mixed","count"]) (i:=0) hr (ae (ad 0)) (ae (o9 (ad 2) (ad 1)))) (aQ (aY (ae (gF (ad 2) (ad 1)))))) bV) (aB (j9 (ns:=["rest","mixed","count"]) (i:=2) hr (ae (ad 0)) (dQ (cU (ns:=["rest","mixed","count"]) (i:=2) hr (ae (ad 0)) (fun _ _=>rfl)) (ae ai))) (aB (aR 2 sc.nd (dQ (ae (gF (ad 2) ai)) (uz (ae ai) (cU (ns:=["rest","mixed","count"]) (i:=2) hr (ae (ad 0)) (fun _ _=>rfl))))) (aB (aR 2 sc.nd (ae (gF (eh (ad 2) (bB (ad 2) ai)) ai))) (aB (aR 2 sc.nd (ae (gF (eh (ad 2) (ad 2)) ai))) (aB (j9 (ns:=["rest","mixed","count"]) (i:=0) hr (ae (ad 0)) (ae (ad 2))) (aQ (aY (ae (gF (o9 (ad 2) ai) (ad 1))))))))))))
abbrev io:Stmt:=top 62
theorem wQ:FnScope ["pool","sale","state","way","far","some"] ["pool","sale","state"] (ao io):=⟨rfl,rfl,rfl,by decide +kernel,rfl,by decide +kernel,by decide +kernel⟩
theorem Lb{a_:Addr}{a:Addr}{fd:FuncData}(Fn:Fun K "_law_drawn" "_law_drawn" io a fd)(d_:mg "len" = none)(g_:mg "list" = none)(e_:mg "range" = none)(f_:DefN P w K mg base "_law_take" 1 ["pool","many"] (bp a_)):FnOk P w K mg base CX0 2 a fd ["pool","sale","state"] (spN K (jf a_)):=by
 refine cv (np:=3) (n:=6) (body:=pJ a_) rfl rfl rfl Fn wQ (fun cdv A outer s H E hr=>?_)
 have sc:=wQ
 exact (aB (aR 3 sc.nd (aX f_ hr (ak (ae (ad 0)) (ak (ae ai) aD)))) (aB (aR 4 sc.nd (aX f_ hr (ak (ae (ad 0)) (ak (ae (iW ai ai)) aD)))) (aB (bW (cr (Ct (ad 3) ai)) (aB (aR 5 sc.nd (ae (aA (cA (aW (aA (iX (CG g_ e_ (ah (bZ d_ (ah (b0 (aC 1) ai (fun _ _=>rfl)) ar)) ar)) ai))) (aW (aA (bf (ah ft (ah (dh ai) (ah (bZ d_ (ah (b0 (aC 1) ai (fun _ _=>rfl)) ar)) (ah (dg (dh ai) (ad 4)) (ah (bB (bZ d_ (ah (b0 (aC 1) ai (fun _ _=>rfl)) ar)) (ad 4)) ar)))))))))))) (aQ (aY (kt (ak (ae bA) (ak (dD (ae (ad 5)) (aX f_ hr (ak (ae (ad 0)) (ak (ae (bZ d_ (ah (ad 5) ar))) aD))) (fun _ _=>rfl)) aD)))))) bV) (aB (bW (cr (eo hr (ad 3) ai)) (aQ (aY (ae (cz (ah bA (ah ft ar)))))) bV) (aB (aR 5 sc.nd (oS (GP g_ e_ (ak (dQ (cU (ns:=["turn","sold","done","office","beside"]) (i:=1) hr (ae (ad 2)) (fun _ _=>rfl)) (ae ai)) aD)) (ae (aA (bf (ah (dh ai) (ah (dg (dh ai) (ad 4)) (ah (bB ai (ad 4)) ar)))))))) (aQ (aY (kt (ak (ae bA) (ak (dD (ae (ad 5)) (aX f_ hr (ak (ae (ad 0)) (ak (ae (bZ d_ (ah (ad 5) ar))) aD))) (fun _ _=>rfl)) aD))))))))))
abbrev ip:Stmt:=top 61
theorem wR:FnScope ["sale","state","word","thing","over"] ["sale","state","word","thing"] (ao ip):=⟨rfl,rfl,rfl,by decide +kernel,rfl,by decide +kernel,by decide +kernel⟩
theorem Lc{a_:Addr}{a:Addr}{fd:FuncData}(Fn:Fun K "_law_due" "_law_due" ip a fd)(ke:mg "int" = none)(d_:mg "len" = none):FnOk P w K mg base CX0 1 a fd ["sale","state","word","thing"] (spN K (dE a_)):=by
 refine cv (np:=4) (n:=5) (body:=fC a_) rfl rfl rfl Fn wR (fun cdv A outer s H E hr=>?_)
 have sc:=wR
 exact (aB (aR 4 sc.nd (kr hr (cU (ns:=["turn","sold","done","office","beside"]) (i:=0) hr (ae (ad 1)) (fun _ _=>rfl)) (ae (bZ d_ (ah (b0 (aC 0) ai (fun _ _=>rfl)) ar))))) (aB (bW (cr (eo hr (ad 2) bA)) (aB (bW (cr (jT (ad 4))) (aQ (aY (ae bA))) bV) (aQ (aY (ae (b0 (aW (aA (bf (ah bA (ah bA ar))))) (tq ke (ah (dN (tf (ad 3)) (dW (sZ (sV (ad 3) ai) (dW (sX (ad 3) (bZ d_ (ah (b0 (aC 0) ai (fun _ _=>rfl)) ar))))))) ar)) (fun _ _=>rfl)))))) bV) (aB (bW (cr (eo hr (ad 2) bA)) (aQ (aY (dD (ae (aA (bf (ah bA (ah bA ar))))) (uL ke (ak (kr hr (cU (ns:=["turn","sold","done","office","beside"]) (i:=0) hr (ae (ad 1)) (fun _ _=>rfl)) (ae ai)) aD)) (fun _ _=>rfl)))) bV) (aB (bW (cr (oa (jT (ad 4)))) (aQ (aY (ae bA))) bV) (aB (bW (fy (cU (ns:=["turn","sold","done","office","beside"]) (i:=2) hr (ae (ad 1)) (fun _ _=>rfl))) (aQ (aY (ae bA))) bV) (aQ (aY (dD (ae (aA (bf (ah bA (ah bA ar))))) (uL ke (ak (Gy (ae (sV (ad 3) ai)) (oO (Gr (ae (ad 3)) (cU (ns:=["turn","sold","done","office","beside"]) (i:=1) hr (ae (ad 1)) (fun _ _=>rfl))))) aD)) (fun _ _=>rfl)))))))))
abbrev iq:Stmt:=top 58
theorem wS:FnScope ["e","kinds"] ["e"] (ao iq):=⟨rfl,rfl,rfl,by decide +kernel,rfl,by decide +kernel,by decide +kernel⟩
theorem Ld{a_:Addr}{a:Addr}{fd:FuncData}(Fn:Fun K "_law_kinds" "_law_kinds" iq a fd)(Mb:mg "ValueError" = none)(i_:mg "isinstance" = none)(xt:bT K=true):FnOk P w K mg base CX0 1 a fd ["e"] (spN K (gU a_)):=by
 refine cv (np:=1) (n:=2) (body:=pK a_) rfl rfl rfl Fn wS (fun cdv A outer s H E hr=>?_)
 have sc:=wS
 exact (aB (aR 1 sc.nd (eD (ak (eS xt i_ (ae (ad 0))) (ak (eS xt i_ (ae (ad 0))) (ak (eS xt i_ (ae (ad 0))) (ak (eS xt i_ (ae (ad 0))) aD)))))) (aB (aR 1 sc.nd (oS (ae (ad 1)) (eD (ak (eS xt i_ (ae (ad 0))) (ak (eS xt i_ (ae (ad 0))) (ak (eS xt i_ (ae (ad 0))) (ak (eS xt i_ (ae (ad 0))) aD))))))) (aQ (aY (oS (ae (ad 1)) (eD (ak (eS xt i_ (ae (ad 0))) (ak (eS xt i_ (ae (ad 0))) (ak (GO xt i_ Mb (ae (ad 0))) aD)))))))))
abbrev ir:Stmt:=top 63
theorem wT:FnScope ["pool","sale","seats","fares","turns","rule","far","at","row","some","bad","one","place"] ["pool","sale"] (ao ir):=⟨rfl,rfl,rfl,by decide +kernel,rfl,by decide +kernel,by decide +kernel⟩
theorem Le{a_:Addr}{a:Addr}{fd:FuncData}(Fn:Fun K "_law_no_sale" "_law_no_sale" ir a fd)(d_:mg "len" = none)(f_:DefN P w K mg base "_law_take" 1 ["pool","many"] (bp a_)):FnOk P w K mg base CX0 2 a fd ["pool","sale"] (spN K (jh a_)):=by
 refine cv (np:=2) (n:=13) (body:=pL a_) rfl rfl rfl Fn wT (fun cdv A outer s H E hr=>?_)
 have sc:=wT
 exact (aB (oP [2,3,4,5] rfl sc.nd (ae (ad 1)) (.cons (i:=2) rfl (by first | exact Or.inl rfl | exact Or.inr rfl) (.inl rfl) (.cons (i:=3) rfl (by first | exact Or.inl rfl | exact Or.inr rfl) (.inl rfl) (.cons (i:=4) rfl (by first | exact Or.inl rfl | exact Or.inr rfl) (.inl rfl) (.cons (i:=5) rfl (by first | exact Or.inl rfl | exact Or.inr rfl) (.inl rfl) Tgs.nil rfl) rfl) rfl) rfl)) (aB (aR 6 sc.nd (dD (eD (ak (ae ai) (ak (aX f_ hr (ak (ae (ad 0)) (ak (ae (iW ai ai)) aD))) aD))) (aX f_ hr (ak (ae (ad 0)) (ak (ae ai) aD))) (fun _ _=>rfl))) (aB (aR 7 sc.nd (aX f_ hr (ak (ae (ad 0)) (ak (ae (bZ d_ (ah (ad 3) ar))) aD)))) (aB (aR 8 sc.nd (ae (aA (iX (bf (ah ai ar)) (bB (bZ d_ (ah (ad 3) ar)) ai))))) (aB (aR 9 sc.nd (uE (bf (ah (cz (ah (dg (dh ai) (ad 6)) (ah (ad 3) (ah (ad 4) (ah (ad 5) ar))))) (ah (cz (ah (bB ai (ad 6)) (ah (ad 3) (ah (ad 4) (ah (ad 5) ar))))) (ah (cz (ah (ad 2) (ah (aA (bf ar)) (ah (aA (cJ (aC 4) cS (cE ai))) (ah (ad 5) ar))))) ar)))))) (aB (gO (ae (ad 9)) (ae (cz (ah (ad 2) (ah (aA (cA (aW (aA (cA (aW (aA (cJ (aC 3) cS (cE (ad 7))))) (aW (aA (bf (ah (dg ai (ad 6)) ar))))))) (aW (aA (cJ (aC 3) (cE (bB (ad 7) ai)) cS))))) (ah (ad 4) (ah (ad 5) ar))))))) (aB (gO (ae (ad 9)) (ae (cz (ah (ad 2) (ah (aA (cA (aW (aA (cA (aW (aA (cJ (aC 3) cS (cE (ad 7))))) (aW (aA (bf (ah (bB (bB (iW ai ai) ai) (ad 6)) ar))))))) (aW (aA (cJ (aC 3) (cE (bB (ad 7) ai)) cS))))) (ah (ad 4) (ah (ad 5) ar))))))) (aB (gO (ae (ad 9)) (ae (cz (ah (ad 2) (ah (aA (iX (bf (ah ai ar)) ai)) (ah (aA (cJ (aC 4) cS (cE ai))) (ah (ad 5) ar))))))) (aB (aR 7 sc.nd (aX f_ hr (ak (ae (ad 0)) (ak (ae (bZ d_ (ah (ad 8) ar))) aD)))) (aB (aR 10 sc.nd (ae (aA (bf (ah (aA (cA (aW (aA (cA (aW (aA (cJ (aC 8) cS (cE (ad 7))))) (aW (aA (bf (ah (bB ai (ad 6)) ar))))))) (aW (aA (cJ (aC 8) (cE (bB (ad 7) ai)) cS))))) (ah (aA (cA (aW (aA (cA (aW (aA (cJ (aC 8) cS (cE (ad 7))))) (aW (aA (bf (ah (dg (dh ai) (ad 6)) ar))))))) (aW (aA (cJ (aC 8) (cE (bB (ad 7) ai)) cS))))) (ah (aA (iX (bf (ah ai ar)) (bZ d_ (ah (ad 8) ar)))) (ah (aA (cA (aC 8) (aW (aA (bf (ah ai ar)))))) ar)))))))) (aB (uG 11 sc.nd rfl (ae (aA (cA (aC 10) (aW (aA (bf (ah (aA (cJ (aC 8) (cE ai) cS)) ar))))))) (aB (aR 12 sc.nd (aX f_ hr (ak (ae (ad 0)) (ak (ae (bB (bZ d_ (ah (aA (cJ (aC 4) cS (cE ai))) ar)) ai)) aD)))) (aQ (gO (ae (ad 9)) (ae (cz (ah (ad 2) (ah (ad 3) (ah (aA (cA (aW (aA (cA (aW (aA (cJ (aW (aA (cJ (aC 4) cS (cE ai)))) cS (cE (ad 12))))) (aW (aA (bf (ah (ad 11) ar))))))) (aW (aA (cJ (aW (aA (cJ (aC 4) cS (cE ai)))) (cE (ad 12)) cS))))) (ah (ad 5) ar)))))))))) (aB (gO (ae (ad 9)) (ae (cz (ah (ad 2) (ah (ad 3) (ah (aA (cA (aC 4) (aW (aA (iX (bf (ah (ad 8) ar)) (dg ai (bZ d_ (ah (ad 4) ar)))))))) (ah (ad 5) ar))))))) (aB (uG 11 sc.nd rfl (ae (aA (bf (ah (cz (ah ai (ah ai (ah ai (ah ai ar))))) (ah (cz (ah (dh ai) (ah ai (ah ai (ah ai ar))))) (ah (cz (ah ai (ah (bB ai (ad 6)) (ah ai (ah ai ar))))) (ah (cz (ah ai (ah (dh ai) (ah ai (ah ai ar))))) (ah (cz (ah ai (ah ai (ah ai (ah ai ar))))) (ah (cz (ah ai (ah ai (ah (bB ai (ad 6)) (ah ai ar))))) ar))))))))) (aQ (gO (ae (ad 9)) (ae (cz (ah (ad 2) (ah (ad 3) (ah (ad 4) (ah (ad 11) ar))))))))) (GG 9 (aB (aR 9 sc.nd (ae (aA (cA (aC 9) (aW (aA (bf (ah (cz (ah (ad 2) (ah (ad 3) (ah (ad 4) (ah (cz (ah ai (ah ai (ah ai (ah (dg (dh ai) (ad 6)) ar))))) ar))))) (ah (cz (ah (ad 2) (ah (ad 3) (ah (ad 4) (ah (cz (ah ai (ah ai (ah ai (ah (bB (bB (iW ai ai) ai) (ad 6)) ar))))) ar))))) ar))))))))) (aQ (aY (dD (ae (ad 9)) (aX f_ hr (ak (ae (ad 0)) (ak (ae (bZ d_ (ah (ad 9) ar))) aD))) (fun _ _=>rfl)))))))))))))))))))
abbrev iu:Stmt:=dY (top 49) 0
theorem wU:FnScope ["self","seats","fares","turns","rule","last"] ["self","seats","fares","turns","rule"] (ao iu):=⟨rfl,rfl,rfl,by decide +kernel,rfl,by decide +kernel,by decide +kernel⟩
theorem Lf{a_:Addr}{a:Addr}{fd:FuncData}(Fn:Fun K "__init__" "Office.__init__" iu a fd)(g_:mg "list" = none)(xt:bT K=true)(c_:Cls K a_)(p_:NoAttr K a_ "dues")(u_:NoAttr K a_ "fares")(s_:NoAttr K a_ "latest")(o_:NoAttr K a_ "paid")(v_:NoAttr K a_ "rule")(m_:NoAttr K a_ "scales")(y_:NoAttr K a_ "seats")(l_:NoAttr K a_ "sold")(t_:NoAttr K a_ "table")(h_:NoAttr K a_ "told")(Mc:Def P w K mg base "is_sale" 5 ["seats","fares","turns"] mE false)(tp:Def P w K mg base "scales_of" 5 ["turns","last"] gQ true)(Md:Def P w K mg base "worths_of" 5 ["fares","turns","last","ends"] mF true)(Me:Def P w K mg base "is_rule" 5 ["rule"] mI false)(Mf:Def P w K mg base "ends_of" 5 ["seats","rule"] mJ true)(Mg:Def P w K mg base "last_scale" 5 ["seats","rule"] mK false):FnOk P w K mg base (CXN P w) 6 a fd ["self","seats","fares","turns","rule"] (spE K (fD a_)):=by
 refine jb (np:=5) (n:=6) (body:=mP a_) rfl rfl rfl Fn wU (fun cdv A outer s H E PP EX hr ho=>?_)
 have sc:=wU
 exact (bF (eQ (cr (oa (jT (bI Mc hr (ah (ad 1) (ah (ad 2) (ah (ad 3) ar))))))) (dc (gb xt ho)) eP) (bF (eQ (cr (oa (jT (bI Me hr (ah (ad 4) ar))))) (dc (gb xt ho)) eP) (bF (cu (aR 5 sc.nd (ae (bI Mg hr (ah (ad 1) (ah (ad 4) ar)))))) (bF (cu (eO (ns:=b_.take 0) c_ y_ (ae (ad 0)) (ae (ad 1)))) (bF (cu (eO (ns:=b_.take 1) c_ u_ (ae (ad 0)) (ae (aA (g5 g_ (aC 2)))))) (bF (cu (eO (ns:=b_.take 2) c_ v_ (ae (ad 0)) (ae (ad 4)))) (bF (cu (eO (ns:=b_.take 3) c_ m_ (ae (ad 0)) (ae (aA (gH tp hr (ah (ad 3) (ah (ad 5) ar))))))) (bF (cu (eO (ns:=b_.take 4) c_ t_ (ae (ad 0)) (ae (aA (gH Md hr (ah (ad 2) (ah (ad 3) (ah (ad 5) (ah (aA (gH Mf hr (ah (ad 1) (ah (ad 4) ar)))) ar))))))))) (bF (cu (eO (ns:=b_.take 5) c_ h_ (ae (ad 0)) (ae ai))) (bF (cu (eO (ns:=b_.take 6) c_ l_ (ae (ad 0)) (ae ai))) (bF (cu (eO (ns:=b_.take 7) c_ o_ (ae (ad 0)) (ae ai))) (bF (cu (eO (ns:=b_.take 8) c_ p_ (ae (ad 0)) (ae ft))) (dc (cu (eO (ns:=b_.take 9) c_ s_ (ae (ad 0)) (ae ft))))))))))))))))
abbrev fK:Stmt:=top 66
theorem wV:FnScope ["sale","seats","fares","turns","rule","state"] ["sale"] (ao fK):=⟨rfl,rfl,rfl,by decide +kernel,rfl,by decide +kernel,by decide +kernel⟩
theorem Lg{a_:Addr}{a:Addr}{fd:FuncData}(Fn:Fun K "_law_opened" "_law_opened" fK a fd)(g_:mg "list" = none)(A_:MakN P w K mg base "Office" a_ 6 ["self","seats","fares","turns","rule"] (qtX (fD a_))):FnOk P w K mg base CX0 8 a fd ["sale"] (spN K (ji a_)):=by
 refine cv (np:=1) (n:=6) (body:=pM a_) rfl rfl rfl Fn wV (fun cdv A outer s H E hr=>?_)
 have sc:=wV
 exact (aB (oP [1,2,3,4] rfl sc.nd (ae (ad 0)) (.cons (i:=1) rfl (by first | exact Or.inl rfl | exact Or.inr rfl) (.inl rfl) (.cons (i:=2) rfl (by first | exact Or.inl rfl | exact Or.inr rfl) (.inl rfl) (.cons (i:=3) rfl (by first | exact Or.inl rfl | exact Or.inr rfl) (.inl rfl) (.cons (i:=4) rfl (by first | exact Or.inl rfl | exact Or.inr rfl) (.inl rfl) Tgs.nil rfl) rfl) rfl) rfl)) (aB (aR 5 sc.nd (uI (ns:=["turn","sold","done"]) (ja ai (ja ai (ja eG uH))))) (aB (uM (ns:=["turn","sold","done"]) hr (ae (ad 5)) (uF A_ (hr.mono (by decide)) (ak (ae (ad 1)) (ak (ae (aA (g5 g_ (aC 2)))) (ak (ae (aA (d9 (own:=["row"]) (J7:=[]) (cn:=[]) ⟨rfl,by decide +kernel,by decide +kernel,cD (ao fK) rfl (by decide +kernel),by first | rfl | decide +kernel,by decide +kernel,by decide +kernel⟩ rfl (eI (aC 3)) (fun _ _ _ _=>bN (i:=0) (show (["row"]:List Str).Nodup from by decide +kernel) rfl (Or.inl rfl) (.inr rfl)) (dM 0) (by decide) (fun _ _ _ _=>cY) (fun _ _ _ _=>(aA (g5 g_ (aC 0))))))) (ak (ae (ad 4)) aD)))))) (aB (uM (ns:=["turn","sold","done","office"]) hr (ae (ad 5)) (uF A_ (hr.mono (by decide)) (ak (ae (ad 1)) (ak (ae (aA (g5 g_ (aC 2)))) (ak (ae (aA (d9 (own:=["row"]) (J7:=[]) (cn:=[]) ⟨rfl,by decide +kernel,by decide +kernel,cD (ao fK) rfl (by decide +kernel),by first | rfl | decide +kernel,by decide +kernel,by decide +kernel⟩ rfl (eI (aC 3)) (fun _ _ _ _=>bN (i:=0) (show (["row"]:List Str).Nodup from by decide +kernel) rfl (Or.inl rfl) (.inr rfl)) (dM 0) (by decide) (fun _ _ _ _=>cY) (fun _ _ _ _=>(aA (g5 g_ (aC 0))))))) (ak (ae (ad 4)) aD)))))) (aQ (aY (ae (ad 5))))))))
abbrev iw:Stmt:=top 52
theorem wW:FnScope ["script","k"] ["script","k"] (ao iw):=⟨rfl,rfl,rfl,by decide +kernel,rfl,by decide +kernel,by decide +kernel⟩
theorem Lh{a_:Addr}{a:Addr}{fd:FuncData}(Fn:Fun K "_law_pool" "_law_pool" iw a fd)(LS:Def P w K mg base "_law_nth" 1 ["script","k"] kJ false):FnOk P w K mg base CX0 2 a fd ["script","k"] (spN K (gf a_)):=by
 refine cv (np:=2) (n:=2) (body:=pN a_) rfl rfl rfl Fn wW (fun cdv A outer s H E hr=>?_)
 have sc:=wW
 exact (aQ (aY (uI (ns:=["rest","mixed","count"]) (ja (bI LS hr (ah (ad 0) (ah (ad 1) ar))) (ja (gG hr (gF (bI LS hr (ah (ad 0) (ah ai ar))) ai) ai) (ja (bB ai (ad 1)) uH))))))
abbrev fL:Stmt:=top 64
theorem wX:FnScope ["sale","caught","handed","e"] ["sale"] (ao fL):=⟨rfl,rfl,rfl,by decide +kernel,rfl,by decide +kernel,by decide +kernel⟩
theorem Li{a_:Addr}{a:Addr}{fd:FuncData}(Fn:Fun K "_law_refused" "_law_refused" fL a fd)(g_:mg "list" = none)(e_:mg "range" = none)(xt:bT K=true)(LT:MakE P w K mg base "Office" a_ 6 ["self","seats","fares","turns","rule"] (fD a_))(B_:DefN P w K mg base "_law_kinds" 7 ["e"] (gU a_)):FnOk P w K mg base CX0 8 a fd ["sale"] (spN K (jj a_)):=by
 refine cv (np:=1) (n:=4) (body:=pO a_) rfl rfl rfl Fn wX (fun cdv A outer s H E hr=>?_)
 have sc:=wX
 exact (aB (aR 1 sc.nd (ae ft)) (aB (aR 2 sc.nd (ae (aA (bf (ah (aA (g5 g_ (aW (b0 (aC 0) ai (fun _ _=>rfl))))) (ah (aA (d9 (own:=["row"]) (J7:=[]) (cn:=[]) ⟨rfl,by decide +kernel,by decide +kernel,cD (ao fL) rfl (by decide +kernel),by first | rfl | decide +kernel,by decide +kernel,by decide +kernel⟩ rfl (eI (aW (b0 (aC 0) ai (fun _ _=>rfl)))) (fun _ _ _ _=>bN (i:=0) (show (["row"]:List Str).Nodup from by decide +kernel) rfl (Or.inl rfl) (.inr rfl)) (dM 0) (by decide) (fun _ _ _ _=>cY) (fun _ _ _ _=>(aA (g5 g_ (aC 0)))))) ar)))))) (aB (GN 1 3 xt sc.nd (GK LT (hr.mono (by decide)) (ak (ae (b0 (aC 0) ai (fun _ _=>rfl))) (ak (ae (b0 (aC 2) ai (fun _ _=>rfl))) (ak (ae (b0 (aC 2) ai (fun _ _=>rfl))) (ak (ae (b0 (aC 0) ai (fun _ _=>rfl))) aD)))))) (aB (bW (cr (Cw (Cv (t9 (ad 1)) (Cu (lU hr (ad 2) (aA (bf (ah (b0 (aC 0) ai (fun _ _=>rfl)) (ah (b0 (aC 0) ai (fun _ _=>rfl)) ar))))))))) (aQ (aY (ae eG))) bV) (aQ (aY (kr hr (aX B_ hr (ak (ae (ad 1)) aD)) (ae (aA (d9 (own:=["k"]) (J7:=[]) (cn:=[]) ⟨rfl,by decide +kernel,by decide +kernel,cD (ao fL) rfl (by decide +kernel),by first | rfl | decide +kernel,by decide +kernel,by decide +kernel⟩ rfl (og e_ (ah ai ar)) (fun _ _ _ _=>bN (i:=0) (show (["k"]:List Str).Nodup from by decide +kernel) rfl (Or.inl rfl) (.inr rfl)) (dM 0) (by decide) (fun _ _ _ _=>cY) (fun _ _ _ _=>(sZ (gG hr (ad 0) ai) (dW (gG hr (ad 0) ai))))))))))))))
abbrev iy:Stmt:=top 54
theorem wY:FnScope ["pool","most","kind"] ["pool","most"] (ao iy):=⟨rfl,rfl,rfl,by decide +kernel,rfl,by decide +kernel,by decide +kernel⟩
theorem Lj{a_:Addr}{a:Addr}{fd:FuncData}(Fn:Fun K "_law_size" "_law_size" iy a fd)(C_:mg "min" = none)(f_:DefN P w K mg base "_law_take" 1 ["pool","many"] (bp a_)):FnOk P w K mg base CX0 2 a fd ["pool","most"] (spN K (gg a_)):=by
 refine cv (np:=2) (n:=3) (body:=pP a_) rfl rfl rfl Fn wY (fun cdv A outer s H E hr=>?_)
 have sc:=wY
 exact (aB (aR 2 sc.nd (aX f_ hr (ak (ae (ad 0)) (ak (ae ai) aD)))) (aB (bW (cr (eo hr (ad 2) ai)) (aQ (aY (aX f_ hr (ak (ae (ad 0)) (ak (ae (t3 rfl C_ (ah ai (ah (ad 1) ar)))) aD))))) bV) (aB (bW (cr (eo hr (ad 2) ai)) (aQ (aY (ae (dg (ad 1) ai)))) bV) (aQ (aY (aX f_ hr (ak (ae (ad 0)) (ak (ae (ad 1)) aD))))))))
abbrev iz:Stmt:=top 56
theorem wZ:FnScope ["pool","of"] ["pool"] (ao iz):=⟨rfl,rfl,rfl,by decide +kernel,rfl,by decide +kernel,by decide +kernel⟩
theorem Lk{a_:Addr}{a:Addr}{fd:FuncData}(Fn:Fun K "_law_rule" "_law_rule" iz a fd)(w_:DefN P w K mg base "_law_size" 2 ["pool","most"] (gg a_))(f_:DefN P w K mg base "_law_take" 2 ["pool","many"] (bp a_)):FnOk P w K mg base CX0 3 a fd ["pool"] (spN K (kN a_)):=by
 refine cv (np:=1) (n:=2) (body:=pQ a_) rfl rfl rfl Fn wZ (fun cdv A outer s H E hr=>?_)
 have sc:=wZ
 exact (aB (aR 1 sc.nd (dQ (ae ai) (aX w_ hr (ak (ae (ad 0)) (ak (ae ai) aD))))) (aQ (aY (kt (ak (aX f_ hr (ak (ae (ad 0)) (ak (ae ai) aD))) (ak (aX f_ hr (ak (ae (ad 0)) (ak (ae (bB (ad 1) ai)) aD))) (ak (ae (ad 1)) (ak (aX w_ hr (ak (ae (ad 0)) (ak (ae (bB (iW ai ai) ai)) aD))) aD))))))))
abbrev iA:Stmt:=top 55
theorem xa:FnScope ["pool","many","row","k"] ["pool","many"] (ao iA):=⟨rfl,rfl,rfl,by decide +kernel,rfl,by decide +kernel,by decide +kernel⟩
theorem Ll{a_:Addr}{a:Addr}{fd:FuncData}(Fn:Fun K "_law_weights" "_law_weights" iA a fd)(e_:mg "range" = none)(ix:mg "sum" = none)(f_:DefN P w K mg base "_law_take" 1 ["pool","many"] (bp a_)):FnOk P w K mg base CX0 2 a fd ["pool","many"] (spN K (kO a_)):=by
 refine cv (np:=2) (n:=4) (body:=pR a_) rfl rfl rfl Fn xa (fun cdv A outer s H E hr=>?_)
 have sc:=xa
 exact (aB (aR 2 sc.nd (uE (bf ar))) (aB (GC 3 sc.nd rfl e_ (ak (ae (bB (ad 1) ai)) aD) (aQ (gO (ae (ad 2)) (dD (eD (ak (ae ai) (ak (aX f_ hr (ak (ae (ad 0)) (ak (ae ai) aD))) (ak (aX f_ hr (ak (ae (ad 0)) (ak (ae ai) aD))) aD)))) (aX f_ hr (ak (ae (ad 0)) (ak (ae ai) aD))) (fun _ _=>rfl))))) (aB (bW (oM hr (GE rfl ix (ak (ae (ad 2)) aD)) (ae ai)) (aQ (GB (ae (ad 2)) (ae (ad 1)) (ae ai))) bV) (aQ (GA 2)))))
abbrev fM:Stmt:=top 57
theorem xb:FnScope ["script","k","pool","seats","fares","rule","many"] ["script","k"] (ao fM):=⟨rfl,rfl,rfl,by decide +kernel,rfl,by decide +kernel,by decide +kernel⟩
theorem Lm{a_:Addr}{a:Addr}{fd:FuncData}(Fn:Fun K "_law_sale" "_law_sale" fM a fd)(d_:mg "len" = none)(e_:mg "range" = none)(x_:DefN P w K mg base "_law_pool" 3 ["script","k"] (gf a_))(f_:DefN P w K mg base "_law_take" 3 ["pool","many"] (bp a_))(Mh:DefN P w K mg base "_law_rule" 3 ["pool"] (kN a_))(w_:DefN P w K mg base "_law_size" 3 ["pool","most"] (gg a_))(Mi:DefN P w K mg base "_law_weights" 3 ["pool","many"] (kO a_)):FnOk P w K mg base CX0 4 a fd ["script","k"] (spN K (kP a_)):=by
 refine cv (np:=2) (n:=7) (body:=pS a_) rfl rfl rfl Fn xb (fun cdv A outer s H E hr=>?_)
 have sc:=xb
 exact (aB (aR 2 sc.nd (aX x_ hr (ak (ae (ad 0)) (ak (ae (ad 1)) aD)))) (aB (aR 3 sc.nd (aX f_ hr (ak (ae (ad 2)) (ak (ae ai) aD)))) (aB (aR 4 sc.nd (uJ (y:="j") (J7:=[2]) (cn:=["pool"]) ⟨rfl,by decide +kernel,by decide +kernel,cD (ao fM) rfl (by decide +kernel),by first | rfl | decide +kernel,by decide +kernel,by decide +kernel⟩ rfl e_ (ak (dQ (ae ai) (aX f_ hr (ak (ae (ad 2)) (ak (ae ai) aD)))) aD) (fun _ _ _ _=>bN (i:=0) (show (["j","pool"]:List Str).Nodup from by decide +kernel) rfl (Or.inl rfl) (.inr rfl)) (fun _ _ _ _=>(dQ (ae ai) (aX w_ hr (ak (ae (ad 1)) (ak (ae (iW ai ai)) aD))))))) (aB (aR 5 sc.nd (aX Mh hr (ak (ae (ad 2)) aD))) (aB (aR 6 sc.nd (aX f_ hr (ak (ae (ad 2)) (ak (ae ai) aD)))) (aB (aR 2 sc.nd (aX x_ hr (ak (ae (ad 0)) (ak (ae (bB (ad 1) ai)) aD)))) (aQ (aY (kt (ak (ae (ad 3)) (ak (ae (ad 4)) (ak (uJ (y:="j") (J7:=[2,4]) (cn:=["pool","fares"]) ⟨rfl,by decide +kernel,by decide +kernel,cD (ao fM) rfl (by decide +kernel),by first | rfl | decide +kernel,by decide +kernel,by decide +kernel⟩ rfl e_ (ak (ae (ad 6)) aD) (fun _ _ _ _=>bN (i:=0) (show (["j","pool","fares"]:List Str).Nodup from by decide +kernel) rfl (Or.inl rfl) (.inr rfl)) (fun _ _ _ _=>(aX Mi hr (ak (ae (ad 1)) (ak (ae (bZ d_ (ah (ad 2) ar))) aD))))) (ak (ae (ad 5)) aD)))))))))))))
abbrev iB:Stmt:=top 60
theorem xc:FnScope ["office","word","thing","caught","told","e"] ["office","word","thing"] (ao iB):=⟨rfl,rfl,rfl,by decide +kernel,rfl,by decide +kernel,by decide +kernel⟩
theorem Ln{a_:Addr}{a:Addr}{fd:FuncData}(Fn:Fun K "_law_told" "_law_told" iB a fd)(xt:bT K=true)(LU:DefE P w K mg base "_law_call" 5 ["office","word","thing"] (eE a_))(B_:DefN P w K mg base "_law_kinds" 5 ["e"] (gU a_)):FnOk P w K mg base CX0 6 a fd ["office","word","thing"] (spN K (jk a_)):=by
 refine cv (np:=3) (n:=6) (body:=pT a_) rfl rfl rfl Fn xc (fun cdv A outer s H E hr=>?_)
 have sc:=xc
 exact (aB (aR 3 sc.nd (ae ft)) (aB (aR 4 sc.nd (ae ft)) (aB (GM 4 3 5 xt sc.nd (GI LU hr (ak (ae (ad 0)) (ak (ae (ad 1)) (ak (ae (ad 2)) aD))))) (aB (bW (cr (CB (ad 3))) (aQ (aY (eD (ak (ae bA) (ak (aX B_ hr (ak (ae (ad 3)) aD)) aD))))) bV) (aQ (aY (ae (aA (bf (ah bA (ah (ad 4) ar)))))))))))
abbrev iC:Stmt:=dY (top 49) 1
theorem xf:FnScope ["self"] ["self"] (ao iC):=⟨rfl,rfl,rfl,by decide +kernel,rfl,by decide +kernel,by decide +kernel⟩
theorem Lo{a_:Addr}{a:Addr}{fd:FuncData}(Fn:Fun K "turn" "Office.turn" iC a fd)(c_:Cls K a_)(h_:NoAttr K a_ "told"):FnOk P w K mg base CX0 1 a fd ["self"] (spN K (gh a_)):=by
 refine cv (np:=1) (n:=1) (body:=pU a_) rfl rfl rfl Fn xf (fun cdv A outer s H E hr=>?_)
 have sc:=xf
 exact (aQ (aY (bE (i:=5) (ns:=b_) c_ h_ (ae (ad 0)))))
abbrev fN:Stmt:=top 65
theorem xg:FnScope ["sale","state","word","thing","names","due","office","ahead","found","behind","kinds","told"] ["sale","state","word","thing"] (ao fN):=⟨rfl,rfl,rfl,by decide +kernel,rfl,by decide +kernel,by decide +kernel⟩
theorem Lp{a_:Addr}{a:Addr}{fd:FuncData}(Fn:Fun K "_law_step" "_law_step" fN a fd)(ke:mg "int" = none)(c_:Cls K a_)(Mj:DefN P w K mg base "_law_due" 6 ["sale","state","word","thing"] (dE a_))(LV:DefN P w K mg base "_law_told" 6 ["office","word","thing"] (jk a_))(LN:MetN P w K mg base a_ "turn" 6 ["self"] (gh a_))(k_:MetN P w K mg base a_ "left" 6 ["self"] (dm a_))(tx:MetN P w K mg base a_ "coins" 6 ["self"] (dX a_)):FnOk P w K mg base CX0 7 a fd ["sale","state","word","thing"] (spN K (fE a_)):=by
 refine cv (np:=4) (n:=12) (body:=mQ a_) rfl rfl rfl Fn xg (fun cdv A outer s H E hr=>?_)
 have sc:=xg
 exact (aB (aR 4 sc.nd (ae (aA (bf (ah bA (ah bA (ah bA (ah bA (ah bA ar))))))))) (aB (aR 5 sc.nd (aX Mj hr (ak (ae (ad 0)) (ak (ae (ad 1)) (ak (ae (ad 2)) (ak (ae (ad 3)) aD)))))) (aB (aR 6 sc.nd (cU (ns:=["turn","sold","done","office","beside"]) (i:=3) hr (ae (ad 1)) (fun _ _=>rfl))) (aB (aR 7 sc.nd (eD (ak (cV (ns:=b_) c_ LN hr (ae (ad 6))) (ak (cV (ns:=b_) c_ k_ hr (ae (ad 6))) (ak (cV (ns:=b_) c_ tx hr (ae (ad 6))) aD))))) (aB (aR 8 sc.nd (aX LV hr (ak (ae (ad 6)) (ak (ae (ad 2)) (ak (ae (ad 3)) aD))))) (aB (bW (cr (lU hr (ad 5) bA)) (aB (aR 9 sc.nd (eD (ak (cV (ns:=b_) c_ LN hr (ae (ad 6))) (ak (cV (ns:=b_) c_ k_ hr (ae (ad 6))) (ak (cV (ns:=b_) c_ tx hr (ae (ad 6))) aD))))) (aB (aR 10 sc.nd (ae (aA (cA (aW (aA (cA (aW (aA (d9 (own:=["name"]) (J7:=[5]) (cn:=["due"]) ⟨rfl,by decide +kernel,by decide +kernel,cD (ao fN) rfl (by decide +kernel),by first | rfl | decide +kernel,by decide +kernel,by decide +kernel⟩ rfl (eI (aC 4)) (fun _ _ _ _=>bN (i:=0) (show (["name","due"]:List Str).Nodup from by decide +kernel) rfl (Or.inl rfl) (.inr rfl)) (dM 0) (by decide) (fun _ _ _ _=>cY) (fun _ _ _ _=>(gG hr (ad 1) (ad 0)))))) (aW (aA (iX (bf (ah eG ar)) ai)))))) (aW (aA (bf (ah eG ar)))))))) (aQ (aY (ae (dN (gG hr (ad 8) (aA (bf (ah bA (ah (ad 10) ar))))) (dW (gG hr (ad 9) (ad 7))))))))) bV) (aB (bW (oN (Gw (cr (lU hr (b0 (aC 8) ai (fun _ _=>rfl)) bA)) (Gv (Gs hr (ae (ad 8)) (aX LV hr (ak (cU (ns:=["turn","sold","done","office","beside"]) (i:=4) hr (ae (ad 1)) (fun _ _=>rfl)) (ak (ae (ad 2)) (ak (ae (ad 3)) aD)))))))) (aQ (aY (ae eG))) bV) (aB (bW (cr (eo hr (ad 2) bA)) (aB (j9 (ns:=["turn","sold","done","office","beside"]) (i:=0) hr (ae (ad 1)) (dQ (cU (ns:=["turn","sold","done","office","beside"]) (i:=0) hr (ae (ad 1)) (fun _ _=>rfl)) (ae ai))) (aQ (j9 (ns:=["turn","sold","done","office","beside"]) (i:=1) hr (ae (ad 1)) (dQ (cU (ns:=["turn","sold","done","office","beside"]) (i:=1) hr (ae (ad 1)) (fun _ _=>rfl)) (ae (tq ke (ah (b0 (aC 8) ai (fun _ _=>rfl)) ar))))))) bV) (aB (bW (cr (eo hr (ad 2) bA)) (aQ (j9 (ns:=["turn","sold","done","office","beside"]) (i:=2) hr (ae (ad 1)) (ae eG))) bV) (aB (GH 11 sc.nd (y:="one") (J7:=[]) (cn:=[]) ⟨rfl,by decide +kernel,by decide +kernel,cD (ao fN) rfl (by decide +kernel),by first | rfl | decide +kernel,by decide +kernel,by decide +kernel⟩ rfl (eD (ak (ae (ad 6)) (ak (cU (ns:=["turn","sold","done","office","beside"]) (i:=4) hr (ae (ad 1)) (fun _ _=>rfl)) aD))) (fun _ _ _ _=>bN (i:=0) (show (["one"]:List Str).Nodup from by decide +kernel) rfl (Or.inl rfl) (.inr rfl)) (fun _ _ _ _=>(eD (ak (cV (ns:=b_) c_ LN hr (ae (ad 0))) (ak (cV (ns:=b_) c_ k_ hr (ae (ad 0))) (ak (cV (ns:=b_) c_ tx hr (ae (ad 0))) aD)))))) (aQ (aY (uD (ae (gG hr (b0 (aC 11) ai (fun _ _=>rfl)) (b0 (aC 11) ai (fun _ _=>rfl)))) (oO (kr hr (ae (aA (cJ (aW (b0 (aC 11) ai (fun _ _=>rfl))) cS (cE ai)))) (eD (ak (cU (ns:=["turn","sold","done","office","beside"]) (i:=0) hr (ae (ad 1)) (fun _ _=>rfl)) (ak (j7 (ae (b0 (aC 0) ai (fun _ _=>rfl))) (cU (ns:=["turn","sold","done","office","beside"]) (i:=1) hr (ae (ad 1)) (fun _ _=>rfl))) aD))))))))))))))))))
abbrev fO:Stmt:=top 67
theorem xh:FnScope ["script","sale","state","k","pool","word","thing"] ["script"] (ao fO):=⟨rfl,rfl,rfl,by decide +kernel,rfl,by decide +kernel,by decide +kernel⟩
theorem Lq{a_:Addr}{a:Addr}{fd:FuncData}(Fn:Fun K "law" "law" fO a fd)(d_:mg "len" = none)(C_:mg "min" = none)(e_:mg "range" = none)(Ml:DefN P w K mg base "_law_sale" 8 ["script","k"] (kP a_))(LW:DefN P w K mg base "_law_opened" 8 ["sale"] (ji a_))(x_:DefN P w K mg base "_law_pool" 8 ["script","k"] (gf a_))(Mm:DefN P w K mg base "_law_drawn" 8 ["pool","sale","state"] (jf a_))(Mn:DefN P w K mg base "_law_step" 8 ["sale","state","word","thing"] (fE a_))(f_:DefN P w K mg base "_law_take" 8 ["pool","many"] (bp a_))(Mo:DefN P w K mg base "_law_refused" 8 ["sale"] (jj a_))(Mp:DefN P w K mg base "_law_no_sale" 8 ["pool","sale"] (jh a_)):FnOk P w K mg base CX0 9 a fd ["script"] (spN K (pW a_)):=by
 refine cv (np:=1) (n:=7) (body:=pV a_) rfl rfl rfl Fn xh (fun cdv A outer s H E hr=>?_)
 have sc:=xh
 exact (aB (aR 1 sc.nd (aX Ml hr (ak (ae (ad 0)) (ak (ae ai) aD)))) (aB (aR 2 sc.nd (aX LW hr (ak (ae (ad 1)) aD))) (aB (GD 3 sc.nd rfl e_ (ak (ae ai) (ak (ae (t3 rfl C_ (ah ai (ah (bZ d_ (ah (ad 0) ar)) ar)))) aD)) (aB (aR 4 sc.nd (aX x_ hr (ak (ae (ad 0)) (ak (ae (ad 3)) aD)))) (aB (bW (oN (uC (fy (cU (ns:=["turn","sold","done","office","beside"]) (i:=2) hr (ae (ad 2)) (fun _ _=>rfl))) (uB (oM hr (aX f_ hr (ak (ae (ad 4)) (ak (ae ai) aD))) (ae ai))))) (aQ (aR 2 sc.nd (aX LW hr (ak (ae (ad 1)) aD)))) bV) (aB (oP [5,6] rfl sc.nd (aX Mm hr (ak (ae (ad 4)) (ak (ae (ad 1)) (ak (ae (ad 2)) aD)))) (.cons (i:=5) rfl (by first | exact Or.inl rfl | exact Or.inr rfl) (.inl rfl) (.cons (i:=6) rfl (by first | exact Or.inl rfl | exact Or.inr rfl) (.inl rfl) Tgs.nil rfl) rfl)) (aB (bW (j8 (fy (aX Mn hr (ak (ae (ad 1)) (ak (ae (ad 2)) (ak (ae (ad 5)) (ak (ae (ad 6)) aD))))))) (aQ (aY (ae eG))) bV) (aQ (bW (oN (uC (cr (eo hr (gF (ad 3) ai) ai)) (uB (j8 (fy (aX Mo hr (ak (aX Mp hr (ak (ae (ad 4)) (ak (ae (ad 1)) aD))) aD))))))) (aQ (aY (ae eG))) bV))))))) (aQ (aY (ae eG))))))
end
def ql(K:W.Frag):Sp:=fun vs H Q E=>∀ a_:Nat,spN K (pW a_) vs H Q E
theorem all_mk{l:W.OpenLaw}{w:World}{K:W.Frag}{h:Heap}{mg:Str->Option Value}{fa a_ f1 f2 f3 f4 f5 f6 f7 f8 f9 f10 f11 f12 f13 f14 f15 f16 f17 f18 f19 f20 f21 f22 f23 f24 f25 f26 f27 f28 f29 f30 f31 f32 f33 f34 f35 f36 f37 f38 f39 f40 f41 f42 f43 f44 f45 f46 f47 f48 f49 f50 f51:Addr}(X:K.In h)(G:h.Ns mainGlobals mg)(hfa:mg "law" = some (.ref fa)){od1 an1 od2 an2 od3 an3 od4 an4 od5 an5 od6 an6 od7 an7 od8 an8 od9 an9 od10 an10 od11 an11 od12 an12 od13 an13 od14 an14 od15 an15 od16 an16 od17 an17 od18 an18 od19 an19 od20 an20 od21 an21 od22 an22 od23 an23 od24 an24 od25 an25 od26 an26 od27 an27 od28 an28 od29 an29 od30 an30 od31 an31 od32 an32 od33 an33 od34 an34 od35 an35 od36 an36 od37 an37 od38 an38 od39 an39 od40 an40 od41 an41 od42 an42 od43 an43 od44 an44 od45 an45 od46 an46 od47 an47 od48 an48 od49 an49 od50 an50 od51 an51:Option Addr}{sl1 sl2 sl3 sl4 sl5 sl6 sl7 sl8 sl9 sl10 sl11 sl12 sl13 sl14 sl15 sl16 sl17 sl18 sl19 sl20 sl21 sl22 sl23 sl24 sl25 sl26 sl27 sl28 sl29 sl30 sl31 sl32 sl33 sl34 sl35 sl36 sl37 sl38 sl39 sl40 sl41 sl42 sl43 sl44 sl45 sl46 sl47 sl48 sl49 sl50 sl51:Array (Option Value)}{oc1 kV1 dc1 pm1 cd1 ct1 oc2 kV2 dc2 pm2 cd2 ct2 oc3 kV3 dc3 pm3 cd3 ct3 oc4 kV4 dc4 pm4 cd4 ct4 oc5 kV5 dc5 pm5 cd5 ct5 oc6 kV6 dc6 pm6 cd6 ct6 oc7 kV7 dc7 pm7 cd7 ct7 oc8 kV8 dc8 pm8 cd8 ct8 oc9 kV9 dc9 pm9 cd9 ct9 oc10 kV10 dc10 pm10 cd10 ct10 oc11 kV11 dc11 pm11 cd11 ct11 oc12 kV12 dc12 pm12 cd12 ct12 oc13 kV13 dc13 pm13 cd13 ct13 oc14 kV14 dc14 pm14 cd14 ct14 oc15 kV15 dc15 pm15 cd15 ct15 oc16 kV16 dc16 pm16 cd16 ct16 oc17 kV17 dc17 pm17 cd17 ct17 oc18 kV18 dc18 pm18 cd18 ct18 oc19 kV19 dc19 pm19 cd19 ct19 oc20 kV20 dc20 pm20 cd20 ct20 oc21 kV21 dc21 pm21 cd21 ct21 oc22 kV22 dc22 pm22 cd22 ct22 oc23 kV23 dc23 pm23 cd23 ct23 oc24 kV24 dc24 pm24 cd24 ct24 oc25 kV25 dc25 pm25 cd25 ct25 oc26 kV26 dc26 pm26 cd26 ct26 oc27 kV27 dc27 pm27 cd27 ct27 oc28 kV28 dc28 pm28 cd28 ct28 oc29 kV29 dc29 pm29 cd29 ct29 oc30 kV30 dc30 pm30 cd30 ct30 oc31 kV31 dc31 pm31 cd31 ct31 oc32 kV32 dc32 pm32 cd32 ct32 oc33 kV33 dc33 pm33 cd33 ct33 oc34 kV34 dc34 pm34 cd34 ct34 oc35 kV35 dc35 pm35 cd35 ct35 oc36 kV36 dc36 pm36 cd36 ct36 oc37 kV37 dc37 pm37 cd37 ct37 oc38 kV38 dc38 pm38 cd38 ct38 oc39 kV39 dc39 pm39 cd39 ct39 oc40 kV40 dc40 pm40 cd40 ct40 oc41 kV41 dc41 pm41 cd41 ct41 oc42 kV42 dc42 pm42 cd42 ct42 oc43 kV43 dc43 pm43 cd43 ct43 oc44 kV44 dc44 pm44 cd44 ct44 oc45 kV45 dc45 pm45 cd45 ct45 oc46 kV46 dc46 pm46 cd46 ct46 oc47 kV47 dc47 pm47 cd47 ct47 oc48 kV48 dc48 pm48 cd48 ct48 oc49 kV49 dc49 pm49 cd49 ct49 oc50 kV50 dc50 pm50 cd50 ct50 oc51 kV51 dc51 pm51 cd51 ct51:Value}{LB E_ G_ LD LF Ls K_ I_:Tok}(Mq:W.nsIn K mainGlobals "Office" = some (some (.ref a_)))(a1:W.nsIn K mainGlobals "is_within" = some (some (.ref f1)))(l1:K.lookup f1=some ⟨oc1,od1,.func (W.fnOf "is_within" "is_within" (aJ gX) (aG gX) (ao gX) .none kV1 dc1 pm1 an1 cd1 ct1),sl1⟩)(c1:W.codeIn K cd1 "is_within" = true)(k1:W.keepIn K (.ref f1)=true)(a2:W.nsIn K mainGlobals "power" = some (some (.ref f2)))(l2:K.lookup f2=some ⟨oc2,od2,.func (W.fnOf "power" "power" (aJ gY) (aG gY) (ao gY) .none kV2 dc2 pm2 an2 cd2 ct2),sl2⟩)(c2:W.codeIn K cd2 "power" = true)(k2:W.keepIn K (.ref f2)=true)(a3:W.nsIn K mainGlobals "are_fares" = some (some (.ref f3)))(l3:K.lookup f3=some ⟨oc3,od3,.func (W.fnOf "are_fares" "are_fares" (aJ gj) (aG gj) (ao gj) .none kV3 dc3 pm3 an3 cd3 ct3),sl3⟩)(c3:W.codeIn K cd3 "are_fares" = true)(k3:W.keepIn K (.ref f3)=true)(a4:W.nsIn K mainGlobals "total_of" = some (some (.ref f4)))(l4:K.lookup f4=some ⟨oc4,od4,.func (W.fnOf "total_of" "total_of" (aJ gZ) (aG gZ) (ao gZ) .none kV4 dc4 pm4 an4 cd4 ct4),sl4⟩)(c4:W.codeIn K cd4 "total_of" = true)(k4:W.keepIn K (.ref f4)=true)(a5:W.nsIn K mainGlobals "is_row" = some (some (.ref f5)))(l5:K.lookup f5=some ⟨oc5,od5,.func (W.fnOf "is_row" "is_row" (aJ gk) (aG gk) (ao gk) .none kV5 dc5 pm5 an5 cd5 ct5),sl5⟩)(c5:W.codeIn K cd5 "is_row" = true)(k5:W.keepIn K (.ref f5)=true)(a6:W.nsIn K mainGlobals "are_turns" = some (some (.ref f6)))(l6:K.lookup f6=some ⟨oc6,od6,.func (W.fnOf "are_turns" "are_turns" (aJ gm) (aG gm) (ao gm) .none kV6 dc6 pm6 an6 cd6 ct6),sl6⟩)(c6:W.codeIn K cd6 "are_turns" = true)(k6:W.keepIn K (.ref f6)=true)(a7:W.nsIn K mainGlobals "is_sale" = some (some (.ref f7)))(l7:K.lookup f7=some ⟨oc7,od7,.func (W.fnOf "is_sale" "is_sale" (aJ hG) (aG hG) (ao hG) .none kV7 dc7 pm7 an7 cd7 ct7),sl7⟩)(c7:W.codeIn K cd7 "is_sale" = true)(k7:W.keepIn K (.ref f7)=true)(a8:W.nsIn K mainGlobals "scales_of" = some (some (.ref f8)))(l8:K.lookup f8=some ⟨oc8,od8,.func (W.fnOf "scales_of" "scales_of" (aJ hJ) (aG hJ) (ao hJ) .none kV8 dc8 pm8 an8 cd8 ct8),sl8⟩)(c8:W.codeIn K cd8 "scales_of" = true)(k8:W.keepIn K (.ref f8)=true)(a9:W.nsIn K mainGlobals "weighed" = some (some (.ref f9)))(l9:K.lookup f9=some ⟨oc9,od9,.func (W.fnOf "weighed" "weighed" (aJ gn) (aG gn) (ao gn) .none kV9 dc9 pm9 an9 cd9 ct9),sl9⟩)(c9:W.codeIn K cd9 "weighed" = true)(k9:W.keepIn K (.ref f9)=true)(a10:W.nsIn K mainGlobals "sold_worth" = some (some (.ref f10)))(l10:K.lookup f10=some ⟨oc10,od10,.func (W.fnOf "sold_worth" "sold_worth" (aJ hU) (aG hU) (ao hU) .none kV10 dc10 pm10 an10 cd10 ct10),sl10⟩)(c10:W.codeIn K cd10 "sold_worth" = true)(k10:W.keepIn K (.ref f10)=true)(a11:W.nsIn K mainGlobals "class_worth" = some (some (.ref f11)))(l11:K.lookup f11=some ⟨oc11,od11,.func (W.fnOf "class_worth" "class_worth" (aJ hV) (aG hV) (ao hV) .none kV11 dc11 pm11 an11 cd11 ct11),sl11⟩)(c11:W.codeIn K cd11 "class_worth" = true)(k11:W.keepIn K (.ref f11)=true)(a12:W.nsIn K mainGlobals "stand_worth" = some (some (.ref f12)))(l12:K.lookup f12=some ⟨oc12,od12,.func (W.fnOf "stand_worth" "stand_worth" (aJ gp) (aG gp) (ao gp) .none kV12 dc12 pm12 an12 cd12 ct12),sl12⟩)(c12:W.codeIn K cd12 "stand_worth" = true)(k12:W.keepIn K (.ref f12)=true)(a13:W.nsIn K mainGlobals "row_worths" = some (some (.ref f13)))(l13:K.lookup f13=some ⟨oc13,od13,.func (W.fnOf "row_worths" "row_worths" (aJ gq) (aG gq) (ao gq) .none kV13 dc13 pm13 an13 cd13 ct13),sl13⟩)(c13:W.codeIn K cd13 "row_worths" = true)(k13:W.keepIn K (.ref f13)=true)(a14:W.nsIn K mainGlobals "worths_of" = some (some (.ref f14)))(l14:K.lookup f14=some ⟨oc14,od14,.func (W.fnOf "worths_of" "worths_of" (aJ hW) (aG hW) (ao hW) .none kV14 dc14 pm14 an14 cd14 ct14),sl14⟩)(c14:W.codeIn K cd14 "worths_of" = true)(k14:W.keepIn K (.ref f14)=true)(a15:W.nsIn K mainGlobals "is_taken" = some (some (.ref f15)))(l15:K.lookup f15=some ⟨oc15,od15,.func (W.fnOf "is_taken" "is_taken" (aJ hZ) (aG hZ) (ao hZ) .none kV15 dc15 pm15 an15 cd15 ct15),sl15⟩)(c15:W.codeIn K cd15 "is_taken" = true)(k15:W.keepIn K (.ref f15)=true)(a16:W.nsIn K mainGlobals "least_fare" = some (some (.ref f16)))(l16:K.lookup f16=some ⟨oc16,od16,.func (W.fnOf "least_fare" "least_fare" (aJ i3) (aG i3) (ao i3) .none kV16 dc16 pm16 an16 cd16 ct16),sl16⟩)(c16:W.codeIn K cd16 "least_fare" = true)(k16:W.keepIn K (.ref f16)=true)(a17:W.nsIn K mainGlobals "is_rule" = some (some (.ref f17)))(l17:K.lookup f17=some ⟨oc17,od17,.func (W.fnOf "is_rule" "is_rule" (aJ i4) (aG i4) (ao i4) .none kV17 dc17 pm17 an17 cd17 ct17),sl17⟩)(c17:W.codeIn K cd17 "is_rule" = true)(k17:W.keepIn K (.ref f17)=true)(a18:W.nsIn K mainGlobals "with_one_more" = some (some (.ref f18)))(l18:K.lookup f18=some ⟨oc18,od18,.func (W.fnOf "with_one_more" "with_one_more" (aJ eW) (aG eW) (ao eW) .none kV18 dc18 pm18 an18 cd18 ct18),sl18⟩)(c18:W.codeIn K cd18 "with_one_more" = true)(k18:W.keepIn K (.ref f18)=true)(a19:W.nsIn K mainGlobals "shows_of" = some (some (.ref f19)))(l19:K.lookup f19=some ⟨oc19,od19,.func (W.fnOf "shows_of" "shows_of" (aJ i5) (aG i5) (ao i5) .none kV19 dc19 pm19 an19 cd19 ct19),sl19⟩)(c19:W.codeIn K cd19 "shows_of" = true)(k19:W.keepIn K (.ref f19)=true)(a20:W.nsIn K mainGlobals "beyond_room" = some (some (.ref f20)))(l20:K.lookup f20=some ⟨oc20,od20,.func (W.fnOf "beyond_room" "beyond_room" (aJ gr) (aG gr) (ao gr) .none kV20 dc20 pm20 an20 cd20 ct20),sl20⟩)(c20:W.codeIn K cd20 "beyond_room" = true)(k20:W.keepIn K (.ref f20)=true)(a21:W.nsIn K mainGlobals "end_of" = some (some (.ref f21)))(l21:K.lookup f21=some ⟨oc21,od21,.func (W.fnOf "end_of" "end_of" (aJ i6) (aG i6) (ao i6) .none kV21 dc21 pm21 an21 cd21 ct21),sl21⟩)(c21:W.codeIn K cd21 "end_of" = true)(k21:W.keepIn K (.ref f21)=true)(a22:W.nsIn K mainGlobals "ends_of" = some (some (.ref f22)))(l22:K.lookup f22=some ⟨oc22,od22,.func (W.fnOf "ends_of" "ends_of" (aJ gs) (aG gs) (ao gs) .none kV22 dc22 pm22 an22 cd22 ct22),sl22⟩)(c22:W.codeIn K cd22 "ends_of" = true)(k22:W.keepIn K (.ref f22)=true)(a23:W.nsIn K mainGlobals "last_scale" = some (some (.ref f23)))(l23:K.lookup f23=some ⟨oc23,od23,.func (W.fnOf "last_scale" "last_scale" (aJ i7) (aG i7) (ao i7) .none kV23 dc23 pm23 an23 cd23 ct23),sl23⟩)(c23:W.codeIn K cd23 "last_scale" = true)(k23:W.keepIn K (.ref f23)=true)(a24:W.nsIn K mainGlobals "_law_nth" = some (some (.ref f24)))(l24:K.lookup f24=some ⟨oc24,od24,.func (W.fnOf "_law_nth" "_law_nth" (aJ i8) (aG i8) (ao i8) .none kV24 dc24 pm24 an24 cd24 ct24),sl24⟩)(c24:W.codeIn K cd24 "_law_nth" = true)(k24:W.keepIn K (.ref f24)=true)(a25:W.findIn K (.ref a_) "paper" = some (some (.ref f25)))(i25:W.isFn K (.ref f25)=true)(l25:K.lookup f25=some ⟨oc25,od25,.func (W.fnOf "paper" "Office.paper" (aJ i9) (aG i9) (ao i9) .none kV25 dc25 pm25 an25 cd25 ct25),sl25⟩)(c25:W.codeIn K cd25 "Office.paper" = true)(k25:W.keepIn K (.ref f25)=true)(a26:W.findIn K (.ref a_) "is_over" = some (some (.ref f26)))(i26:W.isFn K (.ref f26)=true)(l26:K.lookup f26=some ⟨oc26,od26,.func (W.fnOf "is_over" "Office.is_over" (aJ ia) (aG ia) (ao ia) .none kV26 dc26 pm26 an26 cd26 ct26),sl26⟩)(c26:W.codeIn K cd26 "Office.is_over" = true)(k26:W.keepIn K (.ref f26)=true)(a27:W.findIn K (.ref a_) "fare_of" = some (some (.ref f27)))(i27:W.isFn K (.ref f27)=true)(l27:K.lookup f27=some ⟨oc27,od27,.func (W.fnOf "fare_of" "Office.fare_of" (aJ ib) (aG ib) (ao ib) .none kV27 dc27 pm27 an27 cd27 ct27),sl27⟩)(c27:W.codeIn K cd27 "Office.fare_of" = true)(k27:W.keepIn K (.ref f27)=true)(a28:W.findIn K (.ref a_) "left" = some (some (.ref f28)))(i28:W.isFn K (.ref f28)=true)(l28:K.lookup f28=some ⟨oc28,od28,.func (W.fnOf "left" "Office.left" (aJ ic) (aG ic) (ao ic) .none kV28 dc28 pm28 an28 cd28 ct28),sl28⟩)(c28:W.codeIn K cd28 "Office.left" = true)(k28:W.keepIn K (.ref f28)=true)(a29:W.findIn K (.ref a_) "takes" = some (some (.ref f29)))(i29:W.isFn K (.ref f29)=true)(l29:K.lookup f29=some ⟨oc29,od29,.func (W.fnOf "takes" "Office.takes" (aJ ie) (aG ie) (ao ie) .none kV29 dc29 pm29 an29 cd29 ct29),sl29⟩)(c29:W.codeIn K cd29 "Office.takes" = true)(k29:W.keepIn K (.ref f29)=true)(a30:W.findIn K (.ref a_) "least" = some (some (.ref f30)))(i30:W.isFn K (.ref f30)=true)(l30:K.lookup f30=some ⟨oc30,od30,.func (W.fnOf "least" "Office.least" (aJ ig) (aG ig) (ao ig) .none kV30 dc30 pm30 an30 cd30 ct30),sl30⟩)(c30:W.codeIn K cd30 "Office.least" = true)(k30:W.keepIn K (.ref f30)=true)(a31:W.findIn K (.ref a_) "asked" = some (some (.ref f31)))(i31:W.isFn K (.ref f31)=true)(l31:K.lookup f31=some ⟨oc31,od31,.func (W.fnOf "asked" "Office.asked" (aJ ii) (aG ii) (ao ii) .none kV31 dc31 pm31 an31 cd31 ct31),sl31⟩)(c31:W.codeIn K cd31 "Office.asked" = true)(k31:W.keepIn K (.ref f31)=true)(a32:W.findIn K (.ref a_) "coins" = some (some (.ref f32)))(i32:W.isFn K (.ref f32)=true)(l32:K.lookup f32=some ⟨oc32,od32,.func (W.fnOf "coins" "Office.coins" (aJ ij) (aG ij) (ao ij) .none kV32 dc32 pm32 an32 cd32 ct32),sl32⟩)(c32:W.codeIn K cd32 "Office.coins" = true)(k32:W.keepIn K (.ref f32)=true)(a33:W.findIn K (.ref a_) "came" = some (some (.ref f33)))(i33:W.isFn K (.ref f33)=true)(l33:K.lookup f33=some ⟨oc33,od33,.func (W.fnOf "came" "Office.came" (aJ ik) (aG ik) (ao ik) .none kV33 dc33 pm33 an33 cd33 ct33),sl33⟩)(c33:W.codeIn K cd33 "Office.came" = true)(k33:W.keepIn K (.ref f33)=true)(a34:W.nsIn K mainGlobals "_law_call" = some (some (.ref f34)))(l34:K.lookup f34=some ⟨oc34,od34,.func (W.fnOf "_law_call" "_law_call" (aJ il) (aG il) (ao il) .none kV34 dc34 pm34 an34 cd34 ct34),sl34⟩)(c34:W.codeIn K cd34 "_law_call" = true)(k34:W.keepIn K (.ref f34)=true)(a35:W.nsIn K mainGlobals "_law_take" = some (some (.ref f35)))(l35:K.lookup f35=some ⟨oc35,od35,.func (W.fnOf "_law_take" "_law_take" (aJ im) (aG im) (ao im) .none kV35 dc35 pm35 an35 cd35 ct35),sl35⟩)(c35:W.codeIn K cd35 "_law_take" = true)(k35:W.keepIn K (.ref f35)=true)(a36:W.nsIn K mainGlobals "_law_drawn" = some (some (.ref f36)))(l36:K.lookup f36=some ⟨oc36,od36,.func (W.fnOf "_law_drawn" "_law_drawn" (aJ io) (aG io) (ao io) .none kV36 dc36 pm36 an36 cd36 ct36),sl36⟩)(c36:W.codeIn K cd36 "_law_drawn" = true)(k36:W.keepIn K (.ref f36)=true)(a37:W.nsIn K mainGlobals "_law_due" = some (some (.ref f37)))(l37:K.lookup f37=some ⟨oc37,od37,.func (W.fnOf "_law_due" "_law_due" (aJ ip) (aG ip) (ao ip) .none kV37 dc37 pm37 an37 cd37 ct37),sl37⟩)(c37:W.codeIn K cd37 "_law_due" = true)(k37:W.keepIn K (.ref f37)=true)(a38:W.nsIn K mainGlobals "_law_kinds" = some (some (.ref f38)))(l38:K.lookup f38=some ⟨oc38,od38,.func (W.fnOf "_law_kinds" "_law_kinds" (aJ iq) (aG iq) (ao iq) .none kV38 dc38 pm38 an38 cd38 ct38),sl38⟩)(c38:W.codeIn K cd38 "_law_kinds" = true)(k38:W.keepIn K (.ref f38)=true)(a39:W.nsIn K mainGlobals "_law_no_sale" = some (some (.ref f39)))(l39:K.lookup f39=some ⟨oc39,od39,.func (W.fnOf "_law_no_sale" "_law_no_sale" (aJ ir) (aG ir) (ao ir) .none kV39 dc39 pm39 an39 cd39 ct39),sl39⟩)(c39:W.codeIn K cd39 "_law_no_sale" = true)(k39:W.keepIn K (.ref f39)=true)(a40:W.findIn K (.ref a_) "__init__" = some (some (.ref f40)))(i40:W.isFn K (.ref f40)=true)(l40:K.lookup f40=some ⟨oc40,od40,.func (W.fnOf "__init__" "Office.__init__" (aJ iu) (aG iu) (ao iu) .none kV40 dc40 pm40 an40 cd40 ct40),sl40⟩)(c40:W.codeIn K cd40 "Office.__init__" = true)(k40:W.keepIn K (.ref f40)=true)(a41:W.nsIn K mainGlobals "_law_opened" = some (some (.ref f41)))(l41:K.lookup f41=some ⟨oc41,od41,.func (W.fnOf "_law_opened" "_law_opened" (aJ fK) (aG fK) (ao fK) .none kV41 dc41 pm41 an41 cd41 ct41),sl41⟩)(c41:W.codeIn K cd41 "_law_opened" = true)(k41:W.keepIn K (.ref f41)=true)(a42:W.nsIn K mainGlobals "_law_pool" = some (some (.ref f42)))(l42:K.lookup f42=some ⟨oc42,od42,.func (W.fnOf "_law_pool" "_law_pool" (aJ iw) (aG iw) (ao iw) .none kV42 dc42 pm42 an42 cd42 ct42),sl42⟩)(c42:W.codeIn K cd42 "_law_pool" = true)(k42:W.keepIn K (.ref f42)=true)(a43:W.nsIn K mainGlobals "_law_refused" = some (some (.ref f43)))(l43:K.lookup f43=some ⟨oc43,od43,.func (W.fnOf "_law_refused" "_law_refused" (aJ fL) (aG fL) (ao fL) .none kV43 dc43 pm43 an43 cd43 ct43),sl43⟩)(c43:W.codeIn K cd43 "_law_refused" = true)(k43:W.keepIn K (.ref f43)=true)(a44:W.nsIn K mainGlobals "_law_size" = some (some (.ref f44)))(l44:K.lookup f44=some ⟨oc44,od44,.func (W.fnOf "_law_size" "_law_size" (aJ iy) (aG iy) (ao iy) .none kV44 dc44 pm44 an44 cd44 ct44),sl44⟩)(c44:W.codeIn K cd44 "_law_size" = true)(k44:W.keepIn K (.ref f44)=true)(a45:W.nsIn K mainGlobals "_law_rule" = some (some (.ref f45)))(l45:K.lookup f45=some ⟨oc45,od45,.func (W.fnOf "_law_rule" "_law_rule" (aJ iz) (aG iz) (ao iz) .none kV45 dc45 pm45 an45 cd45 ct45),sl45⟩)(c45:W.codeIn K cd45 "_law_rule" = true)(k45:W.keepIn K (.ref f45)=true)(a46:W.nsIn K mainGlobals "_law_weights" = some (some (.ref f46)))(l46:K.lookup f46=some ⟨oc46,od46,.func (W.fnOf "_law_weights" "_law_weights" (aJ iA) (aG iA) (ao iA) .none kV46 dc46 pm46 an46 cd46 ct46),sl46⟩)(c46:W.codeIn K cd46 "_law_weights" = true)(k46:W.keepIn K (.ref f46)=true)(a47:W.nsIn K mainGlobals "_law_sale" = some (some (.ref f47)))(l47:K.lookup f47=some ⟨oc47,od47,.func (W.fnOf "_law_sale" "_law_sale" (aJ fM) (aG fM) (ao fM) .none kV47 dc47 pm47 an47 cd47 ct47),sl47⟩)(c47:W.codeIn K cd47 "_law_sale" = true)(k47:W.keepIn K (.ref f47)=true)(a48:W.nsIn K mainGlobals "_law_told" = some (some (.ref f48)))(l48:K.lookup f48=some ⟨oc48,od48,.func (W.fnOf "_law_told" "_law_told" (aJ iB) (aG iB) (ao iB) .none kV48 dc48 pm48 an48 cd48 ct48),sl48⟩)(c48:W.codeIn K cd48 "_law_told" = true)(k48:W.keepIn K (.ref f48)=true)(a49:W.findIn K (.ref a_) "turn" = some (some (.ref f49)))(i49:W.isFn K (.ref f49)=true)(l49:K.lookup f49=some ⟨oc49,od49,.func (W.fnOf "turn" "Office.turn" (aJ iC) (aG iC) (ao iC) .none kV49 dc49 pm49 an49 cd49 ct49),sl49⟩)(c49:W.codeIn K cd49 "Office.turn" = true)(k49:W.keepIn K (.ref f49)=true)(a50:W.nsIn K mainGlobals "_law_step" = some (some (.ref f50)))(l50:K.lookup f50=some ⟨oc50,od50,.func (W.fnOf "_law_step" "_law_step" (aJ fN) (aG fN) (ao fN) .none kV50 dc50 pm50 an50 cd50 ct50),sl50⟩)(c50:W.codeIn K cd50 "_law_step" = true)(k50:W.keepIn K (.ref f50)=true)(a51:W.nsIn K mainGlobals "law" = some (some (.ref f51)))(l51:K.lookup f51=some ⟨oc51,od51,.func (W.fnOf "law" "law" (aJ fO) (aG fO) (ao fO) .none kV51 dc51 pm51 an51 cd51 ct51),sl51⟩)(c51:W.codeIn K cd51 "law" = true)(k51:W.keepIn K (.ref f51)=true)(Mr:W.plainGet K a_ Str.empty=true)(Ms:W.hasDictIn K a_=true)(Mt:W.plainOver K a_=true)(Mu:W.findIn K (.ref a_) "__setattr__" = some (some (.builtin "object.__setattr__")))(A_:W.makesIn K a_=true)(Mv:W.keepIn K (.ref a_)=true)(y_:W.findIn K (.ref a_) "seats" = some none)(u_:W.findIn K (.ref a_) "fares" = some none)(v_:W.findIn K (.ref a_) "rule" = some none)(m_:W.findIn K (.ref a_) "scales" = some none)(t_:W.findIn K (.ref a_) "table" = some none)(h_:W.findIn K (.ref a_) "told" = some none)(l_:W.findIn K (.ref a_) "sold" = some none)(o_:W.findIn K (.ref a_) "paid" = some none)(p_:W.findIn K (.ref a_) "dues" = some none)(s_:W.findIn K (.ref a_) "latest" = some none)(xt:bT K=true)(Mw:W.nsIn K mainGlobals "ValueError" = some none)(Mx:W.nsIn K mainGlobals "all" = some none)(Mz:W.nsIn K mainGlobals "bool" = some none)(MA:W.nsIn K mainGlobals "enumerate" = some none)(MB:W.nsIn K mainGlobals "int" = some none)(MC:W.nsIn K mainGlobals "isinstance" = some none)(MD:W.nsIn K mainGlobals "len" = some none)(ME:W.nsIn K mainGlobals "list" = some none)(MF:W.nsIn K mainGlobals "max" = some none)(MG:W.nsIn K mainGlobals "min" = some none)(MH:W.nsIn K mainGlobals "range" = some none)(MI:W.nsIn K mainGlobals "reversed" = some none)(MJ:W.nsIn K mainGlobals "sum" = some none)(MK:W.nsIn K mainGlobals "zip" = some none)(ML:W.nsIn K mainGlobals "MOST_DUE" = some (some (.int 1000000 LB)))(MM:W.nsIn K mainGlobals "MOST_FARE" = some (some (.int 1000000 E_)))(MN:W.nsIn K mainGlobals "MOST_FARES" = some (some (.int 6 G_)))(MO:W.nsIn K mainGlobals "MOST_OF" = some (some (.int 1000 LD)))(MP:W.nsIn K mainGlobals "MOST_ROOM" = some (some (.int 10 LF)))(MQ:W.nsIn K mainGlobals "MOST_SEATS" = some (some (.int 10 Ls)))(MR:W.nsIn K mainGlobals "MOST_TURNS" = some (some (.int 8 K_)))(MT:W.nsIn K mainGlobals "MOST_WEIGHT" = some (some (.int 1000 I_))):
  ∃ fd:FuncData,(∀ (s:Shared) (v:Value),BindsTo s fd ⟨[v],[]⟩ [("script",v)])/\∀ base:Heap,K.In base->base.Ns mainGlobals mg->FnOk l.prog w K mg base CX0 9 fa fd ["script"] (ql K):=by
 have e:=hfa.symm.trans (W.mg_of X G a51)
 cases e
 have Mb:=W.mg_none_of X G Mw
 have j_:=W.mg_none_of X G Mx
 have D_:=W.mg_none_of X G Mz
 have LJ:=W.mg_none_of X G MA
 have ke:=W.mg_none_of X G MB
 have i_:=W.mg_none_of X G MC
 have d_:=W.mg_none_of X G MD
 have g_:=W.mg_none_of X G ME
 have kx:=W.mg_none_of X G MF
 have C_:=W.mg_none_of X G MG
 have e_:=W.mg_none_of X G MH
 have n_:=W.mg_none_of X G MI
 have ix:=W.mg_none_of X G MJ
 have px:=W.mg_none_of X G MK
 have LC:=W.mg_of X G ML
 have F_:=W.mg_of X G MM
 have H_:=W.mg_of X G MN
 have LE:=W.mg_of X G MO
 have LG:=W.mg_of X G MP
 have Lu:=W.mg_of X G MQ
 have L_:=W.mg_of X G MR
 have J_:=W.mg_of X G MT
 have c_:Cls K a_:=⟨Mr,Ms,Mt,Mu⟩
 refine⟨W.fnOf "law" "law" (aJ fO) (aG fO) (ao fO) .none kV51 dc51 pm51 an51 cd51 ct51,fun s v=>.of_eq rfl,fun base _ _=>?_⟩
 have fx:=JC (P:=l.prog) (w:=w) (base:=base) (aE (st:=gX) l1 c1 k1) (W.mg_of X G a1) D_ ke i_
 have r_:=JJ (P:=l.prog) (w:=w) (base:=base) (aE (st:=gY) l2 c2 k2) (W.mg_of X G a2) e_
 have Lv:=JM (P:=l.prog) (w:=w) (base:=base) (aE (st:=gj) l3 c3 k3) (W.mg_of X G a3) j_ d_ F_ H_ (fx.mono (k:=1))
 have pq:=JP (P:=l.prog) (w:=w) (base:=base) (aE (st:=gZ) l4 c4 k4) (W.mg_of X G a4) ix
 have Lr:=JR (P:=l.prog) (w:=w) (base:=base) (aE (st:=gk) l5 c5 k5) (W.mg_of X G a5) j_ d_ J_ (fx.mono (k:=1)) (pq.mono (k:=1))
 have Lw:=JV (P:=l.prog) (w:=w) (base:=base) (aE (st:=gm) l6 c6 k6) (W.mg_of X G a6) j_ d_ L_ (Lr.mono (k:=2))
 have Mc:=Ka (P:=l.prog) (w:=w) (base:=base) (aE (st:=hG) l7 c7 k7) (W.mg_of X G a7) d_ Lu (fx.mono (k:=3)) (Lv.mono (k:=3)) (Lw.mono (k:=3))
 have tp:=Kc (P:=l.prog) (w:=w) (base:=base) (aE (st:=hJ) l8 c8 k8) (W.mg_of X G a8) g_ n_ (pq.mono (k:=1))
 have Lx:=Ke (P:=l.prog) (w:=w) (base:=base) (aE (st:=gn) l9 c9 k9) (W.mg_of X G a9) ix px
 have q_:=Kg (P:=l.prog) (w:=w) (base:=base) (aE (st:=hU) l10 c10 k10) (W.mg_of X G a10)
 have Ly:=Ki (P:=l.prog) (w:=w) (base:=base) (aE (st:=hV) l11 c11 k11) (W.mg_of X G a11) kx (q_.mono (k:=1))
 have Lz:=Kk (P:=l.prog) (w:=w) (base:=base) (aE (st:=gp) l12 c12 k12) (W.mg_of X G a12) (Lx.mono (k:=2)) (Ly.mono (k:=2))
 have LA:=Km (P:=l.prog) (w:=w) (base:=base) (aE (st:=gq) l13 c13 k13) (W.mg_of X G a13) d_ e_ (Lz.mono (k:=3))
 have Md:=Ko (P:=l.prog) (w:=w) (base:=base) (aE (st:=hW) l14 c14 k14) (W.mg_of X G a14) d_ g_ e_ n_ (tp.mono (k:=4)) (LA.mono (k:=4))
 have LX:=Kr (P:=l.prog) (w:=w) (base:=base) (aE (st:=hZ) l15 c15 k15) (W.mg_of X G a15) (q_.mono (k:=1))
 have LZ:=Kt (P:=l.prog) (w:=w) (base:=base) (aE (st:=i3) l16 c16 k16) (W.mg_of X G a16)
 have Me:=Kv (P:=l.prog) (w:=w) (base:=base) (aE (st:=i4) l17 c17 k17) (W.mg_of X G a17) LC LE LG (fx.mono (k:=1))
 have LH:=Kx (P:=l.prog) (w:=w) (base:=base) (aE (st:=eW) l18 c18 k18) (W.mg_of X G a18) px
 have LK:=Kz (P:=l.prog) (w:=w) (base:=base) (aE (st:=i5) l19 c19 k19) (W.mg_of X G a19) e_ (LH.mono (k:=1))
 have LL:=KC (P:=l.prog) (w:=w) (base:=base) (aE (st:=gr) l20 c20 k20) (W.mg_of X G a20) LJ kx ix (LK.mono (k:=2))
 have LM:=KE (P:=l.prog) (w:=w) (base:=base) (aE (st:=i6) l21 c21 k21) (W.mg_of X G a21) (r_.mono (k:=3)) (LL.mono (k:=3))
 have Mf:=KG (P:=l.prog) (w:=w) (base:=base) (aE (st:=gs) l22 c22 k22) (W.mg_of X G a22) e_ (LM.mono (k:=4))
 have Mg:=KI (P:=l.prog) (w:=w) (base:=base) (aE (st:=i7) l23 c23 k23) (W.mg_of X G a23) (r_.mono (k:=1))
 have LS:=KM (P:=l.prog) (w:=w) (base:=base) (aE (st:=i8) l24 c24 k24) (W.mg_of X G a24)
 have LP:MetE l.prog w K mg base a_ "paper" 1 ["self"] (gR a_):=⟨_,_,KN (a_:=a_) (P:=l.prog) (w:=w) (base:=base) (aE (st:=i9) l25 c25 k25) xt c_ s_,⟨a25,i25,k25⟩,(aE (st:=i9) l25 c25 k25).binds (ps:=["self"]) fun _ _ _ _ _ _ us hl=>match us,hl with | [_],_=>rfl⟩
 have MU:=LP.quiet
 have z_:MetN l.prog w K mg base a_ "is_over" 1 ["self"] (gS a_):=⟨_,_,KP (a_:=a_) (P:=l.prog) (w:=w) (base:=base) (aE (st:=ia) l26 c26 k26) d_ c_ m_ h_,⟨a26,i26,k26⟩,(aE (st:=ia) l26 c26 k26).binds (ps:=["self"]) fun _ _ _ _ _ _ us hl=>match us,hl with | [_],_=>rfl⟩
 have LO:MetE l.prog w K mg base a_ "fare_of" 2 ["self","asker"] (gT a_):=⟨_,_,KQ (a_:=a_) (P:=l.prog) (w:=w) (base:=base) (aE (st:=ib) l27 c27 k27) d_ xt c_ u_ (fx.mono (k:=1)),⟨a27,i27,k27⟩,(aE (st:=ib) l27 c27 k27).binds (ps:=["self","asker"]) fun _ _ _ _ _ _ us hl=>match us,hl with | [_,_],_=>rfl⟩
 have MV:=LO.quiet
 have k_:MetN l.prog w K mg base a_ "left" 1 ["self"] (dm a_):=⟨_,_,KR (a_:=a_) (P:=l.prog) (w:=w) (base:=base) (aE (st:=ic) l28 c28 k28) c_ y_ l_,⟨a28,i28,k28⟩,(aE (st:=ic) l28 c28 k28).binds (ps:=["self"]) fun _ _ _ _ _ _ us hl=>match us,hl with | [_],_=>rfl⟩
 have M_:MetN l.prog w K mg base a_ "takes" 3 ["self","fare"] (jc a_):=⟨_,_,KU (a_:=a_) (P:=l.prog) (w:=w) (base:=base) (aE (st:=ie) l29 c29 k29) c_ m_ t_ h_ (LX.mono (k:=2)) (k_.mono (k:=2)),⟨a29,i29,k29⟩,(aE (st:=ie) l29 c29 k29).binds (ps:=["self","fare"]) fun _ _ _ _ _ _ us hl=>match us,hl with | [_,_],_=>rfl⟩
 have Ma:MetN l.prog w K mg base a_ "least" 2 ["self"] (kL a_):=⟨_,_,KW (a_:=a_) (P:=l.prog) (w:=w) (base:=base) (aE (st:=ig) l30 c30 k30) c_ m_ t_ h_ (LZ.mono (k:=1)) (k_.mono (k:=1)),⟨a30,i30,k30⟩,(aE (st:=ig) l30 c30 k30).binds (ps:=["self"]) fun _ _ _ _ _ _ us hl=>match us,hl with | [_],_=>rfl⟩
 have LQ:MetE l.prog w K mg base a_ "asked" 4 ["self","asker"] (fA a_):=⟨_,_,KY (a_:=a_) (P:=l.prog) (w:=w) (base:=base) (aE (st:=ii) l31 c31 k31) xt c_ s_ o_ l_ h_ (z_.mono (k:=3)) (LO.mono (k:=3)) (M_.mono (k:=3)) (k_.mono (k:=3)) (Ma.mono (k:=3)),⟨a31,i31,k31⟩,(aE (st:=ii) l31 c31 k31).binds (ps:=["self","asker"]) fun _ _ _ _ _ _ us hl=>match us,hl with | [_,_],_=>rfl⟩
 have MW:=LQ.quiet
 have tx:MetN l.prog w K mg base a_ "coins" 1 ["self"] (dX a_):=⟨_,_,KZ (a_:=a_) (P:=l.prog) (w:=w) (base:=base) (aE (st:=ij) l32 c32 k32) c_ p_ o_,⟨a32,i32,k32⟩,(aE (st:=ij) l32 c32 k32).binds (ps:=["self"]) fun _ _ _ _ _ _ us hl=>match us,hl with | [_],_=>rfl⟩
 have LR:MetE l.prog w K mg base a_ "came" 2 ["self","number"] (fB a_):=⟨_,_,L5 (a_:=a_) (P:=l.prog) (w:=w) (base:=base) (aE (st:=ik) l33 c33 k33) kx xt c_ p_ v_ l_ (fx.mono (k:=1)) (tx.mono (k:=1)) (z_.mono (k:=1)),⟨a33,i33,k33⟩,(aE (st:=ik) l33 c33 k33).binds (ps:=["self","number"]) fun _ _ _ _ _ _ us hl=>match us,hl with | [_,_],_=>rfl⟩
 have MX:=LR.quiet
 have LU:DefE l.prog w K mg base "_law_call" 5 ["office","word","thing"] (eE a_):=⟨_,_,L9 (a_:=a_) (P:=l.prog) (w:=w) (base:=base) (aE (st:=il) l34 c34 k34) c_ (LP.mono (k:=4)) (LQ.mono (k:=4)) (LR.mono (k:=4)),W.mg_of X G a34,k34,(aE (st:=il) l34 c34 k34).binds (ps:=["office","word","thing"]) fun _ _ _ _ _ _ us hl=>match us,hl with | [_,_,_],_=>rfl⟩
 have MY:=LU.quiet
 have f_:DefN l.prog w K mg base "_law_take" 1 ["pool","many"] (bp a_):=⟨_,_,La (a_:=a_) (P:=l.prog) (w:=w) (base:=base) (aE (st:=im) l35 c35 k35) , W.mg_of X G a35,k35,(aE (st:=im) l35 c35 k35).binds (ps:=["pool","many"]) fun _ _ _ _ _ _ us hl=>match us,hl with | [_,_],_=>rfl⟩
 have Mm:DefN l.prog w K mg base "_law_drawn" 2 ["pool","sale","state"] (jf a_):=⟨_,_,Lb (a_:=a_) (P:=l.prog) (w:=w) (base:=base) (aE (st:=io) l36 c36 k36) d_ g_ e_ (f_.mono (k:=1)),W.mg_of X G a36,k36,(aE (st:=io) l36 c36 k36).binds (ps:=["pool","sale","state"]) fun _ _ _ _ _ _ us hl=>match us,hl with | [_,_,_],_=>rfl⟩
 have Mj:DefN l.prog w K mg base "_law_due" 1 ["sale","state","word","thing"] (dE a_):=⟨_,_,Lc (a_:=a_) (P:=l.prog) (w:=w) (base:=base) (aE (st:=ip) l37 c37 k37) ke d_,W.mg_of X G a37,k37,(aE (st:=ip) l37 c37 k37).binds (ps:=["sale","state","word","thing"]) fun _ _ _ _ _ _ us hl=>match us,hl with | [_,_,_,_],_=>rfl⟩
 have B_:DefN l.prog w K mg base "_law_kinds" 1 ["e"] (gU a_):=⟨_,_,Ld (a_:=a_) (P:=l.prog) (w:=w) (base:=base) (aE (st:=iq) l38 c38 k38) Mb i_ xt,W.mg_of X G a38,k38,(aE (st:=iq) l38 c38 k38).binds (ps:=["e"]) fun _ _ _ _ _ _ us hl=>match us,hl with | [_],_=>rfl⟩
 have Mp:DefN l.prog w K mg base "_law_no_sale" 2 ["pool","sale"] (jh a_):=⟨_,_,Le (a_:=a_) (P:=l.prog) (w:=w) (base:=base) (aE (st:=ir) l39 c39 k39) d_ (f_.mono (k:=1)),W.mg_of X G a39,k39,(aE (st:=ir) l39 c39 k39).binds (ps:=["pool","sale"]) fun _ _ _ _ _ _ us hl=>match us,hl with | [_,_],_=>rfl⟩
 have LT:MakE l.prog w K mg base "Office" a_ 6 ["self","seats","fares","turns","rule"] (fD a_):=⟨_,_,Lf (a_:=a_) (P:=l.prog) (w:=w) (base:=base) (aE (st:=iu) l40 c40 k40) g_ xt c_ p_ u_ s_ o_ v_ m_ y_ l_ t_ h_ (Mc.mono (k:=5)) (tp.mono (k:=5)) (Md.mono (k:=5)) (Me.mono (k:=5)) (Mf.mono (k:=5)) (Mg.mono (k:=5)),⟨A_,a40,i40,Mv⟩,W.mg_of X G Mq,(aE (st:=iu) l40 c40 k40).binds (ps:=["self","seats","fares","turns","rule"]) fun _ _ _ _ _ _ us hl=>match us,hl with | [_,_,_,_,_],_=>rfl⟩
 have A_:=LT.quiet
 have LW:DefN l.prog w K mg base "_law_opened" 8 ["sale"] (ji a_):=⟨_,_,Lg (a_:=a_) (P:=l.prog) (w:=w) (base:=base) (aE (st:=fK) l41 c41 k41) g_ (A_.mono (k:=6)),W.mg_of X G a41,k41,(aE (st:=fK) l41 c41 k41).binds (ps:=["sale"]) fun _ _ _ _ _ _ us hl=>match us,hl with | [_],_=>rfl⟩
 have x_:DefN l.prog w K mg base "_law_pool" 2 ["script","k"] (gf a_):=⟨_,_,Lh (a_:=a_) (P:=l.prog) (w:=w) (base:=base) (aE (st:=iw) l42 c42 k42) (LS.mono (k:=1)),W.mg_of X G a42,k42,(aE (st:=iw) l42 c42 k42).binds (ps:=["script","k"]) fun _ _ _ _ _ _ us hl=>match us,hl with | [_,_],_=>rfl⟩
 have Mo:DefN l.prog w K mg base "_law_refused" 8 ["sale"] (jj a_):=⟨_,_,Li (a_:=a_) (P:=l.prog) (w:=w) (base:=base) (aE (st:=fL) l43 c43 k43) g_ e_ xt (LT.mono (k:=6)) (B_.mono (k:=7)),W.mg_of X G a43,k43,(aE (st:=fL) l43 c43 k43).binds (ps:=["sale"]) fun _ _ _ _ _ _ us hl=>match us,hl with | [_],_=>rfl⟩
 have w_:DefN l.prog w K mg base "_law_size" 2 ["pool","most"] (gg a_):=⟨_,_,Lj (a_:=a_) (P:=l.prog) (w:=w) (base:=base) (aE (st:=iy) l44 c44 k44) C_ (f_.mono (k:=1)),W.mg_of X G a44,k44,(aE (st:=iy) l44 c44 k44).binds (ps:=["pool","most"]) fun _ _ _ _ _ _ us hl=>match us,hl with | [_,_],_=>rfl⟩
 have Mh:DefN l.prog w K mg base "_law_rule" 3 ["pool"] (kN a_):=⟨_,_,Lk (a_:=a_) (P:=l.prog) (w:=w) (base:=base) (aE (st:=iz) l45 c45 k45) (w_.mono (k:=2)) (f_.mono (k:=2)),W.mg_of X G a45,k45,(aE (st:=iz) l45 c45 k45).binds (ps:=["pool"]) fun _ _ _ _ _ _ us hl=>match us,hl with | [_],_=>rfl⟩
 have Mi:DefN l.prog w K mg base "_law_weights" 2 ["pool","many"] (kO a_):=⟨_,_,Ll (a_:=a_) (P:=l.prog) (w:=w) (base:=base) (aE (st:=iA) l46 c46 k46) e_ ix (f_.mono (k:=1)),W.mg_of X G a46,k46,(aE (st:=iA) l46 c46 k46).binds (ps:=["pool","many"]) fun _ _ _ _ _ _ us hl=>match us,hl with | [_,_],_=>rfl⟩
 have Ml:DefN l.prog w K mg base "_law_sale" 4 ["script","k"] (kP a_):=⟨_,_,Lm (a_:=a_) (P:=l.prog) (w:=w) (base:=base) (aE (st:=fM) l47 c47 k47) d_ e_ (x_.mono (k:=3)) (f_.mono (k:=3)) (Mh.mono (k:=3)) (w_.mono (k:=3)) (Mi.mono (k:=3)),W.mg_of X G a47,k47,(aE (st:=fM) l47 c47 k47).binds (ps:=["script","k"]) fun _ _ _ _ _ _ us hl=>match us,hl with | [_,_],_=>rfl⟩
 have LV:DefN l.prog w K mg base "_law_told" 6 ["office","word","thing"] (jk a_):=⟨_,_,Ln (a_:=a_) (P:=l.prog) (w:=w) (base:=base) (aE (st:=iB) l48 c48 k48) xt (LU.mono (k:=5)) (B_.mono (k:=5)),W.mg_of X G a48,k48,(aE (st:=iB) l48 c48 k48).binds (ps:=["office","word","thing"]) fun _ _ _ _ _ _ us hl=>match us,hl with | [_,_,_],_=>rfl⟩
 have LN:MetN l.prog w K mg base a_ "turn" 1 ["self"] (gh a_):=⟨_,_,Lo (a_:=a_) (P:=l.prog) (w:=w) (base:=base) (aE (st:=iC) l49 c49 k49) c_ h_,⟨a49,i49,k49⟩,(aE (st:=iC) l49 c49 k49).binds (ps:=["self"]) fun _ _ _ _ _ _ us hl=>match us,hl with | [_],_=>rfl⟩
 have Mn:DefN l.prog w K mg base "_law_step" 7 ["sale","state","word","thing"] (fE a_):=⟨_,_,Lp (a_:=a_) (P:=l.prog) (w:=w) (base:=base) (aE (st:=fN) l50 c50 k50) ke c_ (Mj.mono (k:=6)) (LV.mono (k:=6)) (LN.mono (k:=6)) (k_.mono (k:=6)) (tx.mono (k:=6)),W.mg_of X G a50,k50,(aE (st:=fN) l50 c50 k50).binds (ps:=["sale","state","word","thing"]) fun _ _ _ _ _ _ us hl=>match us,hl with | [_,_,_,_],_=>rfl⟩
 have T:=Lq (a_:=a_) (P:=l.prog) (w:=w) (base:=base) (aE (st:=fO) l51 c51 k51) d_ C_ e_ (Ml.mono (k:=8)) (LW.mono (k:=8)) (x_.mono (k:=8)) (Mm.mono (k:=8)) (Mn.mono (k:=8)) (f_.mono (k:=8)) (Mo.mono (k:=8)) (Mp.mono (k:=8))
 exact T.imp fun vs H Q E h=>h a_
theorem walk{l:W.OpenLaw}{q:Program}{loose:List Str}{XP:(Str->Option Value)->Heap->Prop}{YP:World->Heap->Prop}{d:DefRec}{K:Params->W.Frag}(hn:l.most=some 63)(hdf:d.params.defaults=[])(hY:∀ (w:World) (h:Heap),YP w h->(K w.params).In h)(Fm:∀ (w:World) (mg:Str->Option Value) (fa:Addr) (h:Heap),(K w.params).In h->h.Ns mainGlobals mg->mg d.name=some (.ref fa) ->
   ∃ fd:FuncData,(∀ (s:Shared) (u:Value),BindsTo s fd ⟨[u],[]⟩ [("script",u)])/\∀ base:Heap,(K w.params).In base->base.Ns mainGlobals mg->FnOk l.prog w (K w.params) mg base CX0 9 fa fd ["script"] (ql (K w.params))):
  W.WalkO q loose XP YP l.row.toRowW d [] (fun f vs=>PySem.call f vs) :=
 L2.walk_of (n:=63) (k:=9) (x:="script") (CX:=fun _=>CX0) (sp:=fun w=>ql (K w.params)) hn (by decide) hdf ⟨rfl,by decide,by decide⟩ hY Fm (fun _ _ a ns hl _ hS a_=>Fg hS (Jy ns hl a_)) fun _ _ _ _ _ z=>z
end My
end VL
namespace PySem.W.Fast
def tw2195876730486014470:=0
def tw6682995320268087659:=0
def tw1314562323106064783:=0
def tw11489625126606897245:=0
def tw16507293218831524582:=0
def tw7049129476964630189:=0
def tw5320215981898090678:=0
def tw14609673897382772123:=0
def tw5094773557474670122:=0
def tw15702212724737153218:=0
def tw1719500082832960758:=0
def tw7407799383086662931:=0
def tw10204093803657434121:=0
def tw10984846714027723761:=0
def tw17009251044278774080:=0
def tw17587654315367244465:=0
def tw2593296263162730896:=0
def tw15253303602617506720:=0
def tw1673779135662356161:=0
def tw524729610634087992:=0
def tw11486633574780684813:=0
def tw16383750592114819506:=0
def tw13527010669002707664:=0
def tw15474054060153180592:=0
def tw18022814243313004401:=0
def tw15695567147710721525:=0
def tw11132153575565885943:=0
def tw13942971731242929597:=0
def tw7821462703407895209:=0
def tw15102073691554380388:=0
def tw3344380935078914815:=0
def tw7251182788590091746:=0
def tw15644003049296407703:=0
def tw7208526356334032720:=0
def tw13783423951936276185:=0
def tw2088276892960651447:=0
def tw3434931344498609123:=0
def tw9806095789361723123:=0
def tw7484444369806638517:=0
def tw14700340738170017630:=0
def tw352226490751043828:=0
def tw12856026729381416332:=0
def tw1908875230253948674:=0
def tw17795472003727470942:=0
def tw10941627541833888472:=0
def tw14351202357285343135:=0
def tw2195925043544505786:=0
def tw1946580915308828113:=0
def tw8449344521260560673:=0
def tw8568556372400367105:=0
def tw3184644687746526903:=0
def tw12617088946484494701:=0
def tw13171308133740502457:=0
def tw3170532061970598903:=0
def tw16384082343738579222:=0
def tw6077435076232580072:=0
def tw5572938945703048100:=0
def tw133347597945161276:=0
def tw3246288324926973186:=0
def tw8378382981976052717:=0
def tw17749431838575218824:=0
def tw12453678491240077128:=0
def tw1374164493993268788:=0
def tw6870640949172157656:=0
def tw16191603848359268546:=0
def tw18298639313647959496:=0
def tw2836807392293978969:=0
def tw5637726651020151807:=0
def tw9117169986794850358:=0
def tw14824907576682934594:=0
def tw17336208248584204591:=0
def tw8654615969117846255:=0
def tw6249914169408399801:=0
def tw6987081195362096944:=0
def tw3986737348647584401:=0
def tw9586637756716061263:=0
def tw4741611786454528642:=0
def tw8563810817291154299:=0
def tw7916099211399345813:=0
def tw15480338064611586270:=0
def tw6319844832242160911:=0
end PySem.W.Fast
open PySem PySem.W PyProof.Rows
theorem PySem.Challenge.cw_latefare_k40_refused_in_order_holds : PySem.Challenge.rw_latefare_k40_refused_in_order.Holds := by
 w_on;o_law;k_head;(case hw=>w_witness2)
 k_fill
 refine VL.My.walk (l:=PySem.Challenge.rw_latefare_k40_refused_in_order) rfl rfl (fun w h Y=>PySem.W.kIn_of Y) ?F
 case F =>
  intro w mg fa h KX G hmg
  refine' VL.My.all_mk KX G hmg ?Mq ?a1 ?l1 ?c1 ?k1 ?a2 ?l2 ?c2 ?k2 ?a3 ?l3 ?c3 ?k3 ?a4 ?l4 ?c4 ?k4 ?a5 ?l5 ?c5 ?k5 ?a6 ?l6 ?c6 ?k6 ?a7 ?l7 ?c7 ?k7 ?a8 ?l8 ?c8 ?k8 ?a9 ?l9 ?c9 ?k9 ?a10 ?l10 ?c10 ?k10 ?a11 ?l11 ?c11 ?k11 ?a12 ?l12 ?c12 ?k12 ?a13 ?l13 ?c13 ?k13 ?a14 ?l14 ?c14 ?k14 ?a15 ?l15 ?c15 ?k15 ?a16 ?l16 ?c16 ?k16 ?a17 ?l17 ?c17 ?k17 ?a18 ?l18 ?c18 ?k18 ?a19 ?l19 ?c19 ?k19 ?a20 ?l20 ?c20 ?k20 ?a21 ?l21 ?c21 ?k21 ?a22 ?l22 ?c22 ?k22 ?a23 ?l23 ?c23 ?k23 ?a24 ?l24 ?c24 ?k24 ?a25 ?i25 ?l25 ?c25 ?k25 ?a26 ?i26 ?l26 ?c26 ?k26 ?a27 ?i27 ?l27 ?c27 ?k27 ?a28 ?i28 ?l28 ?c28 ?k28 ?a29 ?i29 ?l29 ?c29 ?k29 ?a30 ?i30 ?l30 ?c30 ?k30 ?a31 ?i31 ?l31 ?c31 ?k31 ?a32 ?i32 ?l32 ?c32 ?k32 ?a33 ?i33 ?l33 ?c33 ?k33 ?a34 ?l34 ?c34 ?k34 ?a35 ?l35 ?c35 ?k35 ?a36 ?l36 ?c36 ?k36 ?a37 ?l37 ?c37 ?k37 ?a38 ?l38 ?c38 ?k38 ?a39 ?l39 ?c39 ?k39 ?a40 ?i40 ?l40 ?c40 ?k40 ?a41 ?l41 ?c41 ?k41 ?a42 ?l42 ?c42 ?k42 ?a43 ?l43 ?c43 ?k43 ?a44 ?l44 ?c44 ?k44 ?a45 ?l45 ?c45 ?k45 ?a46 ?l46 ?c46 ?k46 ?a47 ?l47 ?c47 ?k47 ?a48 ?l48 ?c48 ?k48 ?a49 ?i49 ?l49 ?c49 ?k49 ?a50 ?l50 ?c50 ?k50 ?a51 ?l51 ?c51 ?k51 ?Mr ?Ms ?Mt ?Mu ?A_ ?Mv ?y_ ?u_ ?v_ ?m_ ?t_ ?h_ ?l_ ?o_ ?p_ ?s_ ?xt ?Mw ?Mx ?Mz ?MA ?MB ?MC ?MD ?ME ?MF ?MG ?MH ?MI ?MJ ?MK ?ML ?MM ?MN ?MO ?MP ?MQ ?MR ?MT
  (case Mq=>k_is);(case a1=>k_is);(case l1=>k_is);(case c1=>k_is);(case k1=>k_is);(case a2=>k_is)
  (case l2=>k_is);(case c2=>k_is);(case k2=>k_is);(case a3=>k_is);(case l3=>k_is);(case c3=>k_is)
  (case k3=>k_is);(case a4=>k_is);(case l4=>k_is);(case c4=>k_is);(case k4=>k_is);(case a5=>k_is)
  (case l5=>k_is);(case c5=>k_is);(case k5=>k_is);(case a6=>k_is);(case l6=>k_is);(case c6=>k_is)
  (case k6=>k_is);(case a7=>k_is);(case l7=>k_is);(case c7=>k_is);(case k7=>k_is);(case a8=>k_is)
  (case l8=>k_is);(case c8=>k_is);(case k8=>k_is);(case a9=>k_is);(case l9=>k_is);(case c9=>k_is)
  (case k9=>k_is);(case a10=>k_is);(case l10=>k_is);(case c10=>k_is);(case k10=>k_is);(case a11=>k_is)
  (case l11=>k_is);(case c11=>k_is);(case k11=>k_is);(case a12=>k_is);(case l12=>k_is);(case c12=>k_is)
  (case k12=>k_is);(case a13=>k_is);(case l13=>k_is);(case c13=>k_is);(case k13=>k_is);(case a14=>k_is)
  (case l14=>k_is);(case c14=>k_is);(case k14=>k_is);(case a15=>k_is);(case l15=>k_is);(case c15=>k_is)
  (case k15=>k_is);(case a16=>k_is);(case l16=>k_is);(case c16=>k_is);(case k16=>k_is);(case a17=>k_is)
  (case l17=>k_is);(case c17=>k_is);(case k17=>k_is);(case a18=>k_is);(case l18=>k_is);(case c18=>k_is)
  (case k18=>k_is);(case a19=>k_is);(case l19=>k_is);(case c19=>k_is);(case k19=>k_is);(case a20=>k_is)
  (case l20=>k_is);(case c20=>k_is);(case k20=>k_is);(case a21=>k_is);(case l21=>k_is);(case c21=>k_is)
  (case k21=>k_is);(case a22=>k_is);(case l22=>k_is);(case c22=>k_is);(case k22=>k_is);(case a23=>k_is)
  (case l23=>k_is);(case c23=>k_is);(case k23=>k_is);(case a24=>k_is);(case l24=>k_is);(case c24=>k_is)
  (case k24=>k_is);(case a25=>k_is);(case i25=>k_is);(case l25=>k_is);(case c25=>k_is);(case k25=>k_is)
  (case a26=>k_is);(case i26=>k_is);(case l26=>k_is);(case c26=>k_is);(case k26=>k_is);(case a27=>k_is)
  (case i27=>k_is);(case l27=>k_is);(case c27=>k_is);(case k27=>k_is);(case a28=>k_is);(case i28=>k_is)
  (case l28=>k_is);(case c28=>k_is);(case k28=>k_is);(case a29=>k_is);(case i29=>k_is);(case l29=>k_is)
  (case c29=>k_is);(case k29=>k_is);(case a30=>k_is);(case i30=>k_is);(case l30=>k_is);(case c30=>k_is)
  (case k30=>k_is);(case a31=>k_is);(case i31=>k_is);(case l31=>k_is);(case c31=>k_is);(case k31=>k_is)
  (case a32=>k_is);(case i32=>k_is);(case l32=>k_is);(case c32=>k_is);(case k32=>k_is);(case a33=>k_is)
  (case i33=>k_is);(case l33=>k_is);(case c33=>k_is);(case k33=>k_is);(case a34=>k_is);(case l34=>k_is)
  (case c34=>k_is);(case k34=>k_is);(case a35=>k_is);(case l35=>k_is);(case c35=>k_is);(case k35=>k_is)
  (case a36=>k_is);(case l36=>k_is);(case c36=>k_is);(case k36=>k_is);(case a37=>k_is);(case l37=>k_is)
  (case c37=>k_is);(case k37=>k_is);(case a38=>k_is);(case l38=>k_is);(case c38=>k_is);(case k38=>k_is)
  (case a39=>k_is);(case l39=>k_is);(case c39=>k_is);(case k39=>k_is);(case a40=>k_is);(case i40=>k_is)
  (case l40=>k_is);(case c40=>k_is);(case k40=>k_is);(case a41=>k_is);(case l41=>k_is);(case c41=>k_is)
  (case k41=>k_is);(case a42=>k_is);(case l42=>k_is);(case c42=>k_is);(case k42=>k_is);(case a43=>k_is)
  (case l43=>k_is);(case c43=>k_is);(case k43=>k_is);(case a44=>k_is);(case l44=>k_is);(case c44=>k_is)
  (case k44=>k_is);(case a45=>k_is);(case l45=>k_is);(case c45=>k_is);(case k45=>k_is);(case a46=>k_is)
  (case l46=>k_is);(case c46=>k_is);(case k46=>k_is);(case a47=>k_is);(case l47=>k_is);(case c47=>k_is)
  (case k47=>k_is);(case a48=>k_is);(case l48=>k_is);(case c48=>k_is);(case k48=>k_is);(case a49=>k_is)
  (case i49=>k_is);(case l49=>k_is);(case c49=>k_is);(case k49=>k_is);(case a50=>k_is);(case l50=>k_is)
  (case c50=>k_is);(case k50=>k_is);(case a51=>k_is);(case l51=>k_is);(case c51=>k_is);(case k51=>k_is)
  (case Mr=>k_is);(case Ms=>k_is);(case Mt=>k_is);(case Mu=>k_is);(case A_=>k_is);(case Mv=>k_is)
  (case y_=>k_is);(case u_=>k_is);(case v_=>k_is);(case m_=>k_is);(case t_=>k_is);(case h_=>k_is)
  (case l_=>k_is);(case o_=>k_is);(case p_=>k_is);(case s_=>k_is);(case xt=>kernel_rfl);(case Mw=>k_is)
  (case Mx=>k_is);(case Mz=>k_is);(case MA=>k_is);(case MB=>k_is);(case MC=>k_is);(case MD=>k_is)
  (case ME=>k_is);(case MF=>k_is);(case MG=>k_is);(case MH=>k_is);(case MI=>k_is);(case MJ=>k_is)
  (case MK=>k_is);(case ML=>k_is);(case MM=>k_is);(case MN=>k_is);(case MO=>k_is);(case MP=>k_is)
  (case MQ=>k_is);(case MR=>k_is);(case MT=>k_is)
