import PyProof.Rows.All
import Wide.All
import OpenK.AllK
import Wide.FinOn
import Lean
import PyProof.EqAt
import PyProof.EqKinds
import PyProof.TupleCall
import PySem.Challenge.RW_latefare_k42_papers
set_option Elab.async false
set_option linter.all false
set_option maxRecDepth 100000
set_option maxHeartbeats 8000000
namespace L2
open PySem PySem.Spec PyProof.Rows
abbrev Key:=Sum Int Str
def gL:Key->Value->Bool
  | .inl k,v=>Value.isInt k v
  | .inr x,v=>Value.isStrOf x v
def vB(w:World):Key->Int
  | .inl k=>hashInt k
  | .inr x=>hashStr w x
theorem dP:∀ {k:Key} {v:Value},gL k v=true->(∃ i t,k=Sum.inl i/\v=Value.int i t)\/(∃ x t,k=Sum.inr x/\v=Value.str x t)
  | .inl i,v,h=>by
    obtain⟨t,e⟩:=Value.isInt_shape (k:=i) (v:=v) h
    exact .inl ⟨i,t,rfl,e⟩
  | .inr x,v,h=>by
    obtain⟨t,e⟩:=Value.isStrOf_shape (x:=x) (v:=v) h
    exact .inr ⟨x,t,rfl,e⟩
theorem vC(i:Int)(t:Tok):gL (.inl i) (.int i t)=true:=by simp[gL,Value.isInt]
theorem vD(x:Str)(t:Tok):gL (.inr x) (.str x t)=true:=by simp[gL,Value.isStrOf]
theorem vE(a b:Int):decide ((Sum.inl a:Key)=Sum.inl b)=(a == b):=by
  by_cases e:a=b
  · subst e;simp
  · have h:¬ (Sum.inl a:Key)=Sum.inl b:=fun q=>e (Sum.inl.inj q)
    rw[decide_eq_false h]
    exact (beq_eq_false_iff_ne.mpr e).symm
theorem vF(a b:Str):decide ((Sum.inr a:Key)=Sum.inr b)=decide (a=b):=by
  by_cases e:a=b
  · subst e;simp
  · have h:¬ (Sum.inr a:Key)=Sum.inr b:=fun q=>e (Sum.inr.inj q)
    rw[decide_eq_false h,decide_eq_false e]
theorem vG(a:Int)(b:Str):decide ((Sum.inl a:Key)=Sum.inr b)=false:=decide_eq_false (fun q=>nomatch q)
theorem vH(a:Str)(b:Int):decide ((Sum.inr a:Key)=Sum.inl b)=false:=decide_eq_false (fun q=>nomatch q)
def cj(prog:Program)(w:World):PySem.KeyKind prog w Key where
  is:=gL
  hash:=vB w
  inj := fun v a b ha hb=>by
    rcases dP ha with⟨i,t,rfl,rfl⟩ | ⟨x,t,rfl,rfl⟩
    · rcases dP hb with⟨j,u,rfl,e⟩ | ⟨y,u,rfl,e⟩
      · injection e with e1 _;rw[e1]
      · exact nomatch e
    · rcases dP hb with⟨j,u,rfl,e⟩ | ⟨y,u,rfl,e⟩
      · exact nomatch e
      · injection e with e1 _;rw[e1]
  byValue:=fun k v h=>by
    rcases dP h with⟨i,t,rfl,rfl⟩ | ⟨x,t,rfl,rfl⟩ <;> rfl
  pyHash:=fun hv h=>by
    rcases dP hv with⟨i,t,rfl,rfl⟩ | ⟨x,t,rfl,rfl⟩
    · exact wpAny_pyHash_int h
    · exact wpAny_pyHash_str h
  eqBool:=fun hu hv h=>by
    rcases dP hu with⟨i,t,rfl,rfl⟩ | ⟨x,t,rfl,rfl⟩
    · rcases dP hv with⟨j,u,rfl,rfl⟩ | ⟨y,u,rfl,rfl⟩
      · rw[vE] at h;exact wpAny_eqBool_int h
      · rw[vG] at h;exact SeqAt.EqAt.int_str i t y u _ _ _ _ h
    · rcases dP hv with⟨j,u,rfl,rfl⟩ | ⟨y,u,rfl,rfl⟩
      · rw[vH] at h;exact SeqAt.EqAt.str_int x t j u _ _ _ _ h
      · rw[vF] at h;exact wpAny_eqBool_str h
  «strs» := fun k x t v h=>by
    rcases dP h with⟨i,u,rfl,e⟩ | ⟨y,u,rfl,e⟩
    · exact nomatch e
    · injection e with e1 _
      subst e1
      cases v <;> rfl
theorem vI(prog:Program)(w:World)(i:Int)(t:Tok):(cj prog w).is (.inl i) (.int i t)=true:=vC i t
theorem vJ(prog:Program)(w:World)(x:Str)(t:Tok):(cj prog w).is (.inr x) (.str x t)=true:=vD x t
end L2
namespace L2
open PySem PySem.Spec PyProof.Rows
inductive V where
  | non | bl (b:Bool) | int (i:Int) | str (x:Str) | byt (b:Array UInt8) | flt (b:UInt64) | ref (a:Addr) | ty (n:String)
  deriving DecidableEq
def RelV:V->Value->Prop
  | .non,u=>u=Value.none
  | .bl b,u=>u=Value.bool b
  | .int i,u=>∃ t,u=Value.int i t
  | .str x,u=>∃ t,u=Value.str x t
  | .byt b,u=>∃ t,u=Value.bytes b t
  | .flt b,u=>∃ t,u=Value.float b t
  | .ref a,u=>u=Value.ref a
  | .ty n,u=>u=Value.type n
abbrev Vals:List V->List Value->Prop:=Paired RelV
theorem Vals.length{xs:List V}{us:List Value}(r:Vals xs us):xs.length=us.length:=Paired.length r
theorem Vals.get:∀ {xs:List V} {us:List Value} {i:Nat} {x:V},Vals xs us->xs[i]?=some x->∃ u,us[i]?=some u/\RelV x u
  | _,_,_,_,.nil,e=>by simp at e
  | _,_,0,_,.cons r _,e=>by simp at e;subst e;exact⟨_,rfl,r⟩
  | _,_,i+1,x,.cons _ t,e=>by
    obtain⟨u,h1,h2⟩:=Vals.get (i:=i) (x:=x) t (by simpa using e)
    exact⟨u,by simpa using h1,h2⟩
theorem Vals.set{x:V}{u:Value}(r:RelV x u):∀ {xs:List V} {us:List Value} (i:Nat),Vals xs us->Vals (xs.set i x) (us.set i u)
  | _,_,_,.nil=>.nil
  | _,_,0,.cons _ t=>.cons r t
  | _,_,i+1,.cons q t=>.cons q (Vals.set r i t)
theorem Vals.append:∀ {xs ys:List V} {us ws:List Value},Vals xs us->Vals ys ws->Vals (xs++ys) (us++ws)
  | _,_,_,_,.nil,s=>s
  | _,_,_,_,.cons r t,s=>.cons r (Vals.append t s)
theorem Vals.take:∀ {xs:List V} {us:List Value} (n:Nat),Vals xs us->Vals (xs.take n) (us.take n)
  | _,_,0,_=>.nil
  | _,_,_+1,.nil=>.nil
  | _,_,n+1,.cons r t=>.cons r (Vals.take n t)
theorem Vals.drop:∀ {xs:List V} {us:List Value} (n:Nat),Vals xs us->Vals (xs.drop n) (us.drop n)
  | _,_,0,r=>r
  | _,_,_+1,.nil=>.nil
  | _,_,n+1,.cons _ t=>Vals.drop n t
theorem Vals.none_of:∀ {xs:List V} {us:List Value} {i:Nat},Vals xs us->xs[i]?=none->us[i]?=none:=fun {xs us i} r e=>by
  have h1:=r.length
  have h2:xs.length<=i:=List.getElem?_eq_none_iff.mp e
  exact List.getElem?_eq_none_iff.mpr (by omega)
def RelO:Option V->Option Value->Prop
  | some v,some u=>RelV v u
  | none,none=>True
  | _,_=>False
def KV{κ:Type}:List (κ × V)->List (κ × Value)->Prop:=Paired fun (p:κ × V) (q:κ × Value)=>p.1=q.1/\RelV p.2 q.2
def kV:Key->V
  | .inl i=>.int i
  | .inr x=>.str x
inductive HO where
  | lst (xs:List V)
  | tup (xs:List V)
  | dK (kvs:List (Key × V)) | dT (kvs:List (List Key × V))
  | set (S:Int->Bool) (n:Nat)
  | ins (C dx:Addr) (fs:List (Str × V))
  | own (x:Addr)
  | xd (fs:List (Str × V))
  | met (f x:Addr)
  | rng (lo hi:Int)
  | frz (o:Obj) (u:HO)
  | tbl (ps:Array Value)
  | ext (φ:Heap->Prop)
abbrev Hp:=Addr->Option HO
def upd(H:Hp)(a:Addr)(o:HO):Hp:=fun b=>if b=a then some o else H b
theorem b5{H:Hp}{a:Addr}{o:HO}:upd H a o a=some o:=by unfold upd;rw[if_pos rfl]
theorem aC{H:Hp}{a b:Addr}{o:HO}(h:b ≠ a):upd H a o b=H b:=by unfold upd;rw[if_neg h]
theorem vK{H:Hp}{a b:Addr}{o u:HO}(h:H a=some o)(h':H b=some u)(d:o ≠ u):a ≠ b:=by
  intro e;subst e;rw[h] at h';exact d (Option.some.inj h')
theorem bP{H:Hp}{a b:Addr}{o:HO}(h:H a=some o)(h':H b=none):a ≠ b:=by
  intro e;subst e;rw[h] at h';cases h'
section
variable (P:Program) (w:World)
def ObjOk(H:Hp)(h:Heap)(a:Addr):HO->Prop
  | .lst xs=>xs.length<=sizeLine/\∃ (its:List Value) (n:Nat),Vals xs its/\h.get? a=some { cls:=.type "list",data:=.seq its.toArray n }
  | .tup xs=>xs.length<=sizeLine/\∃ its:List Value,Vals xs its/\IsTup h a its.toArray
  | .dK kvs=>kvs.length<=sizeLine/\(a == sysModules)=false/\∃ vs,KV kvs vs/\h.DictOf (cj P w) a vs
  | .dT kvs=>kvs.length<=sizeLine/\(a == sysModules)=false/\∃ xs:List (List Key × Addr × Value),
      Paired (fun (p:List Key × V) (q:List Key × Addr × Value)=>p.1=q.1/\H q.2.1=some (.tup (p.1.map kV))/\RelV p.2 q.2.2) kvs xs /\
      ∃ o es ep,h.get? a=some o/\o.ExactDict/\o.data=.dict es ep/\es.toList=xs.map (entryOfKey (tupleKind (cj P w)))/\(xs.map (·.1)).Nodup
  | .set S n=>h.SetOf (intKind P w) a S n
  | .ins C dx fs=>H dx=some (.own a)/\fs.length<=1000/\dx ≠ a/\h.get? a=some (PySem.W.instObj C dx) /\
      ∃ mA,h.Ns1 dx mA/\(∀ f,RelO (fs.lookup f) (mA f))/\PySem.Within mA (fs.map (·.1))
  | .own _=>∃ o,h.get? a=some o
  | .xd fs=>∃ mA,h.Ns1 a mA/\∀ f,RelO (fs.lookup f) (mA f)
  | .rng lo hi=>∃ t u v,h.get? a=some { cls:=.type "range",data:=.fields #[.int lo t,.int hi u,.int 1 v] }
  | .frz o u=>h.get? a=some o/\ObjOk H h a u
  | .tbl ps=>h.get? a=some { cls:=.none,data:=.fields ps }
  | .met f x=>h.get? a=some (PySem.W.methodObj (.ref f) (.ref x))
  | .ext φ=>φ h/\(∃ o,h.get? a=some o)/\∀ h1 h2:Heap,φ h1->(∀ o,h1.get? a=some o->h2.get? a=some o)->φ h2
def HOk(H:Hp)(h:Heap):Prop:=∀ a o,H a=some o->ObjOk P w H h a o
end
section
variable {P:Program} {w:World} {H H':Hp} {h h':Heap} {a:Addr} {o:HO}
theorem ObjOk.lt(x:ObjOk P w H h a o):a < h.objs.size:=by
  cases o with
  | lst xs=>obtain⟨_,_,_,_,e⟩:=x;exact Heap.lt_size e
  | tup xs=>obtain⟨_,_,_,p⟩:=x;exact p.lt
  | dK kvs=>obtain⟨_,_,_,_,o,_,_,e,_⟩:=x;exact Heap.lt_size e
  | dT kvs=>obtain⟨_,_,_,_,o,_,_,e,_⟩:=x;exact Heap.lt_size e
  | set S n=>obtain⟨o,_,_,_,e,_⟩:=x;exact Heap.lt_size e
  | ins C dx fs=>obtain⟨_,_,_,e,_⟩:=x;exact Heap.lt_size e
  | own y=>obtain⟨_,e⟩:=x;exact Heap.lt_size e
  | xd fs=>obtain⟨_,⟨_,_,_,e,_⟩,_⟩:=x;exact Heap.lt_size e
  | rng lo hi=>obtain⟨_,_,_,e⟩:=x;exact Heap.lt_size e
  | frz ob u=>obtain⟨e,_⟩:=x;exact Heap.lt_size e
  | tbl ps=>exact Heap.lt_size (show h.get? a=some _ from x)
  | met f y=>exact Heap.lt_size (show h.get? a=some _ from x)
  | ext φ=>obtain⟨_,⟨_,e⟩,_⟩:=x;exact Heap.lt_size e
theorem Paired.mapP{α β:Type}{F G:α->β->Prop}:∀ {l₁:List α} {l₂:List β},Paired F l₁ l₂->(∀ a b,F a b->G a b)->Paired G l₁ l₂
  | _,_,.nil,_=>.nil
  | _,_,.cons r t,f=>.cons (f _ _ r) (Paired.mapP t f)
theorem ObjOk.stay(x:ObjOk P w H h a o)(k:∀ b u,(b=a\/H b=some (.own a))->h.get? b=some u->h'.get? b=some u)(ho:∀ b,H b=some (.own a)->H' b=some (.own a))(ht:∀ b xs,H b=some (.tup xs)->H' b=some (.tup xs)):ObjOk P w H' h' a o:=by
  induction o with
  | lst xs=>obtain⟨z,its,n,r,e⟩:=x;exact⟨z,its,n,r,k _ _ (.inl rfl) e⟩
  | tup xs=>obtain⟨z,its,r,ob,e,c⟩:=x;exact⟨z,its,r,ob,k _ _ (.inl rfl) e,c⟩
  | dK kvs=>obtain⟨z,y,vs,r,ob,es,ep,e,c⟩:=x;exact⟨z,y,vs,r,ob,es,ep,k _ _ (.inl rfl) e,c⟩
  | dT kvs =>
    obtain⟨z,y,xs,r,ob,es,ep,e,c⟩:=x
    exact⟨z,y,xs,Paired.mapP r fun p q z=>⟨z.1,ht _ _ z.2.1,z.2.2⟩,ob,es,ep,k _ _ (.inl rfl) e,c⟩
  | set S n=>obtain⟨ob,es,ep,t,e,c⟩:=x;exact⟨ob,es,ep,t,k _ _ (.inl rfl) e,c⟩
  | ins C dx fs =>
    obtain⟨d,z,ne,e,mA,⟨od,es,ep,e2,c⟩,r⟩:=x
    exact⟨ho _ d,z,ne,k _ _ (.inl rfl) e,mA,⟨od,es,ep,k _ _ (.inr d) e2,c⟩,r⟩
  | own y=>obtain⟨ob,e⟩:=x;exact⟨ob,k _ _ (.inl rfl) e⟩
  | xd fs=>obtain⟨mA,⟨od,es,ep,e,c⟩,r⟩:=x;exact⟨mA,⟨od,es,ep,k _ _ (.inl rfl) e,c⟩,r⟩
  | rng lo hi=>obtain⟨t,u,v,e⟩:=x;exact⟨t,u,v,k _ _ (.inl rfl) e⟩
  | frz ob u ih=>obtain⟨e,q⟩:=x;exact⟨k _ _ (.inl rfl) e,ih q⟩
  | tbl ps =>
    have e:h.get? a=some { cls:=.none,data:=.fields ps }:=x
    show h'.get? a=some { cls:=.none,data:=.fields ps }
    exact k a _ (.inl rfl) e
  | met f y =>
    have e:h.get? a=some (PySem.W.methodObj (.ref f) (.ref y)):=x
    show h'.get? a=some (PySem.W.methodObj (.ref f) (.ref y))
    exact k a _ (.inl rfl) e
  | ext φ=>obtain⟨p,⟨o,e⟩,st⟩:=x;exact⟨st _ _ p fun o q=>k _ _ (.inl rfl) q,⟨o,k _ _ (.inl rfl) e⟩,st⟩
theorem HOk.lt(x:HOk P w H h)(e:H a=some o):a < h.objs.size:=(x a o e).lt
theorem HOk.fresh(x:HOk P w H h)(e:h.objs.size<=a):H a=none:=by
  cases q:H a with
  | none=>rfl
  | some u=>exact absurd (Nat.lt_of_lt_of_le (x.lt q) e) (Nat.lt_irrefl _)
theorem HOk.kept(x:HOk P w H h)(k:∀ b u,h.get? b=some u->h'.get? b=some u):HOk P w H h':=fun a o e =>
  (x a o e).stay (fun b u _ q=>k b u q) (fun _ q=>q) fun _ _ q=>q
theorem HOk.laid(x:HOk P w H h)(k:∀ b u,h.get? b=some u->h'.get? b=some u)(hp:h.objs.size<=a)(new:ObjOk P w (upd H a o) h' a o):HOk P w (upd H a o) h':=fun b u e=>by
  have hn:=x.fresh hp
  by_cases hb:b=a
  · subst hb;rw[b5] at e;cases e;exact new
  · rw[aC hb] at e
    exact (x b u e).stay (fun c v _ q=>k c v q) (fun c q=>by rw[aC (bP q hn)];exact q) fun c xs q=>by rw[aC (bP q hn)];exact q
end
def Rd(H:Hp)(a:Addr)(u:HO):Prop:=H a=some u\/∃ o,H a=some (.frz o u)
theorem Rd.of{H:Hp}{a:Addr}{u:HO}(h:H a=some u):Rd H a u:=.inl h
theorem Rd.ok{P:Program}{w:World}{H:Hp}{h:Heap}{a:Addr}{u:HO}(r:Rd H a u)(x:HOk P w H h):ObjOk P w H h a u:=by
  rcases r with r | ⟨o,r⟩
  · exact x a u r
  · obtain⟨_,q⟩:=x a _ r
    exact q
def Mut:Option HO->Prop
  | some (.lst _)=>True
  | some (.dK _)=>True
  | some (.dT _)=>True
  | some (.set _ _)=>True
  | some (.ins _ _ _)=>True
  | some (.ext _)=>True
  | _=>False
section
variable {P:Program} {w:World} {H:Hp} {h h':Heap} {x e:Addr} {o':HO}
theorem HOk.write(ok:HOk P w H h)(mu:Mut (H x))(he:e=x\/H e=some (.own x))(k:∀ b u,b ≠ e->h.get? b=some u->h'.get? b=some u)(heo:∃ u,h'.get? e=some u)(new:ObjOk P w (upd H x o') h' x o'):HOk P w (upd H x o') h':=fun b u q=>by
  have nown:∀ c y,H c=some (.own y)->c ≠ x:=fun c y r z=>by subst z;rw[r] at mu;exact mu
  have ntup:∀ c xs,H c=some (.tup xs)->c ≠ x:=fun c xs r z=>by subst z;rw[r] at mu;exact mu
  by_cases hb:b=x
  · subst hb;rw[b5] at q;cases q;exact new
  · rw[aC hb] at q
    by_cases hbe:b=e
    · have q':H b=some (.own x):=by
        rcases he with z | z
        · exact absurd (hbe.trans z) hb
        · rw[hbe];exact z
      rw[q] at q';cases q'
      obtain⟨v,hv⟩:=heo
      exact⟨v,by rw[hbe];exact hv⟩
    · refine (ok b u q).stay (fun c v hc r=>k c v ?_ r) (fun c r=>by rw[aC (nown c b r)];exact r) fun c xs r=>by rw[aC (ntup c xs r)];exact r
      rcases hc with rfl | hc
      · exact hbe
      · rintro rfl
        rcases he with z | z
        · exact nown c b hc z
        · rw[hc] at z;cases z;exact hb rfl
end
structure Un (fs ex:List Addr) (H H':Hp) (h h':Heap):Prop where
  keep:∀ b o,h.get? b=some o->H b=none->b ∉ fs->b ∉ ex->h'.get? b=some o
  slot:∀ b o,h.get? b=some o->H b=none->b ∈ fs->b ∉ ex->∃ sl,h'.get? b=some { o with slots:=sl }
  free:∀ b o,h.get? b=some o->H b=none->b ∉ ex->H' b=none
  there:∀ b o,h.get? b=some o->b ∉ ex->∃ o',h'.get? b=some o'
  tups:∀ b xs,H b=some (.tup xs)->H' b=some (.tup xs)
  frzs:∀ b o u,H b=some (.frz o u)->H' b=some (.frz o u)
  tbls:∀ b ps,H b=some (.tbl ps)->∃ more,H' b=some (.tbl (ps++more))
section
variable {fs fs' ex ex':List Addr} {H H1 H2:Hp} {h h1 h2 h':Heap} {a x e:Addr} {o:HO}
theorem Un.any(u:Un fs ex H H1 h h1){b:Addr}{ob:Obj}(q:h.get? b=some ob)(n:H b=none)(hx:b ∉ ex):∃ sl,h1.get? b=some { ob with slots:=sl }:=by
  by_cases hb:b ∈ fs
  · exact u.slot b ob q n hb hx
  · exact⟨ob.slots,u.keep b ob q n hb hx⟩
theorem Un.trans(a:Un fs ex H H1 h h1)(b:Un fs ex H1 H2 h1 h2):Un fs ex H H2 h h2 where
  keep:=fun c ob q n hc hx=>b.keep c ob (a.keep c ob q n hc hx) (a.free c ob q n hx) hc hx
  slot:=fun c ob q n hc hx=>by
    obtain⟨sl,e1⟩:=a.slot c ob q n hc hx
    obtain⟨sl',e2⟩:=b.slot c _ e1 (a.free c ob q n hx) hc hx
    exact⟨sl',e2⟩
  free:=fun c ob q n hx=>by
    obtain⟨o',e1⟩:=a.there c ob q hx
    exact b.free c o' e1 (a.free c ob q n hx) hx
  there:=fun c ob q hx=>by
    obtain⟨o',e1⟩:=a.there c ob q hx
    exact b.there c o' e1 hx
  tups:=fun c xs q=>b.tups c xs (a.tups c xs q)
  frzs:=fun c ob xs q=>b.frzs c ob xs (a.frzs c ob xs q)
  tbls:=fun c ps q=>by
    obtain⟨m1,e1⟩:=a.tbls c ps q
    obtain⟨m2,e2⟩:=b.tbls c _ e1
    exact⟨m1++m2,by rw[e2,Array.append_assoc]⟩
theorem Un.kept(k:∀ b u,h.get? b=some u->h'.get? b=some u):Un fs ex H H h h' :=
  ⟨fun b ob q _ _ _=>k b ob q,fun b ob q _ _ _=>⟨ob.slots,k b ob q⟩,fun _ _ _ n _=>n,fun b ob q _=>⟨ob,k b ob q⟩,fun _ _ q=>q,fun _ _ _ q=>q,fun _ ps q=>⟨#[],by rw[q];simp⟩⟩
theorem Un.refl:Un fs ex H H h h:=Un.kept fun _ _ q=>q
theorem Un.laid(k:∀ b u,h.get? b=some u->h'.get? b=some u)(hp:h.objs.size<=a)(hn:H a=none):Un fs ex H (upd H a o) h h' where
  keep:=fun b u q _ _ _=>k b u q
  slot:=fun b u q _ _ _=>⟨u.slots,k b u q⟩
  free:=fun b u q n _=>by rw[aC (Nat.ne_of_lt (Nat.lt_of_lt_of_le (Heap.lt_size q) hp))];exact n
  there:=fun b u q _=>⟨u,k b u q⟩
  tups:=fun b xs q=>by rw[aC (bP q hn)];exact q
  frzs:=fun b u xs q=>by rw[aC (bP q hn)];exact q
  tbls:=fun b ps q=>⟨#[],by rw[aC (bP q hn),q];simp⟩
theorem Un.write(mu:Mut (H x))(he:e=x\/H e=some (.own x))(k:∀ b u,b ≠ e->h.get? b=some u->h'.get? b=some u)(heo:∃ u,h'.get? e=some u):Un fs ex H (upd H x o) h h':=by
  have hx:∀ b,H b=none->b ≠ x:=fun b n z=>by subst z;rw[n] at mu;exact mu
  have hb:∀ b,H b=none->b ≠ e:=fun b n z=>by
    subst z
    rcases he with r | r
    · exact hx b n r
    · rw[n] at r;cases r
  have hm:∀ b u,H b=some u->¬ Mut (some u)->b ≠ x:=fun b u q nm z=>by subst z;rw[q] at mu;exact nm mu
  refine⟨fun b u q n _ _=>k b u (hb b n) q,fun b u q n _ _=>⟨u.slots,k b u (hb b n) q⟩,fun b u q n _=>by rw[aC (hx b n)];exact n,fun b u q _=>?_,
    fun b xs q=>by rw[aC (hm b _ q fun z=>z)];exact q,fun b u xs q=>by rw[aC (hm b _ q fun z=>z)];exact q,fun b ps q=>⟨#[],by rw[aC (hm b _ q fun z=>z),q];simp⟩⟩
  by_cases hbe:b=e
  · subst hbe;exact heo
  · exact⟨u,k b u hbe q⟩
theorem Un.mono(u:Un fs ex H H1 h h1)(hs:∀ b ∈ fs,b ∈ fs')(hx:∀ b ∈ ex,b ∈ ex'):Un fs' ex' H H1 h h1 :=
  ⟨fun b ob q n hb he=>u.keep b ob q n (fun z=>hb (hs b z)) fun z=>he (hx b z),fun _ _ q n _ he=>u.any q n fun z=>he (hx _ z),fun b ob q n he=>u.free b ob q n fun z=>he (hx b z),fun b ob q he=>u.there b ob q fun z=>he (hx b z),u.tups,u.frzs,u.tbls⟩
end
def trk(h:Heap)(H:Hp):List Addr:=(List.range h.objs.size).filter fun a=>(H a).isSome
def dQ(h:Heap)(H:Hp):Heap:=PySem.W.hideAll h (trk h H)
theorem vL(h:Heap)(H:Hp):(dQ h H).objs.size=h.objs.size:=PySem.W.hideAll_size _ _
theorem vM{h:Heap}{H:Hp}{b:Addr}{o:Obj}(e:h.get? b=some o)(n:H b=none):(dQ h H).get? b=some o :=
  PySem.W.hideAll_get _ e fun hm=>by
    have q:(H b).isSome=true:=(List.mem_filter.mp hm).2
    rw[n] at q;simp at q
theorem vN{h:Heap}{H:Hp}{b:Addr}{o:Obj}(e:(dQ h H).get? b=some o):h.get? b=some o/\H b=none:=by
  have e':h.get? b=some o:=PySem.W.of_hideAll (trk h H) e
  refine⟨e',?_⟩
  cases q:H b with
  | none=>rfl
  | some x =>
    have hm:b ∈ trk h H:=List.mem_filter.mpr ⟨List.mem_range.mpr (Heap.lt_size e'),by simp[q]⟩
    have z:(dQ h H).get? b=none:=PySem.W.hideAll_none (trk h H) hm
    rw[z] at e;cases e
def vO(g h:Heap)(L:Addr):List (Addr × Obj):=(List.range h.objs.size).filterMap fun a=>if a=L\/(g.get? a).isSome=true then none else (h.get? a).map fun o=>(a,o)
def ar(g h:Heap)(L d:Addr):List (Addr × Obj):=(vO g h L).filter fun p=>decide (p.1 ≠ d)
end L2
namespace L2
open PySem PySem.Spec PyProof.Rows
structure Mod (K:PySem.W.Frag) (mg:Str->Option Value) (base:Heap):Prop where
  kin:K.In base
  glob:base.Ns mainGlobals mg
  blt:∃ mb,base.Ns builtinsNs mb/\∀ x:Str,x ≠ "__name__"->mb x=bootBuiltins x
  nolimit:base.NoLimit
structure Cx where
  prog:Program
  w:World
  K:PySem.W.Frag
  mg:Str->Option Value
  base:Heap
  A:Around
  N:List Str
  s₀:Shared
  H₀:Hp
  env:Env
  outer:List Env
  stack:List Env
  ex:List Addr
  fn:Str->Bool
  calm:Bool
  pn:List (Addr × Obj)
  xe:Value->Shared->Prop
def frs(l:List Env):List Addr:=l.filterMap (·.frame)
abbrev Cx.fs(X:Cx):List Addr:=frs X.outer
def Vis(sc:Scope)(x:Str):Prop:=sc.names.lookup x=some .local\/sc.names.lookup x=some .cell\/sc.names.lookup x=some .free
def Loc(sc:Scope)(x:Str):Prop:=sc.names.lookup x=some .local\/sc.names.lookup x=some .cell
def vP(env:Env)(h:Heap)(m:Str->Option Value)(x:Str)(u:Value):Prop :=
  (env.kindOf x=some .local/\m x=some u)\/((env.kindOf x=some .cell\/env.kindOf x=some .free)/\∃ c,env.cells.lookup x=some c/\h.IsCell c (some u))
structure Cx.Ok (X:Cx):Prop where
  mod:Mod X.K X.mg X.base
  kind:X.env.scope.kind=.function
  glob:X.env.globals=mainGlobals
  blt:X.env.builtins=builtinsNs
  above:X.s₀.heap.objs.size<=X.env.locals
  inj:∀ x y c,X.env.cells.lookup x=some c->X.env.cells.lookup y=some c->x=y
  has:∀ x,(X.env.kindOf x=some .cell\/X.env.kindOf x=some .free)->∃ c,X.env.cells.lookup x=some c
  cab:∀ x c,X.fn x=true->X.env.cells.lookup x=some c->X.s₀.heap.objs.size<=c
  hd:X.calm=true->X.A.handled=none
  frames:X.A.frames=some X.stack
  stk:X.stack=X.outer\/(X.stack=X.env::X.outer/\X.env.frame=some X.env.locals)
  exf:∀ b ∈ X.ex,b ≠ X.env.locals/\∀ x c,X.env.cells.lookup x=some c->c ≠ b
  bs:∀ b o,X.base.get? b=some o->X.s₀.heap.get? b=some o/\X.H₀ b=none
  bsz:X.base.objs.size<=X.s₀.heap.objs.size
  noex:∀ b o,X.base.get? b=some o->b ∉ X.ex
  exfs:∀ b ∈ X.ex,b ∉ X.fs
  funs:X.s₀.heap.FunFrames X.base X.outer
  frf:∀ b ∈ X.fs,X.H₀ b=none
structure Inv (X:Cx) (pins:List (Addr × Obj)) (σ:List (Option V)) (H:Hp) (s:Shared):Prop where
  ok:X.Ok
  os:s.os=X.s₀.os
  bare:AllBare s.gens
  base:Un X.fs X.ex X.H₀ H X.s₀.heap s.heap
  loc:∃ m,s.heap.Ns X.env.locals m/\∀ (i:Nat) (x:Str) (v:V),X.N[i]?=some x->σ[i]?=some (some v)->Vis X.env.scope x->∃ u,RelV v u/\vP X.env s.heap m x u
  cell:∀ x c,X.env.cells.lookup x=some c->∃ v,s.heap.IsCell c v
  free:H X.env.locals=none
  freeC:∀ x c,X.env.cells.lookup x=some c->H c=none
  pin:∀ p ∈ X.pn++pins,s.heap.get? p.1=some p.2/\H p.1=none/\p.1 ≠ X.env.locals/\p.1 ∉ X.fs/\∀ v,p.2.data ≠ .cell v
  hok:HOk X.prog X.w H s.heap
  len:σ.length=X.N.length
section
variable {X:Cx} {pins:List (Addr × Obj)} {σ:List (Option V)} {H H':Hp} {s:Shared} {h':Heap}
theorem Cx.Ok.nofr(ok:X.Ok){b:Addr}{o:Obj}(e:X.base.get? b=some o):b ∉ X.fs:=fun hb=>by
  have:=(ok.funs.mem hb).1
  rw[e] at this;cases this
theorem Inv.bs(I:Inv X pins σ H s):∀ b o,X.base.get? b=some o->s.heap.get? b=some o/\H b=none:=fun b o e =>
  ⟨I.base.keep b o (I.ok.bs b o e).1 (I.ok.bs b o e).2 (I.ok.nofr e) (I.ok.noex b o e),I.base.free b o (I.ok.bs b o e).1 (I.ok.bs b o e).2 (I.ok.noex b o e)⟩
theorem Inv.bk(I:Inv X pins σ H s):∀ b o,X.base.get? b=some o->s.heap.get? b=some o:=fun b o e=>(I.bs b o e).1
theorem Inv.mod(I:Inv X pins σ H s):Mod X.K X.mg X.base:=I.ok.mod
theorem Inv.kIn(I:Inv X pins σ H s):X.K.In s.heap:=I.ok.mod.kin.keeps I.bk
theorem Inv.nolimit(I:Inv X pins σ H s):s.heap.NoLimit:=I.ok.mod.nolimit.keeps I.bk
theorem Inv.fr(I:Inv X pins σ H s):∃ m,Fr X.base X.env.locals s.heap m :=
  let ⟨m,hn,_⟩:=I.loc
  ⟨m,hn,I.bk,Nat.le_trans I.ok.bsz I.ok.above⟩
theorem Inv.lt(I:Inv X pins σ H s):X.env.locals < s.heap.objs.size:=let ⟨_,hn,_⟩:=I.loc;hn.lt
theorem Inv.sz(I:Inv X pins σ H s):X.s₀.heap.objs.size<=s.heap.objs.size:=Nat.le_trans I.ok.above (Nat.le_of_lt I.lt)
theorem Inv.nofs(I:Inv X pins σ H s){a:Addr}(h:s.heap.objs.size<=a):a ∉ X.fs:=fun hb=>by
  obtain⟨_,o,ho,_⟩:=I.ok.funs.mem hb
  exact absurd (Nat.lt_of_lt_of_le (Heap.lt_size ho) (Nat.le_trans I.sz h)) (Nat.lt_irrefl _)
theorem Inv.cne(I:Inv X pins σ H s):∀ x c,X.env.cells.lookup x=some c->c ≠ X.env.locals:=fun x c e z=>by
  obtain⟨v,o,ho,hd⟩:=I.cell x c e
  obtain⟨m,⟨o',es,ep,ho',hd',_⟩,_⟩:=I.loc
  rw[z,ho'] at ho;cases ho;rw[hd'] at hd;cases hd
theorem Inv.funs(I:Inv X pins σ H s):s.heap.FunFrames X.base X.outer:=by
  have all:∀ (l:List Env),(∀ b ∈ frs l,b ∈ X.fs)->X.s₀.heap.FunFrames X.base l->s.heap.FunFrames X.base l:=by
    intro l
    induction l with
    | nil=>intro _ _;trivial
    | cons env r ih =>
      intro hs hl
      obtain⟨hk,⟨L,o,hf,hn,ho,hd⟩,hr⟩:=hl
      have hL:L ∈ X.fs:=hs L (by unfold frs;rw[List.filterMap_cons,hf];exact List.mem_cons_self)
      obtain⟨sl,e⟩:=I.base.slot L o ho (I.ok.frf L hL) hL fun z=>I.ok.exfs L z hL
      exact⟨hk,⟨L,_,hf,hn,e,hd⟩,ih (fun b hb=>hs b (by unfold frs;rw[List.filterMap_cons,hf];exact List.mem_cons_of_mem _ hb)) hr⟩
  exact all X.outer (fun _ hb=>hb) I.ok.funs
theorem Inv.stack(I:Inv X pins σ H s):s.heap.FunFrames X.base X.stack:=by
  rcases I.ok.stk with e | ⟨e,hf⟩
  · rw[e];exact I.funs
  · rw[e]
    obtain⟨m,hn,_⟩:=I.loc
    refine .cons (by rw[I.ok.kind];decide) hf hn ?_ I.funs
    exact Heap.get?_none_of_le (Nat.le_trans I.ok.bsz I.ok.above)
theorem Inv.stkSub(I:Inv X pins σ H s):∀ b ∈ frs X.stack,b ∈ X.env.locals::X.fs:=fun b hb=>by
  rcases I.ok.stk with e | ⟨e,hf⟩
  · rw[e] at hb;exact List.mem_cons_of_mem _ hb
  · rw[e] at hb
    unfold frs at hb
    rw[List.filterMap_cons,hf] at hb
    exact hb
theorem Inv.stkFree(I:Inv X pins σ H s):∀ b ∈ frs X.stack,H b=none:=fun b hb=>by
  rcases List.mem_cons.mp (I.stkSub b hb) with e | hb
  · rw[e];exact I.free
  · obtain⟨_,o,ho,_⟩:=I.ok.funs.mem hb
    exact I.base.free b o ho (I.ok.frf b hb) fun z=>I.ok.exfs b z hb
theorem Inv.step{g':Array GenState}{t':Nat}{d':Drawn}{ch:List Addr}(I:Inv X pins σ H s)(hch:∀ b ∈ ch,(b ∈ X.ex\/X.s₀.heap.objs.size<=b)/\b ≠ X.env.locals/\(∀ x c,X.env.cells.lookup x=some c->c ≠ b)/\∀ p ∈ X.pn++pins,p.1 ≠ b)(keep:∀ b o,b ≠ X.env.locals->b ∉ X.fs->b ∉ ch->s.heap.get? b=some o->H b=none->h'.get? b=some o)(slot:∀ b o,b ≠ X.env.locals->b ∈ X.fs->b ∉ ch->s.heap.get? b=some o->H b=none->∃ sl,h'.get? b=some { o with slots:=sl })(free:∀ b o,b ∉ ch->s.heap.get? b=some o->H b=none->H' b=none)(there:∀ b o,b ∉ ch->s.heap.get? b=some o->∃ o',h'.get? b=some o')(tups:∀ b xs,H b=some (.tup xs)->H' b=some (.tup xs))(frzs:∀ b o u,H b=some (.frz o u)->H' b=some (.frz o u))(tbls:∀ b ps,H b=some (.tbl ps)->∃ more,H' b=some (.tbl (ps++more)))(ns:∀ m,s.heap.Ns X.env.locals m->h'.Ns X.env.locals m)(hok:HOk X.prog X.w H' h')(hg:AllBare g'):
    Inv X pins σ H' { s with heap:=h',gens:=g',drawn:=d',toks:=t' }:=by
  have neL:∀ b o,X.s₀.heap.get? b=some o->b ≠ X.env.locals:=fun b o e=>Nat.ne_of_lt (Nat.lt_of_lt_of_le (Heap.lt_size e) I.ok.above)
  have neC:∀ b o,X.s₀.heap.get? b=some o->b ∉ X.ex->b ∉ ch:=fun b o e hx hb=>by
    rcases (hch b hb).1 with z | z
    · exact hx z
    · exact absurd (Nat.lt_of_lt_of_le (Heap.lt_size e) z) (Nat.lt_irrefl _)
  have cellK:∀ x c,X.env.cells.lookup x=some c->∀ v,s.heap.IsCell c v->h'.IsCell c v:=fun x c e v ⟨o,ho,hd⟩=>by
    have nch:c ∉ ch:=fun z=>(hch c z).2.2.1 x c e rfl
    by_cases hc:c ∈ X.fs
    · obtain⟨sl,q⟩:=slot c o (I.cne x c e) hc nch ho (I.freeC x c e)
      exact⟨_,q,hd⟩
    · exact⟨o,keep c o (I.cne x c e) hc nch ho (I.freeC x c e),hd⟩
  refine⟨I.ok,I.os,hg,⟨fun b o e n hb hx=>?_,fun b o e n hb hx=>?_,fun b o e n hx=>?_,fun b o e hx=>?_,fun b xs e=>tups b xs (I.base.tups b xs e),fun b o xs e=>frzs b o xs (I.base.frzs b o xs e),fun b ps e=>?_⟩,?_,fun x c e=>?_,?_,fun x c e=>?_,fun p hp=>?_,hok,I.len⟩
  · exact keep b o (neL b o e) hb (neC b o e hx) (I.base.keep b o e n hb hx) (I.base.free b o e n hx)
  · obtain⟨sl,e1⟩:=I.base.slot b o e n hb hx
    obtain⟨sl',e2⟩:=slot b _ (neL b o e) hb (neC b o e hx) e1 (I.base.free b o e n hx)
    exact⟨sl',e2⟩
  · obtain⟨o',e1⟩:=I.base.there b o e hx
    exact free b o' (neC b o e hx) e1 (I.base.free b o e n hx)
  · obtain⟨o',e1⟩:=I.base.there b o e hx
    exact there b o' (neC b o e hx) e1
  · obtain⟨m1,e1⟩:=I.base.tbls b ps e
    obtain⟨m2,e2⟩:=tbls b _ e1
    exact⟨m1++m2,by rw[e2,Array.append_assoc]⟩
  · obtain⟨m,hn,hl⟩:=I.loc
    refine⟨m,ns m hn,fun i x v e1 e2 e3=>?_⟩
    obtain⟨u,r,l⟩:=hl i x v e1 e2 e3
    refine⟨u,r,?_⟩
    rcases l with l | ⟨k,c,e,z⟩
    · exact .inl l
    · exact .inr ⟨k,c,e,cellK x c e _ z⟩
  · obtain⟨v,z⟩:=I.cell x c e
    exact⟨v,cellK x c e v z⟩
  · obtain⟨m,⟨o,_,_,ho,_⟩,_⟩:=I.loc
    exact free _ o (fun z=>(hch _ z).2.1 rfl) ho I.free
  · obtain⟨v,o,ho,hd⟩:=I.cell x c e
    exact free c o (fun z=>(hch c z).2.2.1 x c e rfl) ho (I.freeC x c e)
  · obtain⟨e,n,ne,nf,d⟩:=I.pin p hp
    have nch:p.1 ∉ ch:=fun z=>(hch p.1 z).2.2.2 p hp rfl
    exact⟨keep p.1 p.2 ne nf nch e n,free p.1 p.2 nch e n,ne,nf,d⟩
theorem Inv.un{t':Nat}(I:Inv X pins σ H s)(u:Un X.fs [] H H' s.heap h')(hok:HOk X.prog X.w H' h'):Inv X pins σ H' { s with heap:=h',toks:=t' }:=by
  obtain⟨m,⟨o,es,ep,ho,r⟩,_⟩:=id I.loc
  obtain⟨sl,hL⟩:=u.any ho I.free (by simp)
  exact I.step (g':=s.gens) (d':=s.drawn) (ch:=[]) (fun _ z=>nomatch z) (fun b o _ hb _ e n=>u.keep b o e n hb (by simp)) (fun b o _ hb _ e n=>u.slot b o e n hb (by simp)) (fun b o _ e n=>u.free b o e n (by simp)) (fun b o _ e=>u.there b o e (by simp)) u.tups u.frzs u.tbls (fun m' hm=>by
    obtain⟨o',es',ep',ho',r'⟩:=hm
    rw[ho] at ho';cases ho'
    exact⟨_,es',ep',hL,r'⟩) hok I.bare
theorem Inv.call{g':Array GenState}{t':Nat}{d':Drawn}{ch:List Addr}(I:Inv X pins σ H s)(u:Un (frs X.stack) ch H H' s.heap h')(hok:HOk X.prog X.w H' h')(hg:AllBare g')(hch:∀ b ∈ ch,(b ∈ X.ex\/X.s₀.heap.objs.size<=b)/\b ≠ X.env.locals/\(∀ x c,X.env.cells.lookup x=some c->c ≠ b)/\∀ p ∈ X.pn++pins,p.1 ≠ b):
    Inv X pins σ H' { s with heap:=h',gens:=g',drawn:=d',toks:=t' }:=by
  obtain⟨m,⟨o,es,ep,ho,r⟩,_⟩:=id I.loc
  obtain⟨sl,hL⟩:=u.any ho I.free fun z=>(hch _ z).2.1 rfl
  exact I.step (ch:=ch) hch (fun b o hL hb hc e n=>u.keep b o e n (fun z=>(List.mem_cons.mp (I.stkSub b z)).elim hL hb) hc) (fun b o _ _ hc e n=>u.any e n hc) (fun b o hc e n=>u.free b o e n hc) (fun b o hc e=>u.there b o e hc) u.tups u.frzs u.tbls (fun m' hm=>by
    obtain⟨o',es',ep',ho',r'⟩:=hm
    rw[ho] at ho';cases ho'
    exact⟨_,es',ep',hL,r'⟩) hok hg
theorem Inv.turned{t':Nat}{it:Addr}(I:Inv X pins σ H s)(k:∀ b o,b ≠ it->s.heap.get? b=some o->h'.get? b=some o)(hn:H it=none)(hL:it ≠ X.env.locals)(h1:it ∈ X.ex\/X.s₀.heap.objs.size<=it)(h2:∀ x c,X.env.cells.lookup x=some c->c ≠ it)(h3:∀ p ∈ X.pn++pins,p.1 ≠ it):Inv X pins σ H { s with heap:=h',toks:=t' }:=by
  have nit:∀ b u,H b=some u->b ≠ it:=fun b u e z=>by rw[z,hn] at e;cases e
  refine I.step (g':=s.gens) (d':=s.drawn) (ch:=[it]) (fun b hb=>?_) (fun b o _ _ hc e _=>k b o (fun z=>hc (by simp[z])) e) (fun b o _ _ hc e _=>⟨o.slots,k b o (fun z=>hc (by simp[z])) e⟩) (fun _ _ _ _ n=>n)
    (fun b o hc e=>⟨o,k b o (fun z=>hc (by simp[z])) e⟩) (fun _ _ e=>e) (fun _ _ _ e=>e) (fun b ps e=>⟨#[],by rw[e];simp⟩) (fun m hm=>?_) (fun b u e=>?_) I.bare
  · have e:b=it:=by simpa using hb
    subst e
    exact⟨h1,hL,h2,h3⟩
  · obtain⟨o,es,ep,ho,r⟩:=hm
    exact⟨o,es,ep,k _ o (Ne.symm hL) ho,r⟩
  · refine (I.hok b u e).stay (fun c v hc q=>k c v ?_ q) (fun _ q=>q) fun _ _ q=>q
    rcases hc with z | z
    · rw[z];exact nit b u e
    · exact nit c _ z
theorem Inv.tok(I:Inv X pins σ H s)(t:Nat):Inv X pins σ H { s with toks:=t }:=I.un (h':=s.heap) (t':=t) Un.refl I.hok
theorem Inv.kept{t':Nat}(I:Inv X pins σ H s)(k:∀ b u,s.heap.get? b=some u->h'.get? b=some u):Inv X pins σ H { s with heap:=h',toks:=t' }:=I.un (Un.kept k) (I.hok.kept k)
theorem Inv.laid{a:Addr}{o:HO}{t':Nat}(I:Inv X pins σ H s)(k:∀ b u,s.heap.get? b=some u->h'.get? b=some u)(hp:s.heap.objs.size<=a)(new:ObjOk X.prog X.w (upd H a o) h' a o):
    Inv X pins σ (upd H a o) { s with heap:=h',toks:=t' }:=I.un (Un.laid k hp (I.hok.fresh hp)) (I.hok.laid k hp new)
theorem Inv.write{x e:Addr}{o:HO}{t':Nat}(I:Inv X pins σ H s)(mu:Mut (H x))(he:e=x\/H e=some (.own x))(k:∀ b u,b ≠ e->s.heap.get? b=some u->h'.get? b=some u)(heo:∃ u,h'.get? e=some u)(new:ObjOk X.prog X.w (upd H x o) h' x o):Inv X pins σ (upd H x o) { s with heap:=h',toks:=t' }:=I.un (Un.write mu he k heo) (I.hok.write mu he k heo new)
theorem Inv.pins_of{pins':List (Addr × Obj)}(I:Inv X pins σ H s)(h:∀ p ∈ pins',s.heap.get? p.1=some p.2/\H p.1=none/\p.1 ≠ X.env.locals/\p.1 ∉ X.fs/\∀ v,p.2.data ≠ .cell v):Inv X pins' σ H s :=
  ⟨I.ok,I.os,I.bare,I.base,I.loc,I.cell,I.free,I.freeC,fun p hp=>(List.mem_append.mp hp).elim (fun z=>I.pin p (List.mem_append_left _ z)) (h p),I.hok,I.len⟩
theorem p7{N:List Str}(hN:N.Nodup){i j:Nat}{x:Str}(a:N[i]?=some x)(b:N[j]?=some x):i=j:=by
  obtain⟨h1,e1⟩:=List.getElem?_eq_some_iff.mp a
  obtain⟨h2,e2⟩:=List.getElem?_eq_some_iff.mp b
  exact (List.getElem_inj hN).mp (e1.trans e2.symm)
theorem vQ{M:Model}{A:Around}{E:Value->Shared->Prop}{i:Nat}{x:Str}{v:V}{u:Value}{Q:Unit->Shared->Prop}(I:Inv X pins σ H s)(hN:X.N.Nodup)(hi:X.N[i]?=some x)(hx:Loc X.env.scope x)(r:RelV v u)(h:∀ s',Inv X pins (σ.set i (some v)) H s'->(∃ a,Heap.SameBut a s.heap s'.heap/\(a=X.env.locals\/X.env.cells.lookup x=some a))->Q () s')(hf:X.fn x=true\/X.env.scope.names.lookup x=some .local:=by first | exact .inl rfl | exact .inr rfl | assumption):wpAny M A (storeName X.env x u) Q E s:=by
  obtain⟨m,hn,hl⟩:=id I.loc
  have hcls:(X.env.scope.kind == .class || (X.env.scope.kind == .module && X.env.locals != X.env.globals))=false:=by rw[I.ok.kind];rfl
  have hiσ:i < σ.length:=by rw[I.len];exact (List.getElem?_eq_some_iff.mp hi).1
  have cne:=I.cne
  have tracked:∀ {a:Addr} {h':Heap},(∃ o,s.heap.get? a=some o/\H a=none)->Heap.SameBut a s.heap h'->HOk X.prog X.w H h':=fun {a h'} ha hs b ob e=>by
    obtain⟨_,_,hfree⟩:=ha
    refine (I.hok b ob e).stay (fun c w' hc q=>(hs.2 c ?_).trans q) (fun _ q=>q) fun _ _ q=>q
    rintro rfl
    rcases hc with rfl | hc
    · rw[hfree] at e;cases e
    · rw[hfree] at hc;cases hc
  rcases hx with hk | hk
  · refine wpAny_storeName_local hk hn (fun h' hn' hs=>?_) hcls
    obtain⟨oL,_,_,hoL,_⟩:=id hn
    refine h _ ⟨I.ok,I.os,I.bare,⟨fun b o e n hb hx=>?_,fun b o e n hb hx=>?_,I.base.free,fun b o e hx=>?_,I.base.tups,I.base.frzs,I.base.tbls⟩,⟨_,hn',fun j y v' e1 e2 e3=>?_⟩,fun y c e=>?_,I.free,I.freeC,fun p hp=>?_,tracked ⟨oL,hoL,I.free⟩ hs,by simpa using I.len⟩ ⟨_,hs,.inl rfl⟩
    · exact (hs.2 b (Nat.ne_of_lt (Nat.lt_of_lt_of_le (Heap.lt_size e) I.ok.above))).trans (I.base.keep b o e n hb hx)
    · obtain⟨sl,e1⟩:=I.base.slot b o e n hb hx
      exact⟨sl,(hs.2 b (Nat.ne_of_lt (Nat.lt_of_lt_of_le (Heap.lt_size e) I.ok.above))).trans e1⟩
    · obtain⟨o',e1⟩:=I.base.there b o e hx
      exact⟨o',(hs.2 b (Nat.ne_of_lt (Nat.lt_of_lt_of_le (Heap.lt_size e) I.ok.above))).trans e1⟩
    · by_cases hj:j=i
      · subst hj
        rw[hi] at e1;cases e1
        rw[List.getElem?_set_self hiσ] at e2
        cases e2
        exact⟨u,r,.inl ⟨hk,by simp⟩⟩
      · rw[List.getElem?_set_ne (Ne.symm hj)] at e2
        obtain⟨u',r',q⟩:=hl j y v' e1 e2 e3
        refine⟨u',r',?_⟩
        rcases q with⟨k,e⟩ | ⟨k,c,e,z⟩
        · refine .inl ⟨k,?_⟩
          have:y ≠ x:=fun e=>hj (p7 hN e1 (e ▸ hi))
          simp[this,e]
        · exact .inr ⟨k,c,e,z.sameBut hs (cne y c e)⟩
    · obtain⟨w',z⟩:=I.cell y c e
      exact⟨w',z.sameBut hs (cne y c e)⟩
    · obtain⟨e,n,ne,nf,d⟩:=I.pin p hp
      exact⟨(hs.2 p.1 ne).trans e,n,ne,nf,d⟩
  · have hfn:X.fn x=true:=by
      rcases hf with z | z
      · exact z
      · rw[z] at hk;cases hk
    obtain⟨c,hc⟩:=I.ok.has x (.inl hk)
    obtain⟨w',z⟩:=I.cell x c hc
    refine wpAny_storeName_cell I.ok.kind hk hc z (fun h' hc' hs=>?_)
    obtain⟨oc,hoc,hocd⟩:=id z
    refine h { s with heap:=h' } ⟨I.ok,I.os,I.bare,⟨fun b o e n hb hx=>?_,fun b o e n hb hx=>?_,I.base.free,fun b o e hx=>?_,I.base.tups,I.base.frzs,I.base.tbls⟩,⟨m,hn.sameBut hs (Ne.symm (cne x c hc)),fun j y v' e1 e2 e3=>?_⟩,fun y c' e=>?_,I.free,I.freeC,fun p hp=>?_,tracked ⟨oc,hoc,I.freeC x c hc⟩ hs,by simpa using I.len⟩ ⟨c,hs,.inr hc⟩
    · exact (hs.2 b (Nat.ne_of_lt (Nat.lt_of_lt_of_le (Heap.lt_size e) (I.ok.cab x c hfn hc)))).trans (I.base.keep b o e n hb hx)
    · obtain⟨sl,e1⟩:=I.base.slot b o e n hb hx
      exact⟨sl,(hs.2 b (Nat.ne_of_lt (Nat.lt_of_lt_of_le (Heap.lt_size e) (I.ok.cab x c hfn hc)))).trans e1⟩
    · obtain⟨o',e1⟩:=I.base.there b o e hx
      exact⟨o',(hs.2 b (Nat.ne_of_lt (Nat.lt_of_lt_of_le (Heap.lt_size e) (I.ok.cab x c hfn hc)))).trans e1⟩
    · by_cases hj:j=i
      · subst hj
        rw[hi] at e1;cases e1
        rw[List.getElem?_set_self hiσ] at e2
        cases e2
        exact⟨u,r,.inr ⟨.inl hk,c,hc,hc'⟩⟩
      · rw[List.getElem?_set_ne (Ne.symm hj)] at e2
        obtain⟨u',r',q⟩:=hl j y v' e1 e2 e3
        refine⟨u',r',?_⟩
        rcases q with q | ⟨k,c',e,z'⟩
        · exact .inl q
        · refine .inr ⟨k,c',e,z'.sameBut hs ?_⟩
          rintro rfl
          exact hj (p7 hN e1 (I.ok.inj _ _ _ e hc ▸ hi))
    · by_cases hcc:c'=c
      · subst hcc;exact⟨_,hc'⟩
      · obtain⟨w2,z2⟩:=I.cell y c' e
        exact⟨w2,z2.sameBut hs hcc⟩
    · obtain⟨e,n,ne,nf,d⟩:=I.pin p hp
      refine⟨(hs.2 p.1 ?_).trans e,n,ne,nf,d⟩
      intro q
      rw[q,hoc] at e
      have q':oc=p.2:=Option.some.inj e
      exact d w' (by rw[<- q'];exact hocd)
theorem p8{M:Model}{A:Around}{E:Value->Shared->Prop}{i:Nat}{x:Str}{v:V}{u:Value}{Q:Unit->Shared->Prop}(I:Inv X pins σ H s)(hN:X.N.Nodup)(hi:X.N[i]?=some x)(hx:Loc X.env.scope x)(r:RelV v u)(h:∀ s',Inv X pins (σ.set i (some v)) H s'->Q () s')(hf:X.fn x=true\/X.env.scope.names.lookup x=some .local:=by first | exact .inl rfl | exact .inr rfl | assumption):wpAny M A (storeName X.env x u) Q E s :=
  vQ I hN hi hx r (fun s' I' _=>h s' I') hf
theorem Inv.call'{s':Shared}{ch:List Addr}(I:Inv X pins σ H s)(ho:s'.os=s.os)(u:Un (frs X.stack) ch H H' s.heap s'.heap)(hok:HOk X.prog X.w H' s'.heap)(hg:AllBare s'.gens)(hch:∀ b ∈ ch,(b ∈ X.ex\/X.s₀.heap.objs.size<=b)/\b ≠ X.env.locals/\(∀ x c,X.env.cells.lookup x=some c->c ≠ b)/\∀ p ∈ X.pn++pins,p.1 ≠ b):Inv X pins σ H' s':=by
  obtain⟨h',g',d',t',o'⟩:=s'
  have e:o'=s.os:=ho
  subst e
  exact I.call (g':=g') (t':=t') (d':=d') u hok hg hch
end
abbrev XK:=Value->Option Addr->Hp->Prop
abbrev St:=List (Option V)
abbrev VK:=V->Hp->Prop
abbrev TE:=St->Hp->VK->Prop
abbrev TT:=St->Hp->(Bool->Hp->Prop)->Prop
abbrev TA:=St->Hp->(List V->Hp->Prop)->Prop
structure Ends where
  nx:St->Hp->Prop
  rt:VK
  bk:St->Hp->Prop:=fun _ _=>False
  ct:St->Hp->Prop:=fun _ _=>False
abbrev TS:=Ends->St->Hp->Prop
def EP(X:Cx)(pins:List (Addr × Obj))(σ:St)(Q:VK)(u:Value)(s':Shared):Prop:=∃ v H',Inv X pins σ H' s'/\RelV v u/\Q v H'
def TP(X:Cx)(pins:List (Addr × Obj))(σ:St)(Q:Bool->Hp->Prop)(b:Bool)(s':Shared):Prop:=∃ H',Inv X pins σ H' s'/\Q b H'
def AP(X:Cx)(pins:List (Addr × Obj))(σ:St)(Q:List V->Hp->Prop)(us:List Value)(s':Shared):Prop:=∃ vs H',Inv X pins σ H' s'/\Vals vs us/\Q vs H'
def SP(X:Cx)(pins:List (Addr × Obj))(D:Ends)(f:Flow)(s':Shared):Prop :=
  match f with
  | .next=>∃ σ' H',Inv X pins σ' H' s'/\D.nx σ' H'
  | .brk=>∃ σ' H',Inv X pins σ' H' s'/\D.bk σ' H'
  | .cont=>∃ σ' H',Inv X pins σ' H' s'/\D.ct σ' H'
  | .ret u=>∃ v σ' H',Inv X pins σ' H' s'/\RelV v u/\D.rt v H'
def PE(X:Cx)(e:Expr)(t:TE):Prop :=
  ∀ (pins:List (Addr × Obj)) (s:Shared) (σ:St) (H:Hp) (Q:VK),Inv X pins σ H s->t σ H Q->wpAny (model X.prog X.w) X.A (eval e X.env) (EP X pins σ Q) X.xe s
def PT(X:Cx)(e:Expr)(t:TT):Prop :=
  ∀ (pins:List (Addr × Obj)) (s:Shared) (σ:St) (H:Hp) (Q:Bool->Hp->Prop),Inv X pins σ H s->t σ H Q->wpAny (model X.prog X.w) X.A (isTrue e X.env (eval e X.env)) (TP X pins σ Q) X.xe s
def PW(X:Cx)(e:Expr)(t:TT):Prop :=
  ∀ (whole:Sem Value) (pins:List (Addr × Obj)) (s:Shared) (σ:St) (H:Hp) (Q:Bool->Hp->Prop),Inv X pins σ H s->t σ H Q->wpAny (model X.prog X.w) X.A (isTrue e X.env whole) (TP X pins σ Q) X.xe s
theorem PW.pt{X:Cx}{e:Expr}{t:TT}(h:PW X e t):PT X e t:=h _
def PA(X:Cx)(es:List Expr)(t:TA):Prop :=
  ∀ (pos:Pos) (pins:List (Addr × Obj)) (s:Shared) (σ:St) (H:Hp) (Q:List V->Hp->Prop),Inv X pins σ H s->t σ H Q->wpAny (model X.prog X.w) X.A (spliced (backTo pos (starEach es X.env))) (AP X pins σ Q) X.xe s
def PS(X:Cx)(st:Stmt)(t:TS):Prop :=
  ∀ (pins:List (Addr × Obj)) (s:Shared) (σ:St) (H:Hp) (D:Ends),Inv X pins σ H s->t D σ H->wpAny (model X.prog X.w) X.A (exec st X.env) (SP X pins D) X.xe s
def PSs(X:Cx)(st:List Stmt)(t:TS):Prop :=
  ∀ (pins:List (Addr × Obj)) (s:Shared) (σ:St) (H:Hp) (D:Ends),Inv X pins σ H s->t D σ H->wpAny (model X.prog X.w) X.A (execs st X.env) (SP X pins D) X.xe s
theorem thn{α:Type}{t:Sem α}{Q Q':α->Shared->Prop}{M:Model}{A:Around}{E:Value->Shared->Prop}{s:Shared}(h:wpAny M A t Q E s)(hQ:∀ a s,Q a s->Q' a s):wpAny M A t Q' E s:=wpAny_mono h hQ fun _ _ x=>x
end L2
namespace L2
open PySem PySem.Spec PyProof.Rows
section
variable {X:Cx}
def vR(i:Nat):TE:=fun σ H Q=>∃ v,σ[i]?=some (some v)/\Q v H
def tC(v:V):TE:=fun _ H Q=>Q v H
theorem dR{i:Nat}{x:Str}{pos:Pos}(hN:X.N[i]?=some x)(hv:Vis X.env.scope x)(hd:(x == ("__debug__" : Str))=false:=by decide)(hcd:(x == ("__classdict__" : Str))=false:=by decide):PE X (.Name x pos) (vR i):=by
  intro pins s σ H Q I h
  obtain⟨v,e,h⟩:=h
  obtain⟨m,hn,hl⟩:=I.loc
  obtain⟨u,r,l⟩:=hl i x v hN e hv
  have fin:EP X pins σ Q u s:=⟨v,H,I,r,h⟩
  rcases l with⟨hk,hm⟩ | ⟨hk,c,hc,hcell⟩
  · exact wpAny_Name (wpAny_loadName_local I.ok.kind hk hn hm fin) hd
  · rcases hk with hk | hk
    · exact wpAny_Name (wpAny_loadName_cell I.ok.kind hk hc hcell fin) hd
    · exact wpAny_Name (wpAny_loadName_free I.ok.kind hk hc hcell fin hcd) hd
theorem vS{i j pos}:PE X (.Constant (.int i) j pos) (tC (.int i)):=fun _ _ _ H _ I h=>wpAny_Constant_int ⟨.int i,H,I.tok _,⟨_,rfl⟩,h⟩
theorem vT{b j pos}:PE X (.Constant (.bool b) j pos) (tC (.bl b)):=fun _ _ _ H _ I h=>Constant_bool ⟨.bl b,H,I,rfl,h⟩
theorem vU{j pos}:PE X (.Constant .none j pos) (tC .non):=fun _ _ _ H _ I h=>Constant_none ⟨.non,H,I,rfl,h⟩
theorem lN{x j pos}:PE X (.Constant (.str x) j pos) (tC (.str x)):=fun _ _ _ H _ I h=>Calls.Constant_str ⟨.str x,H,I.tok _,⟨_,rfl⟩,h⟩
def Gl(X:Cx)(x:Str):Prop:=X.env.kindOf x=some .globalImplicit
theorem lO{E:Value->Shared->Prop}{pins:List (Addr × Obj)}{s:Shared}{σ:St}{H:Hp}{x:Str}{u:Value}{pos:Pos}{Q:Value->Shared->Prop}(I:Inv X pins σ H s)(hg:Gl X x)(hm:X.mg x=some u)(h:Q u s)(hd:(x == ("__debug__" : Str))=false:=by decide):wpAny (model X.prog X.w) X.A (eval (.Name x pos) X.env) Q E s :=
  Calls.Name_function_global I.ok.kind hg (Calls.loadGlobal_global (by rw[I.ok.glob];exact I.mod.glob.keeps I.bk) hm h) hd
theorem cJ{E:Value->Shared->Prop}{pins:List (Addr × Obj)}{s:Shared}{σ:St}{H:Hp}{x:Str}{u:Value}{pos:Pos}{Q:Value->Shared->Prop}(I:Inv X pins σ H s)(hg:Gl X x)(hm:X.mg x=none)(hv:bootBuiltins x=some u)(h:Q u s)(hn:x ≠ "__name__":=by decide)(hd:(x == ("__debug__" : Str))=false:=by decide):wpAny (model X.prog X.w) X.A (eval (.Name x pos) X.env) Q E s:=by
  obtain⟨mb,h1,h2⟩:=I.mod.blt
  exact Calls.Name_function_global I.ok.kind hg (Calls.loadGlobal_builtin (by rw[I.ok.glob];exact I.mod.glob.keeps I.bk) hm (by rw[I.ok.blt];exact h1.keeps I.bk) ((h2 x hn).trans hv) h) hd
theorem vV{x:Str}{v:V}{u:Value}{pos:Pos}(hg:Gl X x)(hm:X.mg x=some u)(r:RelV v u)(hd:(x == ("__debug__" : Str))=false:=by decide):PE X (.Name x pos) (tC v) :=
  fun _ _ _ H _ I h=>lO I hg hm ⟨v,H,I,r,h⟩ hd
theorem vW{x:Str}{v:V}{u:Value}{pos:Pos}(hg:Gl X x)(hm:X.mg x=none)(hv:bootBuiltins x=some u)(r:RelV v u)(hn:x ≠ "__name__":=by decide)(hd:(x == ("__debug__" : Str))=false:=by decide):PE X (.Name x pos) (tC v) :=
  fun _ _ _ H _ I h=>cJ I hg hm hv ⟨v,H,I,r,h⟩ hn hd
variable {a b:Expr} {ta tb:TE} {pos:Pos}
variable {tA tB':TT} {ar:List Expr}
def vX(t u:TT):TT:=fun σ H Q=>t σ H fun c H1=>if c=true then u σ H1 Q else Q false H1
def tOr(t u:TT):TT:=fun σ H Q=>t σ H fun c H1=>if c=true then Q true H1 else u σ H1 Q
def vY(t:TT):TT:=fun σ H Q=>t σ H fun c H1=>Q (!c) H1
theorem p9(ha:PT X a tA):PW X (.BoolOp .And [a] pos) tA:=by
  intro wh pins s σ H Q I h
  refine isTrue_and (thn (ha pins s σ H Q I h) fun c s1 e=>?_)
  cases c with
  | true=>exact isTrue_and_nil e
  | false=>exact e
theorem vZ(ha:PT X a tA):PW X (.BoolOp .Or [a] pos) tA:=by
  intro wh pins s σ H Q I h
  refine isTrue_or (thn (ha pins s σ H Q I h) fun c s1 e=>?_)
  cases c with
  | false=>exact isTrue_or_nil e
  | true=>exact e
theorem pb(ha:PT X a tA)(hb:PW X (.BoolOp .And (b::ar) pos) tB'):PW X (.BoolOp .And (a::b::ar) pos) (vX tA tB'):=by
  intro wh pins s σ H Q I h
  refine isTrue_and (thn (ha pins s σ H _ I h) fun c s1 ⟨H1,I1,q1⟩=>?_)
  cases c with
  | true=>exact hb wh pins s1 σ H1 Q I1 q1
  | false=>exact⟨H1,I1,q1⟩
theorem w5(ha:PT X a tA)(hb:PW X (.BoolOp .Or (b::ar) pos) tB'):PW X (.BoolOp .Or (a::b::ar) pos) (tOr tA tB'):=by
  intro wh pins s σ H Q I h
  refine isTrue_or (thn (ha pins s σ H _ I h) fun c s1 ⟨H1,I1,q1⟩=>?_)
  cases c with
  | true=>exact⟨H1,I1,q1⟩
  | false=>exact hb wh pins s1 σ H1 Q I1 q1
theorem pc(ha:PT X a tA):PT X (.UnaryOp .Not a pos) (vY tA):=by
  intro pins s σ H Q I h
  exact isTrue_not (ha pins s σ H (fun c H1=>Q (!c) H1) I h)
def w6(ta tb:TE):TE:=fun σ H Q=>ta σ H fun x H1=>∃ c,x=.bl c/\if c=true then tb σ H1 Q else Q (.bl false) H1
def w8(ta:TE):TE:=fun σ H Q=>ta σ H fun x H1=>∃ c,x=.bl c/\Q (.bl (!c)) H1
theorem pe{op}{t:TE}(h:PE X a t):PE X (.BoolOp op [a] pos) t:=fun pins s σ H Q I hw=>BoolOp_one (h pins s σ H Q I hw)
theorem pf(ha:PE X a ta)(hb:PE X (.BoolOp .And (b::ar) pos) tb):PE X (.BoolOp .And (a::b::ar) pos) (w6 ta tb):=by
  intro pins s σ H Q I h
  refine BoolOp_and (thn (ha pins s σ H _ I h) fun v s1 ⟨x,H1,I1,r1,q1⟩=>?_)
  obtain⟨c,rfl,q1⟩:=q1
  cases r1
  refine wpAny_truthy_bool ?_
  cases c with
  | true=>exact hb pins s1 σ H1 Q I1 q1
  | false=>exact⟨.bl false,H1,I1,rfl,q1⟩
theorem w9(ha:PE X a ta):PE X (.UnaryOp .Not a pos) (w8 ta):=by
  intro pins s σ H Q I h
  refine UnaryOp_ (thn (ha pins s σ H _ I h) fun v s1 ⟨x,H1,I1,r1,q1⟩=>?_)
  obtain⟨c,rfl,q1⟩:=q1
  cases r1
  exact not_of (wpAny_truthy_bool ⟨.bl (!c),H1,I1,rfl,q1⟩)
end
end L2
namespace L2
open PySem PySem.Spec PyProof.Rows
def SqL(K:PySem.W.Frag)(H:Hp)(a:Addr)(xs:List V):Prop :=
  Rd H a (.lst xs) \/
    ∃ (o:Obj) (its:Array Value) (n:Nat),K.lookup a=some o/\o.cls=.type "list"/\o.dict=none/\o.data=.seq its n/\its.size<=sizeLine/\Vals xs its.toList
def SqT(K:PySem.W.Frag)(H:Hp)(a:Addr)(xs:List V):Prop :=
  Rd H a (.tup xs) \/
    ∃ (o:Obj) (its:Array Value) (n:Nat),K.lookup a=some o/\o.cls=.type "tuple"/\o.data=.seq its n/\its.size<=sizeLine/\Vals xs its.toList
def wa:Value->Option V
  | .none=>some .non
  | .bool b=>some (.bl b)
  | .int i _=>some (.int i)
  | .str x _=>some (.str x)
  | .bytes b _=>some (.byt b)
  | .float b _=>some (.flt b)
  | .ref a=>some (.ref a)
  | .type n=>some (.ty n)
  | _=>none
theorem RelV.abs{x:V}{u:Value}(r:RelV x u):wa u=some x:=by
  cases x with
  | non=>cases r;rfl
  | bl _=>cases r;rfl
  | int _=>obtain⟨t,rfl⟩:=r;rfl
  | str _=>obtain⟨t,rfl⟩:=r;rfl
  | byt _=>obtain⟨t,rfl⟩:=r;rfl
  | flt _=>obtain⟨t,rfl⟩:=r;rfl
  | ref _=>cases r;rfl
  | ty _=>cases r;rfl
theorem RelV.inj{x y:V}{u:Value}(r:RelV x u)(q:RelV y u):x=y:=Option.some.inj (r.abs.symm.trans q.abs)
theorem Vals.inj:∀ {xs ys:List V} {us:List Value},Vals xs us->Vals ys us->xs=ys
  | _,_,_,.nil,.nil=>rfl
  | _,_,_,.cons r t,.cons r' t'=>by rw[r.inj r',Vals.inj t t']
section
variable {X:Cx} {pins:List (Addr × Obj)} {σ:St} {H:Hp} {s:Shared} {a:Addr} {xs ys:List V}
theorem SqL.of{K:PySem.W.Frag}(h:H a=some (.lst xs)):SqL K H a xs:=.inl (.inl h)
theorem SqT.of{K:PySem.W.Frag}(h:H a=some (.tup xs)):SqT K H a xs:=.inl (.inl h)
theorem Inv.list(I:Inv X pins σ H s)(h:SqL X.K H a xs):∃ its:List Value,Vals xs its/\PlainL s.heap a its.toArray/\xs.length<=sizeLine:=by
  rcases h with h | ⟨o,its,n,hk,hc,hd,hs,hz,r⟩
  · obtain⟨z,its,n,r,e⟩:=h.ok I.hok
    exact⟨its,r,⟨_,n,e,rfl,rfl,rfl⟩,z⟩
  · refine⟨its.toList,r,⟨o,n,I.kIn a o hk,hc,hd,by simpa using hs⟩,?_⟩
    have e:=r.length
    simp only[Array.length_toList] at e
    omega
theorem Inv.tuple(I:Inv X pins σ H s)(h:SqT X.K H a xs):∃ its:List Value,Vals xs its/\IsTup s.heap a its.toArray/\xs.length<=sizeLine:=by
  rcases h with h | ⟨o,its,n,hk,hc,hs,hz,r⟩
  · obtain⟨z,its,r,p⟩:=h.ok I.hok
    exact⟨its,r,p,z⟩
  · refine⟨its.toList,r,⟨o,I.kIn a o hk,hc,n,by simpa using hs⟩,?_⟩
    have e:=r.length
    simp only[Array.length_toList] at e
    omega
theorem Inv.list_inj(I:Inv X pins σ H s)(h:SqL X.K H a xs)(h':SqL X.K H a ys):xs=ys:=by
  obtain⟨its,r,⟨o,n,e,_,_,d⟩,_⟩:=I.list h
  obtain⟨its',r',⟨o',n',e',_,_,d'⟩,_⟩:=I.list h'
  rw[e] at e';cases e'
  rw[d] at d'
  injection d' with d1 _
  have:its=its':=by simpa using congrArg Array.toList d1
  subst this
  exact r.inj r'
end
abbrev Cx.wish(X:Cx)(E:Value->Shared->Prop):Cx:={ X with xe:=E }
abbrev Cx.nox(X:Cx):Cx:=X.wish fun _ _=>False
theorem Cx.Ok.wish{X:Cx}(ok:X.Ok)(E:Value->Shared->Prop):(X.wish E).Ok :=
  ⟨ok.mod,ok.kind,ok.glob,ok.blt,ok.above,ok.inj,ok.has,ok.cab,ok.hd,ok.frames,ok.stk,ok.exf,ok.bs,ok.bsz,ok.noex,ok.exfs,ok.funs,ok.frf⟩
theorem Cx.Ok.unwish{X:Cx}{E:Value->Shared->Prop}(ok:(X.wish E).Ok):X.Ok :=
  ⟨ok.mod,ok.kind,ok.glob,ok.blt,ok.above,ok.inj,ok.has,ok.cab,ok.hd,ok.frames,ok.stk,ok.exf,ok.bs,ok.bsz,ok.noex,ok.exfs,ok.funs,ok.frf⟩
section
variable {X:Cx} {pins:List (Addr × Obj)} {σ:St} {H:Hp} {s:Shared} {E:Value->Shared->Prop}
theorem Inv.wish(I:Inv X pins σ H s)(E:Value->Shared->Prop):Inv (X.wish E) pins σ H s:=⟨I.ok.wish E,I.os,I.bare,I.base,I.loc,I.cell,I.free,I.freeC,I.pin,I.hok,I.len⟩
theorem Inv.unwish(I:Inv (X.wish E) pins σ H s):Inv X pins σ H s:=⟨I.ok.unwish,I.os,I.bare,I.base,I.loc,I.cell,I.free,I.freeC,I.pin,I.hok,I.len⟩
theorem SP.unwish{D:Ends}{f:Flow}{s':Shared}(h:SP (X.wish E) pins D f s'):SP X pins D f s':=by
  cases f with
  | next=>obtain⟨σ',H',I,q⟩:=h;exact⟨σ',H',I.unwish,q⟩
  | brk=>obtain⟨σ',H',I,q⟩:=h;exact⟨σ',H',I.unwish,q⟩
  | cont=>obtain⟨σ',H',I,q⟩:=h;exact⟨σ',H',I.unwish,q⟩
  | ret u=>obtain⟨v,σ',H',I,r,q⟩:=h;exact⟨v,σ',H',I.unwish,r,q⟩
theorem PE.nox{e:Expr}{t:TE}(h:PE X.nox e t):PE X e t:=fun pins s σ H Q I hw =>
  wpAny_mono (h pins s σ H Q (I.wish _) hw) (fun _ _ ⟨v,H',I',r,q⟩=>⟨v,H',I'.unwish,r,q⟩) fun _ _ z=>False.elim z
theorem PT.nox{e:Expr}{t:TT}(h:PT X.nox e t):PT X e t:=fun pins s σ H Q I hw =>
  wpAny_mono (h pins s σ H Q (I.wish _) hw) (fun _ _ ⟨H',I',q⟩=>⟨H',I'.unwish,q⟩) fun _ _ z=>False.elim z
theorem PSs.nox{st:List Stmt}{t:TS}(h:PSs X.nox st t):PSs X st t:=fun pins s σ H D I hw =>
  wpAny_mono (h pins s σ H D (I.wish _) hw) (fun _ _ q=>q.unwish) fun _ _ z=>False.elim z
end
section
variable {X:Cx} {st:Stmt} {ar:List Stmt} {t u:TS} {e:Expr} {te:TE} {pos:Pos}
def wb:TS:=fun D σ H=>D.nx σ H
def wc(t u:TS):TS:=fun D σ H=>t { D with nx:=u D } σ H
theorem ph:PSs X [] wb:=fun _ _ σ H _ I h=>wpAny_execs_nil ⟨σ,H,I,h⟩
theorem iE(h1:PS X st t)(h2:PSs X ar u):PSs X (st::ar) (wc t u):=by
  intro pins s σ H D I h
  refine wpAny_execs_cons (thn (h1 pins s σ H { D with nx:=u D } I h) fun f s1 q=>?_)
  cases f with
  | next =>
    obtain⟨σ',H',I',q⟩:=q
    exact h2 pins s1 σ' H' D I' q
  | ret v=>exact q
  | brk=>exact q
  | cont=>exact q
theorem lP(h1:PS X st t):PSs X [st] t:=by
  intro pins s σ H D I h
  refine wpAny_execs_cons (thn (h1 pins s σ H D I h) fun f s1 q=>?_)
  cases f with
  | next=>exact wpAny_execs_nil q
  | ret v=>exact q
  | brk=>exact q
  | cont=>exact q
theorem Inv.quiet{pins:List (Addr × Obj)}{σ:St}{H:Hp}{s:Shared}(I:Inv X pins σ H s):interactive X.env=false:=by simp[interactive,I.ok.kind]
def wd(te:TE):TS:=fun D σ H=>te σ H fun _ H1=>D.nx σ H1
theorem iF(he:PE X e te)(hs:swapsWith e none pos.line X.env=pure false:=by rfl):PS X (.Expr e pos) (wd te):=by
  intro pins s σ H D I h
  exact wpAny_Expr_any (thn (he pins s σ H _ I h) fun v s1 ⟨x,H1,I1,r1,q1⟩=>⟨σ,H1,I1,q1⟩) I.quiet hs
def we(te:TE):TS:=fun D σ H=>te σ H D.rt
theorem gM(he:PE X e te):PS X (.Return (some e) pos) (we te):=by
  intro pins s σ H D I h
  exact wpAny_Return_some (thn (he pins s σ H _ I h) fun v s1 ⟨x,H1,I1,r1,q1⟩=>⟨x,σ,H1,I1,r1,q1⟩)
def wf(c:TT)(t u:TS):TS:=fun D σ H=>c σ H fun b H1=>if b=true then t D σ H1 else u D σ H1
theorem pj{c:Expr}{a b:List Stmt}{tc:TT}(hc:PT X c tc)(ha:PSs X a t)(hb:PSs X b u):PS X (.If c a b pos) (wf tc t u):=by
  intro pins s σ H D I h
  refine wpAny_If (thn (hc pins s σ H _ I h) fun d s1 ⟨H1,I1,q1⟩=>?_)
  cases d with
  | true=>exact ha pins s1 σ H1 D I1 q1
  | false=>exact hb pins s1 σ H1 D I1 q1
def wg:TS:=fun _ _ _=>False
theorem wj{sts:List Stmt}:PSs X sts wg:=fun _ _ _ _ _ _ h=>h.elim
end
abbrev TG:=V->St->Hp->(St->Hp->Prop)->Prop
abbrev TGs:=List V->St->Hp->(St->Hp->Prop)->Prop
def PG(X:Cx)(target:Expr)(t:TG):Prop :=
  ∀ (pins:List (Addr × Obj)) (s:Shared) (σ:St) (H:Hp) (v:V) (u:Value) (Q:St->Hp->Prop),Inv X pins σ H s->RelV v u->t v σ H Q ->
    wpAny (model X.prog X.w) X.A (assign target X.env u) (fun _ s'=>∃ σ' H',Inv X pins σ' H' s'/\Q σ' H') X.xe s
def PGs(X:Cx)(ts:List Expr)(t:TGs):Prop :=
  ∀ (pins:List (Addr × Obj)) (s:Shared) (σ:St) (H:Hp) (vs:List V) (us:List Value) (Q:St->Hp->Prop),Inv X pins σ H s->Vals vs us->t vs σ H Q ->
    wpAny (model X.prog X.w) X.A (assignInOrder ((assignEach ts X.env).map (·.2)) us) (fun _ s'=>∃ σ' H',Inv X pins σ' H' s'/\Q σ' H') X.xe s
abbrev lQ:=V->V->V->Hp->(Hp->Prop)->Prop
def pk(X:Cx)(t:lQ):Prop :=
  ∀ (pins:List (Addr × Obj)) (s:Shared) (σ:St) (H:Hp) (o i v:V) (ov iv u:Value) (Q:Hp->Prop),Inv X pins σ H s->RelV o ov->RelV i iv->RelV v u->t o i v H Q ->
    wpAny (model X.prog X.w) X.A (setItem ov iv u) (fun _ s'=>∃ H',Inv X pins σ H' s'/\Q H') X.xe s
section
variable {X:Cx} {pos:Pos}
def bQ(i:Nat):TG:=fun v σ H Q=>Q (σ.set i (some v)) H
theorem bH{i:Nat}{x:Str}(hN:X.N.Nodup)(hi:X.N[i]?=some x)(hx:Loc X.env.scope x)(hf:X.fn x=true\/X.env.scope.names.lookup x=some .local:=by first | exact .inl rfl | exact .inr rfl | assumption):PG X (.Name x pos) (bQ i):=by
  intro pins s σ H v u Q I r h
  exact wpAny_assign_Name (p8 I hN hi hx r (fun s' I'=>⟨_,H,I',h⟩) hf)
def pp:TGs:=fun vs σ H Q=>vs=[]/\Q σ H
def pv(t:TG)(u:TGs):TGs:=fun vs σ H Q=>∃ v r,vs=v::r/\t v σ H fun σ' H'=>u r σ' H' Q
theorem wk:PGs X [] pp:=by
  intro pins s σ H vs us Q I r h
  obtain⟨e,h⟩:=h
  subst e
  cases r
  exact assignInOrder_nil ⟨σ,H,I,h⟩
theorem wl{e:Expr}{es:List Expr}{t:TG}{u:TGs}(h1:PG X e t)(h2:PGs X es u)(hs:(assignEach (e::es) X.env).map (·.2)=assign e X.env::(assignEach es X.env).map (·.2):=by rfl):PGs X (e::es) (pv t u):=by
  intro pins s σ H vs us Q I r h
  obtain⟨v,vr,e1,h⟩:=h
  subst e1
  cases r with
  | cons r rr =>
    rw[hs]
    refine assignInOrder_cons (thn (h1 pins s σ H _ _ _ I r h) fun _ s1 ⟨σ1,H1,I1,q1⟩=>?_)
    exact h2 pins s1 σ1 H1 _ _ Q I1 rr q1
def iG(K:PySem.W.Frag)(n:Nat)(t:TGs):TG:=fun v σ H Q=>∃ a xs,v=.ref a/\SqT K H a xs/\xs.length=n/\t xs σ H Q
theorem fw{es:List Expr}{k:Nat}{t:TGs}{n:Nat}(hc:X.calm=true)(h:PGs X es t)(hn:(assignEach es X.env).length=n:=by rfl)(hst:(assignEach es X.env).findIdx? (·.1)=none:=by rfl):PG X (.Tuple es k pos) (iG X.K n t):=by
  intro pins s σ H v u Q I r hw
  obtain⟨a,xs,e1,hq,hl,hw⟩:=hw
  subst e1
  cases r
  obtain⟨its,rv,ht,hz⟩:=I.tuple hq
  refine assign_Tuple_tuple (I.ok.hd hc) ht (by simp[hn,<- hl,rv.length]) hst fun h' hx=>?_
  have I1:Inv X pins σ H { s with heap:=h' }:=I.kept (t':=s.toks) fun b o e=>hx b o (Nat.ne_of_lt (Heap.lt_size e)) e
  exact h pins _ σ H xs _ Q I1 (by simpa using rv) hw
def wm(to ti:TE)(t:lQ):TG:=fun v σ H Q=>to σ H fun o H1=>ti σ H1 fun i H2=>t o i v H2 fun H3=>Q σ H3
theorem pw{o i:Expr}{to ti:TE}{t:lQ}(ho:PE X o to)(hi:PE X i ti)(hs:pk X t)(ha:∀ v,assign (.Subscript o i pos) X.env v=(do
      let ov <- holding [v] (eval o X.env)
      let iv <- holding [v,ov] (eval i X.env)
      standAt pos
      holding [v,ov,iv] (setItem ov iv v)
      release [v,ov,iv] []):=by intro _;rfl):PG X (.Subscript o i pos) (wm to ti t):=by
  intro pins s σ H v u Q I r h
  rw[ha]
  refine wpAny_bind (wpAny_holding (thn (ho pins s σ H _ I h) fun ov s1 ⟨x,H1,I1,r1,q1⟩=>?_))
  refine wpAny_bind (wpAny_holding (thn (hi pins s1 σ H1 _ I1 q1) fun iv s2 ⟨y,H2,I2,r2,q2⟩=>?_))
  refine wpAny_bind (wpAny_standAt (wpAny_bind (wpAny_holding (thn (hs pins s2 σ H2 x y v ov iv u _ I2 r1 r2 r q2) fun _ s3 ⟨H3,I3,q3⟩=>?_))))
  exact wpAny_release ⟨σ,H3,I3,q3⟩
def py(te:TE)(g:TG):TS:=fun D σ H=>te σ H fun x H1=>g x σ H1 D.nx
theorem jN{tg e:Expr}{te:TE}{g:TG}(he:PE X e te)(hg:PG X tg g)(hs:swapsWithSole [tg] e pos.line X.env=pure false:=by rfl)(hw:swappedStores [tg] e X.env=pure none:=by rfl)(h1:(assignEach [tg] X.env).map (·.2)=[assign tg X.env]:=by rfl):PS X (.Assign [tg] e pos) (py te g):=by
  intro pins s σ H D I h
  refine wpAny_Assign_stores (thn (he pins s σ H _ I h) fun v s1 ⟨x,H1,I1,r1,q1⟩=>?_) hs hw
  rw[h1]
  exact thn (hg pins s1 σ H1 x v _ I1 r1 q1) fun _ s2 q=>q
theorem jO{i:Nat}{x:Str}{e:Expr}{te:TE}{pos':Pos}(hN:X.N.Nodup)(hi:X.N[i]?=some x)(hx:Loc X.env.scope x)(he:PE X e te)(hs:swapsWith e (some (.Name x pos')) pos.line X.env=pure false:=by rfl)(hf:X.fn x=true\/X.env.scope.names.lookup x=some .local:=by first | exact .inl rfl | exact .inr rfl | assumption):
    PS X (.Assign [.Name x pos'] e pos) (py te (bQ i)):=by
  intro pins s σ H D I h
  refine wpAny_Assign_Name (thn (he pins s σ H _ I h) fun v s1 ⟨y,H1,I1,r1,q1⟩=>?_) hs
  exact p8 I1 hN hi hx r1 (fun s2 I2=>⟨_,H1,I2,q1⟩) hf
end
section
variable {X:Cx} {pos:Pos}
end
structure It where
  go:Nat->Hp->Prop
  yld:Nat->Hp->V->Hp->Prop
  stop:Nat->Hp->Prop
def bI(X:Cx)(pins:List (Addr × Obj))(H:Hp)(b:Addr):Prop :=
  H b=none/\b ≠ X.env.locals/\b ∉ X.fs/\(b ∈ X.ex\/X.s₀.heap.objs.size<=b)/\(∀ x c,X.env.cells.lookup x=some c->c ≠ b)/\∀ p ∈ X.pn++pins,p.1 ≠ b
theorem Inv.fpOk{X:Cx}{pins:List (Addr × Obj)}{σ:St}{H H':Hp}{s:Shared}{b:Addr}(I:Inv X pins σ H s)(hb:s.heap.objs.size<=b)(hn:H' b=none):bI X pins H' b:=by
  refine⟨hn,Nat.ne_of_gt (Nat.lt_of_lt_of_le I.lt hb),I.nofs hb,.inr (Nat.le_trans I.sz hb),fun x c e z=>?_,fun p hp z=>?_⟩
  · obtain⟨v,q⟩:=I.cell x c e
    exact absurd (Nat.lt_of_lt_of_le q.lt (by rw[z];exact hb)) (Nat.lt_irrefl _)
  · exact absurd (Nat.lt_of_lt_of_le (Heap.lt_size (I.pin p hp).1) (by rw[z];exact hb)) (Nat.lt_irrefl _)
structure Turn (P:Program) (w:World) (K:PySem.W.Frag) (tg:Expr) (J:It) (fp:List Addr) (it:Addr) (tn:Nat->Heap->Prop):Prop where
  mem:it ∈ fp
  obj:∀ i h,tn i h->∀ b ∈ fp,∃ o,h.get? b=some o/\∀ v,o.data ≠ .cell v
  keep:∀ i h h',tn i h->(∀ b ∈ fp,∀ o,h.get? b=some o->h'.get? b=some o)->tn i h'
  item:∀ (X:Cx),X.prog=P->X.w=w->X.K=K->X.calm=true->∀ (i:Nat) (pins:List (Addr × Obj)) (s:Shared) (σ:St) (H:Hp) (E:Value->Shared->Prop),Inv X pins σ H s->(∀ b ∈ fp,bI X pins H b)->tn i s.heap->J.go i H ->
    wpAny (model P w) X.A (pyNext (.ref it)) (fun r s1=>∃ u,r=some u /\
      wpAny (model P w) X.A (letOwnedTupleGo tg (.ref it) u) (fun _ s2=>∃ x H',Inv X pins σ H' s2/\RelV x u/\J.yld i H x H'/\tn (i+1) s2.heap/\∀ b ∈ fp,H' b=none) E s1) E s
  done:∀ (X:Cx),X.prog=P->X.w=w->X.K=K->X.calm=true->∀ (i:Nat) (pins:List (Addr × Obj)) (s:Shared) (σ:St) (H:Hp) (E:Value->Shared->Prop),Inv X pins σ H s->(∀ b ∈ fp,bI X pins H b)->tn i s.heap->J.stop i H ->
    wpAny (model P w) X.A (pyNext (.ref it)) (fun r s1=>r=none/\Inv X pins σ H s1) E s
  self:∀ (A:Around) (i:Nat) (s:Shared) (Q:Value->Shared->Prop) (E:Value->Shared->Prop),tn i s.heap->Q (.ref it) s->wpAny (model P w) A (pyIter (.ref it)) Q E s
abbrev TI:=St->Hp->(It->Hp->Prop)->Prop
def PIE(X:Cx)(pins:List (Addr × Obj))(σ:St)(tg:Expr)(R:It->Hp->Prop)(itv:Value)(s2:Shared):Prop :=
  ∃ (it:Addr) (fp:List Addr) (tn:Nat->Heap->Prop) (J:It) (H':Hp),itv=.ref it/\Inv X pins σ H' s2/\Turn X.prog X.w X.K tg J fp it tn/\tn 0 s2.heap/\(∀ b ∈ fp,bI X pins H' b)/\R J H'
def PI(X:Cx)(tg iter:Expr)(wi:TI):Prop :=
  ∀ (pins:List (Addr × Obj)) (s:Shared) (σ:St) (H:Hp) (R:It->Hp->Prop),Inv X pins σ H s->wi σ H R ->
    wpAny (model X.prog X.w) X.A (eval iter X.env) (fun v s1=>wpAny (model X.prog X.w) X.A (pyIter v) (PIE X pins σ tg R) X.xe s1) X.xe s
theorem jP{M:Model}{A:Around}{E:Value->Shared->Prop}{s:Shared}{tg:Expr}{it:Addr}{u:Value}{o:Obj}{n:String}{vs:Array Value}{Q:Unit->Shared->Prop}(ho:s.heap.get? it=some o)(hc:o.cls=.type n)(hd:o.data=.fields vs)(hn:["enumerate","zip","dict_itemiterator","dict_reverseitemiterator","odict_iterator","itertools.zip_longest","itertools.pairwise"].contains n=false)(hQ:Q () s):wpAny M A (letOwnedTupleGo tg (.ref it) u) Q E s:=by
  unfold letOwnedTupleGo
  cases tg <;> first
    | exact wpAny_pure hQ
    | (cases u <;> first
        | exact wpAny_pure hQ
        | (refine wpAny_bind (wpAny_load ho ?_)
           rw[hc,hd]
           show wpAny M A (if (["enumerate","zip","dict_itemiterator","dict_reverseitemiterator","odict_iterator","itertools.zip_longest","itertools.pairwise"].contains n && vs[0]? == some (rawInt _))=true then _ else _) Q E s
           rw[if_neg (by intro h;rw[hn,Bool.false_and] at h;cases h)]
           exact wpAny_pure hQ))
def Itl(K:PySem.W.Frag)(a:Addr):It :=
  ⟨fun i H=>∃ xs x,SqL K H a xs/\xs[i]?=some x,fun i H x H'=>H'=H/\∀ xs,SqL K H a xs->xs[i]?=some x,fun i H=>∃ xs,SqL K H a xs/\xs.length<=i⟩
def Itr(lo:Int)(n:Nat):It:=⟨fun i _=>i < n,fun i H x H'=>H'=H/\x=.int (lo+i),fun i _=>n<=i⟩
theorem wn{P:Program}{w:World}{K:PySem.W.Frag}{tg:Expr}(a it:Addr):Turn P w K tg (Itl K a) [it] it (fun i h=>h.IsListIter it a i) where
  mem:=by simp
  obj:=fun i h st b hb=>by
    have e:b=it:=by simpa using hb
    subst e
    obtain⟨o,e,c,d⟩:=st
    exact⟨o,e,fun v z=>by rw[d] at z;cases z⟩
  keep:=fun i h h' st k=>st.at fun o e=>k it (by simp) o e
  item:=by
    intro X hP hw hK hc i pins s σ H E I hf st hg
    subst hP hw hK
    obtain⟨xs,x,hq,hx⟩:=hg
    obtain⟨its,rv,p,hz⟩:=I.list hq
    obtain⟨u,hu,ru⟩:=rv.get hx
    obtain⟨f0,f1,f2,f3,f4,f5⟩:=hf it (by simp)
    refine wpAny_pyNext_list_item st p.isList (x:=u) (by simpa using hu) fun h' st' sb=>?_
    have I1:Inv X pins σ H { s with heap:=h' }:=I.turned (t':=s.toks) (fun b o hb e=>(sb.2 b hb).trans e) f0 f1 f3 f4 f5
    obtain⟨o,e,c,d⟩:=id st'
    exact⟨u,rfl,jP (s:={ s with heap:=h' }) e c d (by decide) ⟨x,H,I1,ru,⟨rfl,fun ys hy=>by rw[I.list_inj hy hq];exact hx⟩,st',fun b hb=>(hf b hb).1⟩⟩
  done:=by
    intro X hP hw hK hc i pins s σ H E I hf st hg
    subst hP hw hK
    obtain⟨xs,hq,hx⟩:=hg
    obtain⟨its,rv,p,hz⟩:=I.list hq
    obtain⟨f0,f1,f2,f3,f4,f5⟩:=hf it (by simp)
    have hl:=rv.length
    exact wpAny_pyNext_list_end (I.ok.hd hc) st p.isList (by simp;omega) fun h' eb=>⟨rfl,I.turned (t':=s.toks) (fun b o hb e=>eb b o hb e) f0 f1 f3 f4 f5⟩
  self:=fun _ _ _ _ _ st h=>wpAny_pyIter_listiter st h
theorem wo{P:Program}{w:World}{K:PySem.W.Frag}{tg:Expr}(it:Addr)(lo:Int)(n:Nat):Turn P w K tg (Itr lo n) [it] it (fun i h=>IsRangeIter h it (lo+(i:Nat) * 1) ((n:Int) - (i:Nat)) 1) where
  mem:=by simp
  obj := fun i h st b hb=>by
    have e:b=it:=by simpa using hb
    subst e
    exact⟨_,st,fun v z=>by
      have z':Data.fields _=Data.cell v:=z
      cases z'⟩
  keep:=fun i h h' st k=>k it (by simp) _ st
  item:=by
    intro X hP hw hK hc i pins s σ H E I hf st hg
    subst hP hw hK
    obtain⟨f0,f1,f2,f3,f4,f5⟩:=hf it (by simp)
    have W:=Walks.range (prog:=X.prog) (w:=X.w) (I.ok.hd hc) it lo 1 n
    refine W.item i s _ _ hg st fun v h' tk hv st' kk=>?_
    obtain⟨t,rfl⟩:=hv
    have I1:Inv X pins σ H { s with heap:=h',toks:=tk }:=I.turned (fun b o hb e=>kk b o (by simpa using hb) e) f0 f1 f3 f4 f5
    refine⟨_,rfl,jP (s:={ s with heap:=h',toks:=tk }) (n:="range_iterator") st' rfl rfl (by decide) ⟨.int (lo+i),H,I1,⟨t,?_⟩,⟨rfl,rfl⟩,st',fun b hb=>(hf b hb).1⟩⟩
    rw[Int.mul_one]
  done:=by
    intro X hP hw hK hc i pins s σ H E I hf st hg
    subst hP hw hK
    obtain⟨f0,f1,f2,f3,f4,f5⟩:=hf it (by simp)
    exact wpAny_pyNext_range_end (I.ok.hd hc) st (by have:n<=i:=hg;omega) fun h' eb=>⟨rfl,I.turned (t':=s.toks) (fun b o hb e=>eb b o hb e) f0 f1 f3 f4 f5⟩
  self:=fun _ _ _ _ _ st h=>wpAny_pyIter_rangeiter st h
end L2
namespace L2
open PySem PySem.Spec PyProof.Rows
section
variable {X:Cx} {tg:Expr}
def pz(K:PySem.W.Frag)(tl:TE):TI:=fun σ H R=>tl σ H fun x H1=>∃ a,x=.ref a/\(∃ xs,SqL K H1 a xs)/\R (Itl K a) H1
theorem jQ{l:Expr}{tl:TE}(hl:PE X l tl):PI X tg l (pz X.K tl):=by
  intro pins s σ H R I h
  refine thn (hl pins s σ H _ I h) fun v s1 ⟨x,H1,I1,r1,q1⟩=>?_
  obtain⟨a,e,⟨xs,hq⟩,q⟩:=q1
  subst e
  cases r1
  obtain⟨its,rv,p,hz⟩:=I1.list hq
  refine wpAny_pyIter_list p.isList ?_
  refine⟨s1.heap.objs.size,[s1.heap.objs.size],_,_,H1,rfl,I1.kept (t':=s1.toks) fun b o e=>Heap.get?_push_of_some _ e,wn a _,⟨_,Heap.get?_push_size _ rfl,rfl,rfl⟩,fun b hb=>?_,q⟩
  have e:b=s1.heap.objs.size:=by simpa using hb
  subst e
  exact I1.fpOk (Nat.le_refl _) (I1.hok.fresh (Nat.le_refl _))
theorem pA{pins:List (Addr × Obj)}{σ:St}{H:Hp}{s:Shared}{R:It->Hp->Prop}{E:Value->Shared->Prop}{lo hi:Int}{t u v:Tok}{tk:Nat}(I:Inv X pins σ H s)(h1:-(2 ^ 62)<=lo)(h2:lo < 2 ^ 62)(h3:-(2 ^ 62)<=hi)(h4:hi < 2 ^ 62)(q:R (Itr lo (hi - lo).toNat) H):wpAny (model X.prog X.w) X.A (pyIter (.ref s.heap.objs.size)) (PIE X pins σ tg R) E { s with heap:=s.heap.push { cls:=.type "range",data:=.fields #[.int lo t,.int hi u,.int 1 v] },toks:=tk }:=by
  refine wpAny_pyIter_range (IsRange.new ..) (small_one h1 h2 h3 h4) ?_
  have I1:Inv X pins σ H { s with heap:=s.heap.push { cls:=.type "range",data:=.fields #[.int lo t,.int hi u,.int 1 v] },toks:=tk }:=I.kept fun b o e=>Heap.get?_push_of_some _ e
  refine⟨(s.heap.push { cls:=.type "range",data:=.fields #[.int lo t,.int hi u,.int 1 v] }).objs.size,[(s.heap.push { cls:=.type "range",data:=.fields #[.int lo t,.int hi u,.int 1 v] }).objs.size],_,_,H,rfl,
    I1.kept (t':=tk) fun b o e=>Heap.get?_push_of_some _ e,wo _ lo (hi - lo).toNat,?_,fun b hb=>?_,q⟩
  · have e1:lo+((0:Nat):Int) * 1=lo:=by simp
    have e2:(((hi - lo).toNat:Nat):Int) - ((0:Nat):Int)=Builtin.Range.rangeSize lo hi 1:=by rw[rangeSize_one];split <;> omega
    show IsRangeIter _ _ (lo+((0:Nat):Int) * 1) ((((hi - lo).toNat:Nat):Int) - ((0:Nat):Int)) 1
    rw[e1,e2]
    exact Heap.get?_push_size _ rfl
  · have e:b=(s.heap.push { cls:=.type "range",data:=.fields #[.int lo t,.int hi u,.int 1 v] }).objs.size:=by simpa using hb
    subst e
    exact I1.fpOk (Nat.le_refl _) (I1.hok.fresh (Nat.le_refl _))
def pB(ta:TA):TI:=fun σ H R=>ta σ H fun vs H1=>∃ j:Int,vs=[.int j]/\-(2 ^ 62)<=j/\j < 2 ^ 62/\R (Itr 0 j.toNat) H1
def wp(ta:TA):TI:=fun σ H R=>ta σ H fun vs H1=>∃ i j:Int,vs=[.int i,.int j]/\(-(2 ^ 62)<=i/\i < 2 ^ 62/\-(2 ^ 62)<=j/\j < 2 ^ 62)/\R (Itr i (j - i).toNat) H1
theorem jR{a:Expr}{ta:TA}{p pos:Pos}(hg:Gl X "range")(hm:X.mg "range" = none)(ha:PA X [a] ta)(hs:starEach [a] X.env=[(false,eval a X.env)]:=by rfl):PI X tg (.Call (.Name "range" p) [a] [] pos) (pB ta):=by
  intro pins s σ H R I h
  refine Call_ (cJ I hg hm boot_range (PyProof.Rows.callWith_type1 (thn (ha pos pins s σ H _ I h) fun us s1 ⟨vs,H1,I1,r1,q1⟩=>?_) hs rfl))
  obtain⟨j,e,q1,q2,q⟩:=q1
  subst e
  cases r1 with
  | cons r rr =>
    cases rr
    obtain⟨t,rfl⟩:=r
    exact call_range_1 (pA I1 (by omega) (by omega) q1 q2 (by simpa using q))
theorem wq{a b:Expr}{ta:TA}{p pos:Pos}(hg:Gl X "range")(hm:X.mg "range" = none)(ha:PA X [a,b] ta)(hs:starEach [a,b] X.env=[(false,eval a X.env),(false,eval b X.env)]:=by rfl)(hs2:starEach [b] X.env=[(false,eval b X.env)]:=by rfl):
    PI X tg (.Call (.Name "range" p) [a,b] [] pos) (wp ta):=by
  intro pins s σ H R I h
  refine Call_ (cJ I hg hm boot_range (PyProof.Rows.callWith_type1 (thn (ha pos pins s σ H _ I h) fun us s1 ⟨vs,H1,I1,r1,q1⟩=>?_) (by rw[hs,hs2]) (by rw[hs2];rfl)))
  obtain⟨i,j,e,⟨q1,q2,q3,q4⟩,q⟩:=q1
  subst e
  cases r1 with
  | cons r rr =>
    cases rr with
    | cons r' rr =>
      cases rr
      obtain⟨t,rfl⟩:=r
      obtain⟨t',rfl⟩:=r'
      exact call_range_2 (pA I1 q1 q2 q3 q4 q)
def wu(wi:TI)(g:TG)(tb:TS):TS:=fun D σ H=>wi σ H fun J H1=>∃ W:Nat->Nat->St->Hp->Prop,(∃ m,W 0 m σ H1)/\∀ i m σ H,W i m σ H ->
  (J.stop i H/\D.nx σ H)\/(J.go i H/\∃ N:St->Hp->Prop,(∀ σ' H',N σ' H'->∃ m',m' < m/\W (i+1) m' σ' H')/\∀ x H',J.yld i H x H'->g x σ H' fun σ2 H2=>tb { D with nx:=N,ct:=N,bk:=D.nx } σ2 H2)
def iH(fp:List Addr)(h:Heap):List (Addr × Obj):=fp.filterMap fun b=>(h.get? b).map fun o=>(b,o)
theorem jS{fp:List Addr}{h:Heap}{b:Addr}{o:Obj}(hb:b ∈ fp)(e:h.get? b=some o):(b,o) ∈ iH fp h:=List.mem_filterMap.mpr ⟨b,hb,by rw[e];rfl⟩
theorem wv{fp:List Addr}{h:Heap}{p:Addr × Obj}(hp:p ∈ iH fp h):p.1 ∈ fp/\h.get? p.1=some p.2:=by
  obtain⟨b,hb,e⟩:=List.mem_filterMap.mp hp
  cases q:h.get? b with
  | none=>rw[q] at e;cases e
  | some o =>
    rw[q] at e
    have e':(b,o)=p:=Option.some.inj e
    subst e'
    exact⟨hb,q⟩
theorem Inv.pinned{pins:List (Addr × Obj)}{σ:St}{H:Hp}{s:Shared}{fp:List Addr}(I:Inv X pins σ H s)(hf:∀ b ∈ fp,bI X pins H b)(ho:∀ b ∈ fp,∃ o,s.heap.get? b=some o/\∀ v,o.data ≠ .cell v):Inv X (pins++iH fp s.heap) σ H s :=
  I.pins_of fun p hp=>(List.mem_append.mp hp).elim (fun z=>I.pin p (List.mem_append_right _ z)) fun z=>by
    obtain⟨hb,e⟩:=wv z
    obtain⟨f0,f1,f2,_⟩:=hf p.1 hb
    obtain⟨o,e',d⟩:=ho p.1 hb
    rw[e] at e';cases e'
    exact⟨e,f0,f1,f2,d⟩
theorem Inv.unpinned{pins pl:List (Addr × Obj)}{σ:St}{H:Hp}{s:Shared}(I:Inv X (pins++pl) σ H s):Inv X pins σ H s:=I.pins_of fun p hp=>I.pin p (List.mem_append_right _ (List.mem_append_left _ hp))
theorem dS{iter:Expr}{body:List Stmt}{wi:TI}{g:TG}{tb:TS}{pos:Pos}(hp:PassesOwn (model X.prog X.w) X.A X.env X.xe)(hc:X.calm=true)(hi:PI X tg iter wi)(hg:PG X tg g)(hb:PSs X body tb)(hs:∀ x,foldedSetIterable iter X.env x=pure x:=by intro _;rfl):PS X (.For tg iter body [] pos) (wu wi g tb):=by
  intro pins s σ H D I h
  refine wpAny_For (thn (hi pins s σ H _ I h) fun v s1 h1=>thn h1 fun itv s2 h2=>?_) hs
  obtain⟨it,fp,tn,J,H2,e,I2,T,st2,f2,W,⟨m0,w0⟩,turn⟩:=h2
  subst e
  have stat:∀ {H':Hp},(∀ b ∈ fp,H' b=none)->∀ b ∈ fp,bI X pins H' b:=fun hn b hb=>⟨hn b hb,(f2 b hb).2⟩
  refine codeAny_forLoop_any (fun n s'=>∃ i σ' H',Inv X pins σ' H' s'/\tn i s'.heap/\(∀ b ∈ fp,H' b=none)/\W i n σ' H') ?_ m0 ⟨0,σ,H2,I2,st2,fun b hb=>(f2 b hb).1,w0⟩
  rintro n s3 ⟨i,σ3,H3,I3,st3,fr3,w3⟩
  rcases turn i n σ3 H3 w3 with⟨stop,qn⟩ | ⟨go,N,hN,step⟩
  · refine wpAny_passesOwn hp (thn (T.done X rfl rfl rfl hc i pins s3 σ3 H3 X.xe I3 (stat fr3) st3 stop) fun r s4 ⟨hr,I4⟩=>?_)
    subst hr
    exact wpAny_execs_nil ⟨σ3,H3,I4,qn⟩
  · refine wpAny_passesOwn hp (thn (T.item X rfl rfl rfl hc i pins s3 σ3 H3 X.xe I3 (stat fr3) st3 go) fun r s4 ⟨u,hr,h4⟩=>?_)
    subst hr
    refine wpAny_passesOwn hp (thn h4 fun _ s5 ⟨x,H5,I5,r5,y5,st5,fr5⟩=>?_)
    have I5':=I5.pinned (stat fr5) (T.obj _ _ st5)
    refine wpAny_passesOwn hp (thn (hg _ s5 σ3 H5 x u _ I5' r5 (step x H5 y5)) fun _ s6 ⟨σ6,H6,I6,q6⟩=>?_)
    refine wpAny_passesOwn hp (thn (hb _ s6 σ6 H6 _ I6 q6) fun f s7 q7=>?_)
    have again:∀ {σ7:St} {H7:Hp},Inv X (pins++iH fp s5.heap) σ7 H7 s7->N σ7 H7->∃ m,m < n/\∃ i σ' H',Inv X pins σ' H' s7/\tn i s7.heap/\(∀ b ∈ fp,H' b=none)/\W i m σ' H':=fun {σ7 H7} I7 n7=>by
      obtain⟨m',hm,w7⟩:=hN σ7 H7 n7
      refine⟨m',hm,i+1,σ7,H7,I7.unpinned,T.keep _ _ _ st5 fun b hb o e=>(I7.pin (b,o) (List.mem_append_right _ (List.mem_append_right _ (jS hb e)))).1,fun b hb=>?_,w7⟩
      obtain⟨o,e,d⟩:=T.obj _ _ st5 b hb
      exact (I7.pin (b,o) (List.mem_append_right _ (List.mem_append_right _ (jS hb e)))).2.1
    cases f with
    | next=>obtain⟨σ7,H7,I7,n7⟩:=q7;exact again I7 n7
    | cont=>obtain⟨σ7,H7,I7,n7⟩:=q7;exact again I7 n7
    | brk=>obtain⟨σ7,H7,I7,q7⟩:=q7;exact⟨σ7,H7,I7.unpinned,q7⟩
    | ret v=>obtain⟨x7,σ7,H7,I7,r7,q7⟩:=q7;exact⟨x7,σ7,H7,I7.unpinned,r7,q7⟩
end
theorem pC{K:PySem.W.Frag}{a:Addr}{xs:List V}{g:TG}{tb:TS}{D:Ends}{σ:St}{H:Hp}(Pv:Nat->St->Hp->Prop)(h0:Pv 0 σ H)(hl:∀ i σ H,i<=xs.length->Pv i σ H->SqL K H a xs)(hs:∀ i x σ H,xs[i]?=some x->Pv i σ H->g x σ H fun σ2 H2=>tb { D with nx:=Pv (i+1),ct:=Pv (i+1),bk:=D.nx } σ2 H2)(hd:∀ σ H,Pv xs.length σ H->D.nx σ H):
    ∃ W:Nat->Nat->St->Hp->Prop,(∃ m,W 0 m σ H)/\∀ i m σ H,W i m σ H ->
      ((Itl K a).stop i H/\D.nx σ H)\/((Itl K a).go i H/\∃ N:St->Hp->Prop,(∀ σ' H',N σ' H'->∃ m',m' < m/\W (i+1) m' σ' H')/\∀ x H',(Itl K a).yld i H x H'->g x σ H' fun σ2 H2=>tb { D with nx:=N,ct:=N,bk:=D.nx } σ2 H2):=by
  refine⟨fun i m σ H=>m=xs.length - i/\i<=xs.length/\Pv i σ H,⟨xs.length,by simp,Nat.zero_le _,h0⟩,?_⟩
  rintro i m σ H ⟨rfl,hi,p⟩
  have q:=hl i σ H hi p
  by_cases hlt:i < xs.length
  · refine .inr ⟨⟨xs,xs[i],q,by simp[hlt]⟩,Pv (i+1),fun σ' H' p'=>⟨xs.length - (i+1),by omega,rfl,hlt,p'⟩,fun x H' y=>?_⟩
    obtain⟨e,y⟩:=y
    subst e
    exact hs i x σ _ (y xs q) p
  · have e:i=xs.length:=by omega
    subst e
    exact .inl ⟨⟨xs,q,Nat.le_refl _⟩,hd σ H p⟩
theorem pE{lo:Int}{n:Nat}{g:TG}{tb:TS}{D:Ends}{σ:St}{H:Hp}(Pv:Nat->St->Hp->Prop)(h0:Pv 0 σ H)(hs:∀ i σ H,i < n->Pv i σ H->g (.int (lo+i)) σ H fun σ2 H2=>tb { D with nx:=Pv (i+1),ct:=Pv (i+1),bk:=D.nx } σ2 H2)(hd:∀ σ H,Pv n σ H->D.nx σ H):
    ∃ W:Nat->Nat->St->Hp->Prop,(∃ m,W 0 m σ H)/\∀ i m σ H,W i m σ H ->
      ((Itr lo n).stop i H/\D.nx σ H)\/((Itr lo n).go i H/\∃ N:St->Hp->Prop,(∀ σ' H',N σ' H'->∃ m',m' < m/\W (i+1) m' σ' H')/\∀ x H',(Itr lo n).yld i H x H'->g x σ H' fun σ2 H2=>tb { D with nx:=N,ct:=N,bk:=D.nx } σ2 H2):=by
  refine⟨fun i m σ H=>m=n - i/\i<=n/\Pv i σ H,⟨n,by simp,Nat.zero_le _,h0⟩,?_⟩
  rintro i m σ H ⟨rfl,hi,p⟩
  by_cases hlt:i < n
  · refine .inr ⟨hlt,Pv (i+1),fun σ' H' p'=>⟨n - (i+1),by omega,rfl,hlt,p'⟩,fun x H' y=>?_⟩
    obtain⟨e,y⟩:=y
    subst e y
    exact hs i σ _ hlt p
  · have e:i=n:=by omega
    subst e
    exact .inl ⟨Nat.le_refl _,hd σ H p⟩
end L2
namespace L2
open PySem PySem.Spec PyProof.Rows
abbrev R2:=V->V->Hp->VK->Prop
def OpR(X:Cx)(f:Value->Value->Sem Value)(r:R2):Prop :=
  ∀ (pins:List (Addr × Obj)) (s:Shared) (σ:St) (H:Hp) (x y:V) (v u:Value) (Q:VK),Inv X pins σ H s->RelV x v->RelV y u->r x y H Q ->
    wpAny (model X.prog X.w) X.A (f v u) (EP X pins σ Q) X.xe s
def UnR(X:Cx)(f:Value->Sem Value)(r:V->Hp->VK->Prop):Prop :=
  ∀ (pins:List (Addr × Obj)) (s:Shared) (σ:St) (H:Hp) (x:V) (v:Value) (Q:VK),Inv X pins σ H s->RelV x v->r x H Q ->
    wpAny (model X.prog X.w) X.A (f v) (EP X pins σ Q) X.xe s
def CallR(X:Cx)(f:Value)(r:List V->Hp->VK->Prop):Prop :=
  ∀ (pins:List (Addr × Obj)) (s:Shared) (σ:St) (H:Hp) (xs:List V) (us:List Value) (Q:VK),Inv X pins σ H s->Vals xs us->r xs H Q ->
    wpAny (model X.prog X.w) X.A (call f us) (EP X pins σ Q) X.xe s
def ww(X:Cx)(r:V->Hp->(Bool->Hp->Prop)->Prop):Prop :=
  ∀ (pins:List (Addr × Obj)) (s:Shared) (σ:St) (H:Hp) (x:V) (v:Value) (Q:Bool->Hp->Prop),Inv X pins σ H s->RelV x v->r x H Q ->
    wpAny (model X.prog X.w) X.A (truthy v) (TP X pins σ Q) X.xe s
def tOp(r:R2)(ta tb:TE):TE:=fun σ H Q=>ta σ H fun x H1=>tb σ H1 fun y H2=>r x y H2 Q
def tUn(r:V->Hp->VK->Prop)(ta:TE):TE:=fun σ H Q=>ta σ H fun x H1=>r x H1 Q
def rI(C:Int->Int->Prop)(g:Int->Int->V):R2:=fun x y H Q=>∃ i j,x=.int i/\y=.int j/\C i j/\Q (g i j) H
def rI0(g:Int->Int->V):R2:=fun x y H Q=>∃ i j,x=.int i/\y=.int j/\Q (g i j) H
def rU(g:Int->V):V->Hp->VK->Prop:=fun x H Q=>∃ i,x=.int i/\Q (g i) H
section
variable {X:Cx} {a b c:Expr} {ta tb tc:TE} {pos:Pos}
theorem lR(ha:PE X a ta)(hb:PE X b tb){pins:List (Addr × Obj)}{s:Shared}{σ:St}{H:Hp}{R:V->V->Hp->Prop}(I:Inv X pins σ H s)(h:ta σ H fun x H1=>tb σ H1 fun y H2=>R x y H2){Q:Value->Shared->Prop}{f:Value->Value->Sem Value}(hf:∀ v u s2 x y H2,Inv X pins σ H2 s2->RelV x v->RelV y u->R x y H2->wpAny (model X.prog X.w) X.A (f v u) Q X.xe s2):
    wpAny (model X.prog X.w) X.A (eval a X.env) (fun v s₁=>wpAny (model X.prog X.w) X.A (eval b X.env) (fun u s₂=>wpAny (model X.prog X.w) X.A (f v u) Q X.xe s₂) X.xe s₁) X.xe s:=by
  refine thn (ha pins s σ H _ I h) fun v s1 ⟨x,H1,I1,r1,q1⟩=>?_
  refine thn (hb pins s1 σ H1 _ I1 q1) fun u s2 ⟨y,H2,I2,r2,q2⟩=>?_
  exact hf v u s2 x y H2 I2 r1 r2 q2
theorem jT{op:Operator}{r:R2}(ho:OpR X (binaryOp op) r)(ha:PE X a ta)(hb:PE X b tb):PE X (.BinOp a op b pos) (tOp r ta tb):=by
  intro pins s σ H Q I h
  exact wpAny_BinOp (lR ha hb I h fun v u s2 x y H2 I2 rx ry q=>ho pins s2 σ H2 x y v u Q I2 rx ry q)
theorem wx{op:UnaryOp}{r:V->Hp->VK->Prop}(ho:UnR X (unaryOp op) r)(ha:PE X a ta):PE X (.UnaryOp op a pos) (tUn r ta):=by
  intro pins s σ H Q I h
  exact UnaryOp_ (thn (ha pins s σ H _ I h) fun v s1 ⟨x,H1,I1,r1,q1⟩=>ho pins s1 σ H1 x v Q I1 r1 q1)
theorem opI{f:Value->Value->Sem Value}{C:Int->Int->Prop}{g:Int->Int->Int}(rule:∀ (i j:Int) (t u:Tok) (s:Shared) (Q:Value->Shared->Prop) (E:Value->Shared->Prop),C i j->Q (.int (g i j) s.toks) { s with toks:=s.toks+1 }->wpAny (model X.prog X.w) X.A (f (.int i t) (.int j u)) Q E s):
    OpR X f (rI C fun i j=>.int (g i j)):=by
  intro pins s σ H x y v u Q I rx ry h
  obtain⟨i,j,rfl,rfl,hc,q⟩:=h
  obtain⟨t,rfl⟩:=rx
  obtain⟨t',rfl⟩:=ry
  exact rule i j t t' s _ _ hc ⟨.int (g i j),H,I.tok _,⟨_,rfl⟩,q⟩
theorem pF{f:Value->Value->Sem Value}{g:Int->Int->Int}(rule:∀ (i j:Int) (t u:Tok) (s:Shared) (Q:Value->Shared->Prop) (E:Value->Shared->Prop),Q (.int (g i j) s.toks) { s with toks:=s.toks+1 }->wpAny (model X.prog X.w) X.A (f (.int i t) (.int j u)) Q E s):
    OpR X f (rI0 fun i j=>.int (g i j)):=by
  intro pins s σ H x y v u Q I rx ry h
  obtain⟨i,j,rfl,rfl,q⟩:=h
  obtain⟨t,rfl⟩:=rx
  obtain⟨t',rfl⟩:=ry
  exact rule i j t t' s _ _ ⟨.int (g i j),H,I.tok _,⟨_,rfl⟩,q⟩
theorem jU{f:Value->Value->Sem Value}{g:Int->Int->Bool}(rule:∀ (i j:Int) (t u:Tok) (s:Shared) (Q:Value->Shared->Prop) (E:Value->Shared->Prop),Q (.bool (g i j)) s->wpAny (model X.prog X.w) X.A (f (.int i t) (.int j u)) Q E s):
    OpR X f (rI0 fun i j=>.bl (g i j)):=by
  intro pins s σ H x y v u Q I rx ry h
  obtain⟨i,j,rfl,rfl,q⟩:=h
  obtain⟨t,rfl⟩:=rx
  obtain⟨t',rfl⟩:=ry
  exact rule i j t t' s _ _ ⟨.bl (g i j),H,I,rfl,q⟩
def CMul(i j:Int):Prop:=(-(2 ^ 64) < i/\i < 2 ^ 64)\/(-(2 ^ 64) < j/\j < 2 ^ 64)
theorem CMul.ok{i j:Int}(h:CMul i j):IntMulOk i j:=by
  rcases h with⟨h1,h2⟩ | ⟨h1,h2⟩
  · exact .of_left (intBits_le_64 h1 h2)
  · exact .of_right (intBits_le_64 h1 h2)
theorem pG:OpR X (binaryOp .Add) (rI0 fun i j=>.int (i+j)):=pF fun _ _ _ _ _ _ _ q=>add_int q
theorem pH:OpR X (binaryOp .Sub) (rI0 fun i j=>.int (i - j)):=pF fun _ _ _ _ _ _ _ q=>sub_int q
theorem wy:OpR X (binaryOp .Mod) (rI (fun _ j=>0 < j) fun i j=>.int (i % j)):=opI fun i j _ _ _ _ _ hc q=>by
  have h1:(0:Int) < j:=hc
  exact mod_int' (by omega) (by rw[Int.fmod_eq_emod_of_nonneg i (by omega)];exact q)
theorem unI{f:Value->Sem Value}{g:Int->Int}(rule:∀ (i:Int) (t:Tok) (s:Shared) (Q:Value->Shared->Prop) (E:Value->Shared->Prop),Q (.int (g i) s.toks) { s with toks:=s.toks+1 }->wpAny (model X.prog X.w) X.A (f (.int i t)) Q E s):
    UnR X f (rU fun i=>.int (g i)):=by
  intro pins s σ H x v Q I rx h
  obtain⟨i,rfl,q⟩:=h
  obtain⟨t,rfl⟩:=rx
  exact rule i t s _ _ ⟨.int (g i),H,I.tok _,⟨_,rfl⟩,q⟩
theorem wz:UnR X (unaryOp .USub) (rU fun i=>.int (-i)):=unI fun _ _ _ _ _ q=>neg_int q
end
section
variable {X:Cx} {a b c:Expr} {ta tb tc:TE} {pos:Pos}
theorem pI{pins:List (Addr × Obj)}{σ:St}{H:Hp}{s:Shared}{Q:VK}{k k':Bool}(I:Inv X pins σ H s)(q:Q (.bl k) H)(e:k=k'):EP X pins σ Q (.bool k') s:=by
  subst e
  exact⟨.bl k,H,I,rfl,q⟩
theorem wA:OpR X (compareOp .Lt) (rI0 fun i j=>.bl (decide (i < j))):=jU fun _ _ _ _ _ _ _ q=>lt_int q
theorem lS:OpR X (compareOp .LtE) (rI0 fun i j=>.bl (decide (i<=j))):=jU fun _ _ _ _ _ _ _ q=>le_int q
theorem pJ:OpR X (compareOp .Gt) (rI0 fun i j=>.bl (decide (j < i))):=jU fun _ _ _ _ _ _ _ q=>gt_int q
theorem wB:OpR X (compareOp .GtE) (rI0 fun i j=>.bl (decide (j<=i))):=jU fun _ _ _ _ _ _ _ q=>ge_int q
theorem lT:OpR X (compareOp .Is) (fun x y H Q=>y=.non/\Q (.bl (decide (x=.non))) H):=by
  intro pins s σ H x y v u Q I rx ry h
  obtain⟨rfl,q⟩:=h
  cases ry
  refine is_none_gen (pI I q ?_)
  cases x <;> first
    | (cases rx;rfl)
    | (obtain⟨t,rfl⟩:=rx;rfl)
theorem pK:OpR X (compareOp .IsNot) (fun x y H Q=>y=.non/\Q (.bl (!decide (x=.non))) H):=by
  intro pins s σ H x y v u Q I rx ry h
  obtain⟨rfl,q⟩:=h
  cases ry
  refine isnot_none_gen (pI I q ?_)
  cases x <;> first
    | (cases rx;rfl)
    | (obtain⟨t,rfl⟩:=rx;rfl)
theorem OpR.or{f:Value->Value->Sem Value}{r r':R2}(h:OpR X f r)(h':OpR X f r'):OpR X f (fun x y H Q=>r x y H Q\/r' x y H Q):=by
  intro pins s σ H x y v u Q I rx ry q
  rcases q with q | q
  · exact h pins s σ H x y v u Q I rx ry q
  · exact h' pins s σ H x y v u Q I rx ry q
theorem cv(b:Expr){op:CmpOp}(h:op ≠ .In:=by decide)(h2:op ≠ .NotIn:=by decide):behindInMarks op b=false:=by
  have e1:(op == CmpOp.In)=false:=by cases op <;> first | rfl | exact absurd rfl h
  have e2:(op == CmpOp.NotIn)=false:=by cases op <;> first | rfl | exact absurd rfl h2
  cases b <;> simp[behindInMarks,e1,e2]
theorem pL{op:CmpOp}{r:R2}(ho:OpR X (compareOp op) r)(ha:PE X a ta)(hb:PE X b tb)(hm:behindInMarks op b=false):PE X (.Compare a [op] [b] pos) (tOp r ta tb):=by
  intro pins s σ H Q I h
  exact wpAny_Compare1 (lR ha hb I h fun v u s2 x y H2 I2 rx ry q=>ho pins s2 σ H2 x y v u Q I2 rx ry q) hm
def wC(t:TE):TT:=fun σ H Q=>t σ H fun x H'=>∃ k,x=.bl k/\Q k H'
theorem pM{op:CmpOp}{r:R2}(ho:OpR X (compareOp op) r)(ha:PE X a ta)(hb:PE X b tb)(hm:behindInMarks op b=false):PT X (.Compare a [op] [b] pos) (wC (tOp r ta tb)):=by
  intro pins s σ H Q I h
  refine wpAny_isTrue_Compare1 (thn (ha pins s σ H _ I h) fun v s1 ⟨x,H1,I1,r1,q1⟩=>thn (hb pins s1 σ H1 _ I1 q1) fun u s2 ⟨y,H2,I2,r2,q2⟩ =>
    thn (ho pins s2 σ H2 x y v u _ I2 r1 r2 q2) fun c s3 ⟨z,H3,I3,r3,k,e,q3⟩=>?_) hm
  subst e
  cases r3
  exact wpAny_truthy_bool ⟨H3,I3,q3⟩
def pN(r r':R2)(ta tb tc:TE):TE:=fun σ H Q=>ta σ H fun x H1=>tb σ H1 fun y H2=>r x y H2 fun z H3=>∃ k,z=.bl k /\
  (if k=true then tc σ H3 fun w' H4=>r' y w' H4 Q else Q (.bl false) H3)
theorem wD{op op':CmpOp}{r r':R2}(ho:OpR X (compareOp op) r)(ho':OpR X (compareOp op') r')(ha:PE X a ta)(hb:PE X b tb)(hc:PE X c tc)(hm:lastMarks [op,op'] [b,c]=false:=by with_unfolding_all rfl):PE X (.Compare a [op,op'] [b,c] pos) (pN r r' ta tb tc):=by
  intro pins s σ H Q I h
  refine Compare_chain (thn (ha pins s σ H _ I h) fun v s1 ⟨x,H1,I1,r1,q1⟩=>chain_link (thn (hb pins s1 σ H1 _ I1 q1) fun u s2 ⟨y,H2,I2,r2,q2⟩ =>
    thn (ho pins s2 σ H2 x y v u _ I2 r1 r2 q2) fun d s3 ⟨z,H3,I3,r3,k,e,q3⟩=>?_)) hm
  subst e
  cases r3
  refine wpAny_truthy_bool ?_
  cases k with
  | false=>exact ite_ff ⟨.bl false,H3,I3,rfl,q3⟩
  | true=>exact ite_tt (chain_last (thn (hc pins s3 σ H3 _ I3 q3) fun w' s4 ⟨z',H4,I4,r4,q4⟩=>ho' pins s4 σ H4 y z' u w' Q I4 r2 r4 q4))
def lU(K:PySem.W.Frag)(x:V)(H:Hp)(k:Bool):Prop :=
  match x with
  | .non=>k=false
  | .bl b=>k=b
  | .int i=>k=(i != 0)
  | .str y=>y.length<=sizeLine/\k=((y.length:Int) != 0)
  | .byt y=>y.size<=sizeLine/\k=((y.size:Int) != 0)
  | .ref p=>(∃ xs,SqL K H p xs/\k = !xs.isEmpty)\/(∃ xs,SqT K H p xs/\k = !xs.isEmpty)\/∃ kvs,H p=some (.dK kvs)/\k = !kvs.isEmpty
  | _=>False
theorem wE{κ:Type}{kvs:List (κ × V)}{vs:List (κ × Value)}(r:KV kvs vs):(!vs.isEmpty) = !kvs.isEmpty:=by
  cases r <;> rfl
theorem pO{xs:List V}{its:List Value}(r:Vals xs its):(!its.toArray.isEmpty) = !xs.isEmpty:=by
  cases r <;> simp
theorem iI:(sizeLine:Nat) < 2 ^ 63:=by rw[sizeLine_eq];decide
theorem wF:ww X (fun x H Q=>∃ k,lU X.K x H k/\Q k H):=by
  intro pins s σ H x v Q I rx h
  obtain⟨k,e,q⟩:=h
  have hl:=iI
  have hs:sizeLine=16777216:=sizeLine_eq
  cases x with
  | non =>
    cases rx
    have e':k=false:=e
    subst e'
    exact truthy_none ⟨H,I,q⟩
  | bl b =>
    cases rx
    have e':k=b:=e
    subst e'
    exact wpAny_truthy_bool ⟨H,I,q⟩
  | int i =>
    obtain⟨t,rfl⟩:=rx
    have e':k=(i != 0):=e
    subst e'
    exact PySem.P.truthy_int ⟨H,I,q⟩
  | str y =>
    obtain⟨t,rfl⟩:=rx
    obtain⟨hy,e'⟩:y.length<=sizeLine/\k=((y.length:Int) != 0):=e
    subst e'
    exact PySem.P.truthy_str (by omega) ⟨H,I.tok _,q⟩
  | byt y =>
    obtain⟨t,rfl⟩:=rx
    obtain⟨hy,e'⟩:y.size<=sizeLine/\k=((y.size:Int) != 0):=e
    subst e'
    exact PySem.W.truthy_bytes (by omega) ⟨H,I.tok _,q⟩
  | ref p =>
    cases rx
    have e':(∃ xs,SqL X.K H p xs/\k = !xs.isEmpty)\/(∃ xs,SqT X.K H p xs/\k = !xs.isEmpty)\/∃ kvs,H p=some (.dK kvs)/\k = !kvs.isEmpty:=e
    rcases e' with⟨xs,hx,e'⟩ | ⟨xs,hx,e'⟩ | ⟨kvs,hx,e'⟩
    · subst e'
      obtain⟨its,r,pl,hz⟩:=I.list hx
      have hlen:=r.length
      exact wpAny_truthy_list pl.isList (by simp only[List.size_toArray];omega) ⟨H,I.tok _,by rw[pO r];exact q⟩
    · subst e'
      obtain⟨its,r,pl,hz⟩:=I.tuple hx
      have hlen:=r.length
      exact truthy_tuple pl (by simp only[List.size_toArray];omega) ⟨H,I.tok _,by rw[pO r];exact q⟩
    · subst e'
      obtain⟨hz,hS,vs,r,m⟩:kvs.length<=sizeLine/\(p == sysModules)=false/\∃ vs,KV kvs vs/\s.heap.DictOf (cj X.prog X.w) p vs:=I.hok p _ hx
      have hlen:kvs.length=vs.length:=Paired.length r
      exact wpAny_truthy_dict hS m (by omega) ⟨H,I.tok _,by rw[wE r];exact q⟩
  | _=>exact (show False from e).elim
theorem pP(ha:PE X a ta)(he:∀ whole,isTrue a X.env whole=(do let v <- whole;standAt a.pos;holding [v] (truthy v))):
    PT X a (fun σ H Q=>ta σ H fun x H'=>∃ k,lU X.K x H' k/\Q k H'):=by
  intro pins s σ H Q I h
  exact isTrue_plain (thn (ha pins s σ H _ I h) fun v s1 ⟨x,H1,I1,r1,q1⟩=>wF pins s1 σ H1 x v Q I1 r1 q1) (he _)
theorem dC{x:V}{us:List Value}(r:Vals [x] us):∃ u,us=[u]/\RelV x u:=by
  cases r with
  | cons r1 r2=>cases r2;exact⟨_,rfl,r1⟩
theorem lV{x y:V}{us:List Value}(r:Vals [x,y] us):∃ u w',us=[u,w']/\RelV x u/\RelV y w':=by
  cases r with
  | cons r1 r2 =>
    cases r2 with
    | cons r3 r4=>cases r4;exact⟨_,_,rfl,r1,r3⟩
theorem wG(hc:X.calm=true):CallR X (.builtin "max") (fun xs H Q=>∃ i j,xs=[.int i,.int j]/\Q (.int (if j > i then j else i)) H):=by
  intro pins s σ H xs us Q I r h
  obtain⟨i,j,rfl,q⟩:=h
  obtain⟨u,w',rfl,⟨t,rfl⟩,⟨t',rfl⟩⟩:=lV r
  refine max_two_ints (I.ok.hd hc) fun h' tk k=>⟨_,H,I.kept k,?_,q⟩
  by_cases hj:j > i
  · rw[if_pos hj,if_pos hj];exact⟨_,rfl⟩
  · rw[if_neg hj,if_neg hj];exact⟨_,rfl⟩
theorem wH(hc:X.calm=true):CallR X (.builtin "min") (fun xs H Q=>∃ i j,xs=[.int i,.int j]/\Q (.int (if j < i then j else i)) H):=by
  intro pins s σ H xs us Q I r h
  obtain⟨i,j,rfl,q⟩:=h
  obtain⟨u,w',rfl,⟨t,rfl⟩,⟨t',rfl⟩⟩:=lV r
  refine min_two_ints (I.ok.hd hc) fun h' tk k=>⟨_,H,I.kept k,?_,q⟩
  by_cases hj:j < i
  · rw[if_pos hj,if_pos hj];exact⟨_,rfl⟩
  · rw[if_neg hj,if_neg hj];exact⟨_,rfl⟩
theorem wI:CallR X (.type "int") (fun xs H Q=>(∃ i,xs=[.int i]/\Q (.int i) H)\/∃ k,xs=[.bl k]/\Q (.int (if k then 1 else 0)) H):=by
  intro pins s σ H xs us Q I r h
  rcases h with⟨i,rfl,q⟩ | ⟨k,rfl,q⟩
  · obtain⟨u,rfl,t,rfl⟩:=dC r
    exact call_int_int ⟨.int i,H,I,⟨_,rfl⟩,q⟩
  · obtain⟨u,rfl,r1⟩:=dC r
    cases r1
    exact call_int_bool ⟨.int (if k then 1 else 0),H,I.tok _,⟨_,rfl⟩,q⟩
end
end L2
namespace L2
open PySem PySem.Spec PyProof.Rows
structure ObjM (h:Heap) (x dx C:Addr) (mA:Str->Option Value):Prop where
  obj:h.get? x=some (PySem.W.instObj C dx)
  ns:h.Ns1 dx mA
  ne:dx ≠ x
theorem wJ{h:Heap}{dx:Addr}{mA:Str->Option Value}(n:h.Ns1 dx mA):∃ od,h.get? dx=some od/\∀ name,PySem.W.lookIn name od=some (mA name):=by
  obtain⟨o,es,ep,ho,hd,hk,_,hm⟩:=n
  refine⟨o,ho,fun name=>?_⟩
  have e:=hm name
  unfold nsFind findBy at e
  rw[<- Array.find?_toList] at e
  unfold PySem.W.lookIn
  rw[hd]
  dsimp only
  split
  · rename_i y q
    rw[q] at e
    exact congrArg some e
  · rename_i q
    rw[q] at e
    have a:es.toList.any (·.refKey)=false:=by
      rw[List.any_eq_false]
      intro y hy
      obtain⟨z,t,hkey⟩:=hk y (Array.mem_toList_iff.mp hy)
      simp[DictEntry.refKey,hkey]
    have a':¬ es.toList.any (·.refKey)=true:=by rw[a];exact Bool.false_ne_true
    rw[if_neg a']
    exact congrArg some e
theorem ObjM.look{h:Heap}{x dx C:Addr}{mA:Str->Option Value}(I:ObjM h x dx C mA):∃ od,PySem.W.InstAt h x (PySem.W.instObj C dx) C (some od)/\∀ name,PySem.W.lookIn name od=some (mA name) :=
  let ⟨od,ho,hl⟩:=wJ I.ns
  ⟨od,⟨I.obj,rfl,rfl,ho⟩,hl⟩
section
variable {prog:Program} {w:World} {A:Around} {E:Value->Shared->Prop} {s:Shared} {K:PySem.W.Frag} {x dx C f:Addr} {mA:Str->Option Value} {name:Str} {v:Value}
theorem wK{expr:Bool}{Q:Value->Shared->Prop}(X:K.In s.heap)(I:ObjM s.heap x dx C mA)(hg:PySem.W.plainGet K C name=true)(hh:PySem.W.hasDictIn K C=true)(ha:PySem.W.findIn K (.ref C) name=some none)(hv:mA name=some v)(hv':PySem.W.handedIn v=true)(h:Q v { s with toks:=s.toks+1 }):
    wpAny (model prog w) A (getAttr (.ref x) name expr) Q E s:=by
  obtain⟨od,J,hl⟩:=I.look
  exact PySem.W.get_value X J (PySem.W.plainGet_of hg).1 (PySem.W.findObj_own hh ha rfl (by rw[hl,hv])) hv' h
theorem wL{pl:Sem Bool}{Q:Value × List Value->Shared->Prop}(X:K.In s.heap)(I:ObjM s.heap x dx C mA)(hg:PySem.W.plainGet K C name=true)(hf:PySem.W.findIn K (.ref C) name=some (some (.ref f)))(ht:PySem.W.isFn K (.ref f)=true)(hv:mA name=none)(h:Q (.ref f,[.ref x]) s):
    wpAny (model prog w) A (getMethod (.ref x) name pl) Q E s:=by
  obtain⟨od,J,hl⟩:=I.look
  exact PySem.W.method_fn X J (PySem.W.plainGet_of hg).1 (PySem.W.plainGet_of hg).2 hf (beq_iff_eq.mp ht) (by show (PySem.W.lookIn name od).map (·.isSome)=some false;rw[hl,hv];rfl) h
theorem pQ{ns:List Str}{Q:Unit->Shared->Prop}(X:K.In s.heap)(I:ObjM s.heap x dx C mA)(hs:PySem.W.findIn K (.ref C) "__setattr__" = some (some (.builtin "object.__setattr__")))(hp:PySem.W.plainOver K C=true)(ht:PySem.W.takerIn K C name=some none)(hh:PySem.W.hasDictIn K C=true)(hw:PySem.Within mA ns)(hsz:ns.length<=sizeLine)(h:∀ h',ObjM h' x dx C (fun y=>if y=name then some v else mA y)->Heap.SameBut dx s.heap h'->Q () { s with heap:=h',toks:=s.toks+2 }):
    wpAny (model prog w) A (setAttr (.ref x) name v) Q E s:=by
  obtain⟨od,J,hl⟩:=I.look
  refine PySem.W.set_plain X J hs (PySem.W.osa_open (s:={ s with toks:=s.toks+1 }) (r:=none) X J hp ht fun b=>?_)
  obtain⟨cd,hc,hd'⟩:=PySem.W.any_some hh
  have hx:s.heap.get? x=some ⟨.ref C,some dx,.plain,#[]⟩:=I.obj
  refine wpAny_bind (wpAny_pure (wpAny_bind (wpAny_bind (wpAny_loadPart hx (wpAny_bind (PySem.W.Looks.here (s:={ s with toks:=s.toks+1 }) (PySem.W.looks_clsIn X hc) ?_))))))
  rw[hd']
  refine wpAny_pure (a:=some dx) (wpAny_bind (wpAny_pure (wpAny_bind ?_)))
  refine wpAny_nsSet1 (s:={ s with toks:=s.toks+1 }) I.ns fun h' hn2 hs2=>?_
  obtain⟨oD,esD,epD,hoD,hdD,hcD⟩:=hn2.count (PySem.Within.cons name v hw)
  refine wpAny_bind (wpAny_lookBehind hoD (by rw[hdD];exact pastItsLine_dict (Nat.le_trans hcD (by rw[List.length_cons];omega))) ?_)
  exact wpAny_pure (h _ ⟨(hs2.2 _ (Ne.symm I.ne)).trans I.obj,hn2,I.ne⟩ hs2)
theorem wM{R:Result->Shared->Prop}{vs:List Value}{kw:List (Str × Value)}(X:K.In s.heap)(hm:PySem.W.makesIn K C=true)(hi:PySem.W.findIn K (.ref C) "__init__" = some (some (.ref f)))(hf:PySem.W.typeIn K (.ref f)=some (.type "function"))(h:codeAny (model prog w) (A.under (.builtin "type.__call__" ⟨.ref C::vs,kw⟩)) (.call (.ref f) ⟨.ref (s.heap.objs.size+1)::vs,kw⟩) (PySem.W.InitBack (s.heap.objs.size+1) R)
      { s with heap:=(s.heap.push PySem.W.emptyDict).push (PySem.W.instObj C s.heap.objs.size) }):
    codeAny (model prog w) A (.call (.ref C) ⟨vs,kw⟩) R s:=by
  obtain⟨hh,g,d,t,os⟩:=s
  exact PySem.W.make_core (PySem.W.makes_of X hm) (PySem.W.looks_findIn X hi) (fun self=>PySem.W.bind_fn X self hf) (.inl rfl) h
end
def bJ(f:Str)(v:V):List (Str × V)->List (Str × V)
  | []=>[(f,v)]
  | (g,x)::r=>if g=f then (g,v)::r else (g,x)::bJ f v r
theorem pR(f g:Str)(v:V):∀ fs:List (Str × V),(bJ f v fs).lookup g=if g=f then some v else fs.lookup g
  | []=>by
    show List.lookup g [(f,v)]=_
    by_cases h:g=f
    · have hb:(g == f)=true:=beq_iff_eq.mpr h
      simp only[List.lookup,hb,if_pos h]
    · have hb:(g == f)=false:=beq_eq_false_iff_ne.mpr h
      simp only[List.lookup,hb,if_neg h]
  | (k, x)::r=>by
    have ih:=pR f g v r
    rw[show bJ f v ((k,x)::r)=(if k=f then (k,v)::r else (k,x)::bJ f v r) from rfl]
    by_cases hk:k=f
    · rw[if_pos hk]
      by_cases h:g=k
      · have hb:(g == k)=true:=beq_iff_eq.mpr h
        simp only[List.lookup,hb,if_pos (h.trans hk)]
      · have hb:(g == k)=false:=beq_eq_false_iff_ne.mpr h
        simp only[List.lookup,hb,if_neg (fun e:g=f=>h (e.trans hk.symm))]
    · rw[if_neg hk]
      by_cases h:g=k
      · have hb:(g == k)=true:=beq_iff_eq.mpr h
        simp only[List.lookup,hb,if_neg (fun e:g=f=>hk (h.symm.trans e))]
      · have hb:(g == k)=false:=beq_eq_false_iff_ne.mpr h
        simp only[List.lookup,hb]
        exact ih
theorem lW(f:Str)(v:V):∀ fs:List (Str × V),f ∈ (bJ f v fs).map (·.1)/\∀ g,g ∈ fs.map (·.1)->g ∈ (bJ f v fs).map (·.1)
  | []=>⟨by simp[bJ],fun g h=>by simp at h⟩
  | (k, x)::r=>by
    obtain⟨i1,i2⟩:=lW f v r
    rw[show bJ f v ((k,x)::r)=(if k=f then (k,v)::r else (k,x)::bJ f v r) from rfl]
    by_cases hk:k=f
    · rw[if_pos hk]
      subst hk
      exact⟨by simp,fun g h=>by simpa using h⟩
    · rw[if_neg hk]
      refine⟨?_,fun g h=>?_⟩
      · rw[List.map_cons]
        exact List.mem_cons_of_mem _ i1
      · rw[List.map_cons] at h ⊢
        rcases List.mem_cons.mp h with e | e
        · exact List.mem_cons.mpr (.inl e)
        · exact List.mem_cons_of_mem _ (i2 g e)
theorem pS(f:Str)(v:V):∀ fs:List (Str × V),(bJ f v fs).length<=fs.length+1
  | []=>by simp[bJ]
  | (k,x)::r=>by
    have ih:=pS f v r
    rw[show bJ f v ((k,x)::r)=(if k=f then (k,v)::r else (k,x)::bJ f v r) from rfl]
    by_cases hk:k=f
    · rw[if_pos hk,List.length_cons,List.length_cons];omega
    · rw[if_neg hk,List.length_cons,List.length_cons];omega
theorem RelO.some_of{v:V}{o:Option Value}(r:RelO (some v) o):∃ u,o=some u/\RelV v u:=by
  cases o with
  | none=>exact (show False from r).elim
  | some u=>exact⟨u,rfl,r⟩
theorem RelO.none_of{o:Option Value}(r:RelO none o):o=none:=by
  cases o with
  | none=>rfl
  | some u=>exact (show False from r).elim
theorem wN{v:V}{u:Value}(r:RelV v u):PySem.W.handedIn u=true:=by
  cases v with
  | non=>cases (show u=Value.none from r);rfl
  | bl b=>cases (show u=Value.bool b from r);rfl
  | int i=>obtain⟨t,e⟩:=(show ∃ t,u=Value.int i t from r);cases e;rfl
  | str x=>obtain⟨t,e⟩:=(show ∃ t,u=Value.str x t from r);cases e;rfl
  | byt b=>obtain⟨t,e⟩:=(show ∃ t,u=Value.bytes b t from r);cases e;rfl
  | flt b=>obtain⟨t,e⟩:=(show ∃ t,u=Value.float b t from r);cases e;rfl
  | ref a=>cases (show u=Value.ref a from r);rfl
  | ty n=>cases (show u=Value.type n from r);rfl
section
variable {P:Program} {w:World} {H H':Hp} {h h':Heap} {a C dx:Addr} {fs fs':List (Str × V)}
theorem lX(hok:HOk P w H h)(e:H a=some (.ins C dx fs)):∃ mA,ObjM h a dx C mA/\(∀ f,RelO (fs.lookup f) (mA f))/\PySem.Within mA (fs.map (·.1))/\fs.length<=1000/\H dx=some (.own a):=by
  obtain⟨d,z,ne,ob,mA,n,r,q⟩:=(show ObjOk P w H h a (.ins C dx fs) from hok a _ e)
  exact⟨mA,⟨ob,n,ne⟩,r,q,z,d⟩
end
structure Cls (K:PySem.W.Frag) (C:Addr):Prop where
  pg:PySem.W.plainGet K C Str.empty=true
  hd:PySem.W.hasDictIn K C=true
  po:PySem.W.plainOver K C=true
  sa:PySem.W.findIn K (.ref C) "__setattr__" = some (some (.builtin "object.__setattr__"))
theorem Cls.get{K:PySem.W.Frag}{C:Addr}(c:Cls K C)(f:Str):PySem.W.plainGet K C f=true:=c.pg
def NoAttr(K:PySem.W.Frag)(C:Addr)(f:Str):Prop:=PySem.W.findIn K (.ref C) f=some none
theorem NoAttr.taker{K:PySem.W.Frag}{C:Addr}{f:Str}(n:NoAttr K C f):PySem.W.takerIn K C f=some none:=by
  unfold PySem.W.takerIn
  rw[show PySem.W.findIn K (.ref C) f=some none from n]
  rfl
structure Con (K:PySem.W.Frag) (C:Addr) (f:Str) (v:V) (u:Value):Prop where
  at_:PySem.W.findIn K (.ref C) f=some (some u)
  rel:RelV v u
  get:PySem.W.specialIn K u "__get__" = some none
  cp:PySem.W.copiedNames.contains f=false
structure Meth (K:PySem.W.Frag) (C:Addr) (m:Str) (f:Addr):Prop where
  at_:PySem.W.findIn K (.ref C) m=some (some (.ref f))
  fn:PySem.W.isFn K (.ref f)=true
  kp:PySem.W.keepIn K (.ref f)=true
section
variable {X:Cx} {pins:List (Addr × Obj)} {σ:St} {H:Hp} {s:Shared} {a C dx:Addr} {fs:List (Str × V)} {f:Str} {v:V} {A:Around} {E:Value->Shared->Prop}
theorem wO{b:Bool}{Q:Value->Shared->Prop}(I:Inv X pins σ H s)(e:H a=some (.ins C dx fs))(c:Cls X.K C)(n:NoAttr X.K C f)(l:fs.lookup f=some v)(h:∀ u s',Inv X pins σ H s'->RelV v u->Q u s'):wpAny (model X.prog X.w) A (getAttr (.ref a) f b) Q E s:=by
  obtain⟨mA,O,r,_,_,_⟩:=lX I.hok e
  obtain⟨u,hu,ru⟩:=RelO.some_of (v:=v) (o:=mA f) (by rw[<- l];exact r f)
  exact wK I.kIn O (c.get f) c.hd n hu (wN ru) (h u _ (I.tok _) ru)
theorem pT{m:Str}{g:Addr}{pl:Sem Bool}{Q:Value × List Value->Shared->Prop}(I:Inv X pins σ H s)(e:H a=some (.ins C dx fs))(c:Cls X.K C)(k:Meth X.K C m g)(l:fs.lookup m=none)(h:Q (.ref g,[.ref a]) s):wpAny (model X.prog X.w) A (getMethod (.ref a) m pl) Q E s:=by
  obtain⟨mA,O,r,_,_,_⟩:=lX I.hok e
  have hn:mA m=none:=RelO.none_of (by rw[<- l];exact r m)
  exact wL I.kIn O (c.get m) k.at_ k.fn hn h
theorem wP{y:V}{u:Value}{Q:Unit->Shared->Prop}(I:Inv X pins σ H s)(e:H a=some (.ins C dx fs))(c:Cls X.K C)(n:NoAttr X.K C f)(hl:fs.length < 1000)(ry:RelV y u)(h:∀ s',Inv X pins σ (upd H a (.ins C dx (bJ f y fs))) s'->Q () s'):wpAny (model X.prog X.w) A (setAttr (.ref a) f u) Q E s:=by
  obtain⟨mA,O,r,wi,_,ho⟩:=lX I.hok e
  have hz:(fs.map (·.1)).length<=sizeLine:=by rw[List.length_map,sizeLine_eq];omega
  refine pQ I.kIn O c.sa c.po n.taker c.hd wi hz fun h' O' sb=>h _ ?_
  have hd:∃ o,h'.get? dx=some o:=let ⟨o,_,_,e',_⟩:=O'.ns;⟨o,e'⟩
  refine I.write (x:=a) (e:=dx) (by rw[e];exact True.intro) (.inr ho) (fun b q hb z=>(sb.2 b hb).trans z) hd ?_
  refine⟨by rw[aC O.ne];exact ho,?_,O.ne,O'.obj,_,O'.ns,fun g=>?_,fun g hg=>?_⟩
  · have:=pS f y fs;omega
  · show RelO ((bJ f y fs).lookup g) (if g=f then some u else mA g)
    rw[pR]
    by_cases q:g=f
    · rw[if_pos q,if_pos q];exact ry
    · rw[if_neg q,if_neg q];exact r g
  · by_cases q:g=f
    · rw[q];exact (lW f y fs).1
    · refine (lW f y fs).2 g (wi g fun z=>hg ?_)
      show (if g=f then some u else mA g)=none
      rw[if_neg q];exact z
theorem Inv.made(I:Inv X pins σ H s):Inv X pins σ (upd (upd H s.heap.objs.size (.own (s.heap.objs.size+1))) (s.heap.objs.size+1) (.ins C s.heap.objs.size []))
    { s with heap:=(s.heap.push PySem.W.emptyDict).push (PySem.W.instObj C s.heap.objs.size) }:=by
  have e1:(s.heap.push PySem.W.emptyDict).get? s.heap.objs.size=some PySem.W.emptyDict:=Heap.get?_push_size s.heap rfl
  have e2:((s.heap.push PySem.W.emptyDict).push (PySem.W.instObj C s.heap.objs.size)).get? (s.heap.objs.size+1)=some (PySem.W.instObj C s.heap.objs.size):=by
    have:=Heap.get?_push_size (s.heap.push PySem.W.emptyDict) (o:=PySem.W.instObj C s.heap.objs.size) rfl
    rwa [Heap.size_push] at this
  have e3:(s.heap.push PySem.W.emptyDict).Ns s.heap.objs.size (fun _=>none):=⟨PySem.W.emptyDict,#[],_,e1,rfl,(fun e he=>absurd he (by simp)),fun _=>rfl⟩
  have I1:=I.laid (a:=s.heap.objs.size) (o:=.own (s.heap.objs.size+1)) (h':=s.heap.push PySem.W.emptyDict) (t':=s.toks) (fun b u q=>Heap.get?_push_of_some _ q) (Nat.le_refl _) ⟨_,e1⟩
  refine I1.laid (a:=s.heap.objs.size+1) (o:=.ins C s.heap.objs.size []) (t':=s.toks) (fun b u q=>Heap.get?_push_of_some _ q) (Nat.le_of_eq (Heap.size_push _ _)) ?_
  have ne:s.heap.objs.size ≠ s.heap.objs.size+1:=Nat.ne_of_lt (Nat.lt_succ_self _)
  refine⟨by rw[aC ne,b5],Nat.zero_le _,ne,e2,fun _=>none,(Heap.Ns1.of_empty e3).at fun o q=>Heap.get?_push_of_some _ q,fun _=>True.intro,fun y hy=>absurd rfl hy⟩
theorem wQ{prog:Program}{w:World}{env:Env}{e:Expr}{f:Str}{pos:Pos}{s:Shared}{Q:Value->Shared->Prop}(hb:attributeBase e f env (eval e env)=eval e env)(h:wpAny (model prog w) A (eval e env) (fun o s₁=>wpAny (model prog w) A (getAttr o f true) Q E s₁) E s):wpAny (model prog w) A (eval (.Attribute e f pos) env) Q E s :=
  Attribute_any_ h (by rw[arm_eval_Attribute,hb])
end
def wR(K:PySem.W.Frag)(ta:TE)(f:Str):TE:=fun σ H Q=>ta σ H fun x H1=>∃ a C dx fs v,x=.ref a/\H1 a=some (.ins C dx fs)/\Cls K C/\NoAttr K C f/\fs.lookup f=some v/\Q v H1
def wS(K:PySem.W.Frag)(ta tv:TE)(f:Str):TS:=fun D σ H=>tv σ H fun y H1=>ta σ H1 fun x H2=>∃ a C dx fs,x=.ref a/\H2 a=some (.ins C dx fs)/\Cls K C/\NoAttr K C f/\fs.length < 1000 /\
  D.nx σ (upd H2 a (.ins C dx (bJ f y fs)))
section
variable {X:Cx} {o e value:Expr} {f:Str} {pos pos' tpos:Pos} {ta tv:TE}
theorem wT(he:PE X e ta)(hb:attributeBase e f X.env (eval e X.env)=eval e X.env):PE X (.Attribute e f pos) (wR X.K ta f):=by
  intro pins s σ H Q I h
  refine wQ hb (thn (he pins s σ H _ I h) fun u s1 ⟨x,H1,I1,rx,a,C,dx,fs,v,ex,ea,c,n,l,q⟩=>?_)
  subst ex
  obtain rfl:u=Value.ref a:=rx
  exact wO I1 ea c n l fun u' s2 I2 ru=>⟨v,H1,I2,ru,q⟩
theorem pU(ha:PE X o ta)(hv:PE X value tv)(hs:swapsWith value (some (.Attribute o f pos')) pos.line X.env=pure false):PS X (.Assign [.Attribute o f pos'] value pos) (wS X.K ta tv f):=by
  intro pins s σ H D I h
  refine plainObj_wpAny_Assign_Attribute (thn (hv pins s σ H _ I h) fun u s1 ⟨y,H1,I1,ry,q⟩=>thn (ha pins s1 σ H1 _ I1 q) fun ov s2 ⟨x,H2,I2,rx,a,C,dx,fs,ex,ea,c,n,l,q2⟩=>?_) hs
  subst ex
  obtain rfl:ov=Value.ref a:=rx
  exact wP I2 ea c n l ry fun s3 I3=>⟨σ,_,I3,q2⟩
end
section
variable {X:Cx} {pins:List (Addr × Obj)} {σ:St} {H:Hp} {s:Shared} {A:Around} {E:Value->Shared->Prop} {Q:Value->Shared->Prop} {c:Value} {b:Bool}
inductive TyOf (K:PySem.W.Frag) (H:Hp):V->Value->Prop where
  | non:TyOf K H .non (.type "NoneType")
  | bl (x:Bool):TyOf K H (.bl x) (.type "bool")
  | int (i:Int):TyOf K H (.int i) (.type "int")
  | str (x:Str):TyOf K H (.str x) (.type "str")
  | flt (x:UInt64):TyOf K H (.flt x) (.type "float")
  | lst {a:Addr} {xs:List V} (e:H a=some (.lst xs)):TyOf K H (.ref a) (.type "list")
  | frz {a:Addr} {o:Obj} {xs:List V} (e:H a=some (.frz o (.lst xs))):TyOf K H (.ref a) (.type "list")
  | tup {a:Addr} {xs:List V} (e:H a=some (.tup xs)):TyOf K H (.ref a) (.type "tuple")
  | dK {a:Addr} {kvs:List (Key × V)} (e:H a=some (.dK kvs)):TyOf K H (.ref a) (.type "dict")
  | dT {a:Addr} {kvs:List (List Key × V)} (e:H a=some (.dT kvs)):TyOf K H (.ref a) (.type "dict")
  | ins {a C dx:Addr} {fs:List (Str × V)} (e:H a=some (.ins C dx fs)) (cl:Cls K C) (ha:PySem.W.findIn K (.ref C) "__class__" = some (some (.builtin "object.__class__")))
      (hn:PySem.W.specialIn K (.builtin "object.__class__") "__get__" = some (some (.builtin "getset_descriptor.__get__"))) (htk:PySem.W.takesIn K (.builtin "object.__class__")=some true)
      (hm:PySem.W.mroIn K C (.type "object")=some true):TyOf K H (.ref a) (.ref C)
end
end L2
namespace L2
open PySem PySem.Spec PyProof.Rows
structure Room (k:Nat) (A:Around):Prop where
  hd:A.handled=none
  dp:A.depth+3 * k+5 < recursionLimit
  un:A.units+16 * k+200 < cLine
theorem Room.mono{j k:Nat}{A:Around}(r:Room k A)(h:j<=k):Room j A:=⟨r.hd,by have:=r.dp;omega,by have:=r.un;omega⟩
theorem Room.deeper{k:Nat}{A:Around}(r:Room (k+1) A)(env:Env):Room k (A.deeper env) :=
  ⟨r.hd,by have:=r.dp;show A.depth+1+3 * k+5 < _;omega,by have:=r.un;show A.units+3+16 * k+200 < _;omega⟩
theorem Room.in1{k:Nat}{A:Around}(r:Room (k+1) A):Room k A.in1 :=
  ⟨r.hd,by have:=r.dp;show A.depth+3 * k+5 < _;omega,by have:=r.un;show A.units+1+16 * k+200 < _;omega⟩
theorem wU{A:Around}{C:Addr}{us:List Value}{kw:List (Str × Value)}:(A.under (.builtin "type.__call__" ⟨.ref C::us,kw⟩)).depth=A.depth+1:=by
  first | rfl | simp[Around.under,Code.weight,Code.isCreation,Code.isGuard,Code.isCaller,Code.frames,Code.isFrame,guardIds]
theorem wV{A:Around}{C:Addr}{us:List Value}{kw:List (Str × Value)}:(A.under (.builtin "type.__call__" ⟨.ref C::us,kw⟩)).units=A.units+1:=by
  first | rfl | simp[Around.under,Code.cUnits,Code.frames,Code.isFrame]
theorem Room.make{k:Nat}{A:Around}(r:Room (k+1) A)(C:Addr)(us:List Value)(kw:List (Str × Value)):Room k (A.under (.builtin "type.__call__" ⟨.ref C::us,kw⟩)) :=
  ⟨r.hd,by have:=r.dp;rw[wU];omega,by have:=r.un;rw[wV];omega⟩
theorem Room.depth{k:Nat}{A:Around}(r:Room k A):A.depth < recursionLimit:=by have:=r.dp;omega
theorem Room.units{k:Nat}{A:Around}(r:Room k A):A.units+64 < cLine:=by have:=r.un;omega
def pV:TA:=fun _ H Q=>Q [] H
def wW(ta:TE)(tr:TA):TA:=fun σ H Q=>ta σ H fun x H1=>tr σ H1 fun xs H2=>Q (x::xs) H2
section
variable {X:Cx} {e:Expr} {es:List Expr} {te:TE} {t:TA} {pos:Pos}
theorem ce:PA X [] pV:=fun _ _ _ _ H Q I h=>Calls.spliced_nil ⟨[],H,I,.nil,h⟩
theorem bK(ha:PE X e te)(hr:PA X es t)(hs:starEach (e::es) X.env=(false,eval e X.env)::starEach es X.env:=by rfl):PA X (e::es) (wW te t):=by
  intro pos pins s σ H Q I h
  rw[hs]
  show wpAny _ _ (spliced ((false,eval e X.env)::backTo pos (starEach es X.env))) _ _ s
  refine Calls.spliced_cons (thn (ha pins s σ H _ I h) fun u s1 ⟨x,H1,I1,r1,q1⟩=>?_)
  exact thn (hr pos pins s1 σ H1 _ I1 q1) fun us s2 ⟨xs,H2,I2,r2,q2⟩=>⟨x::xs,H2,I2,.cons r1 r2,q2⟩
def wX(t:TA):TE:=fun σ H Q=>t σ H fun xs H1=>xs.length<=sizeLine/\∀ p,H1 p=none->Q (.ref p) (upd H1 p (.tup xs))
def wY(t:TA):TE:=fun σ H Q=>t σ H fun xs H1=>xs.length<=sizeLine/\∀ p,H1 p=none->Q (.ref p) (upd H1 p (.lst xs))
theorem pW{x1}(h:PA X es t):PE X (.Tuple es x1 pos) (wX t):=by
  intro pins s σ H Q I hq
  refine wpAny_Tuple_spliced (thn (h pos pins s σ H _ I hq) fun us s1 ⟨xs,H1,I1,r,z,q⟩=>⟨by rw[<- r.length];exact z,?_⟩)
  have hf:H1 s1.heap.objs.size=none:=I1.hok.fresh (Nat.le_refl _)
  refine⟨.ref s1.heap.objs.size,upd H1 s1.heap.objs.size (.tup xs),I1.laid (t':=s1.toks) (fun b u e=>Heap.get?_push_of_some _ e) (Nat.le_refl _) ?_,rfl,q _ hf⟩
  exact⟨z,us,r,⟨_,Heap.get?_push_size _ rfl,rfl,_,rfl⟩⟩
theorem lY(h:PA X es t):PE X (.List es pos) (wY t):=by
  intro pins s σ H Q I hq
  refine wpAny_List_spliced (thn (h pos pins s σ H _ I hq) fun us s1 ⟨xs,H1,I1,r,z,q⟩=>⟨by rw[<- r.length];exact z,?_⟩)
  have hf:H1 s1.heap.objs.size=none:=I1.hok.fresh (Nat.le_refl _)
  refine⟨.ref s1.heap.objs.size,upd H1 s1.heap.objs.size (.lst xs),I1.laid (t':=s1.toks) (fun b u e=>Heap.get?_push_of_some _ e) (Nat.le_refl _) ?_,rfl,q _ hf⟩
  exact⟨z,us,0,r,Heap.get?_push_size _ rfl⟩
end
abbrev Sp:=List V->Hp->VK->XK->Prop
abbrev CXT:=List Env->Hp->Shared->XK->Value->Shared->Prop
structure Env0 (P:Program) (w:World) (K:PySem.W.Frag) (mg:Str->Option Value) (base:Heap) (A:Around) (outer:List Env) (s:Shared) (H:Hp):Prop where
  frames:A.frames=some outer
  mod:Mod K mg base
  bs:∀ b o,base.get? b=some o->s.heap.get? b=some o/\H b=none
  bsz:base.objs.size<=s.heap.objs.size
  funs:s.heap.FunFrames base outer
  frf:∀ b ∈ frs outer,H b=none
  hok:HOk P w H s.heap
  bare:AllBare s.gens
def CE(outer:List Env)(P:Program)(w:World)(H:Hp)(s:Shared)(Q:VK)(u:Value)(s':Shared):Prop :=
  ∃ v H',s'.os=s.os/\AllBare s'.gens/\Un (frs outer) [] H H' s.heap s'.heap/\HOk P w H' s'.heap/\RelV v u/\Q v H'
def CR(CX:CXT)(outer:List Env)(P:Program)(w:World)(H:Hp)(s:Shared)(Q:VK)(E:XK)(r:Result)(s':Shared):Prop :=
  match r with
  | .ok (.ret u)=>CE outer P w H s Q u s'
  | .ok _=>False
  | .error e=>CX outer H s E e s'
structure FnOk (P:Program) (w:World) (K:PySem.W.Frag) (mg:Str->Option Value) (base:Heap) (CX:CXT) (k:Nat) (f:Addr) (fd:FuncData) (ps:List Str) (sp:Sp):Prop where
  len:∀ vs H Q E,sp vs H Q E->vs.length=ps.length
  run:∀ (A:Around) (outer:List Env) (s:Shared) (H:Hp) (args:Args) (us:List Value) (vs:List V) (Q:VK) (E:XK),Room k A->Env0 P w K mg base A outer s H->BindsTo s fd args (ps.zip us)->Vals vs us->sp vs H Q E ->
    codeAny (model P w) A (.call (.ref f) args) (CR CX outer P w H s Q E) s
theorem FnOk.mono{P:Program}{w:World}{K:PySem.W.Frag}{mg:Str->Option Value}{base:Heap}{CX:CXT}{j k:Nat}{f:Addr}{fd:FuncData}{ps:List Str}{sp:Sp}(F:FnOk P w K mg base CX j f fd ps sp)(h:j<=k):
    FnOk P w K mg base CX k f fd ps sp:=⟨F.len,fun A outer s H args us vs Q E hr=>F.run A outer s H args us vs Q E (hr.mono h)⟩
theorem FnOk.imp{P:Program}{w:World}{K:PySem.W.Frag}{mg:Str->Option Value}{base:Heap}{CX:CXT}{k:Nat}{f:Addr}{fd:FuncData}{ps:List Str}{sp sp':Sp}(F:FnOk P w K mg base CX k f fd ps sp)(h:∀ vs H Q E,sp' vs H Q E->sp vs H Q E):FnOk P w K mg base CX k f fd ps sp' :=
  ⟨fun vs H Q E q=>F.len vs H Q E (h _ _ _ _ q),fun A outer s H args us vs Q E hr he hb hv hs=>F.run A outer s H args us vs Q E hr he hb hv (h _ _ _ _ hs)⟩
theorem Env0.make{P:Program}{w:World}{K:PySem.W.Frag}{mg:Str->Option Value}{base:Heap}{A:Around}{outer:List Env}{s:Shared}{H:Hp}(e:Env0 P w K mg base A outer s H)(C:Addr)(us:List Value)(kw:List (Str × Value)):
    Env0 P w K mg base (A.under (.builtin "type.__call__" ⟨.ref C::us,kw⟩)) outer s H:=⟨by first | exact e.frames | (simpa [Around.under,Code.envs,Code.isFrame,pushEnvs] using e.frames),e.mod,e.bs,e.bsz,e.funs,e.frf,e.hok,e.bare⟩
theorem Env0.in1{P:Program}{w:World}{K:PySem.W.Frag}{mg:Str->Option Value}{base:Heap}{A:Around}{outer:List Env}{s:Shared}{H:Hp}(e:Env0 P w K mg base A outer s H):
    Env0 P w K mg base A.in1 outer s H:=⟨e.frames,e.mod,e.bs,e.bsz,e.funs,e.frf,e.hok,e.bare⟩
section
variable {X:Cx} {pins:List (Addr × Obj)} {σ:St} {H:Hp} {s s':Shared}
theorem Inv.env0(I:Inv X pins σ H s):Env0 X.prog X.w X.K X.mg X.base X.A X.stack s H :=
  ⟨I.ok.frames,I.ok.mod,I.bs,Nat.le_trans I.ok.bsz I.sz,I.stack,I.stkFree,I.hok,I.bare⟩
theorem Inv.after{Q:VK}{u:Value}(I:Inv X pins σ H s)(h:CE X.stack X.prog X.w H s Q u s'):EP X pins σ Q u s':=by
  obtain⟨v,H',os,bare,un,hok,r,q⟩:=h
  obtain⟨hh,g,d,t,os'⟩:=s'
  obtain rfl:os'=s.os:=os
  exact⟨v,H',I.call (h':=hh) (g':=g) (d':=d) (t':=t) (ch:=[]) un hok bare (fun b z=>absurd z (by simp)),r,q⟩
end
def wZ(sp:Sp)(dvs:List V)(E:XK)(t:TA):TE:=fun σ H Q=>t σ H fun vs H1=>sp (vs++dvs) H1 Q E
def pX(C:Addr)(m:Str)(sp:Sp)(dvs:List V)(E:XK)(ta:TE)(t:TA):TE:=fun σ H Q=>ta σ H fun x H1=>∃ a dx fs,x=.ref a/\H1 a=some (.ins C dx fs)/\fs.lookup m=none /\
  t σ H1 fun vs H2=>sp (x::(vs++dvs)) H2 Q E
def xa(C:Addr)(sp:Sp)(dvs:List V)(E:XK)(t:TA):TE:=fun σ H Q=>t σ H fun vs H1=>∀ x dx,H1 x=none->H1 dx=none->dx ≠ x ->
  sp (.ref x::(vs++dvs)) (upd (upd H1 dx (.own x)) x (.ins C dx [])) (fun v H2=>v=.non/\Q (.ref x) H2) E
def Binds(K:PySem.W.Frag)(fd:FuncData)(ps:List Str)(ds:List Value):Prop :=
  ∀ (s:Shared) (us:List Value),K.In s.heap->(us++ds).length=ps.length->BindsTo s fd ⟨us,[]⟩ (ps.zip (us++ds))
theorem Binds.all{K:PySem.W.Frag}{fd:FuncData}{ps:List Str}(h:∀ us:List Value,us.length=ps.length->bindArgs fd ⟨us,[]⟩=pure (ps.zip us)):Binds K fd ps []:=fun s us _ hl=>by
  rw[List.append_nil] at hl ⊢
  exact .of_eq (h us hl)
def fy(CX:CXT)(X:Cx)(E:XK):Prop:=∀ (pins:List (Addr × Obj)) (σ:St) (H:Hp) (s:Shared) (e:Value) (s':Shared),Inv X pins σ H s->CX X.stack H s E e s'->X.xe e s'
section
variable {X:Cx} {CX:CXT} {k:Nat} {f C:Addr} {fd:FuncData} {ps:List Str} {sp:Sp} {dvs:List V} {ds:List Value} {E:XK} {x m:Str} {p pos apos:Pos} {e o:Expr} {es:List Expr} {ta:TE} {t:TA}
theorem lZ{pins:List (Addr × Obj)}{σ:St}{H:Hp}{s:Shared}{Q:VK}{us:List Value}{vs:List V}(F:FnOk X.prog X.w X.K X.mg X.base CX k f fd ps sp)(hr:Room k X.A)(hb:Binds X.K fd ps ds)(hd:Vals dvs ds)(hx:fy CX X E)(I:Inv X pins σ H s)(r:Vals vs us)(h:sp (vs++dvs) H Q E):wpAny (model X.prog X.w) X.A (call (.ref f) us) (EP X pins σ Q) X.xe s:=by
  have r2:Vals (vs++dvs) (us++ds):=r.append hd
  have hl:(us++ds).length=ps.length:=by rw[<- r2.length];exact F.len _ _ _ _ h
  refine wpAny_call (codeAny_mono (F.run X.A X.stack s H ⟨us,[]⟩ (us++ds) (vs++dvs) Q E hr I.env0 (hb s us I.kIn hl) r2 h) fun r s' hq=>?_)
  cases r with
  | error e=>exact hx pins σ H s e s' I hq
  | ok fl =>
    cases fl with
    | ret u=>exact I.after hq
    | next=>exact False.elim hq
    | brk=>exact False.elim hq
    | cont=>exact False.elim hq
theorem fA(F:FnOk X.prog X.w X.K X.mg X.base CX k f fd ps sp)(hr:Room k X.A)(hg:Gl X x)(hm:X.mg x=some (.ref f))(hk:PySem.W.keepIn X.K (.ref f)=true)(hb:Binds X.K fd ps ds)(hd:Vals dvs ds)(hx:fy CX X E)(ha:PA X (e::es) t)(hdb:(x == ("__debug__" : Str))=false:=by decide)(he:starEach (e::es) X.env=(false,eval e X.env)::starEach es X.env:=by rfl)(hpl:(backTo pos (starEach es X.env)).any (·.1)=false:=by rfl):
    PE X (.Call (.Name x p) (e::es) [] pos) (wZ sp dvs E t):=by
  intro pins s σ H Q I h
  refine wpAny_Call_Name_kw (lO I hg hm ?_ hdb)
  refine PySem.W.callWith_K (h₀:=X.base) I.ok.mod.kin hk (thn (ha pos pins s σ H _ I h) fun us s1 ⟨vs,H1,I1,r,q⟩=>⟨I1.kIn,?_⟩) he hpl
  exact lZ F hr hb hd hx I1 r q
theorem xb{pl:Sem Bool}(he:PE X o ta)(c:Cls X.K C)(hm:Meth X.K C m f)(F:FnOk X.prog X.w X.K X.mg X.base CX k f fd ps sp)(hr:Room k X.A)(hb:Binds X.K fd ps ds)(hd:Vals dvs ds)(hx:fy CX X E)(ha:PA X (e::es) t)(hst:starEach (e::es) X.env=(false,eval e X.env)::starEach es X.env:=by rfl)(hpl:(backTo pos (starEach es X.env)).any (·.1)=false:=by rfl)(ht:eval (.Call (.Attribute o m apos) (e::es) [] pos) X.env=(do
      let ov <- eval o X.env
      standAt apos.atName
      let (f,first) <- holding [ov] (getMethod ov m pl)
      callWith pos f first (backTo pos (starEach (e::es) X.env)) (backToKw pos (keywordEach [] X.env))):=by rfl):
    PE X (.Call (.Attribute o m apos) (e::es) [] pos) (pX C m sp dvs E ta t):=by
  intro pins s σ H Q I h
  refine PySem.W.methodCall_KW (pl:=pl) (thn (he pins s σ H _ I h) fun u s1 ⟨x,H1,I1,rx,a,dx,fs,ex,ea,l,q⟩=>?_) ht
  subst ex
  obtain rfl:u=Value.ref a:=rx
  refine pT I1 ea c hm l ?_
  refine PySem.W.callWith_K (first:=[.ref a]) (h₀:=X.base) I.ok.mod.kin hm.kp (thn (ha pos pins s1 σ H1 _ I1 q) fun us s2 ⟨vs,H2,I2,r,q2⟩=>⟨I2.kIn,?_⟩) hst hpl
  exact lZ (us:=.ref a::us) (vs:=.ref a::vs) F hr hb hd hx I2 (.cons rfl r) q2
theorem xc{pl:Sem Bool}(he:PE X o ta)(c:Cls X.K C)(hm:Meth X.K C m f)(F:FnOk X.prog X.w X.K X.mg X.base CX k f fd ps sp)(hr:Room k X.A)(hb:Binds X.K fd ps ds)(hd:Vals dvs ds)(hx:fy CX X E)(ht:eval (.Call (.Attribute o m apos) [] [] pos) X.env=(do
      let ov <- eval o X.env
      standAt apos.atName
      let (f,first) <- holding [ov] (getMethod ov m pl)
      callWith pos f first (backTo pos (starEach [] X.env)) (backToKw pos (keywordEach [] X.env))):=by rfl):
    PE X (.Call (.Attribute o m apos) [] [] pos) (pX C m sp dvs E ta pV):=by
  intro pins s σ H Q I h
  refine PySem.W.methodCall_KW (pl:=pl) (thn (he pins s σ H _ I h) fun u s1 ⟨x,H1,I1,rx,a,dx,fs,ex,ea,l,q⟩=>?_) ht
  subst ex
  obtain rfl:u=Value.ref a:=rx
  refine pT I1 ea c hm l ?_
  exact PySem.W.callWith_K0 (first:=[.ref a]) I1.kIn hm.kp (lZ (us:=[.ref a]) (vs:=[.ref a]) F hr hb hd hx I1 (.cons rfl .nil) q)
structure Mk (K:PySem.W.Frag) (C f:Addr):Prop where
  makes:PySem.W.makesIn K C=true
  init:PySem.W.findIn K (.ref C) "__init__" = some (some (.ref f))
  fn:PySem.W.isFn K (.ref f)=true
  kp:PySem.W.keepIn K (.ref C)=true
theorem xf{pins:List (Addr × Obj)}{σ:St}{H:Hp}{s:Shared}{Q:VK}{us:List Value}{vs:List V}(M:Mk X.K C f)(F:FnOk X.prog X.w X.K X.mg X.base CX k f fd ps sp)(hr:Room (k+1) X.A)(hb:Binds X.K fd ps ds)(hd:Vals dvs ds)(hx:fy CX X E)(I:Inv X pins σ H s)(r:Vals vs us)(h:∀ x dx,H x=none->H dx=none->dx ≠ x->sp (.ref x::(vs++dvs)) (upd (upd H dx (.own x)) x (.ins C dx [])) (fun v H2=>v=.non/\Q (.ref x) H2) E):
    wpAny (model X.prog X.w) X.A (call (.ref C) us) (EP X pins σ Q) X.xe s:=by
  have hq:=h (s.heap.objs.size+1) s.heap.objs.size (I.hok.fresh (Nat.le_succ _)) (I.hok.fresh (Nat.le_refl _)) (Nat.ne_of_lt (Nat.lt_succ_self _))
  have I2:=Inv.made (C:=C) I
  have r2:Vals (V.ref (s.heap.objs.size+1)::(vs++dvs)) (Value.ref (s.heap.objs.size+1)::(us++ds)):=.cons rfl (r.append hd)
  have hl:(Value.ref (s.heap.objs.size+1)::us++ds).length=ps.length:=by
    have e:=r2.length
    rw[F.len _ _ _ _ hq] at e
    exact e.symm
  refine wpAny_call (wM (f:=f) I.kIn M.makes M.init (beq_iff_eq.mp M.fn) (codeAny_mono (F.run _ X.stack _ _ ⟨Value.ref (s.heap.objs.size+1)::us,[]⟩ (Value.ref (s.heap.objs.size+1)::(us++ds)) _ _ E (hr.make C us [])
    (I2.env0.make C us []) (hb _ (Value.ref (s.heap.objs.size+1)::us) I2.kIn hl) r2 hq) fun r s' hq'=>?_))
  cases r with
  | error e=>exact hx pins σ _ _ e s' I2 hq'
  | ok fl =>
    cases fl with
    | ret u =>
      obtain⟨v,H',I3,rv,ev,q3⟩:=I2.after hq'
      subst ev
      exact⟨rv,⟨V.ref (s.heap.objs.size+1),H',I3,rfl,q3⟩⟩
    | next=>exact False.elim hq'
    | brk=>exact False.elim hq'
    | cont=>exact False.elim hq'
theorem xg(M:Mk X.K C f)(F:FnOk X.prog X.w X.K X.mg X.base CX k f fd ps sp)(hr:Room (k+1) X.A)(hg:Gl X x)(hm:X.mg x=some (.ref C))(hb:Binds X.K fd ps ds)(hd:Vals dvs ds)(hx:fy CX X E)(ha:PA X (e::es) t)(hdb:(x == ("__debug__" : Str))=false:=by decide)(he:starEach (e::es) X.env=(false,eval e X.env)::starEach es X.env:=by rfl)(hpl:(backTo pos (starEach es X.env)).any (·.1)=false:=by rfl):
    PE X (.Call (.Name x p) (e::es) [] pos) (xa C sp dvs E t):=by
  intro pins s σ H Q I h
  refine wpAny_Call_Name_kw (lO I hg hm ?_ hdb)
  refine PySem.W.callWith_K (h₀:=X.base) I.ok.mod.kin M.kp (thn (ha pos pins s σ H _ I h) fun us s1 ⟨vs,H1,I1,r,q⟩=>⟨I1.kIn,?_⟩) he hpl
  exact xf M F hr hb hd hx I1 r q
end
section
variable {X:Cx} {CX:CXT} {k:Nat} {f C:Addr} {fd:FuncData} {ps ks:List Str} {sp:Sp} {E:XK} {x m:Str} {p pos apos kpos:Pos} {e o:Expr} {es:List Expr} {kws:List Keyword} {te ta:TE} {t tk:TA} {nm:Option Str}
structure KBinds (K:PySem.W.Frag) (fd:FuncData) (ps ks:List Str) (g:List Value->List Value->List Value) (gV:List V->List V->List V):Prop where
  to:∀ (s:Shared) (us ws:List Value),K.In s.heap->(g us ws).length=ps.length->BindsTo s fd ⟨us,ks.zip ws⟩ (ps.zip (g us ws))
  rel:∀ {vs:List V} {us:List Value} {zs:List V} {ws:List Value},Vals vs us->Vals zs ws->Vals (gV vs zs) (g us ws)
variable {g:List Value->List Value->List Value} {gV:List V->List V->List V}
end
structure FnScope (N P:List Str) (sc:Scope):Prop where
  kind:sc.kind=.function
  co:sc.isCoroutine=false
  gen:sc.isGenerator=false
  nd:N.Nodup
  pre:N.take P.length=P
  par:∀ x ∈ P,sc.names.lookup x=some .local\/sc.names.lookup x=some .cell
  nofree:∀ y ∈ sc.names,y.2 ≠ .free
theorem pY{kindOf:Str->Option NameKind}{x:Str}:∀ {binds:List (Str × Value)} {m:Str->Option Value},(∀ v,(x,v) ∉ binds)->bindL kindOf binds m x=m x
  | [],_,_=>rfl
  | (n,v)::r,m,h=>by
    unfold bindL
    rw[pY fun w hw=>h w (List.mem_cons_of_mem _ hw)]
    split
    · have:x ≠ n:=by rintro rfl;exact h v List.mem_cons_self
      simp[this]
    · rfl
theorem pZ{kindOf:Str->Option NameKind}{x:Str}:∀ {binds:List (Str × Value)} {m:Str->Option Value},(∀ v,(x,v) ∉ binds)->bindC kindOf binds m x=m x
  | [],_,_=>rfl
  | (n,v)::r,m,h=>by
    unfold bindC
    rw[pZ fun w hw=>h w (List.mem_cons_of_mem _ hw)]
    split
    · rfl
    · have:x ≠ n:=by rintro rfl;exact h v List.mem_cons_self
      simp[this]
theorem q5{kindOf:Str->Option NameKind}{x:Str}{v:Value}:∀ {P:List Str} {vs:List Value} {i:Nat} {m:Str->Option Value},P.Nodup->P[i]?=some x->vs[i]?=some v->kindOf x=some .local ->
    bindL kindOf (P.zip vs) m x=some v
  | [],_,_,_,_,h,_,_=>by simp at h
  | _::_,[],_,_,_,_,h,_=>by simp at h
  | p::P,w::vs,0,m,nd,h1,h2,hk=>by
    simp at h1 h2;subst h1;subst h2
    show bindL kindOf ((p,w)::P.zip vs) m p=_
    unfold bindL
    rw[pY fun v hv=>(List.nodup_cons.mp nd).1 (List.of_mem_zip hv).1,if_pos hk]
    simp
  | p::P,w::vs,i+1,m,nd,h1,h2,hk=>by
    show bindL kindOf ((p,w)::P.zip vs) m x=_
    unfold bindL
    exact q5 (i:=i) (List.nodup_cons.mp nd).2 (by simpa using h1) (by simpa using h2) hk
theorem q9{kindOf:Str->Option NameKind}{x:Str}{v:Value}:∀ {P:List Str} {vs:List Value} {i:Nat} {m:Str->Option Value},P.Nodup->P[i]?=some x->vs[i]?=some v->kindOf x ≠ some .local ->
    bindC kindOf (P.zip vs) m x=some v
  | [],_,_,_,_,h,_,_=>by simp at h
  | _::_,[],_,_,_,_,h,_=>by simp at h
  | p::P,w::vs,0,m,nd,h1,h2,hk=>by
    simp at h1 h2;subst h1;subst h2
    show bindC kindOf ((p,w)::P.zip vs) m p=_
    unfold bindC
    rw[pZ fun v hv=>(List.nodup_cons.mp nd).1 (List.of_mem_zip hv).1,if_neg hk]
    simp
  | p::P,w::vs,i+1,m,nd,h1,h2,hk=>by
    show bindC kindOf ((p,w)::P.zip vs) m x=_
    unfold bindC
    exact q9 (i:=i) (List.nodup_cons.mp nd).2 (by simpa using h1) (by simpa using h2) hk
def start(N:List Str)(vs:List V):St:=vs.map some++List.replicate (N.length - vs.length) none
def cK(CX:CXT)(P:Program)(w:World)(K:PySem.W.Frag)(mg:Str->Option Value)(base:Heap)(N:List Str)(qual:Str)(scope:Scope)(f:Addr)(cd:Value)(A:Around)(outer:List Env)(s:Shared)(H:Hp)(E:XK):Cx where
  prog:=P
  w:=w
  K:=K
  mg:=mg
  base:=base
  A:=A.deeper (envOfC qual scope s.heap.objs.size f cd)
  N:=N
  s₀:=s
  H₀:=H
  env:=envOfC qual scope s.heap.objs.size f cd
  outer:=outer
  stack:=envOfC qual scope s.heap.objs.size f cd::outer
  ex:=[]
  calm:=true
  fn:=fun _=>true
  pn:=[]
  xe:=fun e s'=>wpAny (model P w) (A.deeper (envOfC qual scope s.heap.objs.size f cd)) (leaving (envOfC qual scope s.heap.objs.size f cd) e) (fun _ s''=>CX outer H s E e s'') (fun e' s''=>CX outer H s E e' s'') s'
theorem qa{sc:Scope}{n:Nat}{x:Str}(h:sc.names.lookup x=some .cell):∃ c,(cellsFrom n sc.names []).lookup x=some c:=by
  have q:=PySem.W.cellsFrom_some sc.names n [] (.inl h)
  exact Option.isSome_iff_exists.mp q
theorem xh{CX:CXT}{P:Program}{w:World}{K:PySem.W.Frag}{mg:Str->Option Value}{base:Heap}{N ps:List Str}{qual:Str}{scope:Scope}{f:Addr}{cd:Value}{A:Around}{outer:List Env}{s s1:Shared}{H:Hp}{E:XK}{us:List Value}{vs:List V}(S:FnScope N ps scope)(hd:A.handled=none)(e0:Env0 P w K mg base A outer s H)(hl:vs.length=ps.length)(r:Vals vs us)(x:InCallC s s.heap.objs.size (bindL (envOfC qual scope s.heap.objs.size f cd).kindOf (ps.zip us) fun _=>none) (cellsFrom (s.heap.objs.size+1) scope.names []) (bindC (envOfC qual scope s.heap.objs.size f cd).kindOf (ps.zip us) fun _=>none) s1):
    Inv (cK CX P w K mg base N qual scope f cd A outer s H E) [] (start N vs) H s1:=by
  have hpl:ps.length<=N.length:=by have:=congrArg List.length S.pre;rw[List.length_take] at this;omega
  obtain⟨h1,tk,rfl,hk⟩:=x.done
  have noA:∀ b:Addr,b ∉ (cK CX P w K mg base N qual scope f cd A outer s H E).ex:=fun b z=>absurd (show b ∈ ([]:List Addr) from z) (by simp)
  refine⟨⟨e0.mod,S.kind,rfl,rfl,Nat.le_refl _,fun y z c h1 h2=>?_,fun y hy=>?_,fun y c _ h=>?_,fun _=>hd,Around.frames_deeper e0.frames,.inr ⟨rfl,rfl⟩,fun b z=>absurd z (noA b),e0.bs,e0.bsz,fun b _ _=>noA b,fun b z=>absurd z (noA b),e0.funs,e0.frf⟩,
    rfl,e0.bare,Un.kept hk,⟨_,x.toInCall.ns,fun i y v h1 h2 h3=>?_⟩,fun y c h=>⟨_,x.cell y c h⟩,e0.hok.fresh (Nat.le_refl _),fun y c h=>?_,fun p hp=>absurd (show p ∈ ([]:List (Addr × Obj)) from hp) (by simp),e0.hok.kept hk,?_⟩
  · exact name_of_addr x.apart (PySem.mem_of_lookup h1) (PySem.mem_of_lookup h2)
  · have hy:scope.names.lookup y=some .cell\/scope.names.lookup y=some .free:=hy
    rcases hy with hy | hy
    · exact qa hy
    · exact absurd rfl (S.nofree _ (PySem.mem_of_lookup hy))
  · exact Nat.le_of_lt (x.above y c (PySem.mem_of_lookup h))
  · have hi:i < vs.length:=by
      unfold start at h2
      by_cases hi:i < vs.length
      · exact hi
      · rw[List.getElem?_append_right (by simpa using hi)] at h2
        rw[List.getElem?_replicate] at h2
        split at h2 <;> cases h2
    have ha:vs[i]?=some v:=by
      unfold start at h2
      rw[List.getElem?_append_left (by simpa using hi),List.getElem?_map] at h2
      cases e:vs[i]? with
      | none=>rw[e] at h2;cases h2
      | some a=>rw[e] at h2;cases h2;rfl
    obtain⟨u,hu,rv⟩:=r.get ha
    have hp:ps[i]?=some y:=by
      rw[<- S.pre,List.getElem?_take_of_lt (by omega)];exact h1
    have ndP:ps.Nodup:=by rw[<- S.pre];exact S.nd.sublist (List.take_sublist _ _)
    refine⟨u,rv,?_⟩
    rcases S.par y (List.mem_of_getElem? hp) with k | k
    · exact .inl ⟨k,q5 ndP hp hu k⟩
    · obtain⟨c,e⟩:=qa (n:=s.heap.objs.size+1) k
      refine .inr ⟨.inl k,c,e,?_⟩
      have q:=x.cell y c e
      rw[q9 ndP hp hu (by show scope.names.lookup y ≠ _;rw[k];decide)] at q
      exact q
  · exact e0.hok.fresh (Nat.le_of_lt (x.above y c (PySem.mem_of_lookup h)))
  · unfold start
    show _=N.length
    rw[List.length_append,List.length_map,List.length_replicate]
    omega
theorem xi{CX:CXT}{P:Program}{w:World}{K:PySem.W.Frag}{mg:Str->Option Value}{base:Heap}{k:Nat}{f:Addr}{name qual:Str}{params:Arguments}{body:List Stmt}{scope:Scope}{dV kV doc pm cdv ct oc:Value}{an od:Option Addr}{osl:Array (Option Value)}{N ps:List Str}{sp:Sp}(lk:K.lookup f=some ⟨oc,od,.func (PySem.W.fnOf name qual params body scope dV kV doc pm an cdv ct),osl⟩)(hcd:PySem.W.codeIn K cdv qual=true)(S:FnScope N ps scope)(len:∀ vs H Q E,sp vs H Q E->vs.length=ps.length)(hbody:∀ (A:Around) (outer:List Env) (s:Shared) (H:Hp) (vs:List V) (Q:VK) (E:XK),Room k (A.deeper (envOfC qual scope s.heap.objs.size f cdv))->sp vs H Q E ->
      ∃ t,PSs (cK CX P w K mg base N qual scope f cdv A outer s H E) body t/\t { nx:=fun _ H'=>Q .non H',rt:=Q } (start N vs) H):
    FnOk P w K mg base CX (k+1) f (PySem.W.fnOf name qual params body scope dV kV doc pm an cdv ct) ps sp:=by
  refine⟨len,fun A outer s H args us vs Q E hr e0 hb r hsp=>?_⟩
  have hl:=len _ _ _ _ hsp
  have KX:K.In s.heap:=e0.mod.kin.keeps fun b o e=>(e0.bs b o e).1
  have lim:s.heap.NoLimit:=e0.mod.nolimit.keeps fun b o e=>(e0.bs b o e).1
  have hkind:∀ y ∈ ps.zip us,scope.names.lookup y.1=some .local\/(scope.names.lookup y.1=some .cell/\((cellsFrom (s.heap.objs.size+1) scope.names []).lookup y.1).isSome=true):=fun⟨n,v⟩ hy=>by
    rcases S.par n (List.of_mem_zip hy).1 with q | q
    · exact .inl q
    · exact .inr ⟨q,PySem.W.cellsFrom_some _ _ _ (.inl q)⟩
  refine codeAny_call_function hr.depth (KX _ _ lk) rfl S.co S.gen rfl (PySem.W.codeRec_of KX hcd) (hb _ _ _ _ ?_)
  refine wpAny_newFunctionEnv_cells S.kind hkind fun env he s1 x=>?_
  subst he
  refine⟨lim.keeps x.toInCall.keep,codeAny_func ?_⟩
  obtain⟨t,ht,hq⟩:=hbody A outer s H vs Q E (hr.deeper _) hsp
  have I:Inv (cK CX P w K mg base N qual scope f cdv A outer s H E) [] (start N vs) H s1:=xh S hr.hd e0 hl r x
  refine wpAny_mono (ht [] s1 (start N vs) H _ I hq) (fun fl s' hs=>?_) fun e s' hs=>hs
  have fin:∀ {σ':St} {H':Hp} {v:V} {u:Value},Inv (cK CX P w K mg base N qual scope f cdv A outer s H E) [] σ' H' s'->RelV v u->Q v H'->CE outer P w H s Q u s' :=
    fun {σ' H' v u} J rv q=>⟨v,H',J.os,J.bare,J.base,J.hok,rv,q⟩
  cases fl with
  | ret u =>
    obtain⟨v,σ',H',J,rv,q⟩:=hs
    exact fin J rv q
  | next =>
    obtain⟨σ',H',J,q⟩:=hs
    exact fin (v:=V.non) (u:=Value.none) J rfl q
  | brk =>
    obtain⟨_,_,_,q⟩:=hs
    exact False.elim q
  | cont =>
    obtain⟨_,_,_,q⟩:=hs
    exact False.elim q
end L2
namespace L2
open PySem PySem.Spec PyProof.Rows
section
variable {X:Cx} {x:Str} {p pos:Pos} {e:Expr} {es:List Expr} {t:TA} {id T:String} {r:List V->Hp->VK->Prop}
def tCB(r:List V->Hp->VK->Prop)(t:TA):TE:=fun σ H Q=>t σ H fun vs H1=>r vs H1 Q
theorem m6(hc:CallR X (.builtin id) r)(hg:Gl X x)(hm:X.mg x=none)(hv:bootBuiltins x=some (.builtin id))(ha:PA X (e::es) t)(hn:x ≠ "__name__":=by decide)(hdb:(x == ("__debug__" : Str))=false:=by decide)(he:starEach (e::es) X.env=(false,eval e X.env)::starEach es X.env:=by rfl)(hpl:(backTo pos (starEach es X.env)).any (·.1)=false:=by rfl):PE X (.Call (.Name x p) (e::es) [] pos) (tCB r t):=by
  intro pins s σ H Q I h
  refine wpAny_Call_Name_kw (cJ I hg hm hv ?_ hn hdb)
  exact PyProof.Rows.callWith_builtin1 (thn (ha pos pins s σ H _ I h) fun us s1 ⟨vs,H1,I1,r1,q1⟩=>hc pins s1 σ H1 vs us Q I1 r1 q1) he hpl
theorem m7(hc:CallR X (.type T) r)(hg:Gl X x)(hm:X.mg x=none)(hv:bootBuiltins x=some (.type T))(ha:PA X (e::es) t)(hn:x ≠ "__name__":=by decide)(hdb:(x == ("__debug__" : Str))=false:=by decide)(he:starEach (e::es) X.env=(false,eval e X.env)::starEach es X.env:=by rfl)(hpl:(backTo pos (starEach es X.env)).any (·.1)=false:=by rfl):PE X (.Call (.Name x p) (e::es) [] pos) (tCB r t):=by
  intro pins s σ H Q I h
  refine wpAny_Call_Name_kw (cJ I hg hm hv ?_ hn hdb)
  exact PyProof.Rows.callWith_type1 (thn (ha pos pins s σ H _ I h) fun us s1 ⟨vs,H1,I1,r1,q1⟩=>hc pins s1 σ H1 vs us Q I1 r1 q1) he hpl
end
end L2
namespace HT
open PySem PyProof.Rows
section
open PySem.SeqAt
open PySem.AutoSeq1 (wpAny_loadPart')
open PySem.MeetsSeq PySem.MeetsSeq2 PySem.MeetsSeq3
end
section
variable {prog:Program} {w:World} {A:Around} {E:Value->Shared->Prop} {s:Shared}
def sIx(n d:Nat):Option Int->Nat
  | none=>d
  | some v=>if v < 0 then (v+(n:Int)).toNat else min v.toNat n
theorem xj(n d:Nat)(hd:d<=n)(o:Option Int):sIx n d o<=n:=by
  cases o with
  | none=>exact hd
  | some v =>
    show (if v < 0 then (v+(n:Int)).toNat else min v.toNat n)<=n
    by_cases hv:v < 0
    · rw[if_pos hv];omega
    · rw[if_neg hv];exact Nat.min_le_right _ _
theorem qb(v:Int)(n d:Nat):(if v < 0 then max (v+(n:Int)) 0 else min v (n:Int))=((sIx n d (some v):Nat):Int):=by
  show (if v < 0 then max (v+(n:Int)) 0 else min v (n:Int))=(((if v < 0 then (v+(n:Int)).toNat else min v.toNat n):Nat):Int)
  by_cases hv:v < 0
  · simp only[if_pos hv];omega
  · simp only[if_neg hv];omega
theorem xk(lo hi:Option Int)(n:Nat):Builtin.Slice.sliceAdjust lo hi 1 (n:Int)=(((sIx n 0 lo:Nat):Int),((sIx n n hi:Nat):Int)):=by
  have h1:¬ ((1:Int) < 0):=by omega
  unfold Builtin.Slice.sliceAdjust
  simp only[h1,if_false]
  refine Prod.ext ?_ ?_
  · cases lo with
    | none=>rfl
    | some v=>exact qb v n 0
  · cases hi with
    | none=>rfl
    | some v=>exact qb v n n
theorem xl(i j:Nat):Builtin.Slice.slicePlaces (i:Int) (j:Int) 1=j - i:=by
  unfold Builtin.Slice.slicePlaces
  have h1:(1:Int) > 0:=by omega
  simp only[h1,if_true,Int.ediv_one]
  split <;> omega
theorem qc{v:Value}{o:Option Int}{Q:Option Int->Shared->Prop}(p:IsPart v o)(h:Q o s):wpAny (model prog w) A (Builtin.Slice.slicePartIndex v) Q E s:=by
  cases p with
  | none=>exact slicePart_none h
  | int i t=>exact slicePart_int h
theorem xm{sl:Addr}{vl vu:Value}{lo hi:Option Int}{n:Nat}{Q:Int × Int × Nat->Shared->Prop}(hs:s.heap.IsSliceOf sl vl vu .none)(pl:IsPart vl lo)(pu:IsPart vu hi)(h:Q (((sIx n 0 lo:Nat):Int),1,sIx n n hi - sIx n 0 lo) s):wpAny (model prog w) A (Builtin.Slice.sliceApplied (.ref sl) (pure (n:Int))) Q E s:=by
  obtain⟨os,hos,hcs,hds⟩:=id hs
  unfold Builtin.Slice.sliceApplied Builtin.Slice.sliceFields
  refine wpAny_bind (wpAny_bind (wpAny_field hos hds (x:=vl) rfl (wpAny_bind (wpAny_field hos hds (x:=vu) rfl (wpAny_bind (wpAny_field hos hds (x:=.none) rfl (wpAny_pure ?_)))))))
  refine wpAny_bind (slicePart_none ?_)
  show wpAny _ _ (if ((1:Int) == 0)=true then _ else _) _ _ s
  rw[if_neg (by decide)]
  refine wpAny_bind (qc pl (wpAny_bind (qc pu (wpAny_bind (wpAny_pure ?_)))))
  show wpAny _ _ (match Builtin.Slice.sliceAdjust lo hi 1 (n:Int) with | (lo,hi)=>pure (lo,(1:Int),Builtin.Slice.slicePlaces lo hi 1)) _ _ s
  rw[xk lo hi n]
  show wpAny _ _ (pure (((sIx n 0 lo:Nat):Int),(1:Int),Builtin.Slice.slicePlaces ((sIx n 0 lo:Nat):Int) ((sIx n n hi:Nat):Int) 1)) _ _ s
  rw[xl]
  exact wpAny_pure h
theorem xn(xs:Array Value)(i k:Nat):((List.range k).filterMap fun (m:Nat)=>xs[((i:Int)+(m:Int) * 1).toNat]?).toArray=((xs.toList.drop i).take k).toArray:=by
  have e:(fun (m:Nat)=>xs[((i:Int)+(m:Int) * 1).toNat]?)=fun m=>xs[i+m]?:=by
    funext m
    have:((i:Int)+(m:Int) * 1).toNat=i+m:=by omega
    rw[this]
  rw[e]
  have:=pick_run xs i k
  rw[List.filterMap_map] at this
  have e2:((fun x=>xs[x]?) ∘ fun x=>i+x)=fun m=>xs[i+m]?:=rfl
  rw[e2] at this
  rw[this]
theorem getItem_tuple_cut{t sl:Addr}{items:Array Value}{vl vu:Value}{lo hi:Option Int}{Q:Value->Shared->Prop}(ht:IsTup s.heap t items)(hs:s.heap.IsSliceOf sl vl vu .none)(pl:IsPart vl lo)(pu:IsPart vu hi)(hw:¬ (sIx items.size 0 lo=0/\sIx items.size items.size hi=items.size))(h:Q (.ref s.heap.objs.size) { s with heap:=s.heap.push { cls:=.type "tuple",data:=.seq ((items.toList.drop (sIx items.size 0 lo)).take (sIx items.size items.size hi - sIx items.size 0 lo)).toArray } })(hsz:items.size<=sizeLine):wpAny (model prog w) A (getItem (.ref t) (.ref sl)) Q E s:=by
  have htake:sizeOk (.seq ((items.toList.drop (sIx items.size 0 lo)).take (sIx items.size items.size hi - sIx items.size 0 lo)).toArray):=by
    show ((items.toList.drop (sIx items.size 0 lo)).take (sIx items.size items.size hi - sIx items.size 0 lo)).toArray.size<=sizeLine
    rw[List.size_toArray,List.length_take,List.length_drop,Array.length_toList]
    omega
  have hj:sIx items.size items.size hi<=items.size:=xj _ _ (Nat.le_refl _) hi
  obtain⟨os,hos,hcs,hds⟩:=id hs
  have hTs:s.TypeIs (.ref sl) "slice":=⟨os,hos,hcs⟩
  unfold getItem
  try with_reducible refine wpAny_holding ?_
  first | refine wpAny_bind (wpAny_pure ?_) | skip
  refine wpAny_bind (wpAny_sequenceKey ht.typeIs (by decide) ?_)
  refine wpAny_bind (wpAny_callSpecial?_slot (name:=Str.ofString "__getitem__") ht.typeIs PyProof.Rows.slot_tuple_getitem
    (wpAny_call_entry PyProof.Rows.slot_tuple_getitem ht.typeIs entry_tuple_getitem ?_ (args_tuple_getitem _ _)))
  show wpAny _ _ (Builtin.Tuple.tupleItemsOf (.ref t) >>= _) _ _ s
  refine wpAny_bind (tupleItemsOf_ ht ?_)
  refine wpAny_bind (wpAny_typeOf hTs ?_)
  rw[if_pos (by decide)]
  refine wpAny_bind (xm hs pl pu ?_)
  have hno:¬ ((((sIx items.size 0 lo:Nat):Int) == 0 && (1:Int) == 1 && (sIx items.size items.size hi - sIx items.size 0 lo) == items.size)=true):=by
    intro q
    rw[Bool.and_eq_true,Bool.and_eq_true] at q
    have q1:((sIx items.size 0 lo:Nat):Int)=0:=eq_of_beq q.1.1
    have q2:sIx items.size items.size hi - sIx items.size 0 lo=items.size:=eq_of_beq q.2
    exact hw ⟨by omega,by omega⟩
  show wpAny _ _ (if (((sIx items.size 0 lo:Nat):Int) == 0 && (1:Int) == 1 && (sIx items.size items.size hi - sIx items.size 0 lo) == items.size)=true then _ else _) _ _ s
  rw[if_neg hno,xn]
  first
    | exact wpAny_bind (m:=Builtin.Tuple.tupleExact _) (wpAny_newObj_type (wpAny_pure ⟨_,rfl,wpAny_pure h⟩) htake)
    | exact wpAny_bind (m:=Builtin.Tuple.tupleExact _) (wpAny_newObj_type (wpAny_bind (wpAny_pure (wpAny_pure ⟨_,rfl,wpAny_pure h⟩))) htake)
    | exact wpAny_bind (wpAny_bind (m:=Builtin.Tuple.tupleExact _) (wpAny_newObj_type (wpAny_pure (wpAny_pure ⟨_,rfl,wpAny_pure h⟩)) htake))
    | exact wpAny_bind (wpAny_bind (m:=Builtin.Tuple.tupleExact _) (wpAny_newObj_type (wpAny_pure ⟨_,rfl,wpAny_pure h⟩) htake))
end
end HT
namespace L2
open PySem PySem.Spec PyProof.Rows
abbrev TO:=St->Hp->(Option Int->Hp->Prop)->Prop
def PO(X:Cx)(e:Option Expr)(t:TO):Prop :=
  ∀ (pins:List (Addr × Obj)) (s:Shared) (σ:St) (H:Hp) (Q:Option Int->Hp->Prop),Inv X pins σ H s->t σ H Q ->
    wpAny (model X.prog X.w) X.A (evalPart e X.env) (fun u s'=>∃ o H',Inv X pins σ H' s'/\IsPart u o/\Q o H') X.xe s
def xo:TO:=fun _ H Q=>Q none H
def xp(t:TE):TO:=fun σ H Q=>t σ H fun x H1=>∃ i,x=.int i/\Q (some i) H1
theorem xq{ns:List Int}:∀ {us:List Value},Vals (ns.map V.int) us->IntsAre us ns:=by
  induction ns with
  | nil=>intro us r;rw[List.map_nil] at r;cases r;exact .nil
  | cons n ns ih =>
    intro us r
    rw[List.map_cons] at r
    cases r with
    | cons r1 r2 =>
      obtain⟨t,e⟩:=r1
      subst e
      exact .cons n t (ih r2)
section
variable {X:Cx} {e:Expr} {te:TE} {lo hi:Option Expr} {tl th:TO} {pos p2:Pos}
theorem xr:PO X none xo:=by
  intro pins s σ H Q I h
  rw[evalPart_none]
  exact wpAny_pure ⟨none,H,I,.none,h⟩
theorem xt(h:PE X e te):PO X (some e) (xp te):=by
  intro pins s σ H Q I hw
  rw[evalPart_some]
  refine thn (h pins s σ H _ I hw) fun u s1 ⟨x,H1,I1,r1,q1⟩=>?_
  obtain⟨i,rfl,q⟩:=q1
  obtain⟨t,rfl⟩:=r1
  exact⟨some i,H1,I1,.int i t,q⟩
def SlR(X:Cx)(r:V->Option Int->Option Int->Hp->VK->Prop):Prop :=
  ∀ (pins:List (Addr × Obj)) (s:Shared) (σ:St) (H:Hp) (x:V) (v vl vu:Value) (lo hi:Option Int) (sl:Addr) (Q:VK),Inv X pins σ H s->RelV x v->s.heap.IsSliceOf sl vl vu .none->IsPart vl lo->IsPart vu hi->r x lo hi H Q ->
    ∃ T id,typeLookup (.type T) "__getitem__" = pure (some (.builtin id))/\s.TypeIs v T/\wpAny (model X.prog X.w) X.A (getItem v (.ref sl)) (EP X pins σ Q) X.xe s
theorem SlR.or{r r':V->Option Int->Option Int->Hp->VK->Prop}(h:SlR X r)(h':SlR X r'):SlR X (fun x lo hi H Q=>r x lo hi H Q\/r' x lo hi H Q):=by
  intro pins s σ H x v vl vu lo hi sl Q I rx hs pl pu q
  rcases q with q | q
  · exact h pins s σ H x v vl vu lo hi sl Q I rx hs pl pu q
  · exact h' pins s σ H x v vl vu lo hi sl Q I rx hs pl pu q
def tSl(r:V->Option Int->Option Int->Hp->VK->Prop)(te:TE)(tl th:TO):TE:=fun σ H Q=>te σ H fun x H1=>tl σ H1 fun l H2=>th σ H2 fun u H3=>r x l u H3 Q
theorem qd{r:V->Option Int->Option Int->Hp->VK->Prop}(hr:SlR X r)(he:PE X e te)(hl:PO X lo tl)(hu:PO X hi th):PE X (.Subscript e (.Slice lo hi none p2) pos) (tSl r te tl th):=by
  intro pins s σ H Q I h
  refine Subscript_ (thn (he pins s σ H _ I h) fun v s1 ⟨x,H1,I1,r1,q1⟩=>?_)
  refine wpAny_Slice (thn (hl pins s1 σ H1 _ I1 q1) fun vl s2 ⟨l,H2,I2,pl,q2⟩=>thn (hu pins s2 σ H2 _ I2 q2) fun vu s3 ⟨u,H3,I3,pu,q3⟩=>?_)
  rw[evalPart_none]
  refine wpAny_pure ?_
  have I4:Inv X pins σ H3 { s3 with heap:=s3.heap.push { cls:=.type "slice",data:=.fields #[vl,vu,.none] } }:=I3.kept (t':=s3.toks) fun b ob q=>Heap.get?_push_of_some _ q
  obtain⟨T,id,hT,ht,hg⟩:=hr pins { s3 with heap:=s3.heap.push { cls:=.type "slice",data:=.fields #[vl,vu,.none] } } σ H3 x v vl vu l u s3.heap.objs.size Q I4 r1 (Heap.IsSliceOf.new ..) pl pu q3
  show wpAny (model X.prog X.w) X.A (subscriptTail e (.Slice lo hi none p2) v (.ref s3.heap.objs.size)) (EP X pins σ Q) X.xe { s3 with heap:=s3.heap.push { cls:=.type "slice",data:=.fields #[vl,vu,.none] } }
  exact tail_any (ops:=[.ref s3.heap.objs.size,v]) ht hT hg (by with_unfolding_all rfl)
def eG(xs:List V)(lo hi:Option Int):List V:=(xs.drop (HT.sIx xs.length 0 lo)).take (HT.sIx xs.length xs.length hi - HT.sIx xs.length 0 lo)
theorem qe(xs:List V)(lo hi:Option Int):(eG xs lo hi).length<=xs.length:=by
  unfold eG
  rw[List.length_take,List.length_drop]
  omega
def xu(K:PySem.W.Frag):V->Option Int->Option Int->Hp->VK->Prop:=fun x lo hi H Q=>∃ a xs,x=.ref a/\SqT K H a xs /\
  ¬ (HT.sIx xs.length 0 lo=0/\HT.sIx xs.length xs.length hi=xs.length)/\∀ p,H p=none->Q (.ref p) (upd H p (.tup (eG xs lo hi)))
theorem xv:SlR X (xu X.K):=by
  intro pins s σ H x v vl vu lo hi sl Q I rx hs pl pu h
  obtain⟨a,xs,rfl,hx,hw,q⟩:=h
  cases rx
  obtain⟨its,r,ht,hz⟩:=I.tuple hx
  have hlen:its.toArray.size=xs.length:=by rw[List.size_toArray];exact r.length.symm
  refine⟨"tuple",_,PyProof.Rows.slot_tuple_getitem.lookup,ht.typeIs,?_⟩
  refine HT.getItem_tuple_cut ht hs pl pu (by rw[hlen];exact hw) ?_ (by rw[hlen];exact hz)
  rw[hlen]
  refine⟨.ref s.heap.objs.size,_,I.laid (t':=s.toks) (o:=.tup (eG xs lo hi)) (fun b ob q=>Heap.get?_push_of_some _ q) (Nat.le_refl _) ?_,rfl,q _ (I.hok.fresh (Nat.le_refl _))⟩
  exact⟨Nat.le_trans (qe xs lo hi) hz,_,(r.drop (HT.sIx xs.length 0 lo)).take (HT.sIx xs.length xs.length hi - HT.sIx xs.length 0 lo),IsTup.new _ _⟩
end
end L2
namespace L2
open PySem PySem.Spec PyProof.Rows
def ixN(n:Nat)(i:Int):Option Nat:=if 0<=i then (if i < n then some i.toNat else none) else if -(n:Int)<=i then some (i+n).toNat else none
def atI{α:Type}(xs:List α)(i:Int):Option α:=(ixN xs.length i).bind fun j=>xs[j]?
theorem qf{n:Nat}{i:Int}{j:Nat}(h:ixN n i=some j):seqIndex? i n=some j/\j < n/\-(n:Int)<=i/\i < n:=by
  unfold ixN at h
  by_cases h0:0<=i
  · rw[if_pos h0] at h
    by_cases h1:i < n
    · rw[if_pos h1] at h
      have e:i.toNat=j:=Option.some.inj h
      exact⟨by rw[seqIndex_of h0 h1,e],by omega,by omega,h1⟩
    · rw[if_neg h1] at h;cases h
  · rw[if_neg h0] at h
    by_cases h1:-(n:Int)<=i
    · rw[if_pos h1] at h
      have e:(i+n).toNat=j:=Option.some.inj h
      exact⟨by rw[seqIndex_neg (by omega) h1,e],by omega,h1,by omega⟩
    · rw[if_neg h1] at h;cases h
theorem qg{α:Type}{xs:List α}{i:Int}{v:α}(h:atI xs i=some v):∃ j,seqIndex? i xs.length=some j/\xs[j]?=some v/\j < xs.length/\-(xs.length:Int)<=i/\i < xs.length:=by
  unfold atI at h
  cases e:ixN xs.length i with
  | none=>rw[e] at h;cases h
  | some j =>
    rw[e] at h
    obtain⟨h1,h2,h3,h4⟩:=qf e
    exact⟨j,h1,h,h2,h3,h4⟩
def iJ(b:Expr):Prop:=∀ o i,subscripted b false o i=operate [o,i] (getItem o i)
def IxR(X:Cx)(r:R2):Prop :=
  ∀ (value slice:Expr) (pins:List (Addr × Obj)) (s:Shared) (σ:St) (H:Hp) (x y:V) (v u:Value) (Q:VK),Inv X pins σ H s->RelV x v->RelV y u->r x y H Q ->
    subscripted slice false v u=operate [v,u] (getItem v u)->wpAny (model X.prog X.w) X.A (subscriptTail value slice v u) (EP X pins σ Q) X.xe s
def MtR(X:Cx)(id:String)(r:V->List V->Hp->VK->Prop):Prop :=
  ∀ (pins:List (Addr × Obj)) (s:Shared) (σ:St) (H:Hp) (x:V) (xs:List V) (v:Value) (us:List Value) (Q:VK),Inv X pins σ H s->RelV x v->Vals xs us->r x xs H Q ->
    wpAny (model X.prog X.w) X.A (call (.builtin id) (v::us)) (EP X pins σ Q) X.xe s
section
variable {X:Cx} {a b:Expr} {ta tb:TE} {pos:Pos}
theorem IxR.or{r r':R2}(h:IxR X r)(h':IxR X r'):IxR X (fun x y H Q=>r x y H Q\/r' x y H Q):=by
  intro value slice pins s σ H x y v u Q I rx ry q hs
  rcases q with q | q
  · exact h value slice pins s σ H x y v u Q I rx ry q hs
  · exact h' value slice pins s σ H x y v u Q I rx ry q hs
theorem MtR.or{id:String}{r r':V->List V->Hp->VK->Prop}(h:MtR X id r)(h':MtR X id r'):MtR X id (fun x xs H Q=>r x xs H Q\/r' x xs H Q):=by
  intro pins s σ H x xs v us Q I rx rs q
  rcases q with q | q
  · exact h pins s σ H x xs v us Q I rx rs q
  · exact h' pins s σ H x xs v us Q I rx rs q
theorem qh{r:R2}(hr:IxR X r)(ha:PE X a ta)(hb:PE X b tb)(hs:iJ b):PE X (.Subscript a b pos) (tOp r ta tb):=by
  intro pins s σ H Q I h
  exact Subscript_ (lR ha hb I h fun v u s2 x y H2 I2 rx ry q=>hr a b pins s2 σ H2 x y v u Q I2 rx ry q (hs _ _))
def xw(K:PySem.W.Frag):R2:=fun x y H Q=>∃ p xs i v,x=.ref p/\y=.int i/\SqL K H p xs/\atI xs i=some v/\Q v H
def xx(K:PySem.W.Frag):R2:=fun x y H Q=>∃ p xs i v,x=.ref p/\y=.int i/\SqT K H p xs/\atI xs i=some v/\Q v H
theorem ix_list:IxR X (xw X.K):=by
  intro value slice pins s σ H x y v u Q I rx ry h hs
  obtain⟨p,xs,i,z,rfl,rfl,hq,he,q⟩:=h
  cases rx
  obtain⟨t,rfl⟩:=ry
  obtain⟨its,r,pl,hz⟩:=I.list hq
  obtain⟨j,h1,h2,h3,h4,h5⟩:=qg he
  obtain⟨w,ew,rw'⟩:=r.get h2
  have hl:=r.length
  have hn:=iI
  have fin:EP X pins σ Q w s:=⟨z,H,I,rw',q⟩
  by_cases h0:0<=i
  · have hj:i.toNat=j:=by
      rw[seqIndex_of h0 h5] at h1
      exact Option.some.inj h1
    exact item_listR pl.isList h0 (by omega) (by rw[hj];simpa using ew) fin hs
  · have hj:(i+(its.toArray.size:Int)).toNat=j:=by
      rw[seqIndex_neg (by omega) h4] at h1
      rw[List.size_toArray,<- hl]
      exact Option.some.inj h1
    exact subscriptTail_builtinR (x:=w) pl.isList.typeIs slot_list_getitem.lookup
      (wpAny_getItem_list_neg (Q:=fun r s'=>r=w/\EP X pins σ Q r s') pl.isList (by omega) (by rw[List.size_toArray] <;> omega) (by omega) (by rw[hj];simpa using ew) ⟨rfl,fin⟩) hs
theorem qi:IxR X (xx X.K):=by
  intro value slice pins s σ H x y v u Q I rx ry h hs
  obtain⟨p,xs,i,z,rfl,rfl,hq,he,q⟩:=h
  cases rx
  obtain⟨t,rfl⟩:=ry
  obtain⟨its,r,pl,hz⟩:=I.tuple hq
  obtain⟨j,h1,h2,h3,h4,h5⟩:=qg he
  obtain⟨w,ew,rw'⟩:=r.get h2
  have hl:=r.length
  have hn:=iI
  have fin:EP X pins σ Q w s:=⟨z,H,I,rw',q⟩
  exact subscriptTail_builtinR (x:=w) pl.typeIs slot_tuple_getitem.lookup
    (getItem_tuple (j:=j) (Q:=fun r s'=>r=w/\EP X pins σ Q r s') pl (by omega) (by omega) (by rw[List.size_toArray,<- hl];exact h1) (by simpa using ew) ⟨rfl,fin⟩) hs
theorem xy(its:List Value)(n j:Nat)(u:Value):Obj.mapSeq (·.setIfInBounds j u) { cls:=.type "list",data:=.seq its.toArray n }={ cls:=.type "list",data:=.seq (its.set j u).toArray n }:=by
  simp[Obj.mapSeq]
theorem Inv.lst{pins:List (Addr × Obj)}{σ:St}{H:Hp}{s:Shared}{p:Addr}{xs:List V}(I:Inv X pins σ H s)(h:H p=some (.lst xs)):
    ∃ (its:List Value) (n:Nat),Vals xs its/\s.heap.get? p=some { cls:=.type "list",data:=.seq its.toArray n }/\xs.length<=sizeLine:=by
  obtain⟨z,its,n,r,e⟩:=I.hok p _ h
  exact⟨its,n,r,e,z⟩
theorem Inv.lstUpd{pins:List (Addr × Obj)}{σ:St}{H:Hp}{s:Shared}{p:Addr}{xs ys:List V}{its its':List Value}{n n':Nat}{f:Obj->Obj}(I:Inv X pins σ H s)(h:H p=some (.lst xs))(ho:s.heap.get? p=some { cls:=.type "list",data:=.seq its.toArray n })(hf:f { cls:=.type "list",data:=.seq its.toArray n }={ cls:=.type "list",data:=.seq its'.toArray n' })(r:Vals ys its')(hz:ys.length<=sizeLine)(t:Nat):
    Inv X pins σ (upd H p (.lst ys)) { s with heap:=s.heap.update p f,toks:=t }:=by
  have e:(s.heap.update p f).get? p=some { cls:=.type "list",data:=.seq its'.toArray n' }:=by
    rw[Heap.get?_update_self f ho (by rw[hf] <;> rfl),hf]
  refine I.write (x:=p) (e:=p) (by rw[h];trivial) (.inl rfl) (fun b u hb q=>(Heap.get?_update_other _ _ (Ne.symm hb)).trans q) ⟨_,e⟩ ?_
  exact⟨hz,its',n',r,e⟩
def xz:V->V->V->Hp->(Hp->Prop)->Prop:=fun o i v H Q=>∃ p xs k j,o=.ref p/\i=.int k/\H p=some (.lst xs)/\ixN xs.length k=some j/\Q (upd H p (.lst (xs.set j v)))
theorem qj:pk X xz:=by
  intro pins s σ H o i v ov iv u Q I ro ri rv h
  obtain⟨p,xs,k,j,rfl,rfl,hp,hj,q⟩:=h
  cases ro
  obtain⟨t,rfl⟩:=ri
  obtain⟨its,n,r,ho,hz⟩:=I.lst hp
  obtain⟨h1,h2,h3,h4⟩:=qf hj
  have hl:=r.length
  have hn:=iI
  have I':Inv X pins σ (upd H p (.lst (xs.set j v))) { s with heap:=s.heap.update p (Obj.mapSeq (·.setIfInBounds j u)) } :=
    I.lstUpd hp ho (xy its n j u) (r.set rv j) (by rw[List.length_set];exact hz) s.toks
  by_cases h0:0<=k
  · have hk:k.toNat=j:=by
      rw[seqIndex_of h0 h4] at h1
      exact Option.some.inj h1
    exact PySem.W.ki_setAt ho h0 (by omega) (by rw[List.size_toArray,<- hl];exact h4) (by rw[hk];exact⟨_,I',q⟩)
  · have hk:(k+(its.toArray.size:Int)).toNat=j:=by
      rw[seqIndex_neg (by omega) h3] at h1
      rw[List.size_toArray,<- hl]
      exact Option.some.inj h1
    exact PySem.W.ki_setBack ho (by omega) (by rw[List.size_toArray,<- hl];exact h3) (by omega) (by rw[hk];exact⟨_,I',q⟩)
theorem xA(lo hi:Option Int)(n:Nat):(sliceBounds lo hi none n).1=((HT.sIx n 0 lo:Nat):Int)/\(sliceBounds lo hi none n).2.1=((HT.sIx n n hi:Nat):Int)/\(sliceBounds lo hi none n).2.2=1:=by
  refine⟨?_,?_,rfl⟩
  · cases lo with
    | none=>simp[sliceBounds,HT.sIx]
    | some i =>
      simp only[sliceBounds,HT.sIx,Option.getD_none,show (1:Int) > 0 by decide,if_true]
      by_cases h:i < 0
      · simp only[h,if_true] <;> omega
      · simp only[h,if_false] <;> omega
  · cases hi with
    | none=>simp[sliceBounds,HT.sIx]
    | some i =>
      simp only[sliceBounds,HT.sIx,Option.getD_none,show (1:Int) > 0 by decide,if_true]
      by_cases h:i < 0
      · simp only[h,if_true] <;> omega
      · simp only[h,if_false] <;> omega
theorem xB(its:List Value)(lo hi:Option Int):slicePick its.toArray lo hi none=((its.drop (HT.sIx its.length 0 lo)).take (HT.sIx its.length its.length hi - HT.sIx its.length 0 lo)).toArray:=by
  obtain⟨h1,h2,h3⟩:=xA lo hi its.toArray.size
  unfold slicePick
  rw[h1,h2,h3]
  simp only[sliceRange_one,pick_run,List.size_toArray] <;> rfl
def xC(K:PySem.W.Frag):V->Option Int->Option Int->Hp->VK->Prop:=fun x lo hi H Q=>∃ a xs,x=.ref a/\SqL K H a xs/\∀ p,H p=none->Q (.ref p) (upd H p (.lst (eG xs lo hi)))
theorem xD:SlR X (xC X.K):=by
  intro pins s σ H x v vl vu lo hi sl Q I rx hs pl pu h
  obtain⟨a,xs,rfl,hx,q⟩:=h
  cases rx
  obtain⟨its,r,ht,hz⟩:=I.list hx
  have hlen:=r.length
  refine⟨"list",_,slot_list_getitem.lookup,ht.isList.typeIs,?_⟩
  refine wpAny_getItem_list_slice ht.isList hs pl pu .none (by simp) ?_ (by rw[List.size_toArray] <;> omega)
  rw[xB,<- hlen]
  refine⟨.ref s.heap.objs.size,_,I.laid (t':=s.toks) (o:=.lst (eG xs lo hi)) (fun b ob q=>Heap.get?_push_of_some _ q) (Nat.le_refl _) ?_,rfl,q _ (I.hok.fresh (Nat.le_refl _))⟩
  exact⟨Nat.le_trans (qe xs lo hi) hz,_,0,(r.drop (HT.sIx xs.length 0 lo)).take (HT.sIx xs.length xs.length hi - HT.sIx xs.length 0 lo),Heap.get?_push_size _ rfl⟩
theorem qk:CallR X (.builtin "len") (fun xs H Q=>∃ p ys,xs=[.ref p]/\(SqL X.K H p ys\/SqT X.K H p ys)/\Q (.int ys.length) H):=by
  intro pins s σ H xs us Q I r h
  obtain⟨p,ys,rfl,hq,q⟩:=h
  obtain⟨u,rfl,rx⟩:=dC r
  cases rx
  have hn:=iI
  rcases hq with hq | hq
  · obtain⟨its,r',pl,hz⟩:=I.list hq
    have hlen:=r'.length
    exact Calls.call_len_list pl.isList (by simp only[List.size_toArray] <;> omega) ⟨.int ys.length,H,I.tok _,⟨s.toks+1,by rw[List.size_toArray,hlen]⟩,q⟩
  · obtain⟨its,r',pl,hz⟩:=I.tuple hq
    have hlen:=r'.length
    exact len_tuple pl (by simp only[List.size_toArray] <;> omega) ⟨.int ys.length,H,I.tok _,⟨s.toks+1,by rw[List.size_toArray,hlen]⟩,q⟩
theorem CallR.or{f:Value}{r r':List V->Hp->VK->Prop}(h:CallR X f r)(h':CallR X f r'):CallR X f (fun xs H Q=>r xs H Q\/r' xs H Q):=by
  intro pins s σ H xs us Q I rs q
  rcases q with q | q
  · exact h pins s σ H xs us Q I rs q
  · exact h' pins s σ H xs us Q I rs q
theorem ql:CallR X (.type "list") (fun xs H Q=>∃ p ys,xs=[.ref p]/\(SqL X.K H p ys\/SqT X.K H p ys)/\∀ l,H l=none->Q (.ref l) (upd H l (.lst ys))):=by
  intro pins s σ H xs us Q I r h
  obtain⟨p,ys,rfl,hq,q⟩:=h
  obtain⟨u,rfl,rx⟩:=dC r
  cases rx
  have fin:∀ (its:List Value),Vals ys its->ys.length<=sizeLine->∀ (h':Heap) (c':Nat),(∀ b o',s.heap.get? b=some o'->h'.get? b=some o') ->
      h'.get? s.heap.objs.size=some { cls:=.type "list",dict:=none,data:=.seq its.toArray c',slots:=#[] }->EP X pins σ Q (.ref s.heap.objs.size) { s with heap:=h' }:=fun its r' hz h' c' kp e =>
    ⟨.ref s.heap.objs.size,_,I.laid (t':=s.toks) kp (Nat.le_refl _) (show ObjOk X.prog X.w _ h' _ (.lst ys) from ⟨hz,its,c',r',e⟩),rfl,q _ (I.hok.fresh (Nat.le_refl _))⟩
  rcases hq with hq | hq
  · obtain⟨its,r',pl,hz⟩:=I.list hq
    have hlen:=r'.length
    obtain⟨o,ho,hc,n,hd⟩:=pl.isList
    exact call_list_seq p (.inl rfl) ho hc hd (fun h' c' kp e=>fin its r' hz h' c' kp e) (by simp only[List.size_toArray] <;> omega)
  · obtain⟨its,r',pl,hz⟩:=I.tuple hq
    have hlen:=r'.length
    obtain⟨o,ho,hc,n,hd⟩:=pl
    exact call_list_seq p (.inr rfl) ho hc hd (fun h' c' kp e=>fin its r' hz h' c' kp e) (by simp only[List.size_toArray] <;> omega)
def tyV(K:PySem.W.Frag)(T:String)(x:V)(H:Hp):Prop:=match x with
  | .str _=>T = "str"
  | .int _=>T = "int"
  | .ref p=>(T = "list"/\∃ xs,SqL K H p xs)\/(T = "tuple"/\∃ o,K.lookup p=some o/\o.cls=.type "tuple"/\o.dict=none) \/
      (T = "dict"/\((∃ kvs,H p=some (.dK kvs))\/∃ kvs,H p=some (.dT kvs)))\/(T = "set"/\∃ S n,H p=some (.set S n))
  | _=>False
theorem qm{pins:List (Addr × Obj)}{σ:St}{H:Hp}{s:Shared}{T:String}{x:V}{v:Value}(I:Inv X pins σ H s)(r:RelV x v)(ty:tyV X.K T x H):
    s.TypeIs v T/\∀ a,v=.ref a->∃ ob,s.heap.get? a=some ob/\ob.dict=none:=by
  cases x with
  | str z =>
    obtain⟨t,rfl⟩:=r
    cases (show T = "str" from ty)
    exact⟨typeIs_str s z t,fun _ e=>nomatch e⟩
  | int i =>
    obtain⟨t,rfl⟩:=r
    cases (show T = "int" from ty)
    exact⟨typeIs_int s i t,fun _ e=>nomatch e⟩
  | ref p =>
    cases r
    rcases ty with⟨rfl,xs,hq⟩ | ⟨rfl,o,hk,hc,hd⟩ | ⟨rfl,hk⟩ | ⟨rfl,S,n,hk⟩
    · obtain⟨its,_,pl,_⟩:=I.list hq
      refine⟨pl.isList.typeIs,fun a e=>?_⟩
      cases e
      obtain⟨o,n,e,c,hd,_⟩:=pl
      exact⟨o,e,hd⟩
    · refine⟨⟨o,I.kIn p o hk,hc⟩,fun a e=>?_⟩
      cases e
      exact⟨o,I.kIn _ o hk,hd⟩
    · have z:∃ o,s.heap.get? p=some o/\o.ExactDict:=by
        rcases hk with⟨kvs,hk⟩ | ⟨kvs,hk⟩
        · obtain⟨_,_,_,_,o,_,_,e,ex,_⟩:=I.hok p _ hk
          exact⟨o,e,ex⟩
        · obtain⟨_,_,_,_,o,_,_,e,ex,_⟩:=I.hok p _ hk
          exact⟨o,e,ex⟩
      obtain⟨o,e,ex⟩:=z
      refine⟨⟨o,e,ex.1⟩,fun a e2=>?_⟩
      cases e2
      exact⟨o,e,ex.2.1⟩
    · obtain⟨o,_,_,_,e,ex,_⟩:=I.hok p _ hk
      refine⟨⟨o,e,ex.1⟩,fun a e2=>?_⟩
      cases e2
      exact⟨o,e,ex.2.1⟩
  | _=>exact False.elim ty
def xE(K:PySem.W.Frag)(T:String)(r:V->List V->Hp->VK->Prop)(to:TE):TE:=fun σ H Q=>to σ H fun x H1=>tyV K T x H1/\r x [] H1 Q
def tBM(K:PySem.W.Frag)(T:String)(r:V->List V->Hp->VK->Prop)(to:TE)(t:TA):TE:=fun σ H Q=>to σ H fun x H1=>tyV K T x H1/\t σ H1 fun xs H2=>r x xs H2 Q
variable {o e:Expr} {es:List Expr} {to:TE} {t:TA} {name:Str} {apos cpos:Pos} {T id:String} {r:V->List V->Hp->VK->Prop}
theorem xF(pa:PlainAttrs T)(slot:Slot T name id)(hty:typeOf (.builtin id)=pure (.type "method_descriptor"))(hm:MtR X id r)(ho:PE X o to)(hbase:attributeBase o name X.env (eval o X.env)=eval o X.env:=by rfl)(hline:(apos.endLine == cpos.line)=true:=by rfl):PE X (.Call (.Attribute o name apos) [] [] cpos) (xE X.K T r to):=by
  intro pins s σ H Q I h
  refine wpAny_Call_method0_late hbase hline (thn (ho pins s σ H _ I h) fun v s1 ⟨x,H1,I1,r1,ty,q1⟩=>?_)
  obtain⟨h1,h2⟩:=qm I1 r1 ty
  exact⟨T,id,pa,slot,hty,h1,h2,Calls.callWith_builtin rfl (PySem.evalArgs_none (hm pins s1 σ H1 x [] v [] Q I1 r1 .nil q1))⟩
theorem jV(pa:PlainAttrs T)(slot:Slot T name id)(hty:typeOf (.builtin id)=pure (.type "method_descriptor"))(hm:MtR X id r)(ho:PE X o to)(ha:PA X (e::es) t)(hbase:attributeBase o name X.env (eval o X.env)=eval o X.env:=by rfl)(hfew:((backTo cpos (starEach (e::es) X.env)).all (fun x=>!x.1) && (backToKw cpos (keywordEach [] X.env)).all (fun x=>x.1.isSome)
      && decide ((e::es).length+([]:List Keyword).length+(if ([]:List Keyword).isEmpty then 0 else 1) < 30))=true:=by rfl)(hline:(apos.endLine == cpos.line)=true:=by rfl)(hs:starEach (e::es) X.env=(false,eval e X.env)::starEach es X.env:=by rfl)(hplain:(backTo cpos (starEach es X.env)).any (·.1)=false:=by rfl):
    PE X (.Call (.Attribute o name apos) (e::es) [] cpos) (tBM X.K T r to t):=by
  intro pins s σ H Q I h
  refine wpAny_Call_method_late hbase hfew hline rfl (thn (ho pins s σ H _ I h) fun v s1 ⟨x,H1,I1,r1,ty,q1⟩=>?_)
  obtain⟨h1,h2⟩:=qm I1 r1 ty
  refine⟨T,id,pa,slot,hty,h1,h2,?_⟩
  have hA:=ha cpos pins s1 σ H1 _ I1 q1
  rw[hs] at hA ⊢
  refine Calls.callWith_builtin (by show (false || (backTo cpos (starEach es X.env)).any (·.1))=false;rw[hplain] <;> rfl) (Calls.evalArgs_plain ?_)
  exact thn hA fun us s2 ⟨vs,H2,I2,r2,q2⟩=>hm pins s2 σ H2 x vs v us Q I2 r1 r2 q2
end
end L2
namespace L2
open PySem PySem.Spec PyProof.Rows
def MtM(X:Cx)(id:String)(r:V->List V->Hp->VK->Prop):Prop :=
  ∀ (pins:List (Addr × Obj)) (s:Shared) (σ:St) (H:Hp) (x:V) (xs:List V) (v:Value) (us:List Value) (Q:VK),Inv X pins σ H s->RelV x v->Vals xs us->r x xs H Q ->
    wpAny (model X.prog X.w) X.A (call (.builtin id) (v::us)) (EP X pins σ Q) X.xe s
theorem Vals.one:∀ {x:V} {us:List Value},Vals [x] us->∃ u,us=[u]/\RelV x u
  | _,_,.cons r .nil=>⟨_,rfl,r⟩
theorem Vals.two:∀ {x y:V} {us:List Value},Vals [x,y] us->∃ u v,us=[u,v]/\RelV x u/\RelV y v
  | _,_,_,.cons r (.cons q .nil)=>⟨_,_,rfl,r,q⟩
theorem Vals.zero:∀ {us:List Value},Vals [] us->us=[]
  | _,.nil=>rfl
theorem Vals.reverse{xs:List V}{us:List Value}(h:Vals xs us):Vals xs.reverse us.reverse:=by
  induction h with
  | nil=>exact .nil
  | cons r t ih=>rw[List.reverse_cons,List.reverse_cons];exact Vals.append ih (.cons r .nil)
theorem Vals.rep{xs:List V}{us:List Value}(h:Vals xs us):∀ k:Nat,Vals (List.replicate k xs).flatten (List.replicate k us).flatten
  | 0=>.nil
  | k+1=>by
    rw[List.replicate_succ,List.replicate_succ,List.flatten_cons,List.flatten_cons]
    exact Vals.append h (Vals.rep h k)
theorem qo(its:List Value):∀ (k:Nat) (acc:List Value),
    List.foldl (fun x1 x2=>x1++x2) acc.toArray (List.replicate k its.toArray)=(acc++(List.replicate k its).flatten).toArray
  | 0,acc=>by simp
  | k + 1,acc=>by
    have e:acc.toArray++its.toArray=(acc++its).toArray:=by simp
    have e2:(acc++its)++(List.replicate k its).flatten=acc++(List.replicate (k+1) its).flatten:=by
      rw[List.replicate_succ,List.flatten_cons,List.append_assoc]
    rw[<- e2,<- qo its k (acc++its),<- e,List.replicate_succ,List.foldl_cons]
section
variable {X:Cx} {pins:List (Addr × Obj)} {σ:St} {H:Hp} {s:Shared} {l b:Addr} {xs ys zs:List V}
theorem Inv.lset{its its':List Value}{n:Nat}{f:Array Value->Array Value}{t':Nat}(I:Inv X pins σ H s)(hH:H l=some (.lst xs))(e:s.heap.get? l=some { cls:=.type "list",data:=.seq its.toArray n })(hf:f its.toArray=its'.toArray)(hv:Vals ys its')(hz:ys.length<=sizeLine):
    Inv X pins σ (upd H l (.lst ys)) { s with heap:=s.heap.update l (Obj.mapSeq f),toks:=t' }:=by
  have q:=PySem.IsL.update e f
  rw[hf] at q
  refine I.write (x:=l) (e:=l) (by rw[hH];exact trivial) (.inl rfl) (fun b' u hb hu=>(Heap.get?_update_other s.heap (Obj.mapSeq f) (Ne.symm hb)).trans hu) ⟨_,q⟩ ?_
  exact⟨hz,its',_,hv,q⟩
theorem Inv.lnew{its:List Value}{t':Nat}(I:Inv X pins σ H s)(hv:Vals ys its)(hz:ys.length<=sizeLine):
    Inv X pins σ (upd H s.heap.objs.size (.lst ys)) { s with heap:=s.heap.push { cls:=.type "list",data:=.seq its.toArray },toks:=t' } :=
  I.laid (fun _ _ q=>Heap.get?_push_of_some _ q) (Nat.le_refl _) ⟨hz,its,0,hv,Heap.get?_push_size _ rfl⟩
theorem Inv.fresh(I:Inv X pins σ H s):H s.heap.objs.size=none:=I.hok.fresh (Nat.le_refl _)
theorem Inv.lstM(I:Inv X pins σ H s)(hH:H l=some (.lst xs)):xs.length<=sizeLine/\∃ (its:List Value) (n:Nat),Vals xs its/\xs.length=its.length/\s.heap.get? l=some { cls:=.type "list",data:=.seq its.toArray n }:=by
  obtain⟨z,its,n,r,e⟩:=I.hok l _ hH
  exact⟨z,its,n,r,r.length,e⟩
theorem xG{n:Nat}(h:n<=sizeLine):Builtin.List.listTooLong n=false:=by
  unfold Builtin.List.listTooLong
  exact decide_eq_false (by omega)
end
section
variable {X:Cx}
def xH:V->List V->Hp->VK->Prop:=fun x vs H Q=>∃ l xs y,x=.ref l/\vs=[y]/\H l=some (.lst xs)/\xs.length < sizeLine/\Q .non (upd H l (.lst (xs++[y])))
theorem m8:MtM X "list.append" xH:=by
  intro pins s σ H x vs v us Q I rx rv h
  obtain⟨l,xs,y,rfl,rfl,hH,hz,q⟩:=h
  cases rx
  obtain⟨u,rfl,ru⟩:=rv.one
  obtain⟨z,its,n,r,hl,e⟩:=I.lstM hH
  refine call_meets F.slot_list_append ⟨_,e,rfl⟩ F.entry_list_append (F.args_list_append_2 _ _) (PySem.list_append l its.toArray n u (by rw[List.size_toArray];omega)) ⟨e,?_⟩
  refine⟨.non,_,I.lset (its':=its++[u]) hH e (by simp) (r.append (.cons ru .nil)) ?_,rfl,q⟩
  rw[List.length_append,List.length_singleton]
  omega
def xI:V->List V->Hp->VK->Prop:=fun x vs H Q=>∃ l xs,x=.ref l/\vs=[]/\H l=some (.lst xs)/\Q .non (upd H l (.lst xs.reverse))
theorem xJ:MtM X "list.reverse" xI:=by
  intro pins s σ H x vs v us Q I rx rv h
  obtain⟨l,xs,rfl,rfl,hH,q⟩:=h
  cases rx
  have hus:=rv.zero
  subst hus
  obtain⟨z,its,n,r,hl,e⟩:=I.lstM hH
  refine call_meets F.slot_list_reverse ⟨_,e,rfl⟩ F.entry_list_reverse (F.args_list_reverse_1 _) (AutoSeq1.list_reverse_list_0 l its.toArray n (by rw[List.size_toArray];omega)) ⟨e,?_⟩
  refine⟨.non,_,I.lset (its':=its.reverse) hH e (by simp) r.reverse ?_,rfl,q⟩
  rw[List.length_reverse]
  omega
def xK:R2:=fun x y H Q=>∃ l k xs,x=.ref l/\y=.int k/\H l=some (.lst xs)/\-(2 ^ 63)<=k/\k < 2 ^ 63/\xs.length * k.toNat<=sizeLine /\
  ∀ p,H p=none->Q (.ref p) (upd H p (.lst (List.replicate k.toNat xs).flatten))
theorem xL{α:Type}(xs:List α)(k:Nat):(List.replicate k xs).flatten.length=k * xs.length:=by
  induction k with
  | zero=>simp
  | succ k ih=>rw[List.replicate_succ,List.flatten_cons,List.length_append,ih,Nat.succ_mul,Nat.add_comm]
theorem xM:OpR X (binaryOp .Mult) xK:=by
  intro pins s σ H x y v u Q I rx ry h
  obtain⟨l,k,xs,rfl,rfl,hH,h1,h2,hz,q⟩:=h
  cases rx
  obtain⟨t,rfl⟩:=ry
  obtain⟨z,its,n,r,hl,e⟩:=I.lstM hH
  have hlen:its.toArray.size * k.toNat<=sizeLine:=by rw[List.size_toArray,<- hl];exact hz
  have hcap:¬ its.toArray.size * k.toNat > (2 ^ 63 - 1) / 8:=by
    have:(sizeLine:Nat)<=(2 ^ 63 - 1) / 8:=by decide
    omega
  have hfit:¬ (!Builtin.List.listFitsIndex k)=true:=by
    rw[fitsIndex_both h1 h2]
    exact Bool.false_ne_true
  have hlong:¬ Builtin.List.listTooLong (its.toArray.size * k.toNat)=true:=by
    rw[xG hlen]
    exact Bool.false_ne_true
  have hnew:List.foldl (fun x1 x2=>x1++x2) #[] (List.replicate (if its.toArray.isEmpty=true then 0 else k.toNat) its.toArray)=(List.replicate k.toNat its).flatten.toArray:=by
    have f0:∀ m:Nat,List.foldl (fun x1 x2=>x1++x2) #[] (List.replicate m its.toArray)=(List.replicate m its).flatten.toArray:=fun m=>by
      have:=qo its m []
      rw[List.nil_append] at this
      exact this
    rw[f0]
    cases its with
    | nil=>simp
    | cons a r'=>rw[if_neg (by simp)]
  refine wpAny_binaryOp_repeat_ref (T:="list") (U:="int") (by decide) ⟨_,e,rfl⟩ (fun s'=>typeIs_int s' k t) noFill_list_mul F.fills_int_mul F.slot_int_rmul repeat_list F.slot_int_index.lookup
    (call_meets F.slot_int_rmul (typeIs_int s k t) F.entry_int_rmul (F.args_int_rmul_2 _ _) (int___rmul___int_list k t l its.toArray n)
      ⟨e,rfl,⟨_,e,rfl⟩,call_meets F.slot_list_mul ⟨_,e,rfl⟩ F.entry_list_mul (F.args_list_mul_2 _ _) (AutoListH.list___mul___list_int_3 l its.toArray n k t hfit hcap hlong) ⟨e,?_⟩⟩)
  rw[hnew]
  exact⟨.ref _,_,I.lnew (t':=s.toks) (r.rep k.toNat) (by rw[xL,Nat.mul_comm];exact hz),rfl,q _ I.fresh⟩
end
section
variable {prog:Program} {w:World} {A:Around} {E:Value->Shared->Prop} {s:Shared}
set_option maxRecDepth 100000 in
end
section
variable {X:Cx}
end
end L2
namespace Att
open PySem PySem.W PySem.Calls PyProof.Rows
theorem xN{P:Params}{h:Heap}:∀ (ns:List Int) (vs:List Value),WellAll P h vs (ns.map WData.int)->IntsAre vs ns:=by
  intro ns
  induction ns with
  | nil =>
    intro vs w
    rw[List.map_nil] at w
    cases w
    exact .nil
  | cons n ns ih =>
    intro vs w
    rw[List.map_cons] at w
    cases w with
    | cons a b =>
      cases a
      exact .cons _ _ (ih _ b)
theorem xO{l:OpenLaw}{n:Nat}(hn:l.most=some n){P:Params}{h:Heap}{args:List WData}{vals:List Value}(hpre:l.row.toRowW.claim.pre args=true)(hwl:WellAll P h vals args):
    ∃ a vs ns,vals=[Value.ref a]/\args=[WData.list (ns.map WData.int)]/\h.get? a=some { cls:=.type "list",data:=.seq vs.toArray }/\IntsAre vs ns/\ns.length<=n:=by
  have hsh:WShape.hasAll [] args [.list .int]=true:=(pre_splitW hpre).1
  have hc:l.pre.holds [] { args:=args }=true:=(pre_splitW hpre).2
  obtain⟨d,r,rfl,h1,h2⟩:=hasAllW_cons hsh
  obtain rfl:=hasAllW_nil h2
  obtain⟨xs,rfl,h3⟩:=hasW_list h1
  obtain⟨ns,rfl⟩:=items_int h3
  have hlen:ns.length<=n:=by
    unfold OpenLaw.pre at hc
    have h4:(WTm.not (.lt (.lit (.int (n:Int))) (.len (.arg 0)))).holds [] { args:=[.list (ns.map .int)] }=true:=by
      have h4:=(holds_andW hc).1
      rw[hn] at h4
      exact h4
    have h5:=condW_of h4 (w_not (w_lt w_lit (w_len_list (w_arg rfl))))
    rw[List.length_map] at h5
    refine Nat.le_of_not_lt fun q=>?_
    have q':(n:Int) < ((ns.length:Nat):Int):=by omega
    first
      | (rw[decide_eq_true q'] at h5;exact absurd h5 (by decide))
      | (simp at h5;omega)
  cases hwl with
  | cons w1 w2 =>
    cases w2
    cases w1 with
    | list ho hall=>exact⟨_,_,ns,rfl,rfl,ho,xN ns _ hall,hlen⟩
theorem xP(l:OpenLaw)(args:List WData):l.row.toRowW.claim.post args (.bool true) args=true :=
  postW_of (r:=l.row.toRowW) (X:=(true == true))
    (show WShape.has [] (.bool true) .bool=true by first | rfl | decide | simp[WShape.has,WShape.arms,WShape.armsAll])
    (show (WTm.eq .res (.lit (.bool true))).value [] { args:=args,res:=some (.bool true),after:=args }=some (.bool (true == true)) from w_eq_bool (w_res rfl) w_lit) rfl
theorem attach_call{l:OpenLaw}{n:Nat}{q:Program}{loose:List Str}{XP:(Str->Option Value)->Heap->Prop}{YP:World->Heap->Prop}{d:DefRec}(hn:l.most=some n)(hdf:d.params.defaults=[])(call:∀ (w:World) (s₀ s₁:Shared) (mg mb:Str->Option Value) (fa:Addr) (o:Obj) (pm cd doc:Value) (a:Addr) (vs:List Value) (ns:List Int),
      Ground q loose [] XP w s₀ mg mb s₁.heap->YP w s₁.heap ->
      s₁.heap.get? fa=some o->o.data=.func (docDef d.name d.params d.body d.scope pm cd doc)->s₁.heap.CodeRec cd d.name->mg d.name=some (.ref fa) ->
      s₁.heap.get? a=some { cls:=.type "list",data:=.seq vs.toArray }->IntsAre vs ns->ns.length<=n->s₁.gens = #[] ->
      codeAny (model l.prog w) callerA (.call (.ref fa) ⟨[.ref a],[]⟩) (fun r s'=>r=.ok (.ret (.bool true))/\OldK s₁.heap s'.heap/\s'.os=s₁.os/\AllBare s'.gens) s₁):
    WalkO q loose XP YP l.row.toRowW d [] (fun f vs=>PySem.call f vs):=by
  intro w s₀ s₁ mg mb G Y fa o pm cd doc dV kV ho hd hcd hD hmg hg args vals as hpre hlay hrd hwl hlo
  obtain rfl:dV=.none:=Dflts.none hD hdf
  obtain rfl:kV=.none:=Dflts.noKw hD
  obtain⟨a,vs,ns,rfl,rfl,hobj,hints,hlen⟩:=xO hn hpre hwl
  refine enter_call (codeAny_mono (call w s₀ s₁ mg mb fa o pm cd doc a vs ns G Y ho (fd_plain hd) hcd hmg hobj hints hlen hg) fun r s' hq=>?_)
  obtain⟨rfl,h2,h3,h4⟩:=hq
  exact⟨.inl ⟨.bool true,.bool true,[],rfl,fun _=>rfl,.bool true,xP l _,fun _=>⟨List.Pairwise.nil,fun _ hm=>(nomatch hm)⟩⟩,h2,h3,h4⟩
section
variable {prog:Program} {w:World} {A:Around} {E:Value->Shared->Prop} {s:Shared} {K:Frag}
end
end Att
namespace L2
open PySem PySem.Spec PyProof.Rows
theorem qp:∀ {vs:List Value} {ns:List Int},IntsAre vs ns->Vals (ns.map V.int) vs
  | _,_,.nil=>.nil
  | _,_,.cons n t h=>.cons ⟨t,rfl⟩ (qp h)
def m9(H:Hp):Prop:=∀ b,H b=none\/∃ o xs,H b=some (.frz o (.lst xs))
theorem xQ{P:Program}{w:World}{K:PySem.W.Frag}{mg mb:Str->Option Value}{CX:CXT}{k:Nat}{fa a:Addr}{fd:FuncData}{x:Str}{sp:Sp}{s₁:Shared}{vs:List Value}{ns:List Int}(KX:K.In s₁.heap)(hns:s₁.heap.Ns mainGlobals mg)(hb:s₁.heap.Ns builtinsNs mb)(hbb:∀ x:Str,x ≠ "__name__"->mb x=bootBuiltins x)(hlim:s₁.heap.NoLimit)(hg:s₁.gens = #[])(ha:s₁.heap.get? a=some { cls:=.type "list",data:=.seq vs.toArray })(hi:IntsAre vs ns)(hl:ns.length<=sizeLine)(hr:Room k callerA)(F:∀ base:Heap,K.In base->base.Ns mainGlobals mg->FnOk P w K mg base CX k fa fd [x] sp)(hbind:∀ (s:Shared) (u:Value),BindsTo s fd ⟨[u],[]⟩ [(x,u)])(hsp:∀ H:Hp,m9 H->SqL K H a (ns.map V.int)->sp [.ref a] H (fun v _=>v=.bl true) fun _ _ _=>False)(hCX:∀ H e s',CX [] H s₁ (fun _ _ _=>False) e s'->False):
    codeAny (model P w) callerA (.call (.ref fa) ⟨[.ref a],[]⟩) (fun r s'=>r=.ok (.ret (.bool true))/\OldK s₁.heap s'.heap/\s'.os=s₁.os/\AllBare s'.gens) s₁:=by
  have rv:=qp hi
  have lenV:=hi.length
  have core : ∀ H:Hp,m9 H->SqL K H a (ns.map V.int)->HOk P w H s₁.heap->(∀ b,H b ≠ none->b=a)->(H a ≠ none->K.lookup a=none) ->
      codeAny (model P w) callerA (.call (.ref fa) ⟨[.ref a],[]⟩) (fun r s'=>r=.ok (.ret (.bool true))/\OldK s₁.heap s'.heap/\s'.os=s₁.os/\AllBare s'.gens) s₁:=by
    intro H hO hS hok hA hK
    have base_of:∀ {b:Addr} {o:Obj},s₁.heap.get? b=some o->H b=none->(dQ s₁.heap H).get? b=some o:=fun e n=>vM e n
    have noA:∀ {b:Addr} {o:Obj} {es:Array DictEntry} {ep:Nat},s₁.heap.get? b=some o->o.data=.dict es ep->H b=none:=fun {b o es ep} e d=>by
      cases q:H b with
      | none=>rfl
      | some u =>
        have e':b=a:=hA b (by rw[q];simp)
        subst e'
        rw[ha] at e;cases e
        have d':Data.seq vs.toArray _=Data.dict es ep:=d
        cases d'
    have nsK:∀ {b:Addr} {m:Str->Option Value},s₁.heap.Ns b m->(dQ s₁.heap H).Ns b m:=fun {b m} ⟨o,es,ep,e,d,r⟩=>⟨o,es,ep,base_of e (noA e d),d,r⟩
    have hKb:K.In (dQ s₁.heap H):=fun b o e=>base_of (KX b o e) (by
      cases q:H b with
      | none=>rfl
      | some u =>
        have e':b=a:=hA b (by rw[q];simp)
        subst e'
        rw[hK (by rw[q];simp)] at e;cases e)
    have hM:Mod K mg (dQ s₁.heap H):=⟨hKb,nsK hns,⟨mb,nsK hb,hbb⟩,let ⟨mc,h1,h2⟩:=hlim;⟨mc,nsK h1,h2⟩⟩
    have e0:Env0 P w K mg (dQ s₁.heap H) callerA [] s₁ H:=⟨rfl,hM,fun b o e=>vN e,Nat.le_of_eq (vL _ _),trivial,fun b hb=>absurd (show b ∈ ([]:List Addr) from hb) (by simp),hok,.of_eq hg⟩
    refine codeAny_mono ((F _ hKb (nsK hns)).run callerA [] s₁ H ⟨[.ref a],[]⟩ [.ref a] [.ref a] _ _ hr e0 (hbind s₁ (.ref a)) (.cons rfl .nil) (hsp H hO hS)) fun r s' h=>?_
    cases r with
    | error e=>exact (hCX H e s' h).elim
    | ok fl =>
      cases fl with
      | next=>exact False.elim h
      | brk=>exact False.elim h
      | cont=>exact False.elim h
      | ret u =>
        obtain⟨v,H',os,bare,un,hok',r',q⟩:=h
        have q':v=.bl true:=q
        subst q'
        obtain rfl:u=Value.bool true:=r'
        refine⟨rfl,OldK.of_keep fun b o e=>?_,os,bare⟩
        cases q:H b with
        | none=>exact un.keep b o e q (by intro z;exact absurd (show b ∈ ([]:List Addr) from z) (by simp)) (by simp)
        | some u =>
          rcases hO b with z | ⟨ob,xs,z⟩
          · rw[q] at z;cases z
          · have z2:=un.frzs b ob _ z
            obtain⟨e1,_⟩:=hok b _ z
            obtain⟨e2,_⟩:=hok' b _ z2
            rw[e] at e1;cases e1
            exact e2
  cases hk:K.lookup a with
  | some o =>
    have e:=KX a o hk
    rw[ha] at e
    cases e
    refine core (fun _=>none) (fun _=>.inl rfl) (.inr ⟨_,vs.toArray,_,hk,rfl,rfl,rfl,by rw[List.size_toArray,lenV];exact hl,by simpa using rv⟩) (fun b u z=>by have z':(none:Option HO)=some u:=z;cases z') (fun b z=>absurd rfl z) fun z=>absurd rfl z
  | none =>
    refine core (fun b=>if b=a then some (.frz { cls:=.type "list",data:=.seq vs.toArray } (.lst (ns.map V.int))) else none) (fun b=>?_) (.inl (.inr ⟨{ cls:=.type "list",data:=.seq vs.toArray },if_pos rfl⟩)) (fun b u z=>?_) (fun b z=>?_) fun _=>hk
    · by_cases hb:b=a
      · exact .inr ⟨_,_,if_pos hb⟩
      · exact .inl (if_neg hb)
    · by_cases hb:b=a
      · have z':=(if_pos hb).symm.trans z
        cases z'
        subst hb
        exact⟨ha,by rw[List.length_map];exact hl,vs,_,rv,ha⟩
      · have z':=(if_neg hb).symm.trans z
        cases z'
    · by_cases hb:b=a
      · exact hb
      · exact absurd (if_neg hb) z
end L2
namespace L2
open PySem PySem.Spec PyProof.Rows
theorem walk_of{l:PySem.W.OpenLaw}{n k:Nat}{q:Program}{loose:List Str}{XP:(Str->Option Value)->Heap->Prop}{YP:World->Heap->Prop}{d:DefRec}{K:Params->PySem.W.Frag}{CX:World->CXT}{sp:World->Sp}{x:Str}(hn:l.most=some n)(hn2:n<=sizeLine)(hdf:d.params.defaults=[])(hr:Room k callerA)(hY:∀ (w:World) (h:Heap),YP w h->(K w.params).In h)(F:∀ (w:World) (mg:Str->Option Value) (fa:Addr) (h:Heap),(K w.params).In h->h.Ns mainGlobals mg->mg d.name=some (.ref fa) ->
      ∃ fd:FuncData,(∀ (s:Shared) (u:Value),BindsTo s fd ⟨[u],[]⟩ [(x,u)]) /\
        ∀ base:Heap,(K w.params).In base->base.Ns mainGlobals mg->FnOk l.prog w (K w.params) mg base (CX w) k fa fd [x] (sp w))(hsp:∀ (w:World) (H:Hp) (a:Addr) (ns:List Int),ns.length<=n->m9 H->SqL (K w.params) H a (ns.map V.int)->sp w [.ref a] H (fun v _=>v=.bl true) fun _ _ _=>False)(hCX:∀ (w:World) (H:Hp) (s:Shared) (e:Value) (s':Shared),CX w [] H s (fun _ _ _=>False) e s'->False):
    PySem.W.WalkO q loose XP YP l.row.toRowW d [] (fun f vs=>PySem.call f vs):=by
  refine Att.attach_call hn hdf fun w s₀ s₁ mg mb fa o pm cd doc a vs ns G Y ho hd hcd hmg hobj hints hlen hg=>?_
  have KX:=hY w _ Y
  obtain⟨fd,hb,hF⟩:=F w mg fa _ KX G.T.g hmg
  exact xQ KX G.T.g G.T.b G.T.builtins G.T.nolimit hg hobj hints (Nat.le_trans hlen hn2) hr hF hb (fun H hO hS=>hsp w H a ns hlen hO hS) fun H e s'=>hCX w H s₁ e s'
end L2
namespace L2
open PySem PySem.Spec PyProof.Rows
def dU(s:Stmt)(j:Nat):Stmt:=match s with
  | .ClassDef _ _ _ body _ _ _ _ _ _ _=>body.getD j (.Pass ⟨0,0,0,0⟩)
  | _=>.Pass ⟨0,0,0,0⟩
def aG(s:Stmt):Arguments:=match s with
  | .FunctionDef _ a _ _ _ _ _ _ _ _=>a
  | _=>{ posonlyargs:=[],args:=[],vararg:=none,kwonlyargs:=[],kw_defaults:=[],kwarg:=none,defaults:=[] }
def aD(s:Stmt):List Stmt:=match s with
  | .FunctionDef _ _ b _ _ _ _ _ _ _=>b
  | _=>[]
def ai(s:Stmt):Scope:=match s with
  | .FunctionDef _ _ _ _ _ _ sc _ _ _=>sc
  | _=>{ kind:=.function,names:=[],isGenerator:=false,isCoroutine:=false }
abbrev CX0:CXT:=fun _ _ _ _ _ _=>False
abbrev E0:XK:=fun _ _ _=>False
theorem dD{X:Cx}:fy CX0 X E0:=fun _ _ _ _ _ _ _ h=>h.elim
structure Fun (K:PySem.W.Frag) (x qual:Str) (st:Stmt) (f:Addr) (fd:FuncData):Prop where
  ex:∃ (oc:Value) (od:Option Addr) (kV doc pm:Value) (an:Option Addr) (cdv ct:Value) (osl:Array (Option Value)),
    fd=PySem.W.fnOf x qual (aG st) (aD st) (ai st) .none kV doc pm an cdv ct/\K.lookup f=some ⟨oc,od,.func fd,osl⟩/\PySem.W.codeIn K cdv qual=true
  kp:PySem.W.keepIn K (.ref f)=true
section
variable {P:Program} {w:World} {K:PySem.W.Frag} {mg:Str->Option Value} {base:Heap}
theorem Fun.ok{x qual:Str}{st:Stmt}{f:Addr}{fd:FuncData}{N ps:List Str}{k:Nat}{sp:Sp}(F:Fun K x qual st f fd)(S:FnScope N ps (ai st))(len:∀ vs H Q E,sp vs H Q E->vs.length=ps.length)(hbody:∀ (cdv:Value) (A:Around) (outer:List Env) (s:Shared) (H:Hp) (vs:List V) (Q:VK) (E:XK),Room k (A.deeper (envOfC qual (ai st) s.heap.objs.size f cdv))->sp vs H Q E ->
      ∃ t,PSs (cK CX0 P w K mg base N qual (ai st) f cdv A outer s H E).nox (aD st) t/\t { nx:=fun _ H'=>Q .non H',rt:=Q } (start N vs) H):FnOk P w K mg base CX0 (k+1) f fd ps sp:=by
  obtain⟨oc,od,kV,doc,pm,an,cdv,ct,osl,rfl,lk,hcd⟩:=F.ex
  refine xi lk hcd S len fun A outer s H vs Q E hr hsp=>?_
  obtain⟨t,h,q⟩:=hbody cdv A outer s H vs Q E hr hsp
  exact⟨t,h.nox,q⟩
theorem Fun.binds{x qual:Str}{st:Stmt}{f:Addr}{fd:FuncData}{ps:List Str}(F:Fun K x qual st f fd)(h:∀ (kV doc pm:Value) (an:Option Addr) (cdv ct:Value) (us:List Value),us.length=ps.length->bindArgs (PySem.W.fnOf x qual (aG st) (aD st) (ai st) .none kV doc pm an cdv ct) ⟨us,[]⟩=pure (ps.zip us)):Binds K fd ps []:=by
  obtain⟨oc,od,kV,doc,pm,an,cdv,ct,osl,rfl,lk,hcd⟩:=F.ex
  exact .all (h kV doc pm an cdv ct)
theorem az{x qual:Str}{st:Stmt}{f:Addr}{oc:Value}{od an:Option Addr}{osl:Array (Option Value)}{kV doc pm cdv ct:Value}(l:K.lookup f=some ⟨oc,od,.func (PySem.W.fnOf x qual (aG st) (aD st) (ai st) .none kV doc pm an cdv ct),osl⟩)(c:PySem.W.codeIn K cdv qual=true)(k:PySem.W.keepIn K (.ref f)=true):Fun K x qual st f (PySem.W.fnOf x qual (aG st) (aD st) (ai st) .none kV doc pm an cdv ct):=⟨⟨oc,od,kV,doc,pm,an,cdv,ct,osl,rfl,l,c⟩,k⟩
end
theorem xR{n:Nat}(h:n<=1000):n < sizeLine:=Nat.lt_of_le_of_lt h (by decide)
section
variable {X:Cx}
end
theorem dW{A B:Prop}(h:B):if false=true then A else B:=by
  rw[if_neg Bool.false_ne_true]
  exact h
theorem dX{A B:Prop}(h:A):if true=true then A else B:=by
  rw[if_pos rfl]
  exact h
def Same(H H':Hp):Prop:=∀ b o,H b=some o->H' b=some o
theorem Same.refl(H:Hp):Same H H:=fun _ _ h=>h
theorem Same.trans{H H1 H2:Hp}(a:Same H H1)(b:Same H1 H2):Same H H2:=fun c o h=>b c o (a c o h)
theorem Same.free{H H':Hp}(e:Same H H'){l:Addr}(h:H' l=Option.none):H l=Option.none:=by
  cases q:H l with
  | none=>rfl
  | some o =>
    rw[e l o q] at h
    cases h
theorem Same.seq{K:PySem.W.Frag}{H H':Hp}{a:Addr}{xs:List V}(e:Same H H')(h:SqL K H a xs):SqL K H' a xs:=by
  rcases h with (h | ⟨o,h⟩) | h
  · exact .inl (.inl (e _ _ h))
  · exact .inl (.inr ⟨o,e _ _ h⟩)
  · exact .inr h
end L2
namespace L2
open PySem PySem.Spec PyProof.Rows
end L2
namespace L2
open PySem PySem.Spec PyProof.Rows
section
variable (P:Program) (w:World)
end
section
variable {P:Program} {w:World} {H H':Hp} {h h':Heap} {a:Addr} {o:HO}
end
section
variable {P:Program} {w:World} {H:Hp} {h h':Heap} {x e:Addr} {o':HO}
end
section
variable {fs fs' ex ex':List Addr} {H H1 H2:Hp} {h h1 h2 h':Heap} {a x e:Addr} {o:HO}
end
end L2
namespace L2
open PySem PySem.Spec PyProof.Rows
section
variable {X:Cx} {pins:List (Addr × Obj)} {σ:List (Option V)} {H H':Hp} {s:Shared} {h':Heap}
end
end L2
namespace L2
open PySem PySem.Spec PyProof.Rows
section
variable {X:Cx}
variable {a b:Expr} {ta tb:TE} {pos:Pos}
variable {tA tB':TT} {ar:List Expr}
end
end L2
namespace L2
open PySem PySem.Spec PyProof.Rows
section
variable {X:Cx} {pins:List (Addr × Obj)} {σ:St} {H:Hp} {s:Shared} {a:Addr} {xs ys:List V}
end
section
variable {X:Cx} {pins:List (Addr × Obj)} {σ:St} {H:Hp} {s:Shared} {E:Value->Shared->Prop}
end
section
variable {X:Cx} {st:Stmt} {ar:List Stmt} {t u:TS} {e:Expr} {te:TE} {pos:Pos}
end
section
variable {X:Cx} {pos:Pos}
end
section
variable {X:Cx} {pos:Pos}
end
end L2
namespace L2
open PySem PySem.Spec PyProof.Rows
section
variable {X:Cx} {tg:Expr}
end
end L2
namespace L2
open PySem PySem.Spec PyProof.Rows
section
variable {X:Cx} {a b c:Expr} {ta tb tc:TE} {pos:Pos}
end
section
variable {X:Cx} {a b c:Expr} {ta tb tc:TE} {pos:Pos}
end
end L2
namespace L2
open PySem PySem.Spec PyProof.Rows
section
variable {prog:Program} {w:World} {A:Around} {E:Value->Shared->Prop} {s:Shared} {K:PySem.W.Frag} {x dx C f:Addr} {mA:Str->Option Value} {name:Str} {v:Value}
end
section
variable {P:Program} {w:World} {H H':Hp} {h h':Heap} {a C dx:Addr} {fs fs':List (Str × V)}
end
section
variable {X:Cx} {pins:List (Addr × Obj)} {σ:St} {H:Hp} {s:Shared} {a C dx:Addr} {fs:List (Str × V)} {f:Str} {v:V} {A:Around} {E:Value->Shared->Prop}
end
section
variable {X:Cx} {o e value:Expr} {f:Str} {pos pos' tpos:Pos} {ta tv:TE}
end
section
variable {X:Cx} {pins:List (Addr × Obj)} {σ:St} {H:Hp} {s:Shared} {A:Around} {E:Value->Shared->Prop} {Q:Value->Shared->Prop} {c:Value} {b:Bool}
end
end L2
namespace L2
open PySem PySem.Spec PyProof.Rows
section
variable {X:Cx} {e:Expr} {es:List Expr} {te:TE} {t:TA} {pos:Pos}
end
section
variable {X:Cx} {pins:List (Addr × Obj)} {σ:St} {H:Hp} {s s':Shared}
end
section
variable {X:Cx} {CX:CXT} {k:Nat} {f C:Addr} {fd:FuncData} {ps:List Str} {sp:Sp} {dvs:List V} {ds:List Value} {E:XK} {x m:Str} {p pos apos:Pos} {e o:Expr} {es:List Expr} {ta:TE} {t:TA}
end
section
variable {X:Cx} {CX:CXT} {k:Nat} {f C:Addr} {fd:FuncData} {ps ks:List Str} {sp:Sp} {E:XK} {x m:Str} {p pos apos kpos:Pos} {e o:Expr} {es:List Expr} {kws:List Keyword} {te ta:TE} {t tk:TA} {nm:Option Str}
variable {g:List Value->List Value->List Value} {gV:List V->List V->List V}
end
end L2
namespace L2
open PySem PySem.Spec PyProof.Rows
section
variable {X:Cx} {x:Str} {p pos:Pos} {e:Expr} {es:List Expr} {t:TA} {id T:String} {r:List V->Hp->VK->Prop}
end
end L2
namespace L2
open PySem PySem.Spec PyProof.Rows
section
variable {κ:Type} [DecidableEq κ]
def bV(kvs:List (κ × V))(k:κ):Option V:=(kvs.find? fun kv=>decide (kv.1=k)).map (·.2)
def bL(kvs:List (κ × V))(k:κ)(v:V):List (κ × V) :=
  if (kvs.any fun kv=>decide (kv.1=k))=true then kvs.map (fun kv=>if kv.1=k then (kv.1,v) else kv) else kvs++[(k,v)]
def qq(kvs:List (κ × V))(k:κ):List (κ × V):=kvs.filter fun kv=>decide (kv.1 ≠ k)
theorem xS{k:κ}:bV ([]:List (κ × V)) k=none:=rfl
theorem jW{p:κ × V}{r:List (κ × V)}{k:κ}(e:p.1=k):bV (p::r) k=some p.2:=by simp[bV,List.find?_cons,e]
theorem jX{p:κ × V}{r:List (κ × V)}{k:κ}(e:¬ p.1=k):bV (p::r) k=bV r k:=by simp[bV,List.find?_cons,e]
theorem ma(k:κ):∀ kvs:List (κ × V),(kvs.any fun kv=>decide (kv.1=k))=(bV kvs k).isSome
  | []=>rfl
  | p::r=>by
    rw[List.any_cons]
    by_cases e:p.1=k
    · simp only[jW e,decide_eq_true e,Bool.true_or,Option.isSome_some]
    · rw[jX e,decide_eq_false e,Bool.false_or];exact ma k r
theorem md(kvs:List (κ × V))(k:κ)(v:V):(bL kvs k v).length<=kvs.length+1:=by
  unfold bL
  split
  · rw[List.length_map];omega
  · rw[List.length_append,List.length_cons,List.length_nil];omega
theorem xT{kvs:List (κ × V)}{k:κ}(v:V)(h:bV kvs k=none):bL kvs k v=kvs++[(k,v)]:=by
  unfold bL
  rw[ma,h]
  exact if_neg (by decide)
theorem RelO.isSome_eq{o:Option V}{u:Option Value}(r:RelO o u):o.isSome=u.isSome:=by
  cases o with
  | none=>cases u with
    | none=>rfl
    | some _=>exact (show False from r).elim
  | some _=>cases u with
    | none=>exact (show False from r).elim
    | some _=>rfl
theorem RelO.getD{o:Option V}{u:Option Value}{d:V}{d':Value}(r:RelO o u)(rd:RelV d d'):RelV (o.getD d) (u.getD d'):=by
  cases o with
  | none=>cases u with
    | none=>exact rd
    | some _=>exact (show False from r).elim
  | some _=>cases u with
    | none=>exact (show False from r).elim
    | some _=>exact r
theorem KV.val{kvs:List (κ × V)}{vs:List (κ × Value)}(r:KV kvs vs)(k:κ):RelO (bV kvs k) (valueAt vs k):=by
  unfold KV at r
  induction r with
  | nil=>exact True.intro
  | @cons p q ps qs h t ih =>
    obtain⟨h1,h2⟩:=h
    by_cases e:p.1=k
    · have e':q.1=k:=h1.symm.trans e
      have b:valueAt (q::qs) k=some q.2:=by simp[valueAt,List.find?_cons,e']
      rw[jW e,b];exact h2
    · have e':¬ q.1=k:=fun z=>e (h1.trans z)
      have b:valueAt (q::qs) k=valueAt qs k:=by simp[valueAt,List.find?_cons,e']
      rw[jX e,b];exact ih
theorem KV.any{kvs:List (κ × V)}{vs:List (κ × Value)}(r:KV kvs vs)(k:κ):(kvs.any fun kv=>decide (kv.1=k))=vs.any fun kv=>decide (kv.1=k):=by
  unfold KV at r
  induction r with
  | nil=>rfl
  | cons h t ih=>rw[List.any_cons,List.any_cons,ih,h.1]
theorem KV.repl{kvs:List (κ × V)}{vs:List (κ × Value)}(r:KV kvs vs)(k:κ){y:V}{u:Value}(ry:RelV y u):
    KV (kvs.map fun kv=>if kv.1=k then (kv.1,y) else kv) (vs.map fun kv=>if kv.1=k then (kv.1,u) else kv):=by
  unfold KV at r ⊢
  induction r with
  | nil=>exact .nil
  | @cons p q ps qs h t ih =>
    rw[List.map_cons,List.map_cons]
    refine .cons ?_ ih
    obtain⟨h1,h2⟩:=h
    by_cases e:p.1=k
    · rw[if_pos e,if_pos (h1.symm.trans e)];exact⟨h1,ry⟩
    · rw[if_neg e,if_neg (fun z=>e (h1.trans z))];exact⟨h1,h2⟩
theorem KV.put{kvs:List (κ × V)}{vs:List (κ × Value)}(r:KV kvs vs)(k:κ){y:V}{u:Value}(ry:RelV y u):KV (bL kvs k y) (stored vs k u):=by
  unfold bL stored
  rw[r.any k]
  by_cases e:(vs.any fun kv=>decide (kv.1=k))=true
  · rw[if_pos e,if_pos e];exact r.repl k ry
  · rw[if_neg e,if_neg e];exact Paired.snoc r ⟨rfl,ry⟩
theorem KV.drop{kvs:List (κ × V)}{vs:List (κ × Value)}(r:KV kvs vs)(k:κ):KV (qq kvs k) (without vs k):=by
  unfold KV at r ⊢
  unfold qq without
  induction r with
  | nil=>exact .nil
  | @cons p q ps qs h t ih =>
    obtain⟨h1,h2⟩:=h
    rw[List.filter_cons,List.filter_cons]
    by_cases e:p.1=k
    · have a:¬ decide (p.1 ≠ k)=true:=by simp[e]
      have b:¬ decide (q.1 ≠ k)=true:=by simp[h1.symm.trans e]
      rw[if_neg a,if_neg b];exact ih
    · have e':¬ q.1=k:=fun z=>e (h1.trans z)
      have a:decide (p.1 ≠ k)=true:=by simp[e]
      have b:decide (q.1 ≠ k)=true:=by simp[e']
      rw[if_pos a,if_pos b];exact .cons ⟨h1,h2⟩ ih
theorem KV.keys{kvs:List (κ × V)}{vs:List (κ × Value)}(r:KV kvs vs):kvs.map (·.1)=vs.map (·.1):=by
  unfold KV at r
  induction r with
  | nil=>rfl
  | cons h t ih=>rw[List.map_cons,List.map_cons,ih,h.1]
theorem KV.length{kvs:List (κ × V)}{vs:List (κ × Value)}(r:KV kvs vs):kvs.length=vs.length:=Paired.length r
end
theorem jY{P:Program}{w:World}{k:Key}{u:Value}(r:RelV (kV k) u):(cj P w).is k u=true:=by
  cases k with
  | inl i=>obtain⟨t,e⟩:=(show ∃ t,u=Value.int i t from r);subst e;exact vI P w i t
  | inr x=>obtain⟨t,e⟩:=(show ∃ t,u=Value.str x t from r);subst e;exact vJ P w x t
theorem qr{P:Program}{w:World}:∀ {ks:List Key} {us:List Value},Vals (ks.map kV) us->ItemsAre (cj P w) ks us
  | [],_,r=>by rw[List.map_nil] at r;cases r;exact .nil
  | k::ks,_,r=>by
    rw[List.map_cons] at r
    cases r with
    | cons h t=>exact .cons (jY h) (qr t)
abbrev KT(H:Hp):List (List Key × V)->List (List Key × Addr × Value)->Prop:=Paired fun p q=>p.1=q.1/\H q.2.1=some (.tup (p.1.map kV))/\RelV p.2 q.2.2
theorem KT.val{H:Hp}{kvs:List (List Key × V)}{xs:List (List Key × Addr × Value)}(r:KT H kvs xs)(k:List Key):RelO (bV kvs k) ((atKey xs k).map (·.2)):=by
  induction r with
  | nil=>exact True.intro
  | @cons p q ps qs h t ih =>
    obtain⟨h1,_,h2⟩:=h
    by_cases e:p.1=k
    · have e':q.1=k:=h1.symm.trans e
      have b:atKey (q::qs) k=some q.2:=by simp[atKey,List.find?_cons,e']
      rw[jW e,b];exact h2
    · have e':¬ q.1=k:=fun z=>e (h1.trans z)
      have b:atKey (q::qs) k=atKey qs k:=by simp[atKey,List.find?_cons,e']
      rw[jX e,b];exact ih
theorem KT.repl{H:Hp}{kvs:List (List Key × V)}{xs:List (List Key × Addr × Value)}(r:KT H kvs xs)(k:List Key){y:V}{u:Value}(ry:RelV y u):
    KT H (kvs.map fun kv=>if kv.1=k then (kv.1,y) else kv) (xs.map (putAt k u)):=by
  induction r with
  | nil=>exact .nil
  | @cons p q ps qs h t ih =>
    rw[List.map_cons,List.map_cons]
    refine .cons ?_ ih
    obtain⟨h1,h2,h3⟩:=h
    unfold putAt
    by_cases e:p.1=k
    · rw[if_pos e,if_pos (h1.symm.trans e)];exact⟨h1,h2,ry⟩
    · rw[if_neg e,if_neg (fun z=>e (h1.trans z))];exact⟨h1,h2,h3⟩
theorem KT.put{H:Hp}{kvs:List (List Key × V)}{xs:List (List Key × Addr × Value)}(r:KT H kvs xs)(k:List Key){b:Addr}{y:V}{u:Value}(hb:H b=some (.tup (k.map kV)))(ry:RelV y u):
    KT H (bL kvs k y) (storedH xs k b u):=by
  have e:(kvs.any fun kv=>decide (kv.1=k))=(atKey xs k).isSome:=by
    rw[ma,(r.val k).isSome_eq,Option.isSome_map]
  unfold bL storedH
  rw[e]
  by_cases q:(atKey xs k).isSome=true
  · rw[if_pos q,if_pos q];exact r.repl k ry
  · rw[if_neg q,if_neg q];exact Paired.snoc r ⟨rfl,hb,ry⟩
theorem KT.keeps{H H':Hp}{kvs:List (List Key × V)}{xs:List (List Key × Addr × Value)}(r:KT H kvs xs)(ht:∀ b ys,H b=some (.tup ys)->H' b=some (.tup ys)):KT H' kvs xs :=
  Paired.mapP r fun _ _ z=>⟨z.1,ht _ _ z.2.1,z.2.2⟩
section
variable {P:Program} {w:World} {H:Hp} {h:Heap} {a:Addr}
theorem qt{u:HO}(ok:HOk P w H h)(e:Rd H a u):ObjOk P w H h a u:=e.ok ok
theorem jZ{kvs:List (Key × V)}(ok:HOk P w H h)(e:Rd H a (.dK kvs)):kvs.length<=sizeLine/\(a == sysModules)=false/\∃ vs,KV kvs vs/\h.DictOf (cj P w) a vs :=
  show ObjOk P w H h a (.dK kvs) from qt ok e
theorem qu{kvs:List (Key × V)}(ok:HOk P w H h)(e:H a=some (.dK kvs)):kvs.length<=sizeLine/\(a == sysModules)=false/\∃ vs,KV kvs vs/\h.DictOf (cj P w) a vs:=jZ ok (.inl e)
theorem me{ks:List Key}(ok:HOk P w H h)(e:H a=some (.tup (ks.map kV))):(tupleKind (cj P w)).is h ks a:=by
  obtain⟨_,its,r,o,h1,h2,n,h3⟩:=(show ObjOk P w H h a (.tup (ks.map kV)) from ok a _ e)
  exact⟨o,its.toArray,n,h1,h2,h3,by simpa using qr r⟩
theorem mf{kvs:List (List Key × V)}(ok:HOk P w H h)(e:Rd H a (.dT kvs)):kvs.length<=sizeLine/\(a == sysModules)=false /\
    ∃ xs,KT H kvs xs/\h.DictOfH (tupleKind (cj P w)) a xs:=by
  obtain⟨z,y,xs,r,o,es,ep,h1,h2,h3,h4,h5⟩:=(show ObjOk P w H h a (.dT kvs) from qt ok e)
  refine⟨z,y,xs,r,o,es,ep,h1,h2,h3,h4,fun x hx=>?_,h5⟩
  have all:∀ {l:List (List Key × V)} {m:List (List Key × Addr × Value)},KT H l m->∀ x ∈ m,(tupleKind (cj P w)).is h x.1 x.2.1:=by
    intro l m q
    induction q with
    | nil=>intro x hx;exact nomatch hx
    | @cons p q ps qs hq t ih =>
      intro x hx
      rcases List.mem_cons.mp hx with e | hx
      · subst e
        exact me ok (by rw[<- hq.1];exact hq.2.1)
      · exact ih x hx
  exact all r x hx
theorem xU{kvs:List (List Key × V)}(ok:HOk P w H h)(e:H a=some (.dT kvs)):kvs.length<=sizeLine/\(a == sysModules)=false /\
    ∃ xs,KT H kvs xs/\h.DictOfH (tupleKind (cj P w)) a xs:=mf ok (.inl e)
end
def DGet(H:Hp)(a:Addr)(y:V)(r:Option V):Prop :=
  (∃ kvs k,Rd H a (.dK kvs)/\y=kV k/\r=bV kvs k)\/∃ kvs k b,Rd H a (.dT kvs)/\y=.ref b/\H b=some (.tup (k.map kV))/\r=bV kvs k
def DPut(H:Hp)(a:Addr)(y v:V)(H':Hp):Prop :=
  (∃ kvs k,H a=some (.dK kvs)/\y=kV k/\kvs.length < sizeLine/\H'=upd H a (.dK (bL kvs k v))) \/
  ∃ kvs k b,H a=some (.dT kvs)/\y=.ref b/\H b=some (.tup (k.map kV))/\kvs.length < sizeLine/\H'=upd H a (.dT (bL kvs k v))
theorem DGet.k{H:Hp}{a:Addr}{kvs:List (Key × V)}{k:Key}(e:H a=some (.dK kvs)):DGet H a (kV k) (bV kvs k):=.inl ⟨kvs,k,.inl e,rfl,rfl⟩
theorem DGet.t{H:Hp}{a b:Addr}{kvs:List (List Key × V)}{k:List Key}(e:H a=some (.dT kvs))(eb:H b=some (.tup (k.map kV))):DGet H a (.ref b) (bV kvs k):=.inr ⟨kvs,k,b,.inl e,rfl,eb,rfl⟩
theorem DPut.k{H:Hp}{a:Addr}{kvs:List (Key × V)}{k:Key}{v:V}(e:H a=some (.dK kvs))(hl:kvs.length < sizeLine):DPut H a (kV k) v (upd H a (.dK (bL kvs k v))):=.inl ⟨kvs,k,e,rfl,hl,rfl⟩
theorem DPut.t{H:Hp}{a b:Addr}{kvs:List (List Key × V)}{k:List Key}{v:V}(e:H a=some (.dT kvs))(eb:H b=some (.tup (k.map kV)))(hl:kvs.length < sizeLine):
    DPut H a (.ref b) v (upd H a (.dT (bL kvs k v))):=.inr ⟨kvs,k,b,e,rfl,eb,hl,rfl⟩
section
variable {X:Cx} {pins:List (Addr × Obj)} {σ:St} {H:Hp} {s:Shared} {a:Addr} {y v:V} {u r:Value} {o:Option V} {A:Around} {E:Value->Shared->Prop}
theorem Inv.big(I:Inv X pins σ H s):sysModules < s.heap.objs.size:=by
  have h:mainGlobals < s.heap.objs.size:=(I.mod.glob.keeps I.bk).lt
  exact Nat.lt_trans (by decide) h
theorem xV{Q:Value->Shared->Prop}(hu:A.units+1 < cLine)(I:Inv X pins σ H s)(g:DGet H a y (some v))(ry:RelV y u)(h:∀ w' s',Inv X pins σ H s'->RelV v w'->Q w' s'):
    wpAny (model X.prog X.w) A (getItem (.ref a) u) Q E s:=by
  rcases g with⟨kvs,k,e,ey,l⟩ | ⟨kvs,k,b,e,ey,eb,l⟩
  · subst ey
    obtain⟨z,hd,vs,rel,dd⟩:=jZ I.hok e
    obtain⟨w',hw,rw'⟩:=RelO.some_of (v:=v) (o:=valueAt vs k) (by rw[l];exact rel.val k)
    exact wpAny_getItem_of (jY ry) dd.mapOf hw (h w' _ (I.tok _) rw')
  · subst ey
    cases (show u=Value.ref b from ry)
    obtain⟨z,hd,xs,rel,dd⟩:=mf I.hok e
    obtain⟨w',hw,rw'⟩:=RelO.some_of (v:=v) (o:=(atKey xs k).map (·.2)) (by rw[l];exact rel.val k)
    obtain⟨p,hp,hp2⟩:=Option.map_eq_some_iff.mp hw
    refine wpAny_getItem_heap (tupleKind_room_in1 hu) (me I.hok eb) dd hp ?_
    rw[hp2]
    exact h w' _ (I.tok _) rw'
theorem mh{h':Heap}{t':Nat}{ob:HO}(I:Inv X pins σ H s)(mu:Mut (H a))(hs:Heap.SameBut a s.heap h')(he:∃ q,h'.get? a=some q)(new:ObjOk X.prog X.w (upd H a ob) h' a ob):
    Inv X pins σ (upd H a ob) { s with heap:=h',toks:=t' } :=
  I.write (x:=a) (e:=a) mu (.inl rfl) (fun b q hb z=>(hs.2 b hb).trans z) he new
theorem qv{P:Program}{w:World}{H':Hp}{h':Heap}{kvs:List (Key × V)}{vs:List (Key × Value)}(z:kvs.length<=sizeLine)(hd:(a == sysModules)=false)(rel:KV kvs vs)(dd:h'.DictOf (cj P w) a vs):
    ObjOk P w H' h' a (.dK kvs):=⟨z,hd,vs,rel,dd⟩
theorem xW{H':Hp}{Q:Unit->Shared->Prop}(hu:A.units+1 < cLine)(I:Inv X pins σ H s)(g:DPut H a y v H')(ry:RelV y u)(rv:RelV v r)(h:∀ s',Inv X pins σ H' s'->Q () s'):
    wpAny (model X.prog X.w) A (setItem (.ref a) u r) Q E s:=by
  rcases g with⟨kvs,k,e,ey,l,eH⟩ | ⟨kvs,k,b,e,ey,eb,l,eH⟩
  · subst ey eH
    obtain⟨z,hd,vs,rel,dd⟩:=qu I.hok e
    have hz:vs.length<=sizeLine:=by rw[<- rel.length];exact z
    have hl:(bL kvs k v).length<=sizeLine:=by have:=md kvs k v;omega
    refine wpAny_setItem_pairs (hsz:=hz) (jY ry) dd fun h' dd' hs=>h _ ?_
    have he:∃ q,h'.get? a=some q:=let ⟨q,_,_,hq,_⟩:=dd';⟨q,hq⟩
    exact mh I (by rw[e];exact True.intro) hs he (qv hl hd (rel.put k rv) dd')
  · subst ey eH
    cases (show u=Value.ref b from ry)
    obtain⟨z,hd,xs,rel,dd⟩:=xU I.hok e
    have hz:xs.length<=sizeLine:=by rw[<- Paired.length rel];exact z
    have hl:(bL kvs k v).length<=sizeLine:=by have:=md kvs k v;omega
    refine wpAny_setItem_heap (hsz:=hz) (tupleKind_room_in1 hu) (me I.hok eb) dd fun h' dd' hs=>h _ ?_
    obtain⟨q,es,ep,hq,h2,h3,h4,_,h5⟩:=dd'
    refine mh I (by rw[e];exact True.intro) hs ⟨q,hq⟩ ⟨hl,hd,_,(rel.put k eb rv).keeps fun c ys ec=>?_,q,es,ep,hq,h2,h3,h4,h5⟩
    rw[aC (vK ec e (fun z=>nomatch z))]
    exact ec
end
section
variable {X:Cx} {pins:List (Addr × Obj)} {σ:St} {H:Hp} {s:Shared} {a:Addr} {kvs:List (Key × V)} {k:Key} {u:Value} {A:Around} {E:Value->Shared->Prop}
end
def k0(i:Expr):Prop:=∀ ov iv,subscripted i false ov iv=operate [ov,iv] (getItem ov iv)
theorem xX{prog:Program}{w:World}{A:Around}{E:Value->Shared->Prop}{s:Shared}{env:Env}{value slice:Expr}{pos:Pos}{T id:String}{Q:Value->Shared->Prop}(hl:typeLookup (.type T) "__getitem__" = pure (some (.builtin id)))(hs:k0 slice)(h:wpAny (model prog w) A (eval value env) (fun o s₁=>wpAny (model prog w) A (eval slice env) (fun i s₂=>s₂.TypeIs o T/\wpAny (model prog w) A (getItem o i) Q E s₂) E s₁) E s):
    wpAny (model prog w) A (eval (.Subscript value slice pos) env) Q E s:=by
  refine Subscript_ (wpAny_mono h (fun o s₁ h₁=>wpAny_mono h₁ (fun i s₂ h₂=>?_) fun _ _ x=>x) fun _ _ x=>x)
  obtain⟨hT,h₂⟩:=h₂
  unfold subscriptTail
  refine wpAny_bind ?_
  rw[getitemInPython_of_ne hT.not_modules]
  refine wpAny_bind (wpAny_specialOf hT hl ?_)
  have fin:wpAny (model prog w) A (subscripted slice false o i) (fun r s₃=>wpAny (model prog w) A (letTemporaryGo value o r >>= fun _=>pure r) Q E s₃) E s₂:=by
    rw[hs o i]
    exact wpAny_operating (wpAny_mono h₂ (fun r s₃ h₃=>wpAny_bind (wpAny_letTemporaryGo (wpAny_pure h₃))) fun _ _ x=>x)
  first
    | exact wpAny_pure (wpAny_bind fin)
    | exact wpAny_bind (wpAny_pure (wpAny_bind fin))
    | exact wpAny_bind fin
theorem xY{X:Cx}{pins:List (Addr × Obj)}{σ:St}{H:Hp}{s:Shared}{a:Addr}{y:V}{o:Option V}(I:Inv X pins σ H s)(g:DGet H a y o):s.TypeIs (.ref a) "dict":=by
  rcases g with⟨kvs,k,e,_,_⟩ | ⟨kvs,k,b,e,_,_,_⟩
  · obtain⟨_,_,vs,_,dd⟩:=jZ I.hok e
    exact dd.typeIs
  · obtain⟨_,_,xs,_,dd⟩:=mf I.hok e
    exact dd.typeIs
def xZ(td ty:TE):TE:=fun σ H Q=>td σ H fun x H1=>ty σ H1 fun y H2=>∃ a v,x=.ref a/\DGet H2 a y (some v)/\Q v H2
def ya(td ty tv:TE):TS:=fun D σ H=>tv σ H fun v H1=>td σ H1 fun x H2=>ty σ H2 fun y H3=>∃ a H4,x=.ref a/\DPut H3 a y v H4/\D.nx σ H4
section
variable {X:Cx} {o i e value:Expr} {pos pos' tpos:Pos} {td ty tv:TE}
theorem yb(hu:X.A.units+1 < cLine)(ho:PE X o td)(hi:PE X i ty)(hs:k0 i):PE X (.Subscript o i pos) (xZ td ty):=by
  intro pins s σ H Q I h
  refine xX PySem.F.slot_dict_getitem.lookup hs (thn (ho pins s σ H _ I h) fun u s1 ⟨x,H1,I1,rx,q1⟩=>thn (hi pins s1 σ H1 _ I1 q1) fun iv s2 ⟨y,H2,I2,ry,a,v,ex,g,q2⟩=>?_)
  subst ex
  obtain rfl:u=Value.ref a:=rx
  exact⟨xY I2 g,xV hu I2 g ry fun w' s3 I3 rw'=>⟨v,H2,I3,rw',q2⟩⟩
theorem yc(hu:X.A.units+1 < cLine)(ho:PE X o td)(hi:PE X i ty)(hv:PE X value tv)(hs:swapsWith value (some (.Subscript o i pos')) pos.line X.env=pure false):
    PS X (.Assign [.Subscript o i pos'] value pos) (ya td ty tv):=by
  intro pins s σ H D I h
  refine wpAny_Assign_Subscript (thn (hv pins s σ H _ I h) fun r s1 ⟨v,H1,I1,rv,q1⟩=>thn (ho pins s1 σ H1 _ I1 q1) fun u s2 ⟨x,H2,I2,rx,q2⟩=>thn (hi pins s2 σ H2 _ I2 q2) fun iv s3 ⟨y,H3,I3,ry,a,H4,ex,g,q3⟩=>?_) hs
  subst ex
  obtain rfl:u=Value.ref a:=rx
  exact xW hu I3 g ry rv fun s4 I4=>⟨σ,H4,I4,q3⟩
end
theorem yd{P:Program}{w:World}{H:Hp}(h:Heap)(hb:sysModules < h.objs.size):ObjOk P w H (h.push { cls:=.type "dict",data:=.dict #[] }) h.objs.size (.dK []) :=
  ⟨Nat.zero_le _,beq_eq_false_iff_ne.mpr (Ne.symm (Nat.ne_of_lt hb)),[],.nil,Heap.DictOf.new h⟩
section
variable {X:Cx} {pos:Pos}
end
def kc:List (TE × TE)->St->Hp->(List (V × V)->Hp->Prop)->Prop
  | [],_,H,Q=>Q [] H
  | (tk,tv)::r,σ,H,Q=>tk σ H fun x H1=>tv σ H1 fun y H2=>kc r σ H2 fun ps H3=>Q ((x,y)::ps) H3
abbrev VV:List (V × V)->List (Value × Value)->Prop:=Paired fun p q=>RelV p.1 q.1/\RelV p.2 q.2
def PPs(X:Cx)(pos:Pos)(keys:List (Option Expr))(values:List Expr)(trs:List (TE × TE)):Prop :=
  ∀ (pins:List (Addr × Obj)) (s:Shared) (σ:St) (H:Hp) (Q:List (V × V)->Hp->Prop),Inv X pins σ H s->kc trs σ H Q ->
    wpAny (model X.prog X.w) X.A (evalPairs (pairTrees keys values X.env pos)) (fun vs s'=>∃ ps H',Inv X pins σ H' s'/\VV ps vs/\Q ps H') X.xe s
theorem ye{X:Cx}{pos:Pos}:PPs X pos [] [] []:=fun pins s σ H Q I h=>pairTrees_nil_walk ⟨[],H,I,.nil,h⟩
theorem yf{X:Cx}{pos:Pos}{k v:Expr}{ks:List (Option Expr)}{vs:List Expr}{tk tv:TE}{trs:List (TE × TE)}(hk:PE X k tk)(hv:PE X v tv)(hr:PPs X pos ks vs trs):
    PPs X pos (some k::ks) (v::vs) ((tk,tv)::trs):=fun pins s σ H Q I h =>
  pairTrees_cons_walk (thn (hk pins s σ H _ I h) fun u s1 ⟨x,H1,I1,rx,q1⟩=>thn (hv pins s1 σ H1 _ I1 q1) fun w2 s2 ⟨y,H2,I2,ry,q2⟩ =>
    thn (hr pins s2 σ H2 _ I2 q2) fun ws s3 ⟨ps,H3,I3,rel,q3⟩=>⟨(x,y)::ps,H3,I3,.cons ⟨rx,ry⟩ rel,q3⟩)
def dY(kvs more:List (Key × V)):List (Key × V):=more.foldl (fun acc kv=>bL acc kv.1 kv.2) kvs
theorem KV.merge:∀ {more:List (Key × V)} {rs:List (Key × Value)} {kvs:List (Key × V)} {vs:List (Key × Value)},KV more rs->KV kvs vs->KV (dY kvs more) (merged vs rs):=by
  intro more rs kvs vs r
  unfold KV at r
  induction r generalizing kvs vs with
  | nil=>intro q;exact q
  | @cons p q ps qs h t ih =>
    intro r0
    have e:KV (bL kvs p.1 p.2) (stored vs q.1 q.2):=by
      have:=r0.put p.1 h.2
      rw[<- h.1];exact this
    exact ih e
theorem qw:∀ (more kvs:List (Key × V)),(dY kvs more).length<=kvs.length+more.length
  | [],kvs=>by show kvs.length<=kvs.length+0;omega
  | p::r,kvs=>by
    have h1:=qw r (bL kvs p.1 p.2)
    have h2:=md kvs p.1 p.2
    show (dY (bL kvs p.1 p.2) r).length<=_
    rw[List.length_cons];omega
theorem qz{P:Program}{w:World}:∀ {kvs:List (Key × V)} {ws:List (Value × Value)},VV (kvs.map fun kv=>(kV kv.1,kv.2)) ws->∃ rs,Carries (cj P w) ws rs/\KV kvs rs
  | [],_,r=>by rw[List.map_nil] at r;cases r;exact⟨[],True.intro,.nil⟩
  | p :: kvs,_,r=>by
    rw[List.map_cons] at r
    cases r with
    | @cons a b as bs h t =>
      obtain⟨rs,c,q⟩:=qz (P:=P) (w:=w) t
      obtain⟨b1,b2⟩:=b
      exact⟨(p.1,b2)::rs,⟨jY h.1,rfl,c⟩,.cons ⟨rfl,h.2⟩ q⟩
def yg(trs:List (TE × TE)):TE:=fun σ H Q=>∀ p,H p=none->kc trs σ (upd H p (.dK [])) fun ps H2=>H2 p=some (.dK [])/\∃ kvs:List (Key × V),ps=kvs.map (fun kv=>(kV kv.1,kv.2))/\kvs.length<=15/\Q (.ref p) (upd H2 p (.dK (dY [] kvs)))
theorem yh{X:Cx}{pos:Pos}{keys:List (Option Expr)}{values:List Expr}{trs:List (TE × TE)}(h:PPs X pos keys values trs)(hall:keys.all (·.isSome)=true)(hl:keys.length=values.length)(h0:keys ≠ [])(h15:keys.length<=15):PE X (.Dict keys values pos) (yg trs):=by
  intro pins s σ H Q I q
  have hn:=I.hok.fresh (Nat.le_refl s.heap.objs.size)
  have I1:=I.laid (a:=s.heap.objs.size) (o:=.dK []) (h':=s.heap.push { cls:=.type "dict",data:=.dict #[] }) (t':=s.toks) (fun _ _ q=>Heap.get?_push_of_some _ q) (Nat.le_refl _) (yd s.heap I.big)
  refine wpAny_Dict_walk (knd:=cj X.prog X.w) hall hl h0 h15 (thn (h pins _ σ _ _ I1 (q _ hn)) fun ws s2 ⟨ps,H2,I2,rel,e,kvs,ep,lk,q2⟩=>?_)
  subst ep
  obtain⟨rs,c,rk⟩:=qz (P:=X.prog) (w:=X.w) rel
  obtain⟨z,hd,vs0,r0,dd⟩:=qu I2.hok e
  cases r0
  refine⟨rs,c,dd,fun h' dd' hs=>⟨.ref s.heap.objs.size,_,?_,rfl,q2⟩⟩
  have hz:(dY [] kvs).length<=sizeLine:=by
    have h1:=qw kvs []
    rw[List.length_nil] at h1
    rw[sizeLine_eq];omega
  have he:∃ q,h'.get? s.heap.objs.size=some q:=let ⟨q,_,_,hq,_⟩:=dd';⟨q,hq⟩
  exact mh I2 (by rw[e];exact True.intro) hs he (qv hz hd (rk.merge .nil) dd')
structure M1 (X:Cx) (o:Expr) (m:Str) (apos:Pos) (e:Expr) (cpos:Pos):Prop where
  base:attributeBase o m X.env (eval o X.env)=eval o X.env
  few:((backTo cpos (starEach [e] X.env)).all (fun x=>!x.1) && (backToKw cpos (keywordEach [] X.env)).all (fun x=>x.1.isSome)
    && decide (([e]:List Expr).length+([]:List Keyword).length+(if ([]:List Keyword).isEmpty then 0 else 1) < 30))=true
  line:(apos.endLine == cpos.line)=true
  trees:backTo cpos (starEach [e] X.env)=[(false,eval e X.env)]
structure M2 (X:Cx) (o:Expr) (m:Str) (apos:Pos) (e f:Expr) (cpos:Pos):Prop where
  base:attributeBase o m X.env (eval o X.env)=eval o X.env
  few:((backTo cpos (starEach [e,f] X.env)).all (fun x=>!x.1) && (backToKw cpos (keywordEach [] X.env)).all (fun x=>x.1.isSome)
    && decide (([e,f]:List Expr).length+([]:List Keyword).length+(if ([]:List Keyword).isEmpty then 0 else 1) < 30))=true
  line:(apos.endLine == cpos.line)=true
  trees:backTo cpos (starEach [e,f] X.env)=[(false,eval e X.env),(false,eval f X.env)]
section
variable {X:Cx} {pins:List (Addr × Obj)} {σ:St} {H:Hp} {s:Shared} {a:Addr} {y d:V} {u r:Value} {o:Option V} {A:Around} {E:Value->Shared->Prop}
end
section
variable {X:Cx} {o e f:Expr} {apos cpos:Pos} {td ty tx:TE}
end
section
variable {X:Cx} {pins:List (Addr × Obj)} {σ:St} {H:Hp} {s:Shared} {a:Addr} {kvs:List (Key × V)} {A:Around} {E:Value->Shared->Prop}
end
section
variable {X:Cx} {pins:List (Addr × Obj)} {σ:St} {H:Hp} {s:Shared} {a:Addr} {y:V} {u:Value} {A:Around} {E:Value->Shared->Prop}
end
end L2
namespace Att
open PySem PySem.W PySem.Calls PyProof.Rows
section
variable {prog:Program} {w:World} {A:Around} {E:Value->Shared->Prop} {s:Shared} {K:Frag}
end
end Att
namespace L2
open PySem PySem.Spec PyProof.Rows
end L2
namespace L2
open PySem PySem.Spec PyProof.Rows
end L2
namespace L2
open PySem PySem.Spec PyProof.Rows
section
variable {P:Program} {w:World} {K:PySem.W.Frag} {mg:Str->Option Value} {base:Heap}
end
section
variable {X:Cx}
end
section
variable {κ:Type} [DecidableEq κ]
end
end L2
namespace VL
open PySem PySem.Spec PyProof.Rows L2
abbrev St:=L2.St
inductive D where
  | non | bl (b:Bool) | int (i:Int) | str (x:Str) | lst (xs:List D) | tup (xs:List D)
  | scr (ns:List Int)
  | dct (fz:Bool) (kvs:List (Int × Int))
  | ptr (a:Nat)
def iK(kvs:List (Int × Int)):List (Key × V):=kvs.map fun p=>(Sum.inl p.1,V.int p.2)
def DRd(H:Hp)(a:Addr)(fz:Bool)(kvs:List (Int × Int)):Prop:=(fz=true/\∃ o,H a=some (.frz o (.dK (iK kvs))))\/(fz=false/\H a=some (.dK (iK kvs)))
theorem DRd.same{H H':Hp}{a:Addr}{fz:Bool}{kvs:List (Int × Int)}(e:Same H H')(h:DRd H a fz kvs):DRd H' a fz kvs:=by
  rcases h with⟨z,o,h⟩ | ⟨z,h⟩
  · exact .inl ⟨z,o,e _ _ h⟩
  · exact .inr ⟨z,e _ _ h⟩
theorem DRd.rd{H:Hp}{a:Addr}{fz:Bool}{kvs:List (Int × Int)}(h:DRd H a fz kvs):Rd H a (.dK (iK kvs)):=by
  rcases h with⟨_,o,h⟩ | ⟨_,h⟩
  · exact .inr ⟨o,h⟩
  · exact .inl h
mutual
inductive Rep (K:PySem.W.Frag) (H:Hp):V->D->Prop where
  | non:Rep K H V.non D.non
  | bl (b:Bool):Rep K H (V.bl b) (D.bl b)
  | int (i:Int):Rep K H (V.int i) (D.int i)
  | str (x:Str):Rep K H (V.str x) (D.str x)
  | lst {a:Addr} {xs:List V} {ds:List D}:Rd H a (.lst xs)->Reps K H xs ds->Rep K H (V.ref a) (D.lst ds)
  | tup {a:Addr} {xs:List V} {ds:List D}:Rd H a (.tup xs)->Reps K H xs ds->Rep K H (V.ref a) (D.tup ds)
  | scr {a:Addr} {ns:List Int}:SqL K H a (ns.map V.int)->Rep K H (V.ref a) (D.scr ns)
  | dct {a:Addr} {fz:Bool} {kvs:List (Int × Int)}:DRd H a fz kvs->Rep K H (V.ref a) (D.dct fz kvs)
  | ptr (a:Addr):Rep K H (V.ref a) (D.ptr a)
inductive Reps (K:PySem.W.Frag) (H:Hp):List V->List D->Prop where
  | nil:Reps K H [] []
  | cons {v:V} {d:D} {vs:List V} {ds:List D}:Rep K H v d->Reps K H vs ds->Reps K H (v::vs) (d::ds)
end
theorem cW{H H':Hp}{a:Addr}{u:HO}(e:Same H H')(h:Rd H a u):Rd H' a u:=by
  rcases h with h | ⟨o,h⟩
  · exact .inl (e _ _ h)
  · exact .inr ⟨o,e _ _ h⟩
theorem gN{H:Hp}{a:Addr}{xs ys:List V}(h:Rd H a (.lst xs))(h':Rd H a (.lst ys)):xs=ys:=by
  rcases h with h | ⟨o,h⟩ <;> rcases h' with h' | ⟨o',h'⟩ <;> rw[h] at h' <;> cases h' <;> rfl
theorem iL{H:Hp}{a:Addr}{xs ys:List V}(h:Rd H a (.tup xs))(h':Rd H a (.tup ys)):xs=ys:=by
  rcases h with h | ⟨o,h⟩ <;> rcases h' with h' | ⟨o',h'⟩ <;> rw[h] at h' <;> cases h' <;> rfl
theorem qA{H:Hp}{a:Addr}{xs ys:List V}(h:Rd H a (.lst xs))(h':Rd H a (.tup ys)):False:=by
  rcases h with h | ⟨o,h⟩ <;> rcases h' with h' | ⟨o',h'⟩ <;> rw[h] at h' <;> cases h'
theorem aw{K:PySem.W.Frag}{H H':Hp}(e:Same H H'){v:V}{d:D}(h:Rep K H v d):Rep K H' v d :=
  Rep.rec (motive_1:=fun v d _=>Rep K H' v d) (motive_2:=fun vs ds _=>Reps K H' vs ds)
    .non (fun b=>.bl b) (fun i=>.int i) (fun x=>.str x) (fun h _ ih=>.lst (cW e h) ih) (fun h _ ih=>.tup (cW e h) ih) (fun h=>.scr (e.seq h)) (fun h=>.dct (h.same e)) (fun a=>.ptr a)
    .nil (fun _ _ ih1 ih2=>.cons ih1 ih2) h
theorem aH{K:PySem.W.Frag}{H H':Hp}(e:Same H H'){vs:List V}{ds:List D}(h:Reps K H vs ds):Reps K H' vs ds :=
  Reps.rec (motive_1:=fun v d _=>Rep K H' v d) (motive_2:=fun vs ds _=>Reps K H' vs ds)
    .non (fun b=>.bl b) (fun i=>.int i) (fun x=>.str x) (fun h _ ih=>.lst (cW e h) ih) (fun h _ ih=>.tup (cW e h) ih) (fun h=>.scr (e.seq h)) (fun h=>.dct (h.same e)) (fun a=>.ptr a)
    .nil (fun _ _ ih1 ih2=>.cons ih1 ih2) h
section
variable {K:PySem.W.Frag} {H:Hp}
theorem Reps.length:∀ {vs:List V} {ds:List D},Reps K H vs ds->vs.length=ds.length
  | [],_,h=>by cases h;rfl
  | _::vs,_,h=>by cases h with | cons _ t=>simp[Reps.length t]
theorem Reps.append:∀ {vs ws:List V} {ds es:List D},Reps K H vs ds->Reps K H ws es->Reps K H (vs++ws) (ds++es)
  | [],_,_,_,h,h2=>by cases h;exact h2
  | _::_,_,_,_,h,h2=>by cases h with | cons a t=>exact .cons a (Reps.append t h2)
theorem Reps.get:∀ {vs:List V} {ds:List D} {i:Nat} {d:D},Reps K H vs ds->ds[i]?=some d->∃ v,vs[i]?=some v/\Rep K H v d
  | [],_,_,_,h,e=>by cases h;simp at e
  | _::_,_,0,_,h,e=>by cases h with | cons a t=>simp at e;subst e;exact⟨_,rfl,a⟩
  | _ :: _,_,i+1,_,h,e=>by
    cases h with
    | cons a t =>
      obtain⟨v,e1,r⟩:=Reps.get (i:=i) t (by simpa using e)
      exact⟨v,by simpa using e1,r⟩
theorem Reps.getV:∀ {vs:List V} {ds:List D} {i:Nat} {v:V},Reps K H vs ds->vs[i]?=some v->∃ d,ds[i]?=some d/\Rep K H v d
  | [],_,_,_,h,e=>by simp at e
  | _::_,_,0,_,h,e=>by cases h with | cons a t=>simp at e;subst e;exact⟨_,rfl,a⟩
  | _ :: _,_,i+1,_,h,e=>by
    cases h with
    | cons a t =>
      obtain⟨v,e1,r⟩:=Reps.getV (i:=i) t (by simpa using e)
      exact⟨v,by simpa using e1,r⟩
theorem Reps.take:∀ {vs:List V} {ds:List D} (n:Nat),Reps K H vs ds->Reps K H (vs.take n) (ds.take n)
  | _,_,0,_=>by simpa using Reps.nil
  | [],_,n+1,h=>by cases h;simpa using Reps.nil
  | _::_,_,n+1,h=>by cases h with | cons a t=>exact .cons a (Reps.take n t)
theorem Reps.drop:∀ {vs:List V} {ds:List D} (n:Nat),Reps K H vs ds->Reps K H (vs.drop n) (ds.drop n)
  | _,_,0,h=>by simpa using h
  | [],_,n+1,h=>by cases h;simpa using Reps.nil
  | _::_,_,n+1,h=>by cases h with | cons a t=>exact Reps.drop n t
theorem Reps.set{v:V}{d:D}(r:Rep K H v d):∀ {vs:List V} {ds:List D} (i:Nat),Reps K H vs ds->Reps K H (vs.set i v) (ds.set i d)
  | [],_,_,h=>by cases h;simpa using Reps.nil
  | _::_,_,0,h=>by cases h with | cons a t=>exact .cons r t
  | _::_,_,i+1,h=>by cases h with | cons a t=>exact .cons a (Reps.set r i t)
theorem Reps.reverse:∀ {vs:List V} {ds:List D},Reps K H vs ds->Reps K H vs.reverse ds.reverse
  | [],_,h=>by cases h;exact .nil
  | _::_,_,h=>by
    cases h with
    | cons a t=>rw[List.reverse_cons,List.reverse_cons];exact Reps.append (Reps.reverse t) (.cons a .nil)
theorem Reps.insertIdx{v:V}{d:D}(r:Rep K H v d):∀ {vs:List V} {ds:List D} (i:Nat),Reps K H vs ds->Reps K H (vs.insertIdx i v) (ds.insertIdx i d)
  | _,_,0,h=>by simpa using Reps.cons r h
  | [],_,i+1,h=>by cases h;simpa using Reps.nil
  | _::_,_,i+1,h=>by cases h with | cons a t=>simpa using Reps.cons a (Reps.insertIdx r i t)
theorem Reps.ints:∀ ns:List Int,Reps K H (ns.map V.int) (ns.map D.int)
  | []=>.nil
  | n::ns=>.cons (.int n) (Reps.ints ns)
theorem Reps.rep{vs:List V}{ds:List D}(h:Reps K H vs ds):∀ k:Nat,Reps K H (List.replicate k vs).flatten (List.replicate k ds).flatten
  | 0=>.nil
  | k+1=>by rw[List.replicate_succ,List.replicate_succ,List.flatten_cons,List.flatten_cons];exact h.append (Reps.rep h k)
end
noncomputable def aj(H:Hp)(A:Addr->Prop):Hp:=fun b=>@ite _ (A b) (Classical.propDecidable _) none (H b)
theorem yi{H:Hp}{A:Addr->Prop}{b:Addr}(h:A b):aj H A b=none:=by unfold aj;rw[if_pos h]
theorem bc{H:Hp}{A:Addr->Prop}{b:Addr}(h:¬ A b):aj H A b=H b:=by unfold aj;rw[if_neg h]
theorem cw{H:Hp}{A:Addr->Prop}{b:Addr}{o:HO}(h:aj H A b=some o):¬ A b/\H b=some o:=by
  by_cases q:A b
  · rw[yi q] at h;cases h
  · rw[bc q] at h;exact⟨q,h⟩
theorem aQ(H:Hp)(A:Addr->Prop):Same (aj H A) H:=fun _ _ h=>(cw h).2
theorem bC{H H':Hp}{A B:Addr->Prop}(e:Same H H')(s:∀ b,B b->A b):Same (aj H A) (aj H' B):=fun b o h=>by
  obtain⟨n,h⟩:=cw h
  rw[bc fun q=>n (s b q)]
  exact e b o h
theorem qB{H H':Hp}{A:Addr->Prop}(e:Same H H')(n:∀ b,A b->H b=none):Same H (aj H' A):=fun b o h=>by
  rw[bc fun q=>by rw[n b q] at h;cases h]
  exact e b o h
abbrev dh:Addr->Prop:=fun _=>False
theorem gO(H:Hp):Same H (aj H dh):=qB (fun _ _ h=>h) fun _ h=>h.elim
theorem bg{H:Hp}{p:Addr}(h:H p=none)(o:HO):Same H (upd H p o):=fun b u q=>by rw[aC (bP q h)];exact q
def Dom(H:Hp)(A:Addr->Prop):Prop:=∀ b,A b->H b ≠ none
theorem Dom.mono{H H':Hp}{A:Addr->Prop}(d:Dom H A)(e:Same H H'):Dom H' A:=fun b h n=>d b h (e.free n)
theorem Dom.none(H:Hp):Dom H dh:=fun _ h=>h.elim
theorem Dom.not_new{H:Hp}{A:Addr->Prop}{l:Addr}(d:Dom H A)(h:H l=Option.none):¬ A l:=fun q=>d l q h
def b6:D->Bool
  | .lst _=>false
  | .tup _=>false
  | .scr _=>false
  | .dct _ _=>false
  | .ptr _=>false
  | _=>true
theorem kd{K:PySem.W.Frag}{H H':Hp}{v:V}{d:D}(s:b6 d=true)(h:Rep K H v d):Rep K H' v d:=by
  cases h with
  | non=>exact .non
  | bl b=>exact .bl b
  | int i=>exact .int i
  | str x=>exact .str x
  | lst _ _=>cases s
  | tup _ _=>cases s
  | scr _=>cases s
  | dct _=>cases s
  | ptr a=>cases s
end VL
namespace VL
open PySem PySem.Spec PyProof.Rows L2
abbrev ad:=List (Option D)
abbrev FE:=ad->Option D
inductive Es where
  | full (j:Nat)
  | el (j:Nat)
def EnvR(K:PySem.W.Frag)(H:Hp)(σ:St)(ρ:ad):Prop:=∀ (i:Nat) (d:D),ρ[i]?=some (some d)->∃ v,σ[i]?=some (some v)/\Rep K H v d
theorem EnvR.mono{K:PySem.W.Frag}{H H':Hp}{σ:St}{ρ:ad}(h:EnvR K H σ ρ)(e:Same H H'):EnvR K H' σ ρ:=fun i d q=>by
  obtain⟨v,h1,h2⟩:=h i d q
  exact⟨v,h1,aw e h2⟩
def yj:D->Option Unit
  | .scr _=>some ()
  | .dct _ _=>some ()
  | .ptr _=>some ()
  | _=>none
def ElR(K:PySem.W.Frag)(H:Hp)(A:Addr->Prop)(v:V)(d:D):Prop :=
  (b6 d=true\/∃ u,yj d=some u)\/∃ p xs ds,v=V.ref p/\((d=.lst ds/\Rd H p (.lst xs))\/(d=.tup ds/\Rd H p (.tup xs)))/\Reps K (aj H A) xs ds
def Av(K:PySem.W.Frag)(H:Hp)(σ:St)(ρ:ad)(A:Addr->Prop):Es->Prop
  | .full j=>∀ v d,σ[j]?=some (some v)->ρ[j]?=some (some d)->Rep K (aj H A) v d
  | .el j=>∀ v d,σ[j]?=some (some v)->ρ[j]?=some (some d)->ElR K H A v d
theorem bm{H H':Hp}{A:Addr->Prop}(e:Same H H'):Same (aj H A) (aj H' A):=bC e fun _ h=>h
theorem ElR.mono{K:PySem.W.Frag}{H H':Hp}{A:Addr->Prop}{v:V}{d:D}(e:Same H H')(h:ElR K H A v d):ElR K H' A v d:=by
  rcases h with h | ⟨p,xs,ds,h1,h2,h3⟩
  · exact .inl h
  · refine .inr ⟨p,xs,ds,h1,?_,aH (bm e) h3⟩
    rcases h2 with⟨h2,h4⟩ | ⟨h2,h4⟩
    · exact .inl ⟨h2,cW e h4⟩
    · exact .inr ⟨h2,cW e h4⟩
theorem Av.mono{K:PySem.W.Frag}{H H':Hp}{σ:St}{ρ:ad}{A:Addr->Prop}{x:Es}(e:Same H H')(h:Av K H σ ρ A x):Av K H' σ ρ A x:=by
  cases x with
  | full j=>exact fun v d h1 h2=>aw (bm e) (h v d h1 h2)
  | el j=>exact fun v d h1 h2=>(h v d h1 h2).mono e
theorem Rep.el{K:PySem.W.Frag}{H:Hp}{A:Addr->Prop}{v:V}{d:D}(h:Rep K (aj H A) v d):ElR K H A v d:=by
  cases h with
  | non=>exact .inl (.inl rfl)
  | bl b=>exact .inl (.inl rfl)
  | int i=>exact .inl (.inl rfl)
  | str x=>exact .inl (.inl rfl)
  | lst h1 h2=>exact .inr ⟨_,_,_,rfl,.inl ⟨rfl,cW (aQ H A) h1⟩,h2⟩
  | tup h1 h2=>exact .inr ⟨_,_,_,rfl,.inr ⟨rfl,cW (aQ H A) h1⟩,h2⟩
  | scr h1=>exact .inl (.inr ⟨_,rfl⟩)
  | dct h1=>exact .inl (.inr ⟨_,rfl⟩)
  | ptr a=>exact .inl (.inr ⟨_,rfl⟩)
structure Post (K:PySem.W.Frag) (σ:St) (ρ:ad) (H:Hp) (es:List Es) (d:D) (v:V) (H':Hp):Prop where
  same:Same H H'
  rep:Rep K H' v d
  av:∀ A,Dom H A->(∀ e ∈ es,Av K H σ ρ A e)->Rep K (aj H' A) v d
structure PostF (K:PySem.W.Frag) (σ:St) (ρ:ad) (H:Hp) (es:List Es) (d:D) (v:V) (H':Hp):Prop where
  same:Same H H'
  new:∃ l xs ds,v=V.ref l/\d=.lst ds/\H l=none/\H' l=some (.lst xs)/\∀ A,Dom H A->(∀ e ∈ es,Av K H σ ρ A e)->Reps K (aj H' fun b=>A b\/b=l) xs ds
theorem Av.none{K:PySem.W.Frag}{H:Hp}{σ:St}{ρ:ad}(hE:EnvR K H σ ρ)(e:Es):Av K H σ ρ dh e:=by
  have full:∀ (j:Nat) (v:V) (d:D),σ[j]?=some (some v)->ρ[j]?=some (some d)->Rep K (aj H dh) v d:=fun j v d h1 h2=>by
    obtain⟨v',h3,h4⟩:=hE j d h2
    rw[h1] at h3;cases h3
    exact aw (gO H) h4
  cases e with
  | full j=>exact full j
  | el j=>exact fun v d h1 h2=>(full j v d h1 h2).el
theorem PostF.post{K:PySem.W.Frag}{σ:St}{ρ:ad}{H:Hp}{es:List Es}{d:D}{v:V}{H':Hp}(h:PostF K σ ρ H es d v H')(hE:EnvR K H σ ρ):Post K σ ρ H es d v H':=by
  obtain⟨l,xs,ds,rfl,rfl,hl,hl',h3⟩:=h.new
  have av:∀ A,Dom H A->(∀ e ∈ es,Av K H σ ρ A e)->Rep K (aj H' A) (V.ref l) (.lst ds):=fun A hA ha =>
    .lst (.inl (by rw[bc (hA.not_new hl)];exact hl')) (aH (bC (fun _ _ q=>q) fun b q=>.inl q) (h3 A hA ha))
  exact⟨h.same,aw (aQ H' _) (av dh (Dom.none H) fun e _=>Av.none hE e),av⟩
def tv(K:PySem.W.Frag)(f:FE)(es:List Es):TE:=fun σ H Q=>∃ ρ d,EnvR K H σ ρ/\f ρ=some d/\∀ v H',Post K σ ρ H es d v H'->Q v H'
def tvF(K:PySem.W.Frag)(f:FE)(es:List Es):TE:=fun σ H Q=>∃ ρ d,EnvR K H σ ρ/\f ρ=some d/\∀ v H',PostF K σ ρ H es d v H'->Q v H'
def tvT(K:PySem.W.Frag)(f:ad->Option Bool):TT:=fun σ H Q=>∃ ρ b,EnvR K H σ ρ/\f ρ=some b/\∀ H',Same H H'->Q b H'
abbrev FEs:=ad->Option (List D)
structure Posts (K:PySem.W.Frag) (σ:St) (ρ:ad) (H:Hp) (es:List Es) (ds:List D) (vs:List V) (H':Hp):Prop where
  same:Same H H'
  rep:Reps K H' vs ds
  av:∀ A,Dom H A->(∀ e ∈ es,Av K H σ ρ A e)->Reps K (aj H' A) vs ds
def tvA(K:PySem.W.Frag)(f:FEs)(es:List Es):TA:=fun σ H Q=>∃ ρ ds,EnvR K H σ ρ/\f ρ=some ds/\∀ vs H',Posts K σ ρ H es ds vs H'->Q vs H'
abbrev VE(X:Cx)(e:Expr)(f:FE)(es:List Es):Prop:=PE X e (tv X.K f es)
abbrev VF(X:Cx)(e:Expr)(f:FE)(es:List Es):Prop:=PE X e (tvF X.K f es)
abbrev VT(X:Cx)(e:Expr)(f:ad->Option Bool):Prop:=PT X e (tvT X.K f)
abbrev VW(X:Cx)(e:Expr)(f:ad->Option Bool):Prop:=PW X e (tvT X.K f)
abbrev VA(X:Cx)(e:List Expr)(f:FEs)(es:List Es):Prop:=PA X e (tvA X.K f es)
theorem aJ{X:Cx}{e:Expr}{t t':TE}(h:PE X e t)(i:∀ σ H Q,t' σ H Q->t σ H Q):PE X e t':=fun pins s σ H Q I q=>h pins s σ H Q I (i σ H Q q)
theorem fB{X:Cx}{e:Expr}{t t':TT}(h:PT X e t)(i:∀ σ H Q,t' σ H Q->t σ H Q):PT X e t':=fun pins s σ H Q I q=>h pins s σ H Q I (i σ H Q q)
theorem mj{X:Cx}{e:Expr}{t t':TT}(h:PW X e t)(i:∀ σ H Q,t' σ H Q->t σ H Q):PW X e t':=fun w pins s σ H Q I q=>h w pins s σ H Q I (i σ H Q q)
theorem kf{X:Cx}{e:List Expr}{t t':TA}(h:PA X e t)(i:∀ σ H Q,t' σ H Q->t σ H Q):PA X e t':=fun pos pins s σ H Q I q=>h pos pins s σ H Q I (i σ H Q q)
section
variable {X:Cx} {a b c:Expr} {es ea eb ec:List Es} {fa fb fc:FE} {pos:Pos}
theorem VF.ve{f:FE}(h:VF X a f es):VE X a f es:=aJ h fun σ H Q ⟨ρ,d,hE,hf,hQ⟩=>⟨ρ,d,hE,hf,fun v H' p=>hQ v H' (p.post hE)⟩
def aa(i:Nat):FE:=fun ρ=>(ρ[i]?).getD none
theorem dZ{i:Nat}{ρ:ad}{d:D}(h:aa i ρ=some d):ρ[i]?=some (some d):=by
  unfold aa at h
  cases e:ρ[i]? with
  | none=>rw[e] at h;cases h
  | some o=>rw[e] at h;simp only[Option.getD_some] at h;rw[h]
theorem yk(i:Nat){x:Str}{pos:Pos}(hN:X.N[i]?=some x:=by rfl)(hv:Vis X.env.scope x:=by first | exact Or.inl rfl | exact Or.inr (Or.inl rfl) | exact Or.inr (Or.inr rfl))(hd:(x == ("__debug__" : Str))=false:=by decide)(hcd:(x == ("__classdict__" : Str))=false:=by decide):VE X (.Name x pos) (aa i) [.full i] :=
  aJ (dR hN hv hd hcd) fun σ H Q ⟨ρ,d,hE,hf,hQ⟩=>by
    have h:=dZ hf
    obtain⟨v,hv,r⟩:=hE i d h
    exact⟨v,hv,hQ v H ⟨Same.refl H,r,fun A _ av=>av (.full i) (List.mem_singleton.mpr rfl) v d hv h⟩⟩
def eC(d:D):FE:=fun _=>some d
theorem kg{e:Expr}{v:V}{d:D}(h:PE X e (tC v))(r:∀ H,Rep X.K H v d):VE X e (eC d) [] :=
  aJ h fun σ H Q ⟨ρ,d',hE,hf,hQ⟩=>by
    cases hf
    exact hQ v H ⟨Same.refl H,r H,fun A _ _=>r _⟩
theorem yl{i j pos}:VE X (.Constant (.int i) j pos) (eC (.int i)) []:=kg vS fun _=>.int i
theorem ym{i j pos}:VE X (.Constant (.bool i) j pos) (eC (.bl i)) []:=kg vT fun _=>.bl i
theorem gP{j pos}:VE X (.Constant .none j pos) (eC .non) []:=kg vU fun _=>.non
theorem yn{x:Str}{i:Int}{t:Tok}{pos:Pos}(hm:X.mg x=some (.int i t))(hg:Gl X x:=by rfl)(hd:(x == ("__debug__" : Str))=false:=by decide):VE X (.Name x pos) (eC (.int i)) [] :=
  kg (vV (v:=.int i) hg hm ⟨t,rfl⟩ hd) fun _=>.int i
def e2(g:D->D->Option D)(a b:FE):FE:=fun ρ=>(a ρ).bind fun x=>(b ρ).bind fun y=>g x y
def e1(g:D->Option D)(a:FE):FE:=fun ρ=>(a ρ).bind g
theorem bind_some{α β:Type}{o:Option α}{f:α->Option β}{b:β}(h:o.bind f=some b):∃ a,o=some a/\f a=some b:=by
  cases o with
  | none=>cases h
  | some a=>exact⟨a,rfl,h⟩
theorem Post.up{K:PySem.W.Frag}{σ:St}{ρ:ad}{H H1 H2:Hp}{es:List Es}{d:D}{v:V}(h:Post K σ ρ H es d v H1)(e:Same H1 H2):Post K σ ρ H es d v H2 :=
  ⟨h.same.trans e,aw e h.rep,fun A hA ha=>aw (bm e) (h.av A hA ha)⟩
theorem Post.down{K:PySem.W.Frag}{σ:St}{ρ:ad}{H H1 H2:Hp}{es:List Es}{d:D}{v:V}(h:Post K σ ρ H1 es d v H2)(e:Same H H1):Post K σ ρ H es d v H2 :=
  ⟨e.trans h.same,h.rep,fun A hA ha=>h.av A (hA.mono e) fun x hx=>(ha x hx).mono e⟩
def OpV(K:PySem.W.Frag)(r:R2)(g:D->D->Option D):Prop :=
  ∀ (x y:V) (H:Hp) (dx dy d:D) (Q:VK),Rep K H x dx->Rep K H y dy->g dx dy=some d ->
    (∀ v H',Same H H'->Rep K H' v d->(∀ A,Dom H A->Rep K (aj H A) x dx->Rep K (aj H A) y dy->Rep K (aj H' A) v d)->Q v H')->r x y H Q
def UnV(K:PySem.W.Frag)(r:V->Hp->VK->Prop)(g:D->Option D):Prop :=
  ∀ (x:V) (H:Hp) (dx d:D) (Q:VK),Rep K H x dx->g dx=some d ->
    (∀ v H',Same H H'->Rep K H' v d->(∀ A,Dom H A->Rep K (aj H A) x dx->Rep K (aj H' A) v d)->Q v H')->r x H Q
theorem mk{K:PySem.W.Frag}{r:R2}{g:D->D->Option D}(hr:OpV K r g){σ:St}{H:Hp}{Q:VK}(h:tv K (e2 g fa fb) (ea++eb) σ H Q):tOp r (tv K fa ea) (tv K fb eb) σ H Q:=by
  obtain⟨ρ,d,hE,hf,hQ⟩:=h
  obtain⟨dx,h1,hf⟩:=bind_some hf
  obtain⟨dy,h2,hf⟩:=bind_some hf
  refine⟨ρ,dx,hE,h1,fun x H1 p1=>⟨ρ,dy,hE.mono p1.same,h2,fun y H2 p2=>?_⟩⟩
  have q1:=p1.up p2.same
  have q2:=p2.down p1.same
  refine hr x y H2 dx dy d Q q1.rep q2.rep hf fun v H' e r' av=>hQ v H' ⟨q1.same.trans e,r',fun A hA ha=>?_⟩
  exact av A (hA.mono q1.same) (q1.av A hA fun z hz=>ha z (List.mem_append_left _ hz)) (q2.av A hA fun z hz=>ha z (List.mem_append_right _ hz))
theorem yo{K:PySem.W.Frag}{r:V->Hp->VK->Prop}{g:D->Option D}(hr:UnV K r g){σ:St}{H:Hp}{Q:VK}(h:tv K (e1 g fa) ea σ H Q):tUn r (tv K fa ea) σ H Q:=by
  obtain⟨ρ,d,hE,hf,hQ⟩:=h
  obtain⟨dx,h1,hf⟩:=bind_some hf
  refine⟨ρ,dx,hE,h1,fun x H1 p1=>?_⟩
  exact hr x H1 dx d Q p1.rep hf fun v H' e r' av=>hQ v H' ⟨p1.same.trans e,r',fun A hA ha=>av A (hA.mono p1.same) (p1.av A hA ha)⟩
theorem yp{op:Operator}{r:R2}{g:D->D->Option D}(ho:OpR X (binaryOp op) r)(hr:OpV X.K r g)(ha:VE X a fa ea)(hb:VE X b fb eb):VE X (.BinOp a op b pos) (e2 g fa fb) (ea++eb) :=
  aJ (jT ho ha hb) fun _ _ _ h=>mk hr h
theorem kh{f:FE}(h:VE X a f es)(hs:∀ ρ d,f ρ=some d->b6 d=true):VE X a f [] :=
  aJ h fun σ H Q ⟨ρ,d,hE,hf,hQ⟩=>⟨ρ,d,hE,hf,fun v H' p=>hQ v H' ⟨p.same,p.rep,fun A _ _=>kd (hs ρ d hf) p.rep⟩⟩
theorem qC{g:D->D->Option D}(h:∀ x y d,g x y=some d->b6 d=true)(fa fb:FE)(ρ:ad)(d:D)(e:e2 g fa fb ρ=some d):b6 d=true:=by
  obtain⟨x,_,e⟩:=bind_some e
  obtain⟨y,_,e⟩:=bind_some e
  exact h x y d e
theorem yq{g:D->Option D}(h:∀ x d,g x=some d->b6 d=true)(fa:FE)(ρ:ad)(d:D)(e:e1 g fa ρ=some d):b6 d=true:=by
  obtain⟨x,_,e⟩:=bind_some e
  exact h x d e
def gI(C:Int->Int->Prop)[∀ i j,Decidable (C i j)](k:Int->Int->D):D->D->Option D
  | .int i,.int j=>if C i j then some (k i j) else none
  | _,_=>none
theorem iM{C C':Int->Int->Prop}[∀ i j,Decidable (C' i j)]{k:Int->Int->D}{kv:Int->Int->V}(K:PySem.W.Frag)(hC:∀ i j,C' i j->C i j)(hk:∀ i j H,Rep K H (kv i j) (k i j)):OpV K (rI C kv) (gI C' k):=by
  intro x y H dx dy d Q rx ry hg hQ
  cases rx <;> cases ry <;> try (unfold gI at hg;cases hg;done)
  rename_i i j
  by_cases c:C' i j
  · simp only[gI,if_pos c] at hg
    cases hg
    exact⟨i,j,rfl,rfl,hC i j c,hQ _ H (Same.refl H) (hk i j H) fun A _ _ _=>hk i j _⟩
  · simp only[gI,if_neg c] at hg
    cases hg
theorem iN{C':Int->Int->Prop}[∀ i j,Decidable (C' i j)]{k:Int->Int->D}{kv:Int->Int->V}(K:PySem.W.Frag)(hk:∀ i j H,Rep K H (kv i j) (k i j)):OpV K (rI0 kv) (gI C' k):=by
  intro x y H dx dy d Q rx ry hg hQ
  cases rx <;> cases ry <;> try (unfold gI at hg;cases hg;done)
  rename_i i j
  by_cases c:C' i j
  · simp only[gI,if_pos c] at hg
    cases hg
    exact⟨i,j,rfl,rfl,hQ _ H (Same.refl H) (hk i j H) fun A _ _ _=>hk i j _⟩
  · simp only[gI,if_neg c] at hg
    cases hg
abbrev gQ(_ _:Int):Prop:=True
def small(i:Int):Prop:=-18446744073709551616 < i/\i < 18446744073709551616
instance (i:Int):Decidable (small i):=inferInstanceAs (Decidable (_/\_))
def mid(i:Int):Prop:=i.natAbs.log2 < 4000
instance (i:Int):Decidable (mid i):=inferInstanceAs (Decidable (_ < _))
def okMul(i j:Int):Prop:=small i\/small j\/(mid i/\mid j)
instance (i j:Int):Decidable (okMul i j):=inferInstanceAs (Decidable (_\/_))
def iO(_ j:Int):Prop:=0 < j/\mid j
instance (i j:Int):Decidable (iO i j):=inferInstanceAs (Decidable (_/\_))
def ki(_ j:Int):Prop:=0 < j
instance (i j:Int):Decidable (ki i j):=inferInstanceAs (Decidable (_ < _))
def iP(i j:Int):Prop:=(0<=j/\j<=1000000)/\small i
instance (i j:Int):Decidable (iP i j):=inferInstanceAs (Decidable (_/\_))
theorem qD{i:Int}(h:mid i):Builtin.Int.intBits i<=4000:=by
  unfold Builtin.Int.intBits
  split
  · exact Nat.zero_le _
  · exact h
theorem okMul.ok{i j:Int}(h:okMul i j):IntMulOk i j:=by
  rcases h with h | h | ⟨h1,h2⟩
  · exact .of_left (intBits_le_64 h.1 h.2)
  · exact .of_right (intBits_le_64 h.1 h.2)
  · exact PyProof.Rows.mulOk_of_bits (qD h1) (qD h2) (by decide)
abbrev aT:=gI gQ fun i j=>.int (i+j)
abbrev bw:=gI gQ fun i j=>.int (i - j)
abbrev bd:=gI okMul fun i j=>.int (i * j)
abbrev gR:=gI iO fun i j=>.int (i / j)
abbrev e7:=gI ki fun i j=>.int (i % j)
abbrev gS:=gI iP fun i j=>.int (i ^ j.toNat)
theorem gT{C:Int->Int->Prop}[∀ i j,Decidable (C i j)]{k:Int->Int->D}(hk:∀ i j,b6 (k i j)=true)(x y d:D)(h:gI C k x y=some d):b6 d=true:=by
  unfold gI at h
  split at h
  · split at h
    · cases h;exact hk _ _
    · cases h
  · cases h
theorem qE:OpR X (binaryOp .Mult) (rI okMul fun i j=>.int (i * j)):=opI fun _ _ _ _ _ _ _ hc q=>mul_int q hc.ok
theorem yr:OpR X (binaryOp .FloorDiv) (rI iO fun i j=>.int (i / j)):=opI fun i j _ _ _ _ _ hc q=>by
  have h1:(0:Int) < j:=hc.1
  have h2:j.natAbs.log2 < 4000:=hc.2
  exact floordiv_int (by omega) (by rw[Int.fdiv_eq_ediv_of_nonneg i (by omega)];exact q) (.inl (PyProof.noPylong_of_log2 (by omega)))
theorem yt:OpR X (binaryOp .Pow) (rI iP fun i j=>.int (i ^ j.toNat)):=opI fun i j _ _ _ _ _ hc q=>by
  have h1:-18446744073709551616 < i/\i < 18446744073709551616:=hc.2
  exact pow_int_small hc.1.1 hc.1.2 (by omega) q
theorem gU{op:Operator}{r:R2}{C:Int->Int->Prop}[∀ i j,Decidable (C i j)]{k:Int->Int->D}(ho:OpR X (binaryOp op) r)(hr:OpV X.K r (gI C k))(hk:∀ i j,b6 (k i j)=true)(ha:VE X a fa ea)(hb:VE X b fb eb):
    VE X (.BinOp a op b pos) (e2 (gI C k) fa fb) []:=kh (yp ho hr ha hb) (qC (gT hk) fa fb)
theorem yu(ha:VE X a fa ea)(hb:VE X b fb eb):VE X (.BinOp a .Add b pos) (e2 aT fa fb) []:=gU pG (iN X.K fun _ _ _=>.int _) (fun _ _=>rfl) ha hb
theorem yv(ha:VE X a fa ea)(hb:VE X b fb eb):VE X (.BinOp a .Sub b pos) (e2 bw fa fb) []:=gU pH (iN X.K fun _ _ _=>.int _) (fun _ _=>rfl) ha hb
theorem yw(ha:VE X a fa ea)(hb:VE X b fb eb):VE X (.BinOp a .Mult b pos) (e2 bd fa fb) []:=gU qE (iM X.K (fun _ _ h=>h) fun _ _ _=>.int _) (fun _ _=>rfl) ha hb
theorem yx(ha:VE X a fa ea)(hb:VE X b fb eb):VE X (.BinOp a .FloorDiv b pos) (e2 gR fa fb) []:=gU yr (iM X.K (fun _ _ h=>h) fun _ _ _=>.int _) (fun _ _=>rfl) ha hb
theorem yy(ha:VE X a fa ea)(hb:VE X b fb eb):VE X (.BinOp a .Mod b pos) (e2 e7 fa fb) []:=gU wy (iM X.K (fun _ _ h=>h) fun _ _ _=>.int _) (fun _ _=>rfl) ha hb
theorem yz(ha:VE X a fa ea)(hb:VE X b fb eb):VE X (.BinOp a .Pow b pos) (e2 gS fa fb) []:=gU yt (iM X.K (fun _ _ h=>h) fun _ _ _=>.int _) (fun _ _=>rfl) ha hb
def cL:D->Option D
  | .int i=>some (.int (-i))
  | _=>none
theorem yA(x d:D)(h:cL x=some d):b6 d=true:=by
  cases x <;> simp only[cL] at h <;> cases h
  rfl
theorem yB(ha:VE X a fa ea):VE X (.UnaryOp .USub a pos) (e1 cL fa) [] :=
  kh (es:=ea) (aJ (wx wz ha) fun _ _ _ h=>yo (fun x H dx d Q rx hg hQ=>by
    cases rx <;> simp only[cL] at hg <;> cases hg
    exact⟨_,rfl,hQ _ H (Same.refl H) (.int _) fun A _ _=>.int _⟩) h) (yq yA fa)
abbrev ltI:=gI gQ fun i j=>.bl (decide (i < j))
abbrev leI:=gI gQ fun i j=>.bl (decide (i<=j))
abbrev gtI:=gI gQ fun i j=>.bl (decide (j < i))
abbrev geI:=gI gQ fun i j=>.bl (decide (j<=i))
theorem fC{op:CmpOp}{r:R2}{g:D->D->Option D}(ho:OpR X (compareOp op) r)(hr:OpV X.K r g)(ha:VE X a fa ea)(hb:VE X b fb eb)(hm:behindInMarks op b=false)(hs:∀ x y d,g x y=some d->b6 d=true):
    VE X (.Compare a [op] [b] pos) (e2 g fa fb) []:=kh (es:=ea++eb) (aJ (pL ho ha hb hm) fun _ _ _ h=>mk hr h) (qC hs fa fb)
def tru:D->Option Bool
  | .bl b=>some b
  | .int i=>some (i != 0)
  | .non=>some false
  | .lst xs=>some (!xs.isEmpty)
  | .tup xs=>some (!xs.isEmpty)
  | .str _=>none
  | .scr ns=>some (!ns.isEmpty)
  | .dct _ _=>none
  | .ptr _=>none
def eT(f:FE):ad->Option Bool:=fun ρ=>(f ρ).bind fun d=>match d with | .bl b=>some b | _=>none
theorem iQ{op:CmpOp}{r:R2}{g:D->D->Option D}(ho:OpR X (compareOp op) r)(hr:OpV X.K r g)(ha:VE X a fa ea)(hb:VE X b fb eb)(hm:behindInMarks op b=false):VT X (.Compare a [op] [b] pos) (eT (e2 g fa fb)) :=
  fB (pM ho ha hb hm) fun σ H Q ⟨ρ,b,hE,hf,hQ⟩=>by
    obtain⟨d,h1,h2⟩:=bind_some hf
    refine mk hr ⟨ρ,d,hE,h1,fun v H' p=>?_⟩
    cases d <;> simp only at h2 <;> cases h2
    cases p.rep
    exact⟨b,rfl,hQ H' p.same⟩
theorem fD{C':Int->Int->Prop}[∀ i j,Decidable (C' i j)]{k:Int->Int->Bool}(K:PySem.W.Frag):OpV K (rI0 fun i j=>.bl (k i j)) (gI C' fun i j=>.bl (k i j)):=iN K fun _ _ _=>.bl _
theorem yC(ha:VE X a fa ea)(hb:VE X b fb eb):VE X (.Compare a [.Lt] [b] pos) (e2 ltI fa fb) []:=fC wA (fD X.K) ha hb (cv _) (gT fun _ _=>rfl)
theorem yD(ha:VE X a fa ea)(hb:VE X b fb eb):VE X (.Compare a [.LtE] [b] pos) (e2 leI fa fb) []:=fC lS (fD X.K) ha hb (cv _) (gT fun _ _=>rfl)
theorem yE(ha:VE X a fa ea)(hb:VE X b fb eb):VE X (.Compare a [.Gt] [b] pos) (e2 gtI fa fb) []:=fC pJ (fD X.K) ha hb (cv _) (gT fun _ _=>rfl)
theorem yF(ha:VE X a fa ea)(hb:VE X b fb eb):VE X (.Compare a [.GtE] [b] pos) (e2 geI fa fb) []:=fC wB (fD X.K) ha hb (cv _) (gT fun _ _=>rfl)
theorem yG(ha:VE X a fa ea)(hb:VE X b fb eb):VT X (.Compare a [.Gt] [b] pos) (eT (e2 gtI fa fb)):=iQ pJ (fD X.K) ha hb (cv _)
def e3c(g g':D->D->Option D)(a b c:FE):FE:=fun ρ=>(a ρ).bind fun x=>(b ρ).bind fun y=>(g x y).bind fun z=>match z with
  | .bl true=>(c ρ).bind fun w=>g' y w
  | .bl false=>some (.bl false)
  | _=>none
theorem yH{K:PySem.W.Frag}{r r':R2}{g g':D->D->Option D}(hr:OpV K r g)(hr':OpV K r' g')(hs:∀ x y d,g' x y=some d->b6 d=true){σ:St}{H:Hp}{Q:VK}(h:tv K (e3c g g' fa fb fc) [] σ H Q):
    pN r r' (tv K fa ea) (tv K fb eb) (tv K fc ec) σ H Q:=by
  obtain⟨ρ,d,hE,hf,hQ⟩:=h
  obtain⟨dx,h1,hf⟩:=bind_some hf
  obtain⟨dy,h2,hf⟩:=bind_some hf
  obtain⟨dz,h3,hf⟩:=bind_some hf
  refine⟨ρ,dx,hE,h1,fun x H1 p1=>⟨ρ,dy,hE.mono p1.same,h2,fun y H2 p2=>?_⟩⟩
  have q1:=p1.up p2.same
  have q2:=p2.down p1.same
  refine hr x y H2 dx dy dz _ q1.rep q2.rep h3 fun v H3 e3 r3 _=>?_
  have e03:=q1.same.trans e3
  cases dz with
  | bl k =>
    cases r3
    refine⟨k,rfl,?_⟩
    cases k with
    | false=>cases hf;exact dW (hQ _ H3 ⟨e03,.bl _,fun A _ _=>.bl _⟩)
    | true =>
      obtain⟨dw,h4,hf⟩:=bind_some hf
      refine dX ⟨ρ,dw,hE.mono e03,h4,fun w H4 p4=>?_⟩
      refine hr' y w H4 dy dw d Q (aw (e3.trans p4.same) q2.rep) p4.rep hf fun v' H' e r' _=>hQ v' H' ⟨(e03.trans p4.same).trans e,r',fun A _ _=>kd (hs _ _ _ hf) r'⟩
  | _=>cases hf
theorem yI{op op':CmpOp}{r r':R2}{g g':D->D->Option D}(ho:OpR X (compareOp op) r)(ho':OpR X (compareOp op') r')(hr:OpV X.K r g)(hr':OpV X.K r' g')(hs:∀ x y d,g' x y=some d->b6 d=true)(ha:VE X a fa ea)(hb:VE X b fb eb)(hc:VE X c fc ec)(hm:lastMarks [op,op'] [b,c]=false:=by with_unfolding_all rfl):VE X (.Compare a [op,op'] [b,c] pos) (e3c g g' fa fb fc) [] :=
  aJ (wD ho ho' ha hb hc hm) fun _ _ _ h=>yH hr hr' hs h
theorem yJ(ha:VE X a fa ea)(hb:VE X b fb eb)(hc:VE X c fc ec)(hm:lastMarks [.LtE,.LtE] [b,c]=false:=by with_unfolding_all rfl):VE X (.Compare a [.LtE,.LtE] [b,c] pos) (e3c leI leI fa fb fc) []:=yI lS lS (fD X.K) (fD X.K) (gT fun _ _=>rfl) ha hb hc hm
def cX(f:FE):ad->Option Bool:=fun ρ=>(f ρ).bind tru
theorem qF{K:PySem.W.Frag}{H:Hp}{v:V}{d:D}{k:Bool}(r:Rep K H v d)(h:tru d=some k):lU K v H k:=by
  cases r with
  | non=>cases h;rfl
  | bl b=>cases h;rfl
  | int i=>cases h;rfl
  | str x=>cases h
  | lst h1 h2 =>
    cases h
    refine .inl ⟨_,.inl h1,?_⟩
    cases h2 <;> rfl
  | tup h1 h2 =>
    cases h
    refine .inr (.inl ⟨_,.inl h1,?_⟩)
    cases h2 <;> rfl
  | @scr a ns h1 =>
    cases h
    exact .inl ⟨_,h1,by cases ns <;> rfl⟩
  | dct h1=>cases h
  | ptr a=>cases h
theorem yK{f:FE}(h:VE X a f es)(he:∀ whole,isTrue a X.env whole=(do let v <- whole;standAt a.pos;holding [v] (truthy v)):=by intro _;rfl):VT X a (cX f) :=
  fB (pP h he) fun σ H Q ⟨ρ,b,hE,hf,hQ⟩=>by
    obtain⟨d,h1,h2⟩:=bind_some hf
    exact⟨ρ,d,hE,h1,fun v H' p=>⟨b,qF p.rep h2,hQ H' p.same⟩⟩
def gW(f g:ad->Option Bool):ad->Option Bool:=fun ρ=>(f ρ).bind fun b=>if b=true then g ρ else some false
def bOr(f g:ad->Option Bool):ad->Option Bool:=fun ρ=>(f ρ).bind fun b=>if b=true then some true else g ρ
def cY(f:ad->Option Bool):ad->Option Bool:=fun ρ=>(f ρ).map (!·)
variable {ta tb:ad->Option Bool} {ar:List Expr}
theorem yL(ha:VT X a ta):VW X (.BoolOp .And [a] pos) ta:=p9 ha
theorem yM(ha:VT X a ta):VW X (.BoolOp .Or [a] pos) ta:=vZ ha
theorem yN(ha:VT X a ta)(hb:VW X (.BoolOp .And (b::ar) pos) tb):VW X (.BoolOp .And (a::b::ar) pos) (gW ta tb) :=
  mj (pb ha hb) fun σ H Q ⟨ρ,b,hE,hf,hQ⟩=>by
    obtain⟨k,h1,h2⟩:=bind_some hf
    refine⟨ρ,k,hE,h1,fun H1 e1=>?_⟩
    cases k with
    | true=>exact dX ⟨ρ,b,hE.mono e1,h2,fun H2 e2=>hQ H2 (e1.trans e2)⟩
    | false=>cases h2;exact dW (hQ H1 e1)
theorem yO(ha:VT X a ta)(hb:VW X (.BoolOp .Or (b::ar) pos) tb):VW X (.BoolOp .Or (a::b::ar) pos) (bOr ta tb) :=
  mj (w5 ha hb) fun σ H Q ⟨ρ,b,hE,hf,hQ⟩=>by
    obtain⟨k,h1,h2⟩:=bind_some hf
    refine⟨ρ,k,hE,h1,fun H1 e1=>?_⟩
    cases k with
    | false=>exact dW ⟨ρ,b,hE.mono e1,h2,fun H2 e2=>hQ H2 (e1.trans e2)⟩
    | true=>cases h2;exact dX (hQ H1 e1)
theorem yP(h:VW X a ta):VT X a ta:=h.pt
theorem yQ(ha:VT X a ta):VT X (.UnaryOp .Not a pos) (cY ta) :=
  fB (pc ha) fun σ H Q ⟨ρ,b,hE,hf,hQ⟩=>by
    unfold cY at hf
    cases h1:ta ρ with
    | none=>rw[h1] at hf;cases hf
    | some k=>rw[h1] at hf;cases hf;exact⟨ρ,k,hE,h1,hQ⟩
def bR(f g:FE):FE:=fun ρ=>(f ρ).bind fun d=>match d with | .bl true=>g ρ | .bl false=>some (.bl false) | _=>none
def gX(f:FE):FE:=fun ρ=>(f ρ).bind fun d=>match d with | .bl b=>some (.bl (!b)) | _=>none
theorem yR{op}{f:FE}(h:VE X a f es):VE X (.BoolOp op [a] pos) f es:=pe h
theorem yS(ha:VE X a fa ea)(hb:VE X (.BoolOp .And (b::ar) pos) fb eb):VE X (.BoolOp .And (a::b::ar) pos) (bR fa fb) eb :=
  aJ (pf ha hb) fun σ H Q ⟨ρ,d,hE,hf,hQ⟩=>by
    obtain⟨k,h1,h2⟩:=bind_some hf
    refine⟨ρ,k,hE,h1,fun x H1 p1=>?_⟩
    cases k with
    | bl b =>
      cases p1.rep
      refine⟨b,rfl,?_⟩
      cases b with
      | true=>exact dX ⟨ρ,d,hE.mono p1.same,h2,fun v H2 p2=>hQ v H2 (p2.down p1.same)⟩
      | false=>cases h2;exact dW (hQ _ H1 ⟨p1.same,.bl _,fun A _ _=>.bl _⟩)
    | _=>cases h2
theorem yT(ha:VE X a fa ea):VE X (.UnaryOp .Not a pos) (gX fa) [] :=
  aJ (w9 ha) fun σ H Q ⟨ρ,d,hE,hf,hQ⟩=>by
    obtain⟨k,h1,h2⟩:=bind_some hf
    refine⟨ρ,k,hE,h1,fun x H1 p1=>?_⟩
    cases k with
    | bl b =>
      cases p1.rep
      cases h2
      exact⟨b,rfl,hQ _ H1 ⟨p1.same,.bl _,fun A _ _=>.bl _⟩⟩
    | _=>cases h2
def ak:FEs:=fun _=>some []
def ae(f:FE)(g:FEs):FEs:=fun ρ=>(f ρ).bind fun d=>(g ρ).bind fun ds=>some (d::ds)
theorem yU:VA X [] ak []:=kf ce fun σ H Q ⟨ρ,ds,hE,hf,hQ⟩=>by
  cases hf
  exact hQ [] H ⟨Same.refl H,.nil,fun _ _ _=>.nil⟩
theorem yV{xs:List Expr}{fs:FEs}(ha:VE X a fa ea)(hr:VA X xs fs eb)(hs:starEach (a::xs) X.env=(false,eval a X.env)::starEach xs X.env:=by rfl):VA X (a::xs) (ae fa fs) (ea++eb) :=
  kf (bK ha hr hs) fun σ H Q ⟨ρ,ds,hE,hf,hQ⟩=>by
    obtain⟨d,h1,hf⟩:=bind_some hf
    obtain⟨dr,h2,hf⟩:=bind_some hf
    cases hf
    refine⟨ρ,d,hE,h1,fun v H1 p1=>⟨ρ,dr,hE.mono p1.same,h2,fun vs H2 p2=>hQ _ H2 ⟨p1.same.trans p2.same,.cons (aw p2.same p1.rep) p2.rep,fun A hA hz=>?_⟩⟩⟩
    exact .cons (aw (bm p2.same) (p1.av A hA fun z q=>hz z (List.mem_append_left _ q))) (p2.av A (hA.mono p1.same) fun z q=>(hz z (List.mem_append_right _ q)).mono p1.same)
def bD(f:FEs):FE:=fun ρ=>(f ρ).bind fun ds=>if ds.length<=1000 then some (.lst ds) else none
def gY(f:FEs):FE:=fun ρ=>(f ρ).bind fun ds=>if ds.length<=1000 then some (.tup ds) else none
theorem kj{n:Nat}(h:n<=1000):n<=sizeLine:=Nat.le_of_lt (xR h)
theorem bW{α:Type}{c:Prop}[Decidable c]{a b:α}(h:(if c then some a else none)=some b):c/\a=b:=by
  by_cases q:c
  · rw[if_pos q] at h;exact⟨q,Option.some.inj h⟩
  · rw[if_neg q] at h;cases h
theorem yW{xs:List Expr}{fs:FEs}(h:VA X xs fs es):VF X (.List xs pos) (bD fs) es :=
  aJ (lY h) fun σ H Q ⟨ρ,d,hE,hf,hQ⟩=>by
    obtain⟨ds,h1,hf⟩:=bind_some hf
    obtain⟨hl,rfl⟩:=bW hf
    refine⟨ρ,ds,hE,h1,fun vs H1 p=>⟨by rw[p.rep.length];exact kj hl,fun l hl1=>hQ _ _ ⟨p.same.trans (bg hl1 _),⟨l,vs,ds,rfl,rfl,p.same.free hl1,b5,fun A hA hz=>?_⟩⟩⟩⟩
    refine aH (fun b o q=>?_) (p.av A hA hz)
    obtain⟨n,q⟩:=cw q
    have ne:b ≠ l:=bP q hl1
    rw[bc (fun z=>z.elim n ne),aC ne]
    exact q
theorem yX{xs:List Expr}{fs:FEs}{x1}(h:VA X xs fs es):VE X (.Tuple xs x1 pos) (gY fs) es :=
  aJ (pW h) fun σ H Q ⟨ρ,d,hE,hf,hQ⟩=>by
    obtain⟨ds,h1,hf⟩:=bind_some hf
    obtain⟨hl,rfl⟩:=bW hf
    refine⟨ρ,ds,hE,h1,fun vs H1 p=>⟨by rw[p.rep.length];exact kj hl,fun l hl1=>hQ _ _ ⟨p.same.trans (bg hl1 _),.tup (.inl b5) (aH (bg hl1 _) p.rep),fun A hA hz=>?_⟩⟩⟩
    have hA1:=hA.mono p.same
    refine .tup (.inl ?_) (aH (bm (bg hl1 _)) (p.av A hA hz))
    rw[bc (hA1.not_new hl1)]
    exact b5
end
end VL
namespace VL
open PySem PySem.Spec PyProof.Rows L2
structure PostB (K:PySem.W.Frag) (σ:St) (ρ:ad) (H:Hp) (es:List Es) (d:D) (v:V) (H':Hp):Prop where
  same:Same H H'
  rep:Rep K H' v d
  av:∀ A,Dom H A->(∀ e ∈ es,Av K H σ ρ A e)->ElR K H' A v d
def tvB(K:PySem.W.Frag)(f:FE)(es:List Es):TE:=fun σ H Q=>∃ ρ d,EnvR K H σ ρ/\f ρ=some d/\∀ v H',PostB K σ ρ H es d v H'->Q v H'
abbrev VB(X:Cx)(e:Expr)(f:FE)(es:List Es):Prop:=PE X e (tvB X.K f es)
theorem PostB.up{K:PySem.W.Frag}{σ:St}{ρ:ad}{H H1 H2:Hp}{es:List Es}{d:D}{v:V}(h:PostB K σ ρ H es d v H1)(e:Same H1 H2):PostB K σ ρ H es d v H2 :=
  ⟨h.same.trans e,aw e h.rep,fun A hA ha=>(h.av A hA ha).mono e⟩
theorem PostB.down{K:PySem.W.Frag}{σ:St}{ρ:ad}{H H1 H2:Hp}{es:List Es}{d:D}{v:V}(h:PostB K σ ρ H1 es d v H2)(e:Same H H1):PostB K σ ρ H es d v H2 :=
  ⟨e.trans h.same,h.rep,fun A hA ha=>h.av A (hA.mono e) fun x hx=>(ha x hx).mono e⟩
section
variable {X:Cx} {a b c:Expr} {es ea eb ec:List Es} {fa fb fc:FE} {pos p2:Pos}
theorem VE.vb(h:VE X a fa es):VB X a fa es:=aJ h fun σ H Q ⟨ρ,d,hE,hf,hQ⟩=>⟨ρ,d,hE,hf,fun v H' p=>hQ v H' ⟨p.same,p.rep,fun A hA ha=>(p.av A hA ha).el⟩⟩
theorem yY(i:Nat){x:Str}{pos:Pos}(hN:X.N[i]?=some x:=by rfl)(hv:Vis X.env.scope x:=by first | exact Or.inl rfl | exact Or.inr (Or.inl rfl) | exact Or.inr (Or.inr rfl))(hd:(x == ("__debug__" : Str))=false:=by decide)(hcd:(x == ("__classdict__" : Str))=false:=by decide):VB X (.Name x pos) (aa i) [.el i] :=
  aJ (dR hN hv hd hcd) fun σ H Q ⟨ρ,d,hE,hf,hQ⟩=>by
    have h:=dZ hf
    obtain⟨v,hv,r⟩:=hE i d h
    exact⟨v,hv,hQ v H ⟨Same.refl H,r,fun A _ av=>av (.el i) (List.mem_singleton.mpr rfl) v d hv h⟩⟩
def items:D->Option (List D)
  | .lst ds=>some ds
  | .tup ds=>some ds
  | .scr ns=>some (ns.map .int)
  | _=>none
theorem kl{K:PySem.W.Frag}{H:Hp}{v:V}{d:D}{ds:List D}(r:Rep K H v d)(h:items d=some ds):∃ p xs,v=V.ref p/\(SqL K H p xs\/SqT K H p xs)/\Reps K H xs ds/\∀ A,ElR K H A v d->Reps K (aj H A) xs ds:=by
  cases r with
  | @lst p xs ds' h1 h2 =>
    cases h
    refine⟨p,xs,rfl,.inl (.inl h1),h2,fun A e=>?_⟩
    rcases e with (e | ⟨_,e⟩) | ⟨q,ys,es',e,⟨e1,e2⟩ | ⟨e1,e2⟩,e3⟩
    · cases e
    · cases e
    · cases e;cases e1;rw[gN h1 e2];exact e3
    · cases e1
  | @tup p xs ds' h1 h2 =>
    cases h
    refine⟨p,xs,rfl,.inr (.inl h1),h2,fun A e=>?_⟩
    rcases e with (e | ⟨_,e⟩) | ⟨q,ys,es',e,⟨e1,e2⟩ | ⟨e1,e2⟩,e3⟩
    · cases e
    · cases e
    · cases e1
    · cases e;cases e1;rw[iL h1 e2];exact e3
  | @scr p ns h1=>cases h;exact⟨p,_,rfl,.inl h1,Reps.ints ns,fun A _=>Reps.ints ns⟩
  | _=>cases h
def ck:D->Bool
  | .tup _=>true
  | _=>false
theorem e8{K:PySem.W.Frag}{H:Hp}{v:V}{d:D}{ds:List D}(r:Rep K H v d)(h:items d=some ds)(n:ck d=false):∃ p xs,v=V.ref p/\SqL K H p xs/\Reps K H xs ds/\∀ A,ElR K H A v d->Reps K (aj H A) xs ds:=by
  cases r with
  | @lst p xs ds' h1 h2 =>
    cases h
    refine⟨p,xs,rfl,.inl h1,h2,fun A e=>?_⟩
    rcases e with (e | ⟨_,e⟩) | ⟨q,ys,es',e,⟨e1,e2⟩ | ⟨e1,e2⟩,e3⟩
    · cases e
    · cases e
    · cases e;cases e1;rw[gN h1 e2];exact e3
    · cases e1
  | @scr p ns h1=>cases h;exact⟨p,_,rfl,h1,Reps.ints ns,fun A _=>Reps.ints ns⟩
  | tup _ _=>cases n
  | _=>cases h
theorem mm{K:PySem.W.Frag}{H:Hp}{v:V}{ds:List D}(r:Rep K H v (.lst ds)):∃ p xs,v=V.ref p/\Rd H p (.lst xs)/\Reps K H xs ds/\∀ A,ElR K H A v (.lst ds)->Reps K (aj H A) xs ds:=by
  cases r with
  | @lst p xs _ h1 h2 =>
    refine⟨p,xs,rfl,h1,h2,fun A e=>?_⟩
    rcases e with (e | ⟨_,e⟩) | ⟨q,ys,es',e,⟨e1,e2⟩ | ⟨e1,e2⟩,e3⟩
    · cases e
    · cases e
    · cases e;cases e1;rw[gN h1 e2];exact e3
    · cases e1
def ixD:D->D->Option D
  | x,.int i=>(items x).bind fun ds=>atI ds i
  | _,_=>none
theorem mn{K:PySem.W.Frag}{H:Hp}{xs:List V}{ds:List D}{i:Int}{d:D}(r:Reps K H xs ds)(h:atI ds i=some d):∃ v,atI xs i=some v/\Rep K H v d:=by
  unfold atI at h ⊢
  rw[r.length]
  obtain⟨j,h1,h2⟩:=bind_some h
  obtain⟨v,h3,h4⟩:=r.get h2
  exact⟨v,by rw[h1];exact h3,h4⟩
theorem yZ(ha:VB X a fa ea)(hb:VE X b fb eb)(hs:iJ b):VE X (.Subscript a b pos) (e2 ixD fa fb) ea :=
  aJ (qh (ix_list.or qi) ha hb hs) fun σ H Q ⟨ρ,d,hE,hf,hQ⟩=>by
    obtain⟨dx,h1,hf⟩:=bind_some hf
    obtain⟨dy,h2,hf⟩:=bind_some hf
    refine⟨ρ,dx,hE,h1,fun x H1 p1=>⟨ρ,dy,hE.mono p1.same,h2,fun y H2 p2=>?_⟩⟩
    have q1:=p1.up p2.same
    cases dy with
    | int i =>
      cases p2.rep
      obtain⟨ds,h3,h4⟩:=bind_some hf
      obtain⟨p,xs,rfl,hp,hx,hA⟩:=kl q1.rep h3
      obtain⟨v,h5,h6⟩:=mn hx h4
      have fin:Q v H2:=hQ v H2 ⟨q1.same,h6,fun A hD hz=>by
        obtain⟨v',h7,h8⟩:=mn (hA A (q1.av A hD hz)) h4
        rw[h5] at h7;cases h7;exact h8⟩
      rcases hp with hp | hp
      · exact .inl ⟨p,xs,i,v,rfl,rfl,hp,h5,fin⟩
      · exact .inr ⟨p,xs,i,v,rfl,rfl,hp,h5,fin⟩
    | _=>cases hf
theorem gZ{K:PySem.W.Frag}{σ:St}{ρ:ad}{H H1:Hp}{es:List Es}{xs:List V}{ds:List D}{l:Addr}(e:Same H H1)(hl:H1 l=none)(h:∀ A,Dom H A->(∀ z ∈ es,Av K H σ ρ A z)->Reps K (aj H1 A) xs ds):PostF K σ ρ H es (.lst ds) (.ref l) (upd H1 l (.lst xs)):=by
  refine⟨e.trans (bg hl _),⟨l,xs,ds,rfl,rfl,e.free hl,b5,fun A hA hz=>?_⟩⟩
  refine aH (fun b o q=>?_) (h A hA hz)
  obtain⟨n,q⟩:=cw q
  have ne:b ≠ l:=bP q hl
  rw[bc (fun z=>z.elim n ne),aC ne]
  exact q
def cZ{α:Type}(xs:List α)(lo hi:Option Int):List α:=(xs.drop (HT.sIx xs.length 0 lo)).take (HT.sIx xs.length xs.length hi - HT.sIx xs.length 0 lo)
theorem mo{K:PySem.W.Frag}{H:Hp}{xs:List V}{ds:List D}(r:Reps K H xs ds)(lo hi:Option Int):Reps K H (eG xs lo hi) (cZ ds lo hi):=by
  unfold eG cZ
  rw[r.length]
  exact (r.drop _).take _
abbrev FO:=ad->Option (Option Int)
def tvO(K:PySem.W.Frag)(f:FO):TO:=fun σ H Q=>∃ ρ o,EnvR K H σ ρ/\f ρ=some o/\∀ H',Same H H'->Q o H'
abbrev VO(X:Cx)(e:Option Expr)(f:FO):Prop:=PO X e (tvO X.K f)
theorem qG{e:Option Expr}{t t':TO}(h:PO X e t)(i:∀ σ H Q,t' σ H Q->t σ H Q):PO X e t':=fun pins s σ H Q I q=>h pins s σ H Q I (i σ H Q q)
def km:FO:=fun _=>some none
def fE(f:FE):FO:=fun ρ=>(f ρ).bind fun d=>match d with | .int i=>some (some i) | _=>none
theorem za:VO X none km:=qG xr fun σ H Q ⟨ρ,o,hE,hf,hQ⟩=>by cases hf;exact hQ H (Same.refl H)
theorem zb(h:VE X a fa ea):VO X (some a) (fE fa):=qG (xt h) fun σ H Q ⟨ρ,o,hE,hf,hQ⟩=>by
  obtain⟨d,h1,hf⟩:=bind_some hf
  refine⟨ρ,d,hE,h1,fun v H' p=>?_⟩
  cases d <;> simp only at hf <;> cases hf
  cases p.rep
  exact⟨_,rfl,hQ H' p.same⟩
def eSl(fa:FE)(lo hi:FO):FE:=fun ρ=>(fa ρ).bind fun x=>(lo ρ).bind fun l=>(hi ρ).bind fun h=>if ck x=true then none else (items x).bind fun ds=>some (.lst (cZ ds l h))
theorem zc{lo hi:Option Expr}{flo fhi:FO}(ha:VB X a fa ea)(hl:VO X lo flo)(hh:VO X hi fhi):VF X (.Subscript a (.Slice lo hi none p2) pos) (eSl fa flo fhi) ea :=
  aJ (qd xD ha hl hh) fun σ H Q ⟨ρ,d,hE,hf,hQ⟩=>by
    obtain⟨dx,h1,hf⟩:=bind_some hf
    obtain⟨l,h2,hf⟩:=bind_some hf
    obtain⟨h,h3,hf⟩:=bind_some hf
    refine⟨ρ,dx,hE,h1,fun x H1 p1=>⟨ρ,l,hE.mono p1.same,h2,fun H2 e2=>⟨ρ,h,hE.mono (p1.same.trans e2),h3,fun H3 e3=>?_⟩⟩⟩
    have q:=p1.up (e2.trans e3)
    cases ht:ck dx with
    | true=>rw[if_pos ht] at hf;cases hf
    | false =>
      rw[if_neg (by rw[ht];exact Bool.false_ne_true)] at hf
      obtain⟨ds,h4,hf⟩:=bind_some hf
      cases hf
      obtain⟨p,xs,rfl,hp,hx,hA⟩:=e8 q.rep h4 ht
      exact⟨p,xs,rfl,hp,fun r hr=>hQ _ _ (gZ q.same hr fun A hD hz=>mo (hA A (q.av A hD hz)) l h)⟩
def zd:R2:=fun x y H Q=>∃ l b xs zs,x=.ref l/\y=.ref b/\Rd H l (.lst xs)/\Rd H b (.lst zs)/\xs.length+zs.length<=sizeLine/\∀ p,H p=none->Q (.ref p) (upd H p (.lst (xs++zs)))
theorem qH{pins:List (Addr × Obj)}{σ:St}{H:Hp}{s:Shared}{l:Addr}{xs:List V}(I:Inv X pins σ H s)(h:Rd H l (.lst xs)):xs.length<=sizeLine/\∃ (its:List Value) (n:Nat),Vals xs its/\xs.length=its.length/\s.heap.get? l=some { cls:=.type "list",data:=.seq its.toArray n }:=by
  obtain⟨z,its,n,r,e⟩:=h.ok I.hok
  exact⟨z,its,n,r,r.length,e⟩
theorem ze:OpR X (binaryOp .Add) zd:=by
  intro pins s σ H x y v u Q I rx ry h
  obtain⟨l,b,xs,zs,rfl,rfl,hH,hB,hz,q⟩:=h
  cases rx
  cases ry
  obtain⟨z,its,n,r,hl,e⟩:=qH I hH
  obtain⟨z2,its2,n2,r2,hl2,e2⟩:=qH I hB
  refine PySem.P.add_list e e2 ?_ (by rw[List.size_toArray,List.size_toArray];omega)
  have ea:its.toArray++its2.toArray=(its++its2).toArray:=by simp
  rw[ea]
  exact⟨.ref _,_,I.lnew (t':=s.toks) (r.append r2) (by rw[List.length_append];omega),rfl,q _ I.fresh⟩
def dE:D->D->Option D
  | .lst xs,.lst ys=>if xs.length+ys.length<=100000 then some (.lst (xs++ys)) else none
  | _,_=>none
theorem qI{n:Nat}(h:n<=100000):n<=sizeLine:=Nat.le_trans h (by decide)
theorem zf(ha:VB X a fa ea)(hb:VB X b fb eb):VF X (.BinOp a .Add b pos) (e2 dE fa fb) (ea++eb) :=
  aJ (jT ze ha hb) fun σ H Q ⟨ρ,d,hE,hf,hQ⟩=>by
    obtain⟨dx,h1,hf⟩:=bind_some hf
    obtain⟨dy,h2,hf⟩:=bind_some hf
    refine⟨ρ,dx,hE,h1,fun x H1 p1=>⟨ρ,dy,hE.mono p1.same,h2,fun y H2 p2=>?_⟩⟩
    have q1:=p1.up p2.same
    have q2:=p2.down p1.same
    cases dx with
    | lst ds =>
      cases dy with
      | lst es' =>
        obtain⟨hl,rfl⟩:=bW hf
        obtain⟨p,xs,rfl,hp,hx,hA⟩:=mm q1.rep
        obtain⟨p',ys,rfl,hp',hy,hA'⟩:=mm q2.rep
        refine⟨p,p',xs,ys,rfl,rfl,hp,hp',by rw[hx.length,hy.length];exact qI hl,fun r hr=>hQ _ _ (gZ q1.same hr fun A hD hz=>?_)⟩
        exact (hA A (q1.av A hD fun z w=>hz z (List.mem_append_left _ w))).append (hA' A (q2.av A hD fun z w=>hz z (List.mem_append_right _ w)))
      | _=>cases hf
    | _=>cases hf
def kn:D->D->Option D
  | .lst xs,.int k=>if xs.length * k.toNat<=100000/\k < 100000/\-100000 < k then some (.lst (List.replicate k.toNat xs).flatten) else none
  | _,_=>none
def br:D->Option D:=fun d=>(items d).bind fun ds=>some (.int ds.length)
def aI(g:D->Option D):List D->Option D
  | [x]=>g x
  | _=>none
def cx(g:D->D->Option D):List D->Option D
  | [x,y]=>g x y
  | _=>none
def eA(f:List D->Option D)(as:FEs):FE:=fun ρ=>(as ρ).bind f
def fF(K:PySem.W.Frag)(r:List V->Hp->VK->Prop)(g:List D->Option D):Prop :=
  ∀ (xs:List V) (H:Hp) (ds:List D) (d:D) (Q:VK),Reps K H xs ds->g ds=some d->(∀ v,(∀ H',Rep K H' v d)->Q v H)->r xs H Q
theorem iR{x:Str}{p:Pos}{id:String}{r:List V->Hp->VK->Prop}{g:List D->Option D}{xs:List Expr}{as:FEs}(hc:CallR X (.builtin id) r)(hv:fF X.K r g)(hm:X.mg x=none)(hb:bootBuiltins x=some (.builtin id))(ha:VA X (a::xs) as es)(hg:Gl X x:=by rfl)(hn:x ≠ "__name__":=by decide)(hdb:(x == ("__debug__" : Str))=false:=by decide)(he:starEach (a::xs) X.env=(false,eval a X.env)::starEach xs X.env:=by rfl)(hpl:(backTo pos (starEach xs X.env)).any (·.1)=false:=by rfl):
    VE X (.Call (.Name x p) (a::xs) [] pos) (eA g as) [] :=
  aJ (m6 hc hg hm hb ha hn hdb he hpl) fun σ H Q ⟨ρ,d,hE,hf,hQ⟩=>by
    obtain⟨ds,h1,hf⟩:=bind_some hf
    exact⟨ρ,ds,hE,h1,fun vs H1 p=>hv vs H1 ds d Q p.rep hf fun v hr=>hQ v H1 ⟨p.same,hr _,fun A _ _=>hr _⟩⟩
theorem e9{K:PySem.W.Frag}{H:Hp}{vs:List V}{d:D}(h:Reps K H vs [d]):∃ v,vs=[v]/\Rep K H v d:=by
  cases h with
  | cons h1 h2=>cases h2;exact⟨_,rfl,h1⟩
theorem mq{K:PySem.W.Frag}{H:Hp}{vs:List V}{d e:D}(h:Reps K H vs [d,e]):∃ v w,vs=[v,w]/\Rep K H v d/\Rep K H w e:=by
  cases h with
  | cons h1 h2 =>
    cases h2 with
    | cons h3 h4=>cases h4;exact⟨_,_,rfl,h1,h3⟩
theorem iS{g:D->Option D}{ds:List D}{d:D}(h:aI g ds=some d):∃ x,ds=[x]/\g x=some d:=by
  match ds,h with
  | [x],h=>exact⟨x,rfl,h⟩
theorem qJ{g:D->D->Option D}{ds:List D}{d:D}(h:cx g ds=some d):∃ x y,ds=[x,y]/\g x y=some d:=by
  match ds,h with
  | [x,y],h=>exact⟨x,y,rfl,h⟩
theorem qK:fF X.K (fun xs H Q=>∃ p ys,xs=[.ref p]/\(SqL X.K H p ys\/SqT X.K H p ys)/\Q (.int ys.length) H) (aI br):=by
  intro xs H ds d Q r hg hQ
  obtain⟨x,rfl,hg1⟩:=iS hg
  obtain⟨v,rfl,r1⟩:=e9 r
  obtain⟨es,h1,hg2⟩:=bind_some hg1
  cases hg2
  obtain⟨p,ys,rfl,hp,hx,_⟩:=kl r1 h1
  exact⟨p,ys,rfl,hp,hQ _ fun H'=>by rw[hx.length];exact .int _⟩
theorem zg{p:Pos}{as:FEs}(ml:X.mg "len" = none)(ha:VA X [a] as es)(hg:Gl X "len":=by rfl)(he:starEach [a] X.env=(false,eval a X.env)::starEach [] X.env:=by rfl)(hpl:(backTo pos (starEach [] X.env)).any (·.1)=false:=by rfl):
    VE X (.Call (.Name "len" p) [a] [] pos) (eA (aI br) as) []:=iR qk qK ml PySem.boot_len ha hg (by decide) (by decide) he hpl
def hG:D->Option D:=fun d=>(items d).bind fun ds=>some (.lst ds)
theorem zh{p:Pos}(ml:X.mg "list" = none)(ha:VB X a fa ea)(hg:Gl X "list":=by rfl)(he:starEach [a] X.env=(false,eval a X.env)::starEach [] X.env:=by rfl)(hpl:(backTo pos (starEach [] X.env)).any (·.1)=false:=by rfl):
    VF X (.Call (.Name "list" p) [a] [] pos) (e1 hG fa) ea :=
  aJ (m7 ql hg ml (by decide +kernel) (bK ha ce he) (by decide) (by decide) he hpl) fun σ H Q ⟨ρ,d,hE,hf,hQ⟩=>by
    obtain⟨dx,h1,hf⟩:=bind_some hf
    obtain⟨ds,h2,hf⟩:=bind_some hf
    cases hf
    refine⟨ρ,dx,hE,h1,fun x H1 p1=>?_⟩
    obtain⟨p,xs,rfl,hp,hx,hA⟩:=kl p1.rep h2
    exact⟨p,xs,rfl,hp,fun l hl=>hQ _ _ (gZ p1.same hl fun A hD hz=>hA A (p1.av A hD hz))⟩
def fG:List D->Option (List Int)
  | []=>some []
  | .int i::r=>(fG r).map (i::·)
  | _::_=>none
theorem qL:∀ {ds:List D} {ns:List Int},fG ds=some ns->ds=ns.map D.int
  | [],ns,h=>by cases h;rfl
  | .int i::r,ns,h=>by
    simp only[fG] at h
    cases e:fG r with
    | none=>rw[e] at h;cases h
    | some ms=>rw[e] at h;cases h;rw[qL e];rfl
  | .non::_,_,h=>by cases h
  | .bl _::_,_,h=>by cases h
  | .str _::_,_,h=>by cases h
  | .lst _::_,_,h=>by cases h
  | .tup _::_,_,h=>by cases h
  | .scr _::_,_,h=>by cases h
theorem qM{K:PySem.W.Frag}{H:Hp}:∀ {ns:List Int} {xs:List V},Reps K H xs (ns.map D.int)->xs=ns.map V.int
  | [],xs,h=>by cases h;rfl
  | n::ns,xs,h=>by
    cases h with
    | cons h1 h2=>cases h1;rw[qM h2];rfl
theorem qN(hc:X.calm=true):CallR X (.builtin "sum") (fun xs H Q=>∃ (p:Addr) (ns:List Int),xs=[.ref p]/\SqL X.K H p (ns.map V.int)/\Q (.int ns.sum) H):=by
  intro pins s σ H xs us Q I r h
  obtain⟨p,ns,rfl,hp,q⟩:=h
  obtain⟨u,rfl,ru⟩:=dC r
  cases ru
  obtain⟨its,rv,pl,hz⟩:=I.list hp
  have hi:=xq rv
  obtain⟨ys,e⟩:=hi.allInts.items
  have hl:=pl.isList
  rw[e] at hl
  refine sum_intListG (I.ok.hd hc) hl fun h' tk t' hk=>?_
  have e2:preSum (numAt ys) ys.size=ns.sum:=by
    rw[preSum_eq,List.take_of_length_le (by simp),<- hi.numsOf]
    rw[show its=its.toArray.toList from rfl,e,nums_intItems]
  rw[e2]
  exact⟨.int ns.sum,H,I.kept (t':=tk) hk,⟨_,rfl⟩,q⟩
def cy:D->Option D:=fun d=>if ck d=true then none else (items d).bind fun ds=>(fG ds).bind fun ns=>some (.int ns.sum)
theorem qO:fF X.K (fun xs H Q=>∃ (p:Addr) (ns:List Int),xs=[.ref p]/\SqL X.K H p (ns.map V.int)/\Q (.int ns.sum) H) (aI cy):=by
  intro xs H ds d Q r hg hQ
  obtain⟨x,rfl,hg1⟩:=iS hg
  obtain⟨v,rfl,r1⟩:=e9 r
  unfold cy at hg1
  cases ht:ck x with
  | true=>rw[if_pos ht] at hg1;cases hg1
  | false =>
    rw[if_neg (by rw[ht];exact Bool.false_ne_true)] at hg1
    obtain⟨es,h1,hg2⟩:=bind_some hg1
    obtain⟨ns,h2,hg3⟩:=bind_some hg2
    cases hg3
    obtain⟨p,ys,rfl,hp,hx,_⟩:=e8 r1 h1 ht
    rw[qL h2] at hx
    rw[qM hx] at hp
    exact⟨p,ns,rfl,hp,hQ _ fun H'=>.int _⟩
theorem zi{p:Pos}{as:FEs}(hc:X.calm=true)(ml:X.mg "sum" = none)(ha:VA X [a] as es)(hg:Gl X "sum":=by rfl)(he:starEach [a] X.env=(false,eval a X.env)::starEach [] X.env:=by rfl)(hpl:(backTo pos (starEach [] X.env)).any (·.1)=false:=by rfl):
    VE X (.Call (.Name "sum" p) [a] [] pos) (eA (aI cy) as) []:=iR (qN hc) qO ml PyProof.Rows.boot_sum ha hg (by decide) (by decide) he hpl
def ef:D->D->Option D
  | .int i,.int j=>some (.int (if j > i then j else i))
  | _,_=>none
def fH:D->D->Option D
  | .int i,.int j=>some (.int (if j < i then j else i))
  | _,_=>none
theorem zj:fF X.K (fun xs H Q=>∃ i j,xs=[.int i,.int j]/\Q (.int (if j > i then j else i)) H) (cx ef):=by
  intro xs H ds d Q r hg hQ
  obtain⟨x,y,rfl,hg1⟩:=qJ hg
  obtain⟨v,w,rfl,r1,r2⟩:=mq r
  clear hg r
  cases r1 <;> cases r2 <;> simp only[ef] at hg1 <;> cases hg1
  exact⟨_,_,rfl,hQ _ fun H'=>.int _⟩
theorem zk:fF X.K (fun xs H Q=>∃ i j,xs=[.int i,.int j]/\Q (.int (if j < i then j else i)) H) (cx fH):=by
  intro xs H ds d Q r hg hQ
  obtain⟨x,y,rfl,hg1⟩:=qJ hg
  obtain⟨v,w,rfl,r1,r2⟩:=mq r
  clear hg r
  cases r1 <;> cases r2 <;> simp only[fH] at hg1 <;> cases hg1
  exact⟨_,_,rfl,hQ _ fun H'=>.int _⟩
theorem zl{p:Pos}{as:FEs}(hc:X.calm=true)(ml:X.mg "max" = none)(ha:VA X [a,b] as es)(hg:Gl X "max":=by rfl)(he:starEach [a,b] X.env=(false,eval a X.env)::starEach [b] X.env:=by rfl)(hpl:(backTo pos (starEach [b] X.env)).any (·.1)=false:=by rfl):
    VE X (.Call (.Name "max" p) [a,b] [] pos) (eA (cx ef) as) []:=iR (wG hc) zj ml PyProof.Rows.boot_max ha hg (by decide) (by decide) he hpl
theorem zm{p:Pos}{as:FEs}(hc:X.calm=true)(ml:X.mg "min" = none)(ha:VA X [a,b] as es)(hg:Gl X "min":=by rfl)(he:starEach [a,b] X.env=(false,eval a X.env)::starEach [b] X.env:=by rfl)(hpl:(backTo pos (starEach [b] X.env)).any (·.1)=false:=by rfl):
    VE X (.Call (.Name "min" p) [a,b] [] pos) (eA (cx fH) as) []:=iR (wH hc) zk ml PyProof.Rows.boot_min ha hg (by decide) (by decide) he hpl
def tyD:D->String
  | .non=>"NoneType" | .bl _=>"bool" | .int _=>"int" | .str _=>"str" | .lst _=>"list" | .tup _=>"tuple" | .scr _=>"list" | .dct _ _=>"dict" | .ptr _=>"list"
def eg(T:String)(t:String):Bool:=t == T || (T == "int" && t == "bool")
end
end VL
namespace VL
open PySem PySem.Spec PyProof.Rows L2
inductive Out where
  | nx (ρ:ad)
  | rt (d:D)
  | bk (ρ:ad)
  | ct (ρ:ad)
abbrev FS:=ad->Option Out
def zn(σ:St)(O:List Nat):Addr->Prop:=fun a=>∃ i ∈ O,σ[i]?=some (some (V.ref a))
structure Fr0 where
  H0:Hp
  PA:(Addr->Prop)->Prop
  n:Nat
  dom:∀ A,PA A->Dom H0 A
  none:PA dh
structure Hd where
  P:Hp->Prop
  up:∀ H H',Same H H'->P H->P H'
def HdOk(K:PySem.W.Frag)(H:Hp)(p:Hd):Prop:=p.P H
theorem HdOk.mono{K:PySem.W.Frag}{H H':Hp}{p:Hd}(e:Same H H')(h:HdOk K H p):HdOk K H' p:=p.up H H' e h
def hdL(K:PySem.W.Frag)(q:Addr)(xs:List V)(ds:List D):Hd:=⟨fun H=>SqL K H q xs/\Reps K H xs ds,fun _ _ e h=>⟨e.seq h.1,aH e h.2⟩⟩
def hdD(q:Addr)(o:Obj)(kvs:List (Int × Int)):Hd:=⟨fun H=>H q=some (.frz o (.dK (iK kvs))),fun _ _ e h=>e _ _ h⟩
def OwnC(K:PySem.W.Frag)(H:Hp)(o:HO)(d:D):Prop:=(∃ xs ds,o=.lst xs/\d=.lst ds/\Reps K H xs ds)\/∃ kvs,o=.dK (iK kvs)/\d=.dct false kvs
theorem OwnC.mono{K:PySem.W.Frag}{H H':Hp}{o:HO}{d:D}(e:Same H H')(h:OwnC K H o d):OwnC K H' o d:=by
  rcases h with⟨xs,ds,h1,h2,h3⟩ | h
  · exact .inl ⟨xs,ds,h1,h2,aH e h3⟩
  · exact .inr h
theorem OwnC.rep{K:PySem.W.Frag}{H H':Hp}{a:Addr}{o:HO}{d:D}(ha:H a=some o)(h:OwnC K H' o d)(e:Same H' H):Rep K H (.ref a) d:=by
  rcases h with⟨xs,ds,rfl,rfl,h3⟩ | ⟨kvs,rfl,rfl⟩
  · exact .lst (.inl ha) (aH e h3)
  · exact .dct (.inr ⟨rfl,ha⟩)
theorem OwnC.el{K:PySem.W.Frag}{H:Hp}{A:Addr->Prop}{a:Addr}{o:HO}{d:D}(ha:H a=some o)(h:OwnC K (aj H A) o d):ElR K H A (.ref a) d:=by
  rcases h with⟨xs,ds,rfl,rfl,h3⟩ | ⟨kvs,rfl,rfl⟩
  · exact .inr ⟨a,xs,ds,rfl,.inl ⟨rfl,.inl ha⟩,h3⟩
  · exact .inl (.inr ⟨_,rfl⟩)
def Off(σ:St)(O:List Nat)(A:Addr->Prop):Addr->Prop:=fun b=>zn σ O b\/A b
structure EnvO (K:PySem.W.Frag) (F:Fr0) (held:List Hd) (O:List Nat) (σ:St) (ρ:ad) (H:Hp):Prop where
  same:Same F.H0 H
  lσ:σ.length=F.n
  lρ:ρ.length=F.n
  val:∀ i d,ρ[i]?=some (some d)->i ∉ O->∃ v,σ[i]?=some (some v)/\∀ A,F.PA A->Rep K (aj H (Off σ O A)) v d
  hld:∀ p ∈ held,∀ A,F.PA A->HdOk K (aj H (Off σ O A)) p
  own:∀ i ∈ O,∃ a o d,σ[i]?=some (some (V.ref a))/\ρ[i]?=some (some d)/\H a=some o/\F.H0 a=Option.none/\∀ A,F.PA A->OwnC K (aj H (Off σ O A)) o d
  inj:∀ i ∈ O,∀ j ∈ O,∀ a,σ[i]?=some (some (V.ref a))->σ[j]?=some (some (V.ref a))->i=j
section
variable {K:PySem.W.Frag} {F:Fr0} {held:List Hd} {O O':List Nat} {σ:St} {ρ:ad} {H H':Hp}
theorem EnvO.envR(h:EnvO K F held O σ ρ H):EnvR K H σ ρ:=fun i d e=>by
  by_cases hi:i ∈ O
  · obtain⟨a,xs,ds,h1,h2,h3,_,h5⟩:=h.own i hi
    rw[h2] at e;cases e
    exact⟨_,h1,(h5 _ F.none).rep h3 (aQ _ _)⟩
  · obtain⟨v,h1,h2⟩:=h.val i d e hi
    exact⟨v,h1,aw (aQ _ _) (h2 _ F.none)⟩
theorem eI(hs:∀ i ∈ O',i ∈ O){A:Addr->Prop}:∀ b,Off σ O' A b->Off σ O A b:=fun b h=>by
  rcases h with⟨i,hi,e⟩ | h
  · exact .inl ⟨i,hs i hi,e⟩
  · exact .inr h
theorem EnvO.weaken(h:EnvO K F held O σ ρ H)(hs:∀ i ∈ O',i ∈ O):EnvO K F held O' σ ρ H:=by
  have up:∀ {A:Addr->Prop},Same (aj H (Off σ O A)) (aj H (Off σ O' A)):=bC (fun _ _ q=>q) (eI hs)
  refine⟨h.same,h.lσ,h.lρ,fun i d e hi=>?_,fun p hp A hA=>(h.hld p hp A hA).mono up,fun i hi=>?_,fun i hi j hj=>h.inj i (hs i hi) j (hs j hj)⟩
  · by_cases hi':i ∈ O
    · obtain⟨a,xs,ds,h1,h2,h3,h4,h5⟩:=h.own i hi'
      rw[h2] at e;cases e
      refine⟨_,h1,fun A hA=>(h5 A hA).rep ?_ up⟩
      rw[bc]
      · exact h3
      · rintro (⟨j,hj,ej⟩ | q)
        · exact hi (h.inj i hi' j (hs j hj) a h1 ej ▸ hj)
        · exact F.dom A hA a q h4
    · obtain⟨v,h1,h2⟩:=h.val i d e hi'
      exact⟨v,h1,fun A hA=>aw up (h2 A hA)⟩
  · obtain⟨a,xs,ds,h1,h2,h3,h4,h5⟩:=h.own i (hs i hi)
    exact⟨a,xs,ds,h1,h2,h3,h4,fun A hA=>(h5 A hA).mono up⟩
theorem EnvO.up(h:EnvO K F held O σ ρ H)(e:Same H H'):EnvO K F held O σ ρ H' :=
  ⟨h.same.trans e,h.lσ,h.lρ,fun i d q hi=>let ⟨v,h1,h2⟩:=h.val i d q hi;⟨v,h1,fun A hA=>aw (bm e) (h2 A hA)⟩,fun p hp A hA=>(h.hld p hp A hA).mono (bm e),
    fun i hi=>let ⟨a,xs,ds,h1,h2,h3,h4,h5⟩:=h.own i hi;⟨a,xs,ds,h1,h2,e _ _ h3,h4,fun A hA=>(h5 A hA).mono (bm e)⟩,h.inj⟩
theorem EnvO.dom(h:EnvO K F held O σ ρ H){A:Addr->Prop}(hA:F.PA A):Dom H (Off σ O A):=fun b q=>by
  rcases q with⟨i,hi,e⟩ | q
  · obtain⟨a,xs,ds,h1,h2,h3,_⟩:=h.own i hi
    rw[e] at h1;cases h1
    rw[h3];exact fun z=>nomatch z
  · exact ((F.dom A hA).mono h.same) b q
def fI(O:List Nat):Es->Bool
  | .full j=>!O.contains j
  | .el _=>true
theorem EnvO.av(h:EnvO K F held O σ ρ H){A:Addr->Prop}(hA:F.PA A){e:Es}(he:fI O e=true):Av K H σ ρ (Off σ O A) e:=by
  have out:∀ (j:Nat) (v:V) (d:D),j ∉ O->σ[j]?=some (some v)->ρ[j]?=some (some d)->Rep K (aj H (Off σ O A)) v d:=fun j v d hj h1 h2=>by
    obtain⟨v',h3,h4⟩:=h.val j d h2 hj
    rw[h1] at h3;cases h3
    exact h4 A hA
  cases e with
  | full j=>exact fun v d=>out j v d (by simpa [fI] using he)
  | el j =>
    intro v d h1 h2
    by_cases hj:j ∈ O
    · obtain⟨a,xs,ds,h3,h4,h5,_,h6⟩:=h.own j hj
      rw[h1] at h3;cases h3
      rw[h2] at h4;cases h4
      exact (h6 A hA).el h5
    · exact (out j v d hj h1 h2).el
def aW(O:List Nat)(es:List Es):List Nat:=O.filter fun i=>es.all (fI [i])
theorem hJ{es:List Es}:∀ i ∈ aW O es,i ∈ O:=fun i h=>(List.mem_filter.mp h).1
theorem mv{es:List Es}{e:Es}(he:e ∈ es):fI (aW O es) e=true:=by
  cases e with
  | el j=>rfl
  | full j =>
    show (!(aW O es).contains j)=true
    rw[Bool.not_eq_true',Bool.eq_false_iff]
    intro q
    have q':=List.contains_iff_mem.mp q
    have:=List.all_eq_true.mp (List.mem_filter.mp q').2 _ he
    simp[fI] at this
theorem EnvO.eval(h:EnvO K F held O σ ρ H){es:List Es}{d:D}{v:V}(p:Post K σ ρ H es d v H'):EnvO K F held (aW O es) σ ρ H'/\∀ A,F.PA A->Rep K (aj H' (Off σ (aW O es) A)) v d:=by
  have h1:=h.weaken (O':=aW O es) hJ
  exact⟨h1.up p.same,fun A hA=>p.av _ (h1.dom hA) fun e he=>h1.av hA (mv he)⟩
theorem qP{i:Nat}{v:Option V}{A:Addr->Prop}(hi:i ∉ O)(b:Addr):Off (σ.set i v) O A b ↔ Off σ O A b:=by
  have:∀ j ∈ O,(σ.set i v)[j]?=σ[j]?:=fun j hj=>List.getElem?_set_ne (fun (e:i=j)=>hi (e ▸ hj))
  constructor
  · rintro (⟨j,hj,e⟩ | q)
    · exact .inl ⟨j,hj,by rw[this j hj] at e;exact e⟩
    · exact .inr q
  · rintro (⟨j,hj,e⟩ | q)
    · exact .inl ⟨j,hj,by rw[this j hj];exact e⟩
    · exact .inr q
theorem EnvO.set(h:EnvO K F held O σ ρ H){i:Nat}{v:V}{d:D}(hi:i ∉ O)(hv:∀ A,F.PA A->Rep K (aj H (Off σ O A)) v d):EnvO K F held O (σ.set i (some v)) (ρ.set i (some d)) H:=by
  have ne:∀ {j:Nat},j ∈ O->i ≠ j:=fun hj e=>hi (e ▸ hj)
  have up:∀ {A:Addr->Prop},Same (aj H (Off σ O A)) (aj H (Off (σ.set i (some v)) O A)):=bC (fun _ _ q=>q) fun b q=>(qP hi b).mp q
  refine⟨h.same,by rw[List.length_set];exact h.lσ,by rw[List.length_set];exact h.lρ,fun j e q hj=>?_,fun p hp A hA=>(h.hld p hp A hA).mono up,fun j hj=>?_,fun j hj k hk a e1 e2=>?_⟩
  · by_cases e1:j=i
    · subst e1
      have hl:j < ρ.length:=by
        have:=(List.getElem?_eq_some_iff.mp q).1
        rwa [List.length_set] at this
      rw[List.getElem?_set_self hl] at q
      cases q
      exact⟨v,List.getElem?_set_self (by rw[h.lσ,<- h.lρ];exact hl),fun A hA=>aw up (hv A hA)⟩
    · rw[List.getElem?_set_ne (Ne.symm e1)] at q
      obtain⟨v',h1,h2⟩:=h.val j e q hj
      exact⟨v',by rw[List.getElem?_set_ne (Ne.symm e1)];exact h1,fun A hA=>aw up (h2 A hA)⟩
  · obtain⟨a,xs,ds,h1,h2,h3,h4,h5⟩:=h.own j hj
    exact⟨a,xs,ds,by rw[List.getElem?_set_ne (ne hj)];exact h1,by rw[List.getElem?_set_ne (ne hj)];exact h2,h3,h4,fun A hA=>(h5 A hA).mono up⟩
  · rw[List.getElem?_set_ne (ne hj)] at e1
    rw[List.getElem?_set_ne (ne hk)] at e2
    exact h.inj j hj k hk a e1 e2
theorem EnvO.setF(h:EnvO K F held O σ ρ H){es:List Es}{i:Nat}{v:V}{d:D}(p:PostF K σ ρ H es d v H')(hn:i < F.n)(hi:i ∉ O)(he:∀ e ∈ es,fI O e=true):EnvO K F held (i::O) (σ.set i (some v)) (ρ.set i (some d)) H':=by
  obtain⟨l,xs,ds,rfl,rfl,hl,hl',hr⟩:=p.new
  have ne:∀ {j:Nat},j ∈ O->i ≠ j:=fun hj e=>hi (e ▸ hj)
  have at_i:(σ.set i (some (V.ref l)))[i]?=some (some (V.ref l)):=List.getElem?_set_self (by rw[h.lσ];exact hn)
  have off:∀ {A:Addr->Prop} (b:Addr),Off (σ.set i (some (V.ref l))) (i::O) A b ↔ (Off σ O A b\/b=l):=fun {A} b=>by
    constructor
    · rintro (⟨j,hj,e⟩ | q)
      · rcases List.mem_cons.mp hj with e1 | hj
        · subst e1;rw[at_i] at e;cases e;exact .inr rfl
        · rw[List.getElem?_set_ne (ne hj)] at e;exact .inl (.inl ⟨j,hj,e⟩)
      · exact .inl (.inr q)
    · rintro ((⟨j,hj,e⟩ | q) | rfl)
      · exact .inl ⟨j,List.mem_cons_of_mem _ hj,by rw[List.getElem?_set_ne (ne hj)];exact e⟩
      · exact .inr q
      · exact .inl ⟨i,List.mem_cons_self,at_i⟩
  have up:∀ {A:Addr->Prop},Same (aj H (Off σ O A)) (aj H' (Off (σ.set i (some (V.ref l))) (i::O) A)):=fun {A} b o q=>by
    obtain⟨n,q⟩:=cw q
    rw[bc fun z=>((off b).mp z).elim n (bP q hl)]
    exact p.same b o q
  refine⟨h.same.trans p.same,by rw[List.length_set];exact h.lσ,by rw[List.length_set];exact h.lρ,fun j e q hj=>?_,fun z hz A hA=>(h.hld z hz A hA).mono up,fun j hj=>?_,fun j hj k hk a e1 e2=>?_⟩
  · have e1:j ≠ i:=fun e=>hj (e ▸ List.mem_cons_self)
    rw[List.getElem?_set_ne (Ne.symm e1)] at q
    obtain⟨v',h1,h2⟩:=h.val j e q fun z=>hj (List.mem_cons_of_mem _ z)
    exact⟨v',by rw[List.getElem?_set_ne (Ne.symm e1)];exact h1,fun A hA=>aw up (h2 A hA)⟩
  · by_cases e1:j=i
    · subst e1
      refine⟨l,_,_,at_i,List.getElem?_set_self (by rw[h.lρ];exact hn),hl',h.same.free hl,fun A hA=>.inl ⟨xs,ds,rfl,rfl,?_⟩⟩
      exact aH (bC (fun _ _ q=>q) fun b q=>(off b).mp q) (hr _ (h.dom hA) fun e q=>h.av hA (he e q))
    · have hj:j ∈ O:=(List.mem_cons.mp hj).resolve_left e1
      obtain⟨a,ys,es',h1,h2,h3,h4,h5⟩:=h.own j hj
      exact⟨a,ys,es',by rw[List.getElem?_set_ne (Ne.symm e1)];exact h1,by rw[List.getElem?_set_ne (Ne.symm e1)];exact h2,p.same _ _ h3,h4,fun A hA=>(h5 A hA).mono up⟩
  · have key:∀ {m:Nat} {b:Addr},m ∈ O->(σ.set i (some (V.ref l)))[m]?=some (some (V.ref b))->b ≠ l:=fun {m b} hm e z=>by
      subst z
      rw[List.getElem?_set_ne (ne hm)] at e
      obtain⟨a',_,_,h1,_,h3,_⟩:=h.own m hm
      rw[e] at h1;cases h1
      rw[hl] at h3;cases h3
    rcases List.mem_cons.mp hj with e3 | hj' <;> rcases List.mem_cons.mp hk with e4 | hk'
    · rw[e3,e4]
    · rw[e3,at_i] at e1;cases e1;exact absurd rfl (key hk' e2)
    · rw[e4,at_i] at e2;cases e2;exact absurd rfl (key hj' e1)
    · rw[List.getElem?_set_ne (ne hj')] at e1
      rw[List.getElem?_set_ne (ne hk')] at e2
      exact h.inj j hj' k hk' a e1 e2
theorem EnvO.putC(h:EnvO K F held O σ ρ H){i:Nat}{a:Addr}{o':HO}{d':D}(hi:i ∈ O)(ha:σ[i]?=some (some (V.ref a)))(hr:∀ A,F.PA A->OwnC K (aj H (Off σ O A)) o' d'):
    EnvO K F held O σ (ρ.set i (some d')) (upd H a o'):=by
  obtain⟨a',xs,ds,h1,h2,h3,h4,h5⟩:=h.own i hi
  rw[ha] at h1;cases h1
  have up:∀ {A:Addr->Prop},Same (aj H (Off σ O A)) (aj (upd H a o') (Off σ O A)):=fun {A} b o q=>by
    obtain⟨n,q⟩:=cw q
    have ne:b ≠ a:=fun e=>n (.inl ⟨i,hi,e ▸ ha⟩)
    rw[bc n,aC ne]
    exact q
  have hl:i < ρ.length:=(List.getElem?_eq_some_iff.mp h2).1
  refine⟨fun b o q=>?_,h.lσ,by rw[List.length_set];exact h.lρ,fun j e q hj=>?_,fun p hp A hA=>(h.hld p hp A hA).mono up,fun j hj=>?_,h.inj⟩
  · rw[aC (bP q h4)]
    exact h.same b o q
  · have e1:j ≠ i:=fun e=>hj (e ▸ hi)
    rw[List.getElem?_set_ne (Ne.symm e1)] at q
    obtain⟨v',k1,k2⟩:=h.val j e q hj
    exact⟨v',k1,fun A hA=>aw up (k2 A hA)⟩
  · by_cases e1:j=i
    · subst e1
      exact⟨a,_,_,ha,List.getElem?_set_self hl,b5,h4,fun A hA=>(hr A hA).mono up⟩
    · obtain⟨b,zs,es',k1,k2,k3,k4,k5⟩:=h.own j hj
      have ne:b ≠ a:=fun e=>e1 (h.inj j hj i hi a (e ▸ k1) ha)
      exact⟨b,zs,es',k1,by rw[List.getElem?_set_ne (Ne.symm e1)];exact k2,by rw[aC ne];exact k3,k4,fun A hA=>(k5 A hA).mono up⟩
theorem EnvO.put(h:EnvO K F held O σ ρ H){i:Nat}{a:Addr}{ys:List V}{es:List D}(hi:i ∈ O)(ha:σ[i]?=some (some (V.ref a)))(hr:∀ A,F.PA A->Reps K (aj H (Off σ O A)) ys es):
    EnvO K F held O σ (ρ.set i (some (.lst es))) (upd H a (.lst ys)):=h.putC hi ha fun A hA=>.inl ⟨ys,es,rfl,rfl,hr A hA⟩
theorem EnvO.ownL(h:EnvO K F held O σ ρ H){i:Nat}(hi:i ∈ O){ds0:List D}(hd:ρ[i]?=some (some (.lst ds0))):∃ a xs ds,σ[i]?=some (some (V.ref a))/\ρ[i]?=some (some (.lst ds))/\H a=some (.lst xs)/\F.H0 a=Option.none/\∀ A,F.PA A->Reps K (aj H (Off σ O A)) xs ds:=by
  obtain⟨a,o,d,h1,h2,h3,h4,h5⟩:=h.own i hi
  rw[hd] at h2;cases h2
  rcases h5 _ F.none with⟨xs,ds,rfl,e,_⟩ | ⟨kvs,_,e⟩
  · cases e
    refine⟨a,xs,ds0,h1,hd,h3,h4,fun A hA=>?_⟩
    rcases h5 A hA with⟨xs',ds',e1,e2,h6⟩ | ⟨kvs,e1,_⟩
    · cases e1;cases e2;exact h6
    · cases e1
  · cases e
theorem EnvO.hold{p:Hd}(h:EnvO K F held O σ ρ H)(hv:∀ A,F.PA A->HdOk K (aj H (Off σ O A)) p):EnvO K F (p::held) O σ ρ H :=
  ⟨h.same,h.lσ,h.lρ,h.val,fun q hq=>(List.mem_cons.mp hq).elim (fun e=>e ▸ hv) (h.hld q),h.own,h.inj⟩
theorem EnvO.unhold{p:Hd}(h:EnvO K F (p::held) O σ ρ H):EnvO K F held O σ ρ H:=⟨h.same,h.lσ,h.lρ,h.val,fun q hq=>h.hld q (List.mem_cons_of_mem _ hq),h.own,h.inj⟩
end
structure Ret (K:PySem.W.Frag) (F:Fr0) (fr:Bool) (d:D) (v:V) (H':Hp):Prop where
  same:Same F.H0 H'
  rep:∀ A,F.PA A->Rep K (aj H' A) v d
  new:fr=true->∃ l xs ds,v=V.ref l/\d=.lst ds/\F.H0 l=none/\H' l=some (.lst xs)/\∀ A,F.PA A->Reps K (aj H' fun b=>A b\/b=l) xs ds
def tsP(K:PySem.W.Frag)(F:Fr0)(held:List Hd)(O' OL:List Nat)(fr:Bool)(De:Ends):Out->Prop
  | .nx ρ'=>∀ σ' H',EnvO K F held O' σ' ρ' H'->De.nx σ' H'
  | .bk ρ'=>∀ σ' H',EnvO K F held OL σ' ρ' H'->De.bk σ' H'
  | .ct ρ'=>∀ σ' H',EnvO K F held OL σ' ρ' H'->De.ct σ' H'
  | .rt d=>∀ v H',Ret K F fr d v H'->De.rt v H'
def ts(K:PySem.W.Frag)(F:Fr0)(held:List Hd)(O O' OL:List Nat)(fr:Bool)(f:FS):TS:=fun De σ H=>∃ ρ o,EnvO K F held O σ ρ H/\f ρ=some o/\tsP K F held O' OL fr De o
abbrev VS(X:Cx)(F:Fr0)(O:List Nat)(st:Stmt)(f:FS)(O' OL:List Nat)(fr:Bool):Prop:=∀ held,PS X st (ts X.K F held O O' OL fr f)
abbrev VSs(X:Cx)(F:Fr0)(O:List Nat)(st:List Stmt)(f:FS)(O' OL:List Nat)(fr:Bool):Prop:=∀ held,PSs X st (ts X.K F held O O' OL fr f)
theorem b7{X:Cx}{e:Stmt}{t t':TS}(h:PS X e t)(i:∀ De σ H,t' De σ H->t De σ H):PS X e t':=fun pins s σ H De I q=>h pins s σ H De I (i De σ H q)
theorem d9{X:Cx}{e:List Stmt}{t t':TS}(h:PSs X e t)(i:∀ De σ H,t' De σ H->t De σ H):PSs X e t':=fun pins s σ H De I q=>h pins s σ H De I (i De σ H q)
section
variable {X:Cx} {F:Fr0} {O O1 O2 O' OL:List Nat} {fr:Bool} {f g:FS} {st:Stmt} {ar:List Stmt} {pos:Pos} {e:Expr} {fe:FE} {es:List Es}
def eJ:FS:=fun ρ=>some (.nx ρ)
def aE(f g:FS):FS:=fun ρ=>(f ρ).bind fun o=>match o with
  | .nx ρ'=>g ρ'
  | .rt d=>some (.rt d)
  | .bk ρ'=>some (.bk ρ')
  | .ct ρ'=>some (.ct ρ')
theorem zo:VSs X F O [] eJ O OL fr:=fun held=>d9 ph fun De σ H ⟨ρ,o,hE,hf,hQ⟩=>by cases hf;exact hQ σ H hE
theorem zp(h1:VS X F O st f O1 OL fr)(h2:VSs X F O1 ar g O2 OL fr):VSs X F O (st::ar) (aE f g) O2 OL fr:=fun held=>d9 (iE (h1 held) (h2 held)) fun De σ H ⟨ρ,o,hE,hf,hQ⟩=>by
  obtain⟨o1,h1,hf⟩:=bind_some hf
  refine⟨ρ,o1,hE,h1,?_⟩
  cases o1 with
  | nx ρ'=>exact fun σ' H' hE'=>⟨ρ',o,hE',hf,hQ⟩
  | rt d=>cases hf;exact hQ
  | bk ρ'=>cases hf;exact hQ
  | ct ρ'=>cases hf;exact hQ
theorem zq(h1:VS X F O st f O1 OL fr):VSs X F O [st] f O1 OL fr:=fun held=>d9 (lP (h1 held)) fun De σ H h=>h
theorem fJ(h:VSs X F O ar f O1 OL fr)(hs:∀ i ∈ O',i ∈ O1):VSs X F O ar f O' OL fr:=fun held=>d9 (h held) fun De σ H ⟨ρ,o,hE,hf,hQ⟩=>⟨ρ,o,hE,hf,by
  cases o with
  | nx ρ'=>exact fun σ' H' hE'=>hQ σ' H' (hE'.weaken hs)
  | rt d=>exact hQ
  | bk ρ'=>exact hQ
  | ct ρ'=>exact hQ⟩
def sIf(t:ad->Option Bool)(f g:FS):FS:=fun ρ=>(t ρ).bind fun b=>if b=true then f ρ else g ρ
theorem zr{c:Expr}{tc:ad->Option Bool}{a b:List Stmt}(hc:VT X c tc)(ha:VSs X F O a f O1 OL fr)(hb:VSs X F O b g O2 OL fr)(h1:∀ i ∈ O',i ∈ O1:=by decide)(h2:∀ i ∈ O',i ∈ O2:=by decide):VS X F O (.If c a b pos) (sIf tc f g) O' OL fr:=fun held =>
  b7 (pj hc (fJ ha h1 held) (fJ hb h2 held)) fun De σ H ⟨ρ,o,hE,hf,hQ⟩=>by
    obtain⟨k,h1,hf⟩:=bind_some hf
    refine⟨ρ,k,hE.envR,h1,fun H1 e1=>?_⟩
    cases k with
    | true=>exact dX ⟨ρ,o,hE.up e1,hf,hQ⟩
    | false=>exact dW ⟨ρ,o,hE.up e1,hf,hQ⟩
def aO(f:FE):FS:=fun ρ=>(f ρ).map .rt
theorem mw{f:FE}{ρ:ad}{o:Out}(h:aO f ρ=some o):∃ d,f ρ=some d/\o=.rt d:=by
  unfold aO at h
  cases e:f ρ with
  | none=>rw[e] at h;cases h
  | some d=>rw[e] at h;cases h;exact⟨d,rfl,rfl⟩
theorem mz{σ:St}{A:Addr->Prop}{H:Hp}:Same (aj H (Off σ O A)) (aj H A):=bC (fun _ _ q=>q) fun _ q=>.inr q
theorem zt(he:VE X e fe es):VS X F O (.Return (some e) pos) (aO fe) O' OL false:=fun held=>b7 (gM he) fun De σ H ⟨ρ,o,hE,hf,hQ⟩=>by
  obtain⟨d,h1,rfl⟩:=mw hf
  refine⟨ρ,d,hE.envR,h1,fun v H' p=>hQ v H' ?_⟩
  obtain⟨hE',hr⟩:=hE.eval p
  exact⟨hE'.same,fun A hA=>aw mz (hr A hA),fun z=>nomatch z⟩
theorem zu(he:VF X e fe es):VS X F O (.Return (some e) pos) (aO fe) O' OL fr:=fun held=>b7 (gM he) fun De σ H ⟨ρ,o,hE,hf,hQ⟩=>by
  obtain⟨d,h1,rfl⟩:=mw hf
  refine⟨ρ,d,hE.envR,h1,fun v H' p=>hQ v H' ?_⟩
  obtain⟨hE',hr⟩:=hE.eval (p.post hE.envR)
  refine⟨hE'.same,fun A hA=>aw mz (hr A hA),fun _=>?_⟩
  obtain⟨l,xs,ds,e1,e2,hl,hl',hA⟩:=p.new
  have h1:=hE.weaken (O':=aW O es) hJ
  exact⟨l,xs,ds,e1,e2,hE.same.free hl,hl',fun A hPA=>aH (bC (fun _ _ q=>q) fun b q=>q.elim (fun z=>.inl (.inr z)) .inr) (hA _ (h1.dom hPA) fun e he=>h1.av hPA (mv he))⟩
def eL(f:FE):FE:=fun ρ=>(f ρ).bind fun d=>match d with
  | .lst ds=>some (.lst ds)
  | _=>none
theorem zv{f:FE}{ρ:ad}{d:D}(h:eL f ρ=some d):∃ ds,d=.lst ds/\f ρ=some (.lst ds):=by
  obtain⟨x,h1,h2⟩:=bind_some h
  cases x with
  | lst ds=>cases h2;exact⟨ds,rfl,h1⟩
  | _=>cases h2
theorem zw(i:Nat){x:Str}{p2:Pos}(hi:i ∈ O:=by decide)(hN:X.N[i]?=some x:=by rfl)(hv:Vis X.env.scope x:=by first | exact Or.inl rfl | exact Or.inr (Or.inl rfl) | exact Or.inr (Or.inr rfl))(hd:(x == ("__debug__" : Str))=false:=by decide)(hcd:(x == ("__classdict__" : Str))=false:=by decide):VS X F O (.Return (some (.Name x p2)) pos) (aO (eL (aa i))) O' OL fr:=fun held=>b7 (gM (dR hN hv hd hcd)) fun De σ H ⟨ρ,o,hE,hf,hQ⟩=>by
  obtain⟨d,h1,rfl⟩:=mw hf
  obtain⟨ds0,e0,h10⟩:=zv h1
  subst e0
  have h2:=dZ h10
  obtain⟨a,xs,ds,k1,k2,k3,k4,k5⟩:=hE.ownL hi h2
  rw[k2] at h2;cases h2
  refine⟨_,k1,hQ _ H ⟨hE.same,fun A hA=>?_,fun _=>⟨a,xs,_,rfl,rfl,k4,k3,fun A hA=>?_⟩⟩⟩
  · refine .lst (.inl ?_) (aH mz (k5 A hA))
    rw[bc fun q=>F.dom A hA a q k4]
    exact k3
  · exact aH (bC (fun _ _ q=>q) fun b q=>q.elim .inr fun z=>.inl ⟨i,hi,z ▸ k1⟩) (k5 A hA)
def aR(i:Nat)(f:FE):FS:=fun ρ=>(f ρ).map fun d=>.nx (ρ.set i (some d))
theorem ko{i:Nat}{f:FE}{ρ:ad}{o:Out}(h:aR i f ρ=some o):∃ d,f ρ=some d/\o=.nx (ρ.set i (some d)):=by
  unfold aR at h
  cases e:f ρ with
  | none=>rw[e] at h;cases h
  | some d=>rw[e] at h;cases h;exact⟨d,rfl,rfl⟩
def hU(O:List Nat)(i:Nat):List Nat:=O.filter fun j=>j != i
theorem kq{i:Nat}:∀ j ∈ hU O i,j ∈ O:=fun j h=>(List.mem_filter.mp h).1
theorem qQ{i:Nat}:i ∉ hU O i:=fun h=>by simpa using (List.mem_filter.mp h).2
theorem zx(i:Nat){x:Str}{p2:Pos}(hN:X.N.Nodup)(he:VE X e fe es)(hi:X.N[i]?=some x:=by rfl)(hx:Loc X.env.scope x:=by first | exact Or.inl rfl | exact Or.inr rfl)(hs:swapsWith e (some (.Name x p2)) pos.line X.env=pure false:=by rfl)(hfn:X.fn x=true\/X.env.scope.names.lookup x=some .local:=by first | exact .inl rfl | exact .inr rfl):VS X F O (.Assign [.Name x p2] e pos) (aR i fe) (hU (aW O es) i) OL fr:=fun held =>
  b7 (jO hN hi hx he hs hfn) fun De σ H ⟨ρ,o,hE,hf,hQ⟩=>by
    obtain⟨d,h1,rfl⟩:=ko hf
    refine⟨ρ,d,hE.envR,h1,fun v H' p=>hQ _ _ ?_⟩
    obtain⟨hE',hr⟩:=hE.eval p
    exact (hE'.weaken kq).set qQ fun A hA=>aw (bC (fun _ _ q=>q) (eI kq)) (hr A hA)
theorem zy(i:Nat){x:Str}{p2:Pos}(hN:X.N.Nodup)(he:VF X e fe es)(hn:i < F.n)(hi:X.N[i]?=some x:=by rfl)(hx:Loc X.env.scope x:=by first | exact Or.inl rfl | exact Or.inr rfl)(hs:swapsWith e (some (.Name x p2)) pos.line X.env=pure false:=by rfl)(hfn:X.fn x=true\/X.env.scope.names.lookup x=some .local:=by first | exact .inl rfl | exact .inr rfl):VS X F O (.Assign [.Name x p2] e pos) (aR i fe) (i::hU (aW O es) i) OL fr:=fun held =>
  b7 (jO hN hi hx he hs hfn) fun De σ H ⟨ρ,o,hE,hf,hQ⟩=>by
    obtain⟨d,h1,rfl⟩:=ko hf
    refine⟨ρ,d,hE.envR,h1,fun v H' p=>hQ _ _ ?_⟩
    refine (hE.weaken fun j hj=>hJ j (kq j hj)).setF p hn qQ fun z hz=>?_
    have:=mv (O:=O) hz
    cases z with
    | el j=>rfl
    | full j =>
      simp only[fI,Bool.not_eq_true',List.contains_eq_mem,decide_eq_false_iff_not] at this ⊢
      exact fun q=>this (kq j q)
end
end VL
namespace VL
open PySem PySem.Spec PyProof.Rows L2
section
variable {X:Cx} {F:Fr0} {O O1 O2 O' OL:List Nat} {fr:Bool} {f g:FS} {st:Stmt} {ar:List Stmt} {pos p2 p3:Pos} {e a b:Expr} {fe fa fb:FE} {es ea eb:List Es}
def hV(i:Nat)(f:FE):FS:=fun ρ=>(aa i ρ).bind fun x=>match x with
  | .lst ds=>(f ρ).bind fun d=>if ds.length < 100000 then some (.nx (ρ.set i (some (.lst (ds++[d]))))) else none
  | _=>none
theorem zz(i:Nat){x:Str}{ap cp:Pos}(he:VE X e fe es)(hi:i ∈ aW O es:=by decide)(hN:X.N[i]?=some x:=by rfl)(hv:Vis X.env.scope x:=by first | exact Or.inl rfl | exact Or.inr (Or.inl rfl) | exact Or.inr (Or.inr rfl))(hd:(x == ("__debug__" : Str))=false:=by decide)(hcd:(x == ("__classdict__" : Str))=false:=by decide)(hbase:attributeBase (.Name x p2) "append" X.env (eval (.Name x p2) X.env)=eval (.Name x p2) X.env:=by rfl)(hfew:((backTo cp (starEach [e] X.env)).all (fun x=>!x.1) && (backToKw cp (keywordEach [] X.env)).all (fun x=>x.1.isSome)
      && decide (([e]:List Expr).length+([]:List Keyword).length+(if ([]:List Keyword).isEmpty then 0 else 1) < 30))=true:=by rfl)(hline:(ap.endLine == cp.line)=true:=by rfl)(hs:starEach [e] X.env=(false,eval e X.env)::starEach [] X.env:=by rfl)(hplain:(backTo cp (starEach [] X.env)).any (·.1)=false:=by rfl)(hsw:swapsWith (.Call (.Attribute (.Name x p2) "append" ap) [e] [] cp) none pos.line X.env=pure false:=by rfl):
    VS X F O (.Expr (.Call (.Attribute (.Name x p2) "append" ap) [e] [] cp) pos) (hV i fe) (aW O es) OL fr:=fun held =>
  b7 (iF (jV PySem.F.plainAttrs_list PySem.F.slot_list_append PySem.F.type_list_append m8 (dR hN hv hd hcd) (bK he ce hs) hbase hfew hline hs hplain) hsw) fun De σ H ⟨ρ,o,hE,hf,hQ⟩=>by
    obtain⟨x,h1,hf⟩:=bind_some hf
    have h1:=dZ h1
    obtain⟨ds0,rfl⟩:∃ ds0,x=.lst ds0:=by cases x <;> first | exact⟨_,rfl⟩ | cases hf
    obtain⟨a,xs,ds,k1,k2,k3,k4,k5⟩:=hE.ownL (hJ i hi) h1
    rw[k2] at h1;cases h1
    obtain⟨d,h2,hf⟩:=bind_some hf
    obtain⟨hl,rfl⟩:=bW hf
    refine⟨_,k1,.inl ⟨rfl,xs,.inl (.inl k3)⟩,ρ,d,hE.envR,h2,fun v H1 p=>?_⟩
    obtain⟨hE1,hr⟩:=hE.eval p
    obtain⟨a',ys,ds',m1,m2,m3,m4,m5⟩:=hE1.ownL hi k2
    rw[k1] at m1;cases m1
    rw[k2] at m2;cases m2
    have e3:=p.same _ _ k3
    have e4:xs=ys:=by rw[m3] at e3;cases e3;rfl
    subst e4
    have len:=(m5 _ F.none).length
    refine⟨a,xs,v,rfl,rfl,m3,Nat.lt_of_lt_of_le (show xs.length < 100000 by omega) (by decide),hQ σ _ ?_⟩
    exact hE1.put hi k1 fun A hA=>(m5 A hA).append (.cons (hr A hA) .nil)
def iT(i:Nat)(ix f:FE):FS:=fun ρ=>(f ρ).bind fun d=>(aa i ρ).bind fun x=>match x with
  | .lst ds=>(ix ρ).bind fun k=>match k with
    | .int k=>(ixN ds.length k).bind fun j=>some (.nx (ρ.set i (some (.lst (ds.set j d)))))
    | _=>none
  | _=>none
theorem zA(i:Nat){x:Str}(he:VE X e fe es)(hb:VE X b fb eb)(hi:i ∈ aW O es:=by decide)(hN:X.N[i]?=some x:=by rfl)(hv:Vis X.env.scope x:=by first | exact Or.inl rfl | exact Or.inr (Or.inl rfl) | exact Or.inr (Or.inr rfl))(hd:(x == ("__debug__" : Str))=false:=by decide)(hcd:(x == ("__classdict__" : Str))=false:=by decide)(ha:∀ v,assign (.Subscript (.Name x p2) b p3) X.env v=(do
      let ov <- holding [v] (eval (.Name x p2) X.env)
      let iv <- holding [v,ov] (eval b X.env)
      standAt p3
      holding [v,ov,iv] (setItem ov iv v)
      release [v,ov,iv] []):=by intro _;rfl)(hs:swapsWithSole [.Subscript (.Name x p2) b p3] e pos.line X.env=pure false:=by rfl)(hw:swappedStores [.Subscript (.Name x p2) b p3] e X.env=pure none:=by rfl)(h1:(assignEach [.Subscript (.Name x p2) b p3] X.env).map (·.2)=[assign (.Subscript (.Name x p2) b p3) X.env]:=by rfl):
    VS X F O (.Assign [.Subscript (.Name x p2) b p3] e pos) (iT i fb fe) (aW O es) OL fr:=fun held =>
  b7 (jN he (pw (dR hN hv hd hcd) hb qj ha) hs hw h1) fun De σ H ⟨ρ,o,hE,hf,hQ⟩=>by
    obtain⟨d,h2,hf⟩:=bind_some hf
    obtain⟨x,h1,hf⟩:=bind_some hf
    have h1:=dZ h1
    refine⟨ρ,d,hE.envR,h2,fun v H1 p=>?_⟩
    obtain⟨hE1,hr⟩:=hE.eval p
    obtain⟨ds0,rfl⟩:∃ ds0,x=.lst ds0:=by cases x <;> first | exact⟨_,rfl⟩ | cases hf
    obtain⟨a,ys,ds,m1,m2,m3,m4,m5⟩:=hE1.ownL hi h1
    rw[m2] at h1;cases h1
    obtain⟨k,h3,hf⟩:=bind_some hf
    refine⟨_,m1,ρ,k,hE1.envR,h3,fun w H2 p2=>?_⟩
    cases k with
    | int k =>
      cases p2.rep
      obtain⟨j,h4,hf⟩:=bind_some hf
      cases hf
      have len:=(m5 _ F.none).length
      have hE2:=hE1.up p2.same
      refine⟨a,ys,k,j,rfl,rfl,p2.same _ _ m3,by rw[len];exact h4,hQ σ _ ?_⟩
      exact hE2.put hi m1 fun A hA=>Reps.set (aw (bm p2.same) (hr A hA)) j (aH (bm p2.same) (m5 A hA))
    | _=>cases hf
def hW(is:List Nat)(f:FE):FS:=fun ρ=>(f ρ).bind fun d=>match d with
  | .tup ds=>if ds.length=is.length then some (.nx ((is.zip ds).foldl (fun r p=>r.set p.1 (some p.2)) ρ)) else none
  | _=>none
inductive Tgs (X:Cx):List Expr->List Nat->Prop where
  | nil:Tgs X [] []
  | cons {i:Nat} {x:Str} {p:Pos} {es:List Expr} {is:List Nat} (hi:X.N[i]?=some x) (hx:Loc X.env.scope x) (hf:X.fn x=true\/X.env.scope.names.lookup x=some .local) (t:Tgs X es is)
      (hs:(assignEach (.Name x p::es) X.env).map (·.2)=assign (.Name x p) X.env::(assignEach es X.env).map (·.2)):Tgs X (.Name x p::es) (i::is)
def eh:List Nat->TGs
  | []=>pp
  | i::is=>pv (bQ i) (eh is)
theorem Tgs.ok(hN:X.N.Nodup):∀ {es:List Expr} {is:List Nat},Tgs X es is->PGs X es (eh is)
  | _,_,.nil=>wk
  | _,_,.cons hi hx hf t hs=>wl (bH hN hi hx hf) (Tgs.ok hN t) hs
theorem mB{K:PySem.W.Frag}{held:List Hd}{Q:St->Hp->Prop}:∀ {is:List Nat} {xs:List V} {ds:List D} {σ:St} {ρ:ad} {H:Hp},EnvO K F held O σ ρ H->(∀ i ∈ is,i ∉ O)->is.length=ds.length->(∀ A,F.PA A->Reps K (aj H (Off σ O A)) xs ds) ->
    (∀ σ' H',EnvO K F held O σ' ((is.zip ds).foldl (fun r p=>r.set p.1 (some p.2)) ρ) H'->Q σ' H')->eh is xs σ H Q
  | [],xs,ds,σ,ρ,H,hE,_,hl,hr,hQ=>by
    cases ds with
    | nil=>cases hr _ F.none;exact⟨rfl,hQ σ H hE⟩
    | cons _ _=>cases hl
  | i :: is,xs,ds,σ,ρ,H,hE,hO,hl,hr,hQ=>by
    cases ds with
    | nil=>cases hl
    | cons d ds =>
      cases xs with
      | nil=>cases hr _ F.none
      | cons v xs =>
        have hi:=hO i List.mem_cons_self
        have h1:∀ A,F.PA A->Rep K (aj H (Off σ O A)) v d:=fun A hA=>by cases hr A hA with | cons h _=>exact h
        have h2:∀ A,F.PA A->Reps K (aj H (Off (σ.set i (some v)) O A)) xs ds:=fun A hA=>aH (bC (fun _ _ q=>q) fun b q=>(qP hi b).mp q) (by cases hr A hA with | cons _ h=>exact h)
        exact⟨v,xs,rfl,mB (hE.set hi h1) (fun j hj=>hO j (List.mem_cons_of_mem _ hj)) (by simpa using hl) h2 hQ⟩
theorem mC{K:PySem.W.Frag}{H:Hp}{v:V}{ds:List D}(r:Rep K H v (.tup ds)):∃ p xs,v=V.ref p/\Rd H p (.tup xs)/\Reps K H xs ds:=by
  cases r with
  | @tup p xs _ h1 h2=>exact⟨p,xs,rfl,h1,h2⟩
theorem qR{K:PySem.W.Frag}{H:Hp}{A:Addr->Prop}{p:Addr}{xs:List V}{ds:List D}(h1:Rd H p (.tup xs))(r:Rep K (aj H A) (.ref p) (.tup ds)):Reps K (aj H A) xs ds:=by
  cases r with
  | tup h2 h3=>rw[iL h1 (cW (aQ H A) h2)];exact h3
theorem zB(is:List Nat){ts:List Expr}{k:Nat}(hc:X.calm=true)(hN:X.N.Nodup)(he:VE X e fe es)(ht:Tgs X ts is)(hO:∀ i ∈ is,i ∉ O')(hO2:∀ i ∈ O',i ∈ aW O es)(hn:(assignEach ts X.env).length=is.length:=by rfl)(hst:(assignEach ts X.env).findIdx? (·.1)=none:=by rfl)(hs:swapsWithSole [.Tuple ts k p2] e pos.line X.env=pure false:=by rfl)(hw:swappedStores [.Tuple ts k p2] e X.env=pure none:=by rfl)(h1:(assignEach [.Tuple ts k p2] X.env).map (·.2)=[assign (.Tuple ts k p2) X.env]:=by rfl):VS X F O (.Assign [.Tuple ts k p2] e pos) (hW is fe) O' OL fr:=fun held =>
  b7 (jN he (fw hc (Tgs.ok hN ht) hn hst) hs hw h1) fun De σ H ⟨ρ,o,hE,hf,hQ⟩=>by
    obtain⟨d,h2,hf⟩:=bind_some hf
    refine⟨ρ,d,hE.envR,h2,fun v H1 p=>?_⟩
    obtain⟨hE1,hr⟩:=hE.eval p
    cases d with
    | tup ds =>
      obtain⟨hl,rfl⟩:=bW hf
      obtain⟨q,xs,rfl,hq,hx⟩:=mC p.rep
      have up:∀ {A:Addr->Prop},Same (aj H1 (Off σ (aW O es) A)) (aj H1 (Off σ O' A)):=bC (fun _ _ q=>q) (eI hO2)
      refine⟨q,xs,rfl,.inl hq,by rw[hx.length];exact hl,mB (hE1.weaken hO2) hO hl.symm (fun A hA=>aH up (qR hq (hr A hA))) hQ⟩
    | _=>cases hf
def aZ(body:D->FS):List D->FS
  | [],ρ=>some (.nx ρ)
  | x::r,ρ=>(body x ρ).bind fun o=>match o with
    | .nx ρ'=>aZ body r ρ'
    | .ct ρ'=>aZ body r ρ'
    | .bk ρ'=>some (.nx ρ')
    | .rt d=>some (.rt d)
theorem fK{body:D->FS}{x:D}{r:List D}{ρ:ad}:aZ body (x::r) ρ=(body x ρ).bind fun o=>match o with
    | .nx ρ'=>aZ body r ρ'
    | .ct ρ'=>aZ body r ρ'
    | .bk ρ'=>some (.nx ρ')
    | .rt d=>some (.rt d):=rfl
theorem iU{K:PySem.W.Frag}{held held':List Hd}{De:Ends}{d:D}{ds:List D}{o:Out}{ρ:ad}{body:D->FS}{N:St->Hp->Prop}{o1:Out}{OL':List Nat}(h1:body d ρ=some o1)(hf:aZ body (d::ds) ρ=some o)(hQ:tsP K F held OL OL' fr De o)(hh:∀ σ ρ H,EnvO K F held' OL σ ρ H->EnvO K F held OL σ ρ H)(hN:∀ σ' H' ρ',EnvO K F held' OL σ' ρ' H'->aZ body ds ρ'=some o->N σ' H'):tsP K F held' OL OL fr { De with nx:=N,ct:=N,bk:=De.nx } o1:=by
  rw[fK,h1] at hf
  cases o1 with
  | nx ρ'=>exact fun σ' H' hE'=>hN σ' H' ρ' hE' hf
  | ct ρ'=>exact fun σ' H' hE'=>hN σ' H' ρ' hE' hf
  | bk ρ'=>cases hf;exact fun σ' H' hE'=>hQ σ' H' (hh _ _ _ hE')
  | rt d'=>cases hf;exact hQ
theorem iV{K:PySem.W.Frag}{H:Hp}{v:V}{d:D}{ds:List D}{σ:St}(hr:∀ A,F.PA A->Rep K (aj H (Off σ O A)) v d)(hds:items d=some ds)(ht:ck d=false):
    ∃ q xs,v=V.ref q/\∀ A,F.PA A->HdOk K (aj H (Off σ O A)) (hdL K q xs ds):=by
  have h0:=hr _ F.none
  cases h0 with
  | @lst q xs ds' h1 h2 =>
    cases hds
    refine⟨q,xs,rfl,fun A hA=>?_⟩
    cases hr A hA with
    | @lst _ ys _ h3 h4 =>
      have e:=gN (cW (aQ _ _) h1) (cW (aQ _ _) h3)
      subst e
      exact⟨.inl h3,h4⟩
  | @scr q ns h1 =>
    cases hds
    refine⟨q,ns.map V.int,rfl,fun A hA=>?_⟩
    cases hr A hA with
    | scr h3=>exact⟨h3,Reps.ints ns⟩
  | tup _ _=>cases ht
  | _=>cases hds
def iW(t:Nat)(it:FE)(tb:FS):FS:=fun ρ=>(it ρ).bind fun d=>if ck d=true then none else (items d).bind fun ds=>aZ (fun x ρ=>tb (ρ.set t (some x))) ds ρ
theorem zC(t:Nat){x:Str}{iter:Expr}{body:List Stmt}{fi:FE}{ei:List Es}{tb:FS}(Ol:List Nat)(hN:X.N.Nodup)(hc:X.calm=true)(hi:VE X iter fi ei)(hb:VSs X F Ol body tb O2 Ol fr)(h1:∀ i ∈ Ol,i ∈ aW O ei:=by decide)(h2:∀ i ∈ Ol,i ∈ O2:=by decide)(h3:t ∉ Ol:=by decide)(hp:PassesOwn (model X.prog X.w) X.A X.env X.xe:=by exact PassesOwn.never)(hxN:X.N[t]?=some x:=by rfl)(hx:Loc X.env.scope x:=by first | exact Or.inl rfl | exact Or.inr rfl)(hfn:X.fn x=true\/X.env.scope.names.lookup x=some .local:=by first | exact .inl rfl | exact .inr rfl)(hs:∀ x,foldedSetIterable iter X.env x=pure x:=by intro _;rfl):VS X F O (.For (.Name x p2) iter body [] pos) (iW t fi tb) Ol OL fr:=fun held=>by
  have hb':PSs X body (fun De σ H=>∃ p:Hd,ts X.K F (p::held) Ol Ol Ol fr tb De σ H):=fun pins s σ H De I ⟨p,h⟩=>fJ hb h2 (p::held) pins s σ H De I h
  refine b7 (dS hp hc (jQ hi) (bH hN hxN hx hfn) hb' hs) fun De σ H h=>?_
  obtain⟨ρ,o,hE,hf,hQ⟩:=h
  obtain⟨d,hd,hf⟩:=bind_some hf
  cases ht:ck d with
  | true=>rw[if_pos ht] at hf;cases hf
  | false =>
    rw[if_neg (by rw[ht];exact Bool.false_ne_true)] at hf
    obtain⟨ds,hds,hf⟩:=bind_some hf
    refine⟨ρ,d,hE.envR,hd,fun v H1 p=>?_⟩
    obtain⟨hE1,hr⟩:=hE.eval p
    have hE2:=hE1.weaken h1
    have hr2:∀ A,F.PA A->Rep X.K (aj H1 (Off σ Ol A)) v d:=fun A hA=>aw (bC (fun _ _ q=>q) (eI h1)) (hr A hA)
    obtain⟨q,xs,rfl,hq⟩:=iV hr2 hds ht
    have len:xs.length=ds.length:=(hq _ F.none).2.length
    refine⟨q,rfl,⟨xs,(aQ _ _).seq (hq _ F.none).1⟩,?_⟩
    refine pC (K:=X.K) (a:=q) (xs:=xs) (g:=bQ t) (tb:=fun De σ H=>∃ p:Hd,ts X.K F (p::held) Ol Ol Ol fr tb De σ H) (D:=De) (fun i σ' H'=>∃ ρ',EnvO X.K F (hdL X.K q xs ds::held) Ol σ' ρ' H'/\aZ (fun x ρ=>tb (ρ.set t (some x))) (ds.drop i) ρ'=some o) ⟨ρ,hE2.hold hq,by simpa using hf⟩ ?_ ?_ ?_
    · rintro i σ' H' _ ⟨ρ',hE',_⟩
      exact (aQ _ _).seq (hE'.hld _ List.mem_cons_self _ F.none).1
    · rintro i y σ' H' hy ⟨ρ',hE',hf'⟩
      obtain⟨dy,h4,_⟩:=(hE'.hld _ List.mem_cons_self _ F.none).2.getV hy
      have h5:∀ A,F.PA A->Rep X.K (aj H' (Off σ' Ol A)) y dy:=fun A hA=>by
        obtain⟨dy',h6,h7⟩:=(hE'.hld _ List.mem_cons_self A hA).2.getV hy
        rw[h4] at h6;cases h6;exact h7
      have hi':i < ds.length:=(List.getElem?_eq_some_iff.mp h4).1
      have ed:ds.drop i=dy::ds.drop (i+1):=by
        rw[List.drop_eq_getElem_cons hi']
        have e2:ds[i]=dy:=(List.getElem?_eq_some_iff.mp h4).2
        rw[e2]
      rw[ed] at hf'
      have hf2:=hf'
      rw[fK] at hf2
      obtain⟨o1,h8,_⟩:=bind_some hf2
      refine⟨hdL X.K q xs ds,ρ'.set t (some dy),o1,hE'.set h3 h5,h8,?_⟩
      exact iU h8 hf' hQ (fun _ _ _ z=>z.unhold) fun σ'' H'' ρ'' hE'' hf''=>⟨ρ'',hE'',hf''⟩
    · rintro σ' H' ⟨ρ',hE',hf'⟩
      rw[len,List.drop_length] at hf'
      cases hf'
      exact hQ σ' H' hE'.unhold
def cg(lo:Int)(n:Nat):List D:=(List.range n).map fun (k:Nat)=>.int (lo+k)
theorem zD{lo:Int}{n i:Nat}(h:i < n):(cg lo n).drop i=.int (lo+i)::(cg lo n).drop (i+1):=by
  have hl:i < (cg lo n).length:=by simpa [cg] using h
  rw[List.drop_eq_getElem_cons hl]
  simp[cg]
def okR(j:Int):Prop:=-4611686018427387904<=j/\j < 4611686018427387904
instance (j:Int):Decidable (okR j):=inferInstanceAs (Decidable (_/\_))
def eo(t:Nat)(as:FEs)(tb:FS):FS:=fun ρ=>(as ρ).bind fun ds=>match ds with
  | [.int j]=>if okR j then aZ (fun x ρ=>tb (ρ.set t (some x))) (cg 0 j.toNat) ρ else none
  | _=>none
theorem zE{K:PySem.W.Frag}{held:List Hd}{De:Ends}{o:Out}{ρ:ad}{σ:St}{H:Hp}{lo:Int}{n t:Nat}{Ol OL':List Nat}{tb:FS}(hE:EnvO K F held Ol σ ρ H)(h3:t ∉ Ol)(hf:aZ (fun x ρ=>tb (ρ.set t (some x))) (cg lo n) ρ=some o)(hQ:tsP K F held Ol OL' fr De o):
    ∃ W:Nat->Nat->St->Hp->Prop,(∃ m,W 0 m σ H)/\∀ i m σ H,W i m σ H ->
      ((Itr lo n).stop i H/\De.nx σ H)\/((Itr lo n).go i H/\∃ N:St->Hp->Prop,(∀ σ' H',N σ' H'->∃ m',m' < m/\W (i+1) m' σ' H')/\∀ x H',(Itr lo n).yld i H x H'->bQ t x σ H' fun σ2 H2=>ts K F held Ol Ol Ol fr tb { De with nx:=N,ct:=N,bk:=De.nx } σ2 H2):=by
  refine pE (lo:=lo) (n:=n) (g:=bQ t) (tb:=ts K F held Ol Ol Ol fr tb) (D:=De) (fun i σ' H'=>∃ ρ',EnvO K F held Ol σ' ρ' H'/\aZ (fun x ρ=>tb (ρ.set t (some x))) ((cg lo n).drop i) ρ'=some o) ⟨ρ,hE,by simpa using hf⟩ ?_ ?_
  · rintro i σ' H' hi ⟨ρ',hE',hf'⟩
    rw[zD hi] at hf'
    have hf2:=hf'
    rw[fK] at hf2
    obtain⟨o1,h8,_⟩:=bind_some hf2
    refine⟨ρ'.set t (some (.int (lo+i))),o1,hE'.set h3 fun A hA=>.int _,h8,?_⟩
    exact iU h8 hf' hQ (fun _ _ _ z=>z) fun σ'' H'' ρ'' hE'' hf''=>⟨ρ'',hE'',hf''⟩
  · rintro σ' H' ⟨ρ',hE',hf'⟩
    rw[List.drop_eq_nil_of_le (by simp[cg])] at hf'
    cases hf'
    exact hQ σ' H' hE'
theorem EnvO.evals{K:PySem.W.Frag}{held:List Hd}{σ:St}{ρ:ad}{H H':Hp}(h:EnvO K F held O σ ρ H){ds:List D}{vs:List V}(p:Posts K σ ρ H es ds vs H'):EnvO K F held O σ ρ H':=h.up p.same
theorem zF(t:Nat){x:Str}{a:Expr}{body:List Stmt}{as:FEs}{ei:List Es}{tb:FS}{pr pn:Pos}(Ol:List Nat)(hN:X.N.Nodup)(hc:X.calm=true)(mr:X.mg "range" = none)(hi:VA X [a] as ei)(hb:VSs X F Ol body tb O2 Ol fr)(h1:∀ i ∈ Ol,i ∈ O:=by decide)(h2:∀ i ∈ Ol,i ∈ O2:=by decide)(h3:t ∉ Ol:=by decide)(hp:PassesOwn (model X.prog X.w) X.A X.env X.xe:=by exact PassesOwn.never)(hg:Gl X "range":=by rfl)(hst:starEach [a] X.env=[(false,eval a X.env)]:=by rfl)(hxN:X.N[t]?=some x:=by rfl)(hx:Loc X.env.scope x:=by first | exact Or.inl rfl | exact Or.inr rfl)(hfn:X.fn x=true\/X.env.scope.names.lookup x=some .local:=by first | exact .inl rfl | exact .inr rfl)(hs:∀ x,foldedSetIterable (.Call (.Name "range" pn) [a] [] pr) X.env x=pure x:=by intro _;rfl):VS X F O (.For (.Name x p2) (.Call (.Name "range" pn) [a] [] pr) body [] pos) (eo t as tb) Ol OL fr:=fun held=>by
  refine b7 (dS hp hc (jR hg mr hi hst) (bH hN hxN hx hfn) (fJ hb h2 held) hs) fun De σ H h=>?_
  obtain⟨ρ,o,hE,hf,hQ⟩:=h
  obtain⟨ds,hd,hf⟩:=bind_some hf
  refine⟨ρ,ds,hE.envR,hd,fun vs H1 p=>?_⟩
  have hE1:=(hE.evals p).weaken h1
  match ds,hf,p with
  | [.int j],hf,p =>
    by_cases hj:okR j
    · simp only[if_pos hj] at hf
      obtain⟨v,rfl,r⟩:=e9 p.rep
      cases r
      exact⟨j,rfl,hj.1,hj.2,zE hE1 h3 hf hQ⟩
    · simp only[if_neg hj] at hf
      cases hf
end
structure RetC (K:PySem.W.Frag) (H:Hp) (vs:List V) (ds:List D) (fr:Bool) (d:D) (v:V) (H':Hp):Prop where
  same:Same H H'
  rep:∀ A,Dom H A->Reps K (aj H A) vs ds->Rep K (aj H' A) v d
  new:fr=true->∃ l xs es,v=V.ref l/\d=.lst es/\H l=none/\H' l=some (.lst xs)/\∀ A,Dom H A->Reps K (aj H A) vs ds->Reps K (aj H' fun b=>A b\/b=l) xs es
def spF(K:PySem.W.Frag)(G:List D->Option D)(fr:Bool):Sp:=fun vs H Q _=>∃ ds d,Reps K H vs ds/\G ds=some d/\∀ v H',RetC K H vs ds fr d v H'->Q v H'
def mkF(fr:Bool)(np n:Nat)(body:FS):List D->Option D:=fun ds=>if ds.length=np then (body (ds.map some++List.replicate (n - np) none)).bind fun o=>match o with
  | .rt d=>some d
  | .nx _=>if fr=true then none else some .non
  | _=>none
  else none
theorem zG{P:Program}{w:World}{K:PySem.W.Frag}{mg:Str->Option Value}{base:Heap}{x qual:Str}{st:Stmt}{f:Addr}{fd:FuncData}{N ps:List Str}{k:Nat}{fr:Bool}{body:FS}{O' OL:List Nat}(Fn:Fun K x qual st f fd)(S:FnScope N ps (ai st))(h:∀ (cdv:Value) (A:Around) (outer:List PySem.Env) (s:Shared) (H:Hp) (E:XK) (F:Fr0),F.n=N.length->Room k (A.deeper (envOfC qual (ai st) s.heap.objs.size f cdv)) ->
      VSs (cK CX0 P w K mg base N qual (ai st) f cdv A outer s H E).nox F [] (aD st) body O' OL fr):
    FnOk P w K mg base CX0 (k+1) f fd ps (spF K (mkF fr ps.length N.length body) fr):=by
  have hpl:ps.length<=N.length:=by have:=congrArg List.length S.pre;rw[List.length_take] at this;omega
  refine Fn.ok S (fun vs H Q E h=>?_) (fun cdv A outer s H vs Q E hr h'=>?_)
  · obtain⟨ds,d,r,hg,_⟩:=h
    unfold mkF at hg
    by_cases hl:ds.length=ps.length
    · rw[r.length,hl]
    · rw[if_neg hl] at hg;cases hg
  · obtain⟨ds,d,r,hg,hQ⟩:=h'
    unfold mkF at hg
    by_cases hl:ds.length=ps.length
    · rw[if_pos hl] at hg
      obtain⟨o,ho,hg⟩:=bind_some hg
      let F:Fr0:=⟨H,fun A=>Dom H A/\Reps K (aj H A) vs ds,N.length,fun A h=>h.1,⟨Dom.none H,aH (gO H) r⟩⟩
      refine⟨_,h cdv A outer s H E F rfl hr [],ds.map some++List.replicate (N.length - ps.length) none,o,?_,ho,?_⟩
      · have lv:=r.length
        have get:∀ (i:Nat) (d:D),(ds.map some++List.replicate (N.length - ps.length) none)[i]?=some (some d)->ds[i]?=some d:=fun i d q=>by
          by_cases hi:i < ds.length
          · rw[List.getElem?_append_left (by simpa using hi),List.getElem?_map] at q
            cases e:ds[i]? with
            | none=>rw[e] at q;cases q
            | some z=>rw[e] at q;simpa using q
          · rw[List.getElem?_append_right (by simpa using hi),List.getElem?_replicate] at q
            split at q <;> cases q
        refine⟨Same.refl H,?_,?_,fun i d q _=>?_,fun p hp=>absurd hp (by simp),fun i hi=>absurd hi (by simp),fun i hi=>absurd hi (by simp)⟩
        · show (L2.start N vs).length=N.length
          unfold L2.start
          rw[List.length_append,List.length_map,List.length_replicate]
          omega
        · show _=N.length
          rw[List.length_append,List.length_map,List.length_replicate]
          omega
        · have h1:=get i d q
          obtain⟨v,h2,_⟩:=r.get h1
          refine⟨v,?_,fun A hA=>?_⟩
          · unfold L2.start
            have hi:i < vs.length:=(List.getElem?_eq_some_iff.mp h2).1
            rw[List.getElem?_append_left (by simpa using hi),List.getElem?_map,h2]
            rfl
          · obtain⟨v',h3,h4⟩:=hA.2.get h1
            rw[h2] at h3;cases h3
            exact aw (bC (fun _ _ z=>z) fun b z=>z.elim (fun⟨_,hj,_⟩=>absurd hj (by simp)) id) h4
      · cases o with
        | rt d' =>
          cases hg
          exact fun v H' rt=>hQ v H' ⟨rt.same,fun A hA hr=>rt.rep A ⟨hA,hr⟩,fun e=>let ⟨l,xs,es,e1,e2,e3,e4,e5⟩:=rt.new e;⟨l,xs,es,e1,e2,e3,e4,fun A hA hr=>e5 A ⟨hA,hr⟩⟩⟩
        | nx ρ' =>
          cases fr with
          | true=>cases hg
          | false =>
            cases hg
            exact fun σ' H' hE=>hQ _ H' ⟨hE.same,fun A hA hr=>.non,fun e=>nomatch e⟩
        | _=>cases hg
    · rw[if_neg hl] at hg;cases hg
section
variable {X:Cx} {k:Nat} {f:Addr} {fd:FuncData} {ps:List Str} {G:List D->Option D} {fr:Bool} {x:Str} {p pos:Pos} {e:Expr} {es':List Expr} {as:FEs} {es:List Es}
theorem zH(Gk:FnOk X.prog X.w X.K X.mg X.base CX0 k f fd ps (spF X.K G fr))(hr:Room k X.A)(hm:X.mg x=some (.ref f))(hk:PySem.W.keepIn X.K (.ref f)=true)(hb:Binds X.K fd ps [])(ha:VA X (e::es') as es)(hg:Gl X x:=by rfl)(hdb:(x == ("__debug__" : Str))=false:=by decide)(he:starEach (e::es') X.env=(false,eval e X.env)::starEach es' X.env:=by rfl)(hpl:(backTo pos (starEach es' X.env)).any (·.1)=false:=by rfl):
    VE X (.Call (.Name x p) (e::es') [] pos) (eA G as) es :=
  aJ (fA Gk hr hg hm hk hb .nil dD ha hdb he hpl) fun σ H Q ⟨ρ,d,hE,hf,hQ⟩=>by
    obtain⟨ds,h1,hf⟩:=bind_some hf
    refine⟨ρ,ds,hE,h1,fun vs H1 p=>?_⟩
    show spF X.K G fr (vs++[]) H1 Q E0
    rw[List.append_nil]
    refine⟨ds,d,p.rep,hf,fun v H' r=>hQ v H' ⟨p.same.trans r.same,aw (aQ _ _) (r.rep dh (Dom.none _) (aH (gO _) p.rep)),fun A hA hz=>r.rep A (hA.mono p.same) (p.av A hA hz)⟩⟩
theorem zI(Gk:FnOk X.prog X.w X.K X.mg X.base CX0 k f fd ps (spF X.K G true))(hr:Room k X.A)(hm:X.mg x=some (.ref f))(hk:PySem.W.keepIn X.K (.ref f)=true)(hb:Binds X.K fd ps [])(ha:VA X (e::es') as es)(hg:Gl X x:=by rfl)(hdb:(x == ("__debug__" : Str))=false:=by decide)(he:starEach (e::es') X.env=(false,eval e X.env)::starEach es' X.env:=by rfl)(hpl:(backTo pos (starEach es' X.env)).any (·.1)=false:=by rfl):
    VF X (.Call (.Name x p) (e::es') [] pos) (eA G as) es :=
  aJ (fA Gk hr hg hm hk hb .nil dD ha hdb he hpl) fun σ H Q ⟨ρ,d,hE,hf,hQ⟩=>by
    obtain⟨ds,h1,hf⟩:=bind_some hf
    refine⟨ρ,ds,hE,h1,fun vs H1 p=>?_⟩
    show spF X.K G true (vs++[]) H1 Q E0
    rw[List.append_nil]
    refine⟨ds,d,p.rep,hf,fun v H' r=>hQ v H' ⟨p.same.trans r.same,?_⟩⟩
    obtain⟨l,xs,es,e1,e2,e3,e4,e5⟩:=r.new rfl
    exact⟨l,xs,es,e1,e2,p.same.free e3,e4,fun A hA hz=>e5 A (hA.mono p.same) (p.av A hA hz)⟩
end
end VL
namespace VL
open PySem PySem.Spec PyProof.Rows L2
theorem mD(env:PySem.Env):∀ (names:List (Str × NameKind)) (acc:List (Str × Addr)),(∀ x ∈ names,x.2=.free->∃ c,env.cells.lookup x.1=some c) ->
    ∃ cl,(forIn names acc fun x r=>(if (x.2 == NameKind.free)=true then (do let c <- cellOf env x.1;pure (ForInStep.yield ((x.1,c)::r))) else pure (ForInStep.yield r):Sem (ForInStep (List (Str × Addr)))))=pure cl /\
      (∀ x c,cl.lookup x=some c->acc.lookup x=some c\/env.cells.lookup x=some c)/\(∀ x,(∃ c,acc.lookup x=some c)->∃ c,cl.lookup x=some c)/\(∀ x ∈ names,x.2=.free->∃ c,cl.lookup x.1=some c)
  | [],acc,_=>⟨acc,rfl,fun _ _ h=>.inl h,fun _ h=>h,fun _ h=>nomatch h⟩
  | (n, k)::r,acc,h=>by
    have hr:∀ x ∈ r,x.2=.free->∃ c,env.cells.lookup x.1=some c:=fun x hx=>h x (List.mem_cons_of_mem _ hx)
    by_cases hk:k=.free
    · subst hk
      obtain⟨c,hc⟩:=h (n,.free) List.mem_cons_self rfl
      obtain⟨cl,e,h1,h2,h3⟩:=mD env r ((n,c)::acc) hr
      refine⟨cl,?_,fun x c' hx=>?_,fun x ⟨c',hx⟩=>?_,fun x hx hf=>?_⟩
      · rw[List.forIn_cons]
        have e1:cellOf env n=pure c:=by unfold cellOf;rw[hc]
        simp only[beq_self_eq_true,if_true,e1,pure_bind]
        exact e
      · rcases h1 x c' hx with q | q
        · rw[List.lookup_cons] at q
          cases hxn:x == n with
          | true =>
            rw[hxn] at q
            have e2:x=n:=by simpa using hxn
            cases q
            rw[e2]
            exact .inr hc
          | false=>rw[hxn] at q;exact .inl q
        · exact .inr q
      · refine h2 x ?_
        rw[List.lookup_cons]
        cases x == n with
        | true=>exact⟨_,rfl⟩
        | false=>exact⟨c',hx⟩
      · rcases List.mem_cons.mp hx with q | q
        · subst q
          refine h2 n ⟨c,?_⟩
          rw[List.lookup_cons]
          simp
        · exact h3 x q hf
    · obtain⟨cl,e,h1,h2,h3⟩:=mD env r acc hr
      refine⟨cl,?_,h1,h2,fun x hx hf=>?_⟩
      · rw[List.forIn_cons]
        have e1:(k == NameKind.free)=false:=by simpa using hk
        simp only[e1,Bool.false_eq_true,if_false,pure_bind]
        exact e
      · rcases List.mem_cons.mp hx with q | q
        · subst q;exact absurd hf hk
        · exact h3 x q hf
theorem qS{scope:Scope}{env:PySem.Env}(h:∀ x ∈ scope.names,x.2=.free->∃ c,env.cells.lookup x.1=some c):
    ∃ cl,closureFor scope env=pure cl/\(∀ x c,cl.lookup x=some c->env.cells.lookup x=some c)/\(∀ x ∈ scope.names,x.2=.free->∃ c,cl.lookup x.1=some c):=by
  obtain⟨cl,e,h1,h2,h3⟩:=mD env scope.names [] h
  refine⟨cl,?_,fun x c q=>(h1 x c q).resolve_left (fun z=>by simp at z),h3⟩
  simp only[closureFor]
  rw[e]
  first | rfl | simp
section
variable {prog:Program} {w:World} {A:Around} {R:Result->Shared->Prop} {s:Shared}
theorem zJ{elt target iter:Expr}{ifs:List Expr}{scope:Scope}{pos:Pos}{it acc:Value}{env:PySem.Env}(I:Nat->Shared->Prop)(turn : ∀ n s,I n s->wpAny (model prog w) A (pyNext it) (fun r s₁=>match r with
      | none=>R (.ok .next) s₁
      | some v=>wpAny (model prog w) A (letOwnedTupleGo target it v) (fun _ s₁'=>wpAny (model prog w) A (assign target env v) (fun _ s₂ =>
          wpAny (model prog w) A (forIn ifs true fun c r=>if r=true then do let ok <- isTrue c env (eval c env);pure (ForInStep.yield ok) else pure (ForInStep.yield r)) (fun ok s₃ =>
            if ok=true then wpAny (model prog w) A (eval elt env) (fun x s₄ =>
              wpAny (model prog w) A (call (.builtin "list.append") [acc,x]) (fun _ s₅=>∃ m,m < n/\I m s₅) (fun _ _=>False) s₄) (fun _ _=>False) s₃
            else ∃ m,m < n/\I m s₃) (fun _ _=>False) s₂) (fun _ _=>False) s₁') (fun _ _=>False) s₁) (fun _ _=>False) s)(n:Nat)(h:I n s):codeAny (model prog w) A (.compLoop (.ListComp elt [⟨target,iter,ifs,0⟩] scope pos) 0 it acc env) R s:=by
  refine codeAny_loop rfl I (fun n s hI=>?_) n h
  show wpAny _ A ((compTurn (.ListComp elt [⟨target,iter,ifs,0⟩] scope pos) 0 it acc env).onRaise (fun x=>do noteFrame x env;theTreesLotGoes x)) _ _ s
  refine wpAny_noted ?_
  rw[compTurn_list]
  refine wpAny_bind (wpAny_standAt (wpAny_bind (wpAny_mono (turn n s hI) (fun r s₁ h₁=>?_) fun _ _ h'=>h'.elim)))
  cases r with
  | none=>exact wpAny_pure h₁
  | some v =>
    refine wpAny_bind (wpAny_mono h₁ (fun _ s₁' h₁'=>?_) fun _ _ h'=>h'.elim)
    refine wpAny_bind (wpAny_mono h₁' (fun _ s₂ h₂=>wpAny_bind (wpAny_mono h₂ (fun ok s₃ h₃=>?_) fun _ _ h'=>h'.elim)) fun _ _ h'=>h'.elim)
    cases ok with
    | false=>exact wpAny_pure ⟨rfl,h₃⟩
    | true =>
      exact wpAny_bind (wpAny_bind (wpAny_mono h₃ (fun x s₄ h₄=>wpAny_bind (wpAny_mono h₄ (fun _ s₅ h₅=>wpAny_pure (wpAny_pure ⟨rfl,h₅⟩)) fun _ _ h'=>h'.elim)) fun _ _ h'=>h'.elim))
end
def blk(X:Cx)(N:List Str)(s:Shared)(H:Hp)(scope:Scope)(cl:List (Str × Addr))(ex:List Addr):Cx :=
  { X with N:=N,s₀:=s,H₀:=H,env:=compEnvC scope cl s.heap.objs.size X.env,outer:=X.stack,ex:=ex,fn:=fun _=>false,pn:=[],xe:=fun _ _=>False }
structure BlkOk (X:Cx) (scope:Scope) (own:List Str) (caps:List Nat) (cn:List Str):Prop where
  kind:scope.kind=.function
  nocell:∀ x ∈ scope.names,x.2 ≠ .cell
  locals:∀ x ∈ scope.names,x.2=.local->scope.names.lookup x.1=some .local
  free:∀ x ∈ scope.names,x.2=.free->(X.env.kindOf x.1=some .cell\/X.env.kindOf x.1=some .free)
  names:caps.map (fun j=>X.N[j]?)=cn.map some
  capf:∀ x ∈ cn,scope.names.lookup x=some .free
  nd:(own++cn).Nodup
theorem mE{env:PySem.Env}:∀ {names:List (Str × NameKind)} {x:Str} {k:NameKind},(names.map fun (n,k)=>if (k == NameKind.free && env.scope.kind == .function && env.kindOf n == some .cell) then (n,NameKind.cell) else (n,k)).lookup x=some k ->
    (∀ y ∈ names,y.2 ≠ .cell)->(k=.cell\/k=.free)->(x,NameKind.free) ∈ names
  | [],_,_,h,_,_=>by simp at h
  | (n, k')::r,x,k,h,hc,hk=>by
    have ih:=@mE env r x k
    have h:List.lookup x ((if (k' == NameKind.free && env.scope.kind == .function && env.kindOf n == some .cell)=true then (n,NameKind.cell) else (n,k'))::(r.map fun (n,k)=>if (k == NameKind.free && env.scope.kind == .function && env.kindOf n == some .cell) then (n,NameKind.cell) else (n,k)))=some k:=h
    have hr:∀ y ∈ r,y.2 ≠ .cell:=fun y hy=>hc y (List.mem_cons_of_mem _ hy)
    by_cases hcd:(k' == NameKind.free && env.scope.kind == .function && env.kindOf n == some .cell)=true
    · have hk':k'=.free:=by
        rw[Bool.and_eq_true,Bool.and_eq_true] at hcd
        simpa using hcd.1.1
      rw[if_pos hcd,List.lookup_cons] at h
      cases hx:x == n with
      | true =>
        have e:x=n:=by simpa using hx
        rw[e,hk'];exact List.mem_cons_self
      | false=>rw[hx] at h;exact List.mem_cons_of_mem _ (ih h hr hk)
    · rw[if_neg hcd,List.lookup_cons] at h
      cases hx:x == n with
      | true =>
        have e:x=n:=by simpa using hx
        rw[hx] at h
        cases h
        rcases hk with hk | hk
        · exact absurd hk (hc (n,k') List.mem_cons_self)
        · rw[e,<- hk];exact List.mem_cons_self
      | false=>rw[hx] at h;exact List.mem_cons_of_mem _ (ih h hr hk)
theorem qT{env:PySem.Env}:∀ {names:List (Str × NameKind)} {x:Str},names.lookup x=some .free ->
    (names.map fun (n,k)=>if (k == NameKind.free && env.scope.kind == .function && env.kindOf n == some .cell) then (n,NameKind.cell) else (n,k)).lookup x ≠ some .local
  | [],_,h=>by simp at h
  | (n,k)::r,x,h=>by
    have ih:=@qT env r x
    show List.lookup x ((if (k == NameKind.free && env.scope.kind == .function && env.kindOf n == some .cell)=true then (n,NameKind.cell) else (n,k))::(r.map fun (n,k)=>if (k == NameKind.free && env.scope.kind == .function && env.kindOf n == some .cell) then (n,NameKind.cell) else (n,k))) ≠ some .local
    rw[List.lookup_cons] at h
    by_cases hcd:(k == NameKind.free && env.scope.kind == .function && env.kindOf n == some .cell)=true
    · rw[if_pos hcd,List.lookup_cons]
      cases hx:x == n with
      | true=>exact fun z=>by cases z
      | false=>rw[hx] at h;exact ih h
    · rw[if_neg hcd,List.lookup_cons]
      cases hx:x == n with
      | true=>rw[hx] at h;cases h;exact fun z=>by cases z
      | false=>rw[hx] at h;exact ih h
section
variable {X:Cx} {pins:List (Addr × Obj)} {σ:St} {H:Hp} {s:Shared} {scope:Scope} {own cn:List Str} {caps:List Nat} {cl:List (Str × Addr)} {ex:List Addr}
def ci(σ:St)(caps:List Nat):St:=caps.map fun j=>(σ[j]?).getD none
theorem zK(I:L2.Inv X pins σ H s)(B:BlkOk X scope own caps cn)(hcl:∀ x c,cl.lookup x=some c->X.env.cells.lookup x=some c)(hha:∀ x ∈ scope.names,x.2=.free->∃ c,cl.lookup x.1=some c)(hex:∀ b ∈ ex,bI X pins H b/\b < s.heap.objs.size){h₁:Heap}{tk:Nat}(hns:h₁.Ns s.heap.objs.size (fun _=>none))(hk:∀ b o,s.heap.get? b=some o->h₁.get? b=some o):
    L2.Inv (blk X (own++cn) s H scope cl ex) [] (List.replicate own.length none++ci σ caps) H { s with heap:=h₁,toks:=tk }:=by
  have hcap:cn.length=caps.length:=by have:=congrArg List.length B.names;simpa using this.symm
  refine⟨⟨I.ok.mod,B.kind,I.ok.glob,I.ok.blt,Nat.le_refl _,fun x y c h1 h2=>I.ok.inj x y c (hcl x c h1) (hcl y c h2),fun x hx=>?_,fun x c h=>(nomatch h),I.ok.hd,I.ok.frames,.inl rfl,fun b hb=>?_,fun b o e=>I.bs b o e,Nat.le_trans I.ok.bsz I.sz,fun b o e hb=>?_,fun b hb hfs=>?_,I.stack,I.stkFree⟩,
    rfl,I.bare,Un.kept hk,⟨_,hns,fun i x v h1 h2 h3=>?_⟩,fun x c h=>?_,I.hok.fresh (Nat.le_refl _),fun x c h=>I.freeC x c (hcl x c h),fun p hp=>absurd hp (by simp[blk]),I.hok.kept hk,?_⟩
  · have hx':(relabel scope X.env).names.lookup x=some .cell\/(relabel scope X.env).names.lookup x=some .free:=hx
    have m:(x,NameKind.free) ∈ scope.names:=by
      rcases hx' with q | q
      · exact mE q B.nocell (.inl rfl)
      · exact mE q B.nocell (.inr rfl)
    exact hha _ m rfl
  · obtain⟨f,lt⟩:=hex b hb
    exact⟨Nat.ne_of_lt lt,fun x c h=>f.2.2.2.2.1 x c (hcl x c h)⟩
  · obtain⟨f,lt⟩:=hex b hb
    rcases f.2.2.2.1 with q | q
    · exact I.ok.noex b o e q
    · exact absurd (Nat.lt_of_lt_of_le (Heap.lt_size e) I.ok.bsz) (Nat.not_lt.mpr q)
  · obtain⟨f,lt⟩:=hex b hb
    rcases List.mem_cons.mp (I.stkSub b hfs) with q | q
    · exact f.2.1 q
    · exact f.2.2.1 q
  ·
    have hlen:(List.replicate own.length (none:Option V)).length=own.length:=List.length_replicate
    by_cases hi:i < own.length
    · rw[List.getElem?_append_left (by rw[hlen];exact hi),List.getElem?_replicate,if_pos hi] at h2
      cases h2
    · rw[List.getElem?_append_right (by rw[hlen];omega),hlen] at h2
      have h1':cn[i - own.length]?=some x:=by
        have h1'':(own++cn)[i]?=some x:=h1
        rwa [List.getElem?_append_right (by omega)] at h1''
      unfold ci at h2
      rw[List.getElem?_map] at h2
      cases hj:caps[i - own.length]? with
      | none=>rw[hj] at h2;cases h2
      | some j =>
        rw[hj] at h2
        have hN:X.N[j]?=some x:=by
          have q:=congrArg (fun l=>l[i - own.length]?) B.names
          simp only[List.getElem?_map,hj,h1',Option.map_some] at q
          exact Option.some.inj q
        have hσ:σ[j]?=some (some v):=by
          simp only[Option.map_some,Option.some.injEq] at h2
          cases e:σ[j]? with
          | none=>rw[e] at h2;cases h2
          | some o=>rw[e] at h2;simp only[Option.getD_some] at h2;rw[h2]
        have hxf:scope.names.lookup x=some .free:=B.capf x (List.mem_of_getElem? h1')
        have hkind:=B.free (x,.free) (PySem.mem_of_lookup hxf) rfl
        have hvis:Vis X.env.scope x:=hkind.elim (fun q=>.inr (.inl q)) fun q=>.inr (.inr q)
        obtain⟨m,hm,hl⟩:=I.loc
        obtain⟨u,r,look⟩:=hl j x v hN hσ hvis
        rcases look with⟨hloc,_⟩ | ⟨_,c,hc,hcell⟩
        · rcases hkind with q | q <;> rw[q] at hloc <;> cases hloc
        · obtain⟨c',hc'⟩:=hha (x,.free) (PySem.mem_of_lookup hxf) rfl
          have e:=hcl x c' hc'
          rw[hc] at e;cases e
          refine⟨u,r,.inr ⟨?_,c,hc',?_⟩⟩
          · rcases h3 with q | q | q
            · exfalso
              have:(relabel scope X.env).names.lookup x=some .local:=q
              unfold relabel at this
              have z:=@qT X.env scope.names x hxf
              exact z this
            · exact .inl q
            · exact .inr q
          · obtain⟨oc,ho,hd⟩:=hcell
            exact⟨oc,hk _ _ ho,hd⟩
  · obtain⟨v,oc,ho,hd⟩:=I.cell x c (hcl x c h)
    exact⟨v,oc,hk _ _ ho,hd⟩
  · show (List.replicate own.length none++ci σ caps).length=(own++cn).length
    simp[ci,hcap]
end
end VL
namespace VL
open PySem PySem.Spec PyProof.Rows L2
theorem Inv.track{X:Cx}{pins:List (Addr × Obj)}{σ:St}{H:Hp}{s:Shared}{d:Addr}{ys:List V}{its:List Value}{n:Nat}(I:L2.Inv X pins σ H s)(e:s.heap.get? d=some { cls:=.type "list",data:=.seq its.toArray n })(hv:Vals ys its)(hz:ys.length<=sizeLine)(f:bI X pins H d)(f3:X.s₀.heap.objs.size<=d):L2.Inv X pins σ (upd H d (.lst ys)) s:=by
  obtain⟨f0,f1,f2,_,f4,f5⟩:=f
  have old:∀ b o,X.s₀.heap.get? b=some o->b ≠ d:=fun b o q z=>absurd (Nat.lt_of_lt_of_le (Heap.lt_size q) (by rw[z];exact f3)) (Nat.lt_irrefl _)
  have nd:∀ b u,H b=some u->b ≠ d:=fun b u q z=>by rw[z,f0] at q;cases q
  refine⟨I.ok,I.os,I.bare,⟨I.base.keep,I.base.slot,fun b o q n hx=>?_,I.base.there,fun b xs q=>?_,fun b o u q=>?_,fun b ps q=>?_⟩,I.loc,I.cell,?_,fun x c q=>?_,fun p hp=>?_,fun b o q=>?_,I.len⟩
  · rw[aC (old b o q)];exact I.base.free b o q n hx
  · have z:=I.base.tups b xs q;rw[aC (nd b _ z)];exact z
  · have z:=I.base.frzs b o u q;rw[aC (nd b _ z)];exact z
  · obtain⟨more,z⟩:=I.base.tbls b ps q;exact⟨more,by rw[aC (nd b _ z)];exact z⟩
  · rw[aC (Ne.symm f1)];exact I.free
  · rw[aC (f4 x c q)];exact I.freeC x c q
  · obtain⟨k1,k2,k3,k4,k5⟩:=I.pin p hp
    exact⟨k1,by rw[aC (f5 p hp)];exact k2,k3,k4,k5⟩
  · by_cases hb:b=d
    · subst hb
      rw[b5] at q;cases q
      exact⟨hz,its,n,hv,e⟩
    · rw[aC hb] at q
      refine (I.hok b o q).stay (fun c v _ z=>z) (fun c z=>?_) fun c xs z=>?_
      · rw[aC (nd c _ z)];exact z
      · rw[aC (nd c _ z)];exact z
def PTs(X:Cx)(ifs:List Expr)(t:TT):Prop :=
  ∀ (pins:List (Addr × Obj)) (s:Shared) (σ:St) (H:Hp) (Q:Bool->Hp->Prop),L2.Inv X pins σ H s->t σ H Q ->
    wpAny (model X.prog X.w) X.A (forIn ifs true fun c r=>if r=true then do let ok <- isTrue c X.env (eval c X.env);pure (ForInStep.yield ok) else pure (ForInStep.yield r)) (TP X pins σ Q) X.xe s
theorem mF{X:Cx}:PTs X [] (fun _ H Q=>Q true H):=fun pins s σ H Q I h=>wpAny_tests_nil ⟨H,I,h⟩
def iX(nown:Nat)(caps:List Nat)(wi:TI)(g:TG)(tt:TT)(te:TE):TE:=fun σ H Q=>wi σ H fun J H1=>∃ W:Nat->Nat->List V->St->Hp->Prop,
  (∃ m, W 0 m [] (List.replicate nown none++ci σ caps) H1)/\∀ i m ys σb H2,W i m ys σb H2->ys.length < sizeLine /\
    ((J.stop i H2/\∀ d,H2 d=none->Q (.ref d) (upd H2 d (.lst ys))) \/
     (J.go i H2/\∀ x H3,J.yld i H2 x H3->g x σb H3 fun σb' H4=>tt σb' H4 fun b H5 =>
        if b=true then te σb' H5 fun y H6=>∃ m',m' < m/\W (i+1) m' (ys++[y]) σb' H6 else ∃ m',m' < m/\W (i+1) m' ys σb' H5))
section
variable {X:Cx} {elt tg iter:Expr} {ifs:List Expr} {scope:Scope} {own cn:List Str} {caps:List Nat} {wi:TI} {g:TG} {tt:TT} {te:TE} {pos:Pos}
structure After (X:Cx) (pins:List (Addr × Obj)) (σ:St) (H:Hp) (d c:Addr) (ys:List V) (s:Shared):Prop where
  inv:L2.Inv X pins σ (upd H d (.lst ys)) s
  ns:∃ m,s.heap.Ns c m
  new:H d=none
  cf:bI X pins (upd H d (.lst ys)) c
theorem zL(B:BlkOk X scope own caps cn)(hc:X.calm=true)(hg:∀ s H cl ex,PG (blk X (own++cn) s H scope cl ex) tg g)(ht:∀ s H cl ex,PTs (blk X (own++cn) s H scope cl ex) ifs tt)(he:∀ s H cl ex,PE (blk X (own++cn) s H scope cl ex) elt te){pins:List (Addr × Obj)}{s3:Shared}{σ:St}{H2:Hp}{Q:VK}{it d:Addr}{fp:List Addr}{tn:Nat->Heap->Prop}{J:It}{W:Nat->Nat->List V->St->Hp->Prop}{m0 tk:Nat}{h₁:Heap}(I3:L2.Inv X pins σ H2 s3){cl:List (Str × Addr)}(hcl:∀ x c,cl.lookup x=some c->X.env.cells.lookup x=some c)(hha:∀ x ∈ scope.names,x.2=.free->∃ c,cl.lookup x.1=some c)(T:Turn X.prog X.w X.K tg J fp it tn)(st:tn 0 s3.heap)(f2:∀ b ∈ fp,bI X pins H2 b)(fpd:bI X pins H2 d)(fd3:X.s₀.heap.objs.size<=d)(dnf:∀ b ∈ fp,b ≠ d)(hd3:s3.heap.get? d=some { cls:=.type "list",data:=.seq #[] 0 })(w0:W 0 m0 [] (List.replicate own.length none++ci σ caps) H2)(turn : ∀ i m ys σb H2,W i m ys σb H2->ys.length < sizeLine /\
      ((J.stop i H2/\∀ d,H2 d=none->Q (.ref d) (upd H2 d (.lst ys))) \/
       (J.go i H2/\∀ x H3,J.yld i H2 x H3->g x σb H3 fun σb' H4=>tt σb' H4 fun b H5 =>
          if b=true then te σb' H5 fun y H6=>∃ m',m' < m/\W (i+1) m' (ys++[y]) σb' H6 else ∃ m',m' < m/\W (i+1) m' ys σb' H5)))(hns:h₁.Ns s3.heap.objs.size (fun _=>none))(hk:∀ b o,s3.heap.get? b=some o->h₁.get? b=some o){RR:Value->Addr->Result->Shared->Prop}(hRR:∀ d c ys H' s',After X pins σ H' d c ys s'->Q (.ref d) (upd H' d (.lst ys))->RR (.ref d) c (.ok .next) s'):
    codeAny (model X.prog X.w) X.A (.compStart (.ListComp elt [⟨tg,iter,ifs,0⟩] scope pos) 0 (.ref it) (.ref d) (compEnvC scope cl s3.heap.objs.size X.env)) (RR (.ref d) s3.heap.objs.size) { s3 with heap:=h₁,toks:=tk }:=by
  have lt3:∀ b ∈ d::fp,b < s3.heap.objs.size:=fun b hb=>by
    rcases List.mem_cons.mp hb with e | hb
    · rw[e];exact Heap.lt_size hd3
    · obtain⟨o,e,_⟩:=T.obj _ _ st b hb;exact Heap.lt_size e
  have fex:∀ b ∈ d::fp,bI X pins H2 b:=fun b hb=>(List.mem_cons.mp hb).elim (fun e=>e ▸ fpd) (f2 b)
  have IB:=zK (ex:=d::fp) (tk:=tk) I3 B hcl hha (fun b hb=>⟨fex b hb,lt3 b hb⟩) hns hk
  have fpB:∀ {P:List (Addr × Obj)} {H':Hp},(∀ b ∈ fp,H' b=none)->(∀ p ∈ P,p.1=d)->∀ b ∈ fp,bI (blk X (own++cn) s3 H2 scope cl (d::fp)) P H' b:=fun {P H'} hn hP b hb=>by
    refine⟨hn b hb,Nat.ne_of_lt (lt3 b (List.mem_cons_of_mem _ hb)),fun z=>?_,.inl (List.mem_cons_of_mem _ hb),fun x c q=>(f2 b hb).2.2.2.2.1 x c (hcl x c q),fun p hp=>?_⟩
    · rcases List.mem_cons.mp (I3.stkSub b z) with q | q
      · exact (f2 b hb).2.1 q
      · exact (f2 b hb).2.2.1 q
    · have hp':p ∈ P:=by simpa [blk] using hp
      rw[hP p hp'];exact Ne.symm (dnf b hb)
  have dB:∀ {P:List (Addr × Obj)} {H':Hp},H' d=none->(∀ p ∈ P,p.1 ∈ fp)->bI (blk X (own++cn) s3 H2 scope cl (d::fp)) P H' d:=fun {P H'} hn hP=>by
    refine⟨hn,Nat.ne_of_lt (lt3 d List.mem_cons_self),fun z=>?_,.inl List.mem_cons_self,fun x c q=>fpd.2.2.2.2.1 x c (hcl x c q),fun p hp=>?_⟩
    · rcases List.mem_cons.mp (I3.stkSub d z) with q | q
      · exact fpd.2.1 q
      · exact fpd.2.2.1 q
    · have hp':p ∈ P:=by simpa [blk] using hp
      exact fun e=>dnf p.1 (hP p hp') e
  have loop:∀ s':Shared,s'={ s3 with heap:=h₁,toks:=tk }->codeAny (model X.prog X.w) X.A (.compLoop (.ListComp elt [⟨tg,iter,ifs,0⟩] scope pos) 0 (.ref it) (.ref d) (compEnvC scope cl s3.heap.objs.size X.env)) (RR (.ref d) s3.heap.objs.size) s':=by
    rintro s' rfl
    refine zJ (fun n s'=>∃ (i:Nat) (ys:List V) (σb:St) (H':Hp) (its:List Value) (nn:Nat),L2.Inv (blk X (own++cn) s3 H2 scope cl (d::fp)) [] σb H' s'/\tn i s'.heap/\(∀ b ∈ fp,H' b=none)/\H' d=none/\s'.heap.get? d=some { cls:=.type "list",data:=.seq its.toArray nn }/\Vals ys its/\W i n ys σb H') ?_ m0
      ⟨0,[],_,H2,[],0,IB,T.keep _ _ _ st fun b _ o e=>hk b o e,fun b hb=>(f2 b hb).1,fpd.1,hk _ _ hd3,.nil,w0⟩
    rintro n s4 ⟨i,ys,σb,H',its,nn,I4,st4,fr4,hd4,o4,r4,w4⟩
    have I4p:L2.Inv (blk X (own++cn) s3 H2 scope cl (d::fp)) [(d,{ cls:=.type "list",data:=.seq its.toArray nn })] σb H' s4:=I4.pins_of fun p hp=>by
      have e:p=(d,{ cls:=.type "list",data:=.seq its.toArray nn }):=by simpa using hp
      subst e
      obtain⟨a0,a1,a2,_⟩:=dB (P:=[]) hd4 (by simp)
      exact⟨o4,a0,a1,a2,fun v z=>by cases z⟩
    obtain⟨hys,alt⟩:=turn i n ys σb H' w4
    rcases alt with⟨stop,q⟩ | ⟨go,step⟩
    · refine thn (T.done (blk X (own++cn) s3 H2 scope cl (d::fp)) rfl rfl rfl hc i [(d,{ cls:=.type "list",data:=.seq its.toArray nn })] s4 σb H' _ I4p (fpB fr4 (by simp)) st4 stop) fun r s5 ⟨hr,I5⟩=>?_
      subst hr
      obtain⟨o5,_⟩:=I5.pin (d,{ cls:=.type "list",data:=.seq its.toArray nn }) (by simp[blk])
      have IX:L2.Inv X pins σ H' s5:=I3.call' (ch:=d::fp) I5.os I5.base I5.hok I5.bare fun b hb=>⟨(fex b hb).2.2.2.1,(fex b hb).2.1,(fex b hb).2.2.2.2.1,(fex b hb).2.2.2.2.2⟩
      have fpd':bI X pins H' d:=⟨hd4,fpd.2⟩
      have IT:=Inv.track IX o5 r4 (Nat.le_of_lt hys) fpd' fd3
      refine hRR d s3.heap.objs.size ys H' s5 ⟨IT,?_,hd4,?_⟩ (q d hd4)
      · obtain⟨m,hm,_⟩:=I5.loc;exact⟨m,hm⟩
      · have cf:H' s3.heap.objs.size=none:=I5.free
        refine I3.fpOk (Nat.le_refl _) ?_
        rw[aC (Ne.symm (Nat.ne_of_lt (lt3 d List.mem_cons_self)))]
        exact cf
    · refine thn (T.item (blk X (own++cn) s3 H2 scope cl (d::fp)) rfl rfl rfl hc i [(d,{ cls:=.type "list",data:=.seq its.toArray nn })] s4 σb H' _ I4p (fpB fr4 (by simp)) st4 go) fun r s5 ⟨u,hr,h5⟩=>?_
      subst hr
      refine thn h5 fun _ s6 ⟨x,H6,I6,r6,y6,st6,fr6⟩=>?_
      have I6':=I6.pinned (fpB fr6 (by simp)) (T.obj _ _ st6)
      refine thn (hg s3 H2 cl (d::fp) _ s6 σb H6 x u _ I6' r6 (step x H6 y6)) fun _ s7 ⟨σ7,H7,I7,q7⟩=>?_
      refine thn (ht s3 H2 cl (d::fp) _ s7 σ7 H7 _ I7 q7) fun b s8 ⟨H8,I8,q8⟩=>?_
      have fin:∀ {H9:Hp} {s9:Shared},L2.Inv (blk X (own++cn) s3 H2 scope cl (d::fp)) ([(d,{ cls:=.type "list",data:=.seq its.toArray nn })]++iH fp s6.heap) σ7 H9 s9 ->
          L2.Inv (blk X (own++cn) s3 H2 scope cl (d::fp)) [] σ7 H9 s9/\tn (i+1) s9.heap/\(∀ b ∈ fp,H9 b=none)/\H9 d=none/\s9.heap.get? d=some { cls:=.type "list",data:=.seq its.toArray nn }:=fun {H9 s9} I9=>by
        have pd:=I9.pin (d,{ cls:=.type "list",data:=.seq its.toArray nn }) (by simp[blk])
        refine⟨I9.pins_of fun p hp=>absurd hp (by simp),T.keep _ _ _ st6 fun b hb o e=>(I9.pin (b,o) (List.mem_append_right _ (List.mem_append_right _ (jS hb e)))).1,fun b hb=>?_,pd.2.1,pd.1⟩
        obtain⟨o,e,_⟩:=T.obj _ _ st6 b hb
        exact (I9.pin (b,o) (List.mem_append_right _ (List.mem_append_right _ (jS hb e)))).2.1
      cases b with
      | false =>
        obtain⟨m',hm,w'⟩:=q8
        obtain⟨k1,k2,k3,k4,k5⟩:=fin I8
        exact⟨m',hm,i+1,ys,σ7,H8,its,nn,k1,k2,k3,k4,k5,r4,w'⟩
      | true =>
        refine thn (he s3 H2 cl (d::fp) _ s8 σ7 H8 _ I8 q8) fun v s9 ⟨y,H9,I9,r9,m',hm,w'⟩=>?_
        obtain⟨k1,k2,k3,k4,k5⟩:=fin I9
        have lv:=r4.length
        refine call_meets F.slot_list_append ⟨_,k5,rfl⟩ F.entry_list_append (F.args_list_append_2 _ _) (PySem.list_append d its.toArray nn v (by rw[List.size_toArray];omega)) ⟨k5,?_⟩
        have up:=PySem.IsL.update k5 (fun a=>a.push v)
        have ep:its.toArray.push v=(its++[v]).toArray:=by simp
        rw[ep] at up
        refine⟨m',hm,i+1,ys++[y],σ7,H9,its++[v],_,?_,?_,k3,k4,up,r4.append (.cons r9 .nil),w'⟩
        · exact k1.turned (it:=d) (fun b o hb e=>(Heap.get?_update_other s9.heap _ (Ne.symm hb)).trans e) k4 (dB (P:=[]) k4 (by simp)).2.1 (.inl List.mem_cons_self) (dB (P:=[]) k4 (by simp)).2.2.2.2.1 fun p hp=>absurd hp (by simp[blk])
        · exact T.keep _ _ _ k2 fun b hb o e=>(Heap.get?_update_other s9.heap _ (Ne.symm (dnf b hb))).trans e
  exact codeAny_compStart_list (loop _ rfl) (T.self X.A 0 _ _ _ (T.keep _ _ _ st fun b _ o e=>hk b o e) (loop _ rfl))
theorem qU(B:BlkOk X scope own caps cn)(hc:X.calm=true)(hi:PI X tg iter wi)(hg:∀ s H cl ex,PG (blk X (own++cn) s H scope cl ex) tg g)(ht:∀ s H cl ex,PTs (blk X (own++cn) s H scope cl ex) ifs tt)(he:∀ s H cl ex,PE (blk X (own++cn) s H scope cl ex) elt te){pins:List (Addr × Obj)}{s:Shared}{σ:St}{H:Hp}{Q:VK}(I:L2.Inv X pins σ H s)(h:iX own.length caps wi g tt te σ H Q){cl:List (Str × Addr)}(hcl:∀ x c,cl.lookup x=some c->X.env.cells.lookup x=some c)(hha:∀ x ∈ scope.names,x.2=.free->∃ c,cl.lookup x.1=some c){RR:Value->Addr->Result->Shared->Prop}(hRR:∀ d c ys H' s',After X pins σ H' d c ys s'->Q (.ref d) (upd H' d (.lst ys))->RR (.ref d) c (.ok .next) s'):
    wpAny (model X.prog X.w) X.A (eval iter X.env) (fun x s₁=>wpAny (model X.prog X.w) X.A (pyIter x) (fun it s₂=>wpAny (model X.prog X.w) X.A (newList []) (fun acc s₃ =>
      wpAny (model X.prog X.w) X.A (newFunctionEnv scope X.env.globals cl [] X.env.qual none .none (some X.env)) (fun cenv s₄ =>
        codeAny (model X.prog X.w) X.A (.compStart (.ListComp elt [⟨tg,iter,ifs,0⟩] scope pos) 0 it acc { cenv with scope:=relabel scope X.env }) (RR acc cenv.locals) s₄) X.xe s₃) X.xe s₂) X.xe s₁) X.xe s:=by
  refine thn (hi pins s σ H _ I h) fun x s1 h1=>thn h1 fun itv s2 h2=>?_
  obtain⟨it,fp,tn,J,H2,rfl,I2,T,st2,f2,W,⟨m0,w0⟩,turn⟩:=h2
  refine wpAny_newObj_type (wpAny_newFunctionEnv B.nocell (by intro y hy;simp at hy) (fun h₁ hns₁ hsb₁=>?_) B.kind)
  dsimp only at hns₁ hsb₁ ⊢
  generalize hd:s2.heap.objs.size=d at hns₁ hsb₁ ⊢
  have hfd:H2 d=none:=by rw[<- hd];exact I2.hok.fresh (Nat.le_refl _)
  have fpd:bI X pins H2 d:=I2.fpOk (by rw[hd];exact Nat.le_refl _) hfd
  have fpl:∀ b ∈ fp,b < s2.heap.objs.size:=fun b hb=>by obtain⟨o,e,_⟩:=T.obj _ _ st2 b hb;exact Heap.lt_size e
  have dnf:∀ b ∈ fp,b ≠ d:=fun b hb e=>absurd (fpl b hb) (by rw[e,hd];exact Nat.lt_irrefl _)
  have I3:L2.Inv X pins σ H2 { s2 with heap:=s2.heap.push { cls:=.type "list",dict:=none,data:=.seq ([]:List Value).toArray } }:=I2.kept (t':=s2.toks) fun b o e=>Heap.get?_push_of_some _ e
  exact zL (s3:={ s2 with heap:=s2.heap.push { cls:=.type "list",dict:=none,data:=.seq ([]:List Value).toArray } }) B hc hg ht he I3 hcl hha T (T.keep _ _ _ st2 fun b _ o e=>Heap.get?_push_of_some _ e) f2 fpd (by rw[<- hd];exact I2.sz) dnf
    (by rw[<- hd];exact Heap.get?_push_size _ rfl) w0 turn hns₁ (fun b o e=>hsb₁.extBut b o (Nat.ne_of_lt (Heap.lt_size e)) (Heap.get?_push_of_some _ e)) hRR
end
end VL
namespace VL
open PySem PySem.Spec PyProof.Rows L2
structure PostI (K:PySem.W.Frag) (σ:St) (ρ:ad) (H:Hp) (es:List Es) (ds:List D) (J:It) (H1:Hp):Prop where
  same:Same H H1
  go:∀ (i:Nat) (d:D) (H':Hp),ds[i]?=some d->Same H1 H'->J.go i H'/\∀ x H'',J.yld i H' x H''->Same H' H''/\Rep K H'' x d/\∀ A,Dom H A->(∀ e ∈ es,Av K H σ ρ A e)->Rep K (aj H'' A) x d
  stop:∀ H',Same H1 H'->J.stop ds.length H'
def tvI(K:PySem.W.Frag)(f:FEs)(es:List Es):TI:=fun σ H R=>∃ ρ ds,EnvR K H σ ρ/\f ρ=some ds/\∀ J H1,PostI K σ ρ H es ds J H1->R J H1
abbrev VI(X:Cx)(tg iter:Expr)(f:FEs)(es:List Es):Prop:=PI X tg iter (tvI X.K f es)
theorem kr{X:Cx}{tg e:Expr}{t t':TI}(h:PI X tg e t)(i:∀ σ H R,t' σ H R->t σ H R):PI X tg e t':=fun pins s σ H R I q=>h pins s σ H R I (i σ H R q)
section
variable {X:Cx} {tg iter a b:Expr} {fa fi:FE} {as:FEs} {es ea ei:List Es} {pr pn:Pos}
def dF(f:FE):FEs:=fun ρ=>(f ρ).bind fun d=>if ck d=true then none else items d
theorem zM(h:VB X iter fi ei):VI X tg iter (dF fi) ei:=kr (jQ h) fun σ H R ⟨ρ,ds,hE,hf,hR⟩=>by
  obtain⟨d,h1,hf⟩:=bind_some hf
  cases ht:ck d with
  | true=>rw[if_pos ht] at hf;cases hf
  | false =>
    rw[if_neg (by rw[ht];exact Bool.false_ne_true)] at hf
    refine⟨ρ,d,hE,h1,fun v H1 p=>?_⟩
    obtain⟨q,xs,rfl,hq,hx,hA⟩:=e8 p.rep hf ht
    have len:=hx.length
    refine⟨q,rfl,⟨xs,hq⟩,hR _ _ ⟨p.same,fun i d' H' hd e=>?_,fun H' e=>⟨xs,e.seq hq,by omega⟩⟩⟩
    obtain⟨x,h2,h3⟩:=hx.get hd
    refine⟨⟨xs,x,e.seq hq,h2⟩,fun y H'' ⟨eq,hy⟩=>?_⟩
    subst eq
    have e2:=hy xs (e.seq hq)
    rw[h2] at e2;cases e2
    refine⟨Same.refl _,aw e h3,fun A hD hz=>?_⟩
    obtain⟨x',h4,h5⟩:=(hA A (p.av A hD hz)).get hd
    rw[h2] at h4;cases h4
    exact aw (bm e) h5
theorem zN{K:PySem.W.Frag}{σ:St}{ρ:ad}{H H1:Hp}{lo:Int}{n:Nat}(e:Same H H1):PostI K σ ρ H [] (cg lo n) (Itr lo n) H1:=by
  refine⟨e,fun i d H' hd _=>?_,fun H' _=>?_⟩
  · have hi:i < n:=by
      have:=(List.getElem?_eq_some_iff.mp hd).1
      simpa [cg] using this
    have ed:d=.int (lo+i):=by
      have:=(List.getElem?_eq_some_iff.mp hd).2
      rw[<- this];simp[cg]
    subst ed
    refine⟨hi,fun x H'' ⟨e1,e2⟩=>?_⟩
    subst e1 e2
    exact⟨Same.refl _,.int _,fun A _ _=>.int _⟩
  · show n<=(cg lo n).length
    simp[cg]
def iR1(as:FEs):FEs:=fun ρ=>(as ρ).bind fun ds=>match ds with
  | [.int j]=>if okR j then some (cg 0 j.toNat) else none
  | _=>none
theorem zO(mr:X.mg "range" = none)(hi:VA X [a] as ei)(hg:Gl X "range":=by rfl)(hst:starEach [a] X.env=[(false,eval a X.env)]:=by rfl):VI X tg (.Call (.Name "range" pn) [a] [] pr) (iR1 as) [] :=
  kr (jR hg mr hi hst) fun σ H R ⟨ρ,ds,hE,hf,hR⟩=>by
    obtain⟨vs,h1,hf⟩:=bind_some hf
    refine⟨ρ,vs,hE,h1,fun xs H1 p=>?_⟩
    match vs,hf,p with
    | [.int j],hf,p =>
      obtain⟨hj,rfl⟩:=bW hf
      obtain⟨v,rfl,r⟩:=e9 p.rep
      cases r
      exact⟨j,rfl,hj.1,hj.2,hR _ _ (zN p.same)⟩
end
def b8{α:Type}(σ:List (Option α))(is:List Nat)(xs:List α):List (Option α):=(is.zip xs).foldl (fun r p=>r.set p.1 (some p.2)) σ
structure TgV (K:PySem.W.Frag) (g:TG) (is:List Nat) (un:D->Option (List D)):Prop where
  ok:∀ (x:V) (σ:St) (H:Hp) (Q:St->Hp->Prop) (d:D) (ds:List D),Rep K H x d->un d=some ds->(∀ xs:List V,Reps K H xs ds->(∀ A,Rep K (aj H A) x d->Reps K (aj H A) xs ds)->Q (b8 σ is xs) H)->g x σ H Q
  len:∀ d ds,un d=some ds->ds.length=is.length
def un1(d:D):Option (List D):=some [d]
theorem dG{K:PySem.W.Frag}(t:Nat):TgV K (bQ t) [t] un1 where
  ok:=fun x σ H Q d ds r hd h=>by
    cases hd
    exact h [x] (.cons r .nil) fun A r'=>.cons r' .nil
  len:=fun d ds h=>by cases h;rfl
def unT(n:Nat):D->Option (List D)
  | .tup ds=>if ds.length=n then some ds else none
  | _=>none
theorem qV{Q:St->Hp->Prop}{H:Hp}:∀ {is:List Nat} {xs:List V} {σ:St},is.length=xs.length->Q (b8 σ is xs) H->eh is xs σ H Q
  | [],[],_,_,h=>⟨rfl,h⟩
  | [],_::_,_,h,_=>by cases h
  | _::_,[],_,h,_=>by cases h
  | i::is,x::xs,σ,hl,h=>⟨x,xs,rfl,qV (σ:=σ.set i (some x)) (by simpa using hl) h⟩
theorem mG{K:PySem.W.Frag}(is:List Nat):TgV K (iG K is.length (eh is)) is (unT is.length) where
  ok:=fun x σ H Q d ds r hd h=>by
    cases d with
    | tup es =>
      obtain⟨hl,rfl⟩:=bW hd
      obtain⟨p,xs,rfl,hp,hx⟩:=mC r
      have len:=hx.length
      exact⟨p,xs,rfl,.inl hp,by omega,qV (by omega) (h xs hx fun A r'=>qR hp r')⟩
    | _=>cases hd
  len:=fun d ds h=>by
    cases d with
    | tup es=>obtain⟨hl,rfl⟩:=bW h;exact hl
    | _=>cases h
def be(nown:Nat)(caps:List Nat)(ρ:ad):ad:=List.replicate nown none++caps.map fun j=>(ρ[j]?).getD none
theorem kt{P:Nat->V->D->Prop}:∀ {is:List Nat} {xs:List V} {ds:List D} {σ:St} {ρ:ad},σ.length=ρ.length->xs.length=ds.length->(∀ (j:Nat) v d,σ[j]?=some (some v)->ρ[j]?=some (some d)->P j v d) ->
    (∀ (k:Nat) j v d,is[k]?=some j->xs[k]?=some v->ds[k]?=some d->P j v d)->∀ (j:Nat) v d,(b8 σ is xs)[j]?=some (some v)->(b8 ρ is ds)[j]?=some (some d)->P j v d
  | [],_,_,_,_,_,_,h0,_=>by simpa [b8] using h0
  | i::is,[],[],_,_,_,_,h0,_=>by simpa [b8] using h0
  | i::is,[],_::_,_,_,_,h,_,_=>by cases h
  | i::is,_::_,[],_,_,_,h,_,_=>by cases h
  | i :: is,x::xs,d::ds,σ,ρ,hl,hx,h0,h1=>by
    refine kt (is:=is) (xs:=xs) (ds:=ds) (σ:=σ.set i (some x)) (ρ:=ρ.set i (some d)) (by simpa using hl) (by simpa using hx) (fun j v d' e1 e2=>?_) fun k j v d' a1 a2 a3=>h1 (k+1) j v d' (by simpa using a1) (by simpa using a2) (by simpa using a3)
    by_cases hj:j=i
    · subst hj
      have l1:j < σ.length:=by have:=(List.getElem?_eq_some_iff.mp e1).1;simpa using this
      rw[List.getElem?_set_self l1] at e1
      rw[List.getElem?_set_self (by omega)] at e2
      cases e1;cases e2
      exact h1 0 j x d rfl rfl rfl
    · rw[List.getElem?_set_ne (Ne.symm hj)] at e1 e2
      exact h0 j v d' e1 e2
theorem qW{α β:Type}:∀ {is:List Nat} {xs:List α} {ds:List β} {σ:List (Option α)} {ρ:List (Option β)},σ.length=ρ.length->xs.length=ds.length->(∀ (j:Nat) d,ρ[j]?=some (some d)->∃ v,σ[j]?=some (some v)) ->
    ∀ (j:Nat) d,(b8 ρ is ds)[j]?=some (some d)->∃ v,(b8 σ is xs)[j]?=some (some v)
  | [],_,_,_,_,_,_,h0=>by simpa [b8] using h0
  | i::is,[],[],_,_,_,_,h0=>by simpa [b8] using h0
  | i::is,[],_::_,_,_,_,h,_=>by cases h
  | i::is,_::_,[],_,_,_,h,_=>by cases h
  | i :: is,x::xs,d::ds,σ,ρ,hl,hx,h0=>by
    refine qW (is:=is) (xs:=xs) (ds:=ds) (σ:=σ.set i (some x)) (ρ:=ρ.set i (some d)) (by simpa using hl) (by simpa using hx) fun j d' e2=>?_
    by_cases hj:j=i
    · subst hj
      have l1:j < ρ.length:=by have:=(List.getElem?_eq_some_iff.mp e2).1;simpa using this
      exact⟨x,List.getElem?_set_self (by omega)⟩
    · rw[List.getElem?_set_ne (Ne.symm hj)] at e2 ⊢
      exact h0 j d' e2
theorem qX{α:Type}:∀ {is:List Nat} {xs:List α} {σ:List (Option α)},(b8 σ is xs).length=σ.length
  | [],_,_=>by simp[b8]
  | _::_,[],_=>by simp[b8]
  | i::is,x::xs,σ=>by
    have:=qX (is:=is) (xs:=xs) (σ:=σ.set i (some x))
    simpa [b8] using this
theorem qY{α:Type}{n:Nat}:∀ {is:List Nat} {xs:List α} {σ:List (Option α)},(∀ i ∈ is,i < n)->∀ j,n<=j->(b8 σ is xs)[j]?=σ[j]?
  | [],_,_,_,_,_=>by simp[b8]
  | _::_,[],_,_,_,_=>by simp[b8]
  | i::is,x::xs,σ,h,j,hj=>by
    have:=qY (is:=is) (xs:=xs) (σ:=σ.set i (some x)) (fun k hk=>h k (List.mem_cons_of_mem _ hk)) j hj
    have hi:=h i List.mem_cons_self
    rw[List.getElem?_set_ne (by omega)] at this
    simpa [b8] using this
def esC(nown:Nat)(caps:List Nat)(ei:List Es):List Es->List Es
  | []=>[]
  | .full j::r=>(if j < nown then ei else [.full (caps.getD (j - nown) 0)])++esC nown caps ei r
  | .el j::r=>(if j < nown then ei else [.el (caps.getD (j - nown) 0)])++esC nown caps ei r
theorem ku{nown:Nat}{caps:List Nat}{ei:List Es}:∀ {ee:List Es} {e:Es},e ∈ ee->(∀ j,e=.full j\/e=.el j->j < nown)->∀ z ∈ ei,z ∈ esC nown caps ei ee
  | .full j::r,e,he,hj,z,hz=>by
    rcases List.mem_cons.mp he with q | q
    · have:=hj j (.inl q)
      show z ∈ (if j < nown then ei else _)++_
      rw[if_pos this];exact List.mem_append_left _ hz
    · exact List.mem_append_right _ (ku q hj z hz)
  | .el j::r,e,he,hj,z,hz=>by
    rcases List.mem_cons.mp he with q | q
    · have:=hj j (.inr q)
      show z ∈ (if j < nown then ei else _)++_
      rw[if_pos this];exact List.mem_append_left _ hz
    · exact List.mem_append_right _ (ku q hj z hz)
theorem mH{nown:Nat}{caps:List Nat}{ei:List Es}{j:Nat}(hj:¬ j < nown):∀ {ee:List Es},Es.full j ∈ ee->Es.full (caps.getD (j - nown) 0) ∈ esC nown caps ei ee
  | .full k::r,he=>by
    rcases List.mem_cons.mp he with q | q
    · cases q
      show _ ∈ (if j < nown then ei else _)++_
      rw[if_neg hj];exact List.mem_append_left _ List.mem_cons_self
    · exact List.mem_append_right _ (mH hj q)
  | .el k::r,he=>by
    rcases List.mem_cons.mp he with q | q
    · cases q
    · exact List.mem_append_right _ (mH hj q)
theorem mI{nown:Nat}{caps:List Nat}{ei:List Es}{j:Nat}(hj:¬ j < nown):∀ {ee:List Es},Es.el j ∈ ee->Es.el (caps.getD (j - nown) 0) ∈ esC nown caps ei ee
  | .full k::r,he=>by
    rcases List.mem_cons.mp he with q | q
    · cases q
    · exact List.mem_append_right _ (mI hj q)
  | .el k::r,he=>by
    rcases List.mem_cons.mp he with q | q
    · cases q
      show _ ∈ (if j < nown then ei else _)++_
      rw[if_neg hj];exact List.mem_append_left _ List.mem_cons_self
    · exact List.mem_append_right _ (mI hj q)
def er(g:D->Option (Option D)):List D->Option (List D)
  | []=>some []
  | x::r=>(g x).bind fun o=>(er g r).bind fun ds=>some (match o with | some d=>d::ds | none=>ds)
def fL(is:List Nat)(un:D->Option (List D))(c:ad->Option Bool)(fe:FE)(ρ:ad):D->Option (Option D):=fun d=>(un d).bind fun ds=>(c (b8 ρ is ds)).bind fun b=>if b=true then (fe (b8 ρ is ds)).map some else some none
def bM(nown:Nat)(caps:List Nat)(is:List Nat)(un:D->Option (List D))(fi:FEs)(c:ad->Option Bool)(fe:FE):FE:=fun ρ=>(fi ρ).bind fun ds=>if ds.length < 100000 then (er (fL is un c fe (be nown caps ρ)) ds).map .lst else none
def bN:ad->Option Bool:=fun _=>some true
theorem zP{K:PySem.W.Frag}{nown:Nat}{caps is:List Nat}{un:D->Option (List D)}{fi:FEs}{ei ee:List Es}{g:TG}{c:ad->Option Bool}{fe:FE}(hg:TgV K g is un)(his:∀ i ∈ is,i < nown){σ:St}{H:Hp}{Q:VK}(h:tvF K (bM nown caps is un fi c fe) (esC nown caps ei ee) σ H Q):iX nown caps (tvI K fi ei) g (tvT K c) (tv K fe ee) σ H Q:=by
  obtain⟨ρ,dd,hE,hf,hQ⟩:=h
  obtain⟨ds,h1,hf⟩:=bind_some hf
  by_cases hl:ds.length < 100000
  · rw[if_pos hl] at hf
    cases htot:er (fL is un c fe (be nown caps ρ)) ds with
    | none=>rw[htot] at hf;cases hf
    | some tot =>
      rw[htot] at hf
      cases hf
      refine⟨ρ,ds,hE,h1,fun J H1 p=>?_⟩
      refine⟨fun i m ys σb H2=>m=ds.length - i/\i<=ds.length/\Same H1 H2/\(σb.length=nown+caps.length/\∀ k,nown<=k->σb[k]?=(ci σ caps)[k - nown]?) /\
        ∃ done ar,er (fL is un c fe (be nown caps ρ)) (ds.drop i)=some ar/\tot=done++ar/\done.length<=i/\Reps K H2 ys done/\∀ A,Dom H A->(∀ e ∈ esC nown caps ei ee,Av K H σ ρ A e)->Reps K (aj H2 A) ys done,?_,?_⟩
      · refine⟨ds.length,by simp,Nat.zero_le _,Same.refl _,⟨by simp[ci],fun k hk=>?_⟩,[],tot,by simpa using htot,rfl,Nat.le_refl _,.nil,fun _ _ _=>.nil⟩
        rw[List.getElem?_append_right (by simpa using hk)]
        simp
      · rintro i m ys σb H2 ⟨rfl,hi,e2,⟨hlen,hcap⟩,done,ar,hgo,htot',hdl,hr,hA⟩
        have lys:=hr.length
        refine⟨Nat.lt_of_lt_of_le (show ys.length < 100000 by omega) (by decide),?_⟩
        by_cases hlt:i < ds.length
        · obtain⟨d,hd⟩:∃ d,ds[i]?=some d:=⟨ds[i],by simp[hlt]⟩
          have ed:ds.drop i=d::ds.drop (i+1):=by
            rw[List.drop_eq_getElem_cons hlt]
            have q:=(List.getElem?_eq_some_iff.mp hd).2
            rw[q]
          rw[ed] at hgo
          obtain⟨o,ho,hgo⟩:=bind_some hgo
          obtain⟨rest',hgo',hgo⟩:=bind_some hgo
          cases hgo
          obtain⟨ts,hun,ho⟩:=bind_some ho
          obtain⟨b,hb,ho⟩:=bind_some ho
          obtain⟨jg,jy⟩:=p.go i d H2 hd e2
          refine .inr ⟨jg,fun x H3 y=>?_⟩
          obtain⟨e3,rx,ax⟩:=jy x H3 y
          refine hg.ok x σb H3 _ d ts rx hun fun xs rxs axs=>?_
          have e13:Same H H3:=(p.same.trans e2).trans e3
          have lx:=rxs.length
          have lts:=hg.len d ts hun
          have lb:σb.length=(be nown caps ρ).length:=by rw[hlen];simp[be]
          have base:∀ (j:Nat) v d',σb[j]?=some (some v)->(be nown caps ρ)[j]?=some (some d')->¬ j < nown/\∃ k,caps[j - nown]?=some k/\σ[k]?=some (some v)/\ρ[k]?=some (some d'):=fun j v d' q1 q2=>by
            by_cases hj:j < nown
            · unfold be at q2
              rw[List.getElem?_append_left (by simpa using hj),List.getElem?_replicate,if_pos hj] at q2
              cases q2
            · rw[hcap j (by omega)] at q1
              unfold be at q2
              rw[List.getElem?_append_right (by simp;omega)] at q2
              simp only[List.length_replicate,List.getElem?_map] at q2
              unfold ci at q1
              rw[List.getElem?_map] at q1
              cases hk:caps[j - nown]? with
              | none=>rw[hk] at q1;cases q1
              | some k =>
                rw[hk] at q1 q2
                refine⟨hj,k,rfl,?_,?_⟩
                · simp only[Option.map_some,Option.some.injEq] at q1
                  cases e:σ[k]? with
                  | none=>rw[e] at q1;cases q1
                  | some o'=>rw[e] at q1;simp only[Option.getD_some] at q1;rw[q1]
                · simp only[Option.map_some,Option.some.injEq] at q2
                  cases e:ρ[k]? with
                  | none=>rw[e] at q2;cases q2
                  | some o'=>rw[e] at q2;simp only[Option.getD_some] at q2;rw[q2]
          have hE':EnvR K H3 (b8 σb is xs) (b8 (be nown caps ρ) is ts):=fun j d' q=>by
            obtain⟨v,hv⟩:=qW lb lx (fun j' d'' q'=>by
              by_cases hj:j' < nown
              · unfold be at q'
                rw[List.getElem?_append_left (by simpa using hj),List.getElem?_replicate,if_pos hj] at q'
                cases q'
              · have q0:=q'
                unfold be at q'
                rw[List.getElem?_append_right (by simp;omega)] at q'
                simp only[List.length_replicate,List.getElem?_map] at q'
                cases hk:caps[j' - nown]? with
                | none=>rw[hk] at q';cases q'
                | some k =>
                  rw[hk] at q'
                  simp only[Option.map_some,Option.some.injEq] at q'
                  cases e:ρ[k]? with
                  | none=>rw[e] at q';cases q'
                  | some o' =>
                    rw[e] at q'
                    simp only[Option.getD_some] at q'
                    subst q'
                    obtain⟨v,hv,_⟩:=hE k d'' e
                    refine⟨v,?_⟩
                    rw[hcap j' (by omega)]
                    unfold ci
                    rw[List.getElem?_map,hk]
                    simp[hv]) j d' q
            refine⟨v,hv,kt (P:=fun _ v d=>Rep K H3 v d) lb lx (fun j v d' q1 q2=>?_) (fun k j v d' a1 a2 a3=>?_) j v d' hv q⟩
            · obtain⟨_,k,_,k1,k2⟩:=base j v d' q1 q2
              obtain⟨v',k3,k4⟩:=hE k d' k2
              rw[k1] at k3;cases k3
              exact aw e13 k4
            · obtain⟨v',k3,k4⟩:=rxs.get a3
              rw[a2] at k3;cases k3
              exact k4
          have av:∀ A,Dom H A->(∀ e ∈ esC nown caps ei ee,Av K H σ ρ A e)->∀ H5,Same H3 H5->∀ e ∈ ee,Av K H5 (b8 σb is xs) (b8 (be nown caps ρ) is ts) A e:=fun A hD hz H5 e5 e he=>by
            have item:(∀ z ∈ ei,z ∈ esC nown caps ei ee)->Reps K (aj H3 A) xs ts:=fun hsub=>axs A (ax A hD fun z hz'=>hz z (hsub z hz'))
            refine Av.mono e5 ?_
            cases e with
            | full j0 =>
              intro v d' q1 q2
              refine kt (P:=fun j v d=>j=j0->Rep K (aj H3 A) v d) lb lx (fun j v d' q3 q4 ej=>?_) (fun k j v d' a1 a2 a3 ej=>?_) j0 v d' q1 q2 rfl
              · rw[<- ej] at he
                obtain⟨hj,k,hk,k1,k2⟩:=base j v d' q3 q4
                have:=hz _ (mH hj he)
                rw[List.getD_eq_getElem?_getD,hk] at this
                exact aw (bm e13) (this v d' k1 k2)
              · rw[<- ej] at he
                have hj:=his j (List.mem_of_getElem? a1)
                obtain⟨v',k3,k4⟩:=(item (ku he fun j' hj'=>by rcases hj' with q | q <;> cases q;exact hj)).get a3
                rw[a2] at k3;cases k3
                exact k4
            | el j0 =>
              intro v d' q1 q2
              refine kt (P:=fun j v d=>j=j0->ElR K H3 A v d) lb lx (fun j v d' q3 q4 ej=>?_) (fun k j v d' a1 a2 a3 ej=>?_) j0 v d' q1 q2 rfl
              · rw[<- ej] at he
                obtain⟨hj,k,hk,k1,k2⟩:=base j v d' q3 q4
                have:=hz _ (mI hj he)
                rw[List.getD_eq_getElem?_getD,hk] at this
                exact (this v d' k1 k2).mono e13
              · rw[<- ej] at he
                have hj:=his j (List.mem_of_getElem? a1)
                obtain⟨v',k3,k4⟩:=(item (ku he fun j' hj'=>by rcases hj' with q | q <;> cases q;exact hj)).get a3
                rw[a2] at k3;cases k3
                exact k4.el
          have shape:(b8 σb is xs).length=nown+caps.length/\∀ k,nown<=k->(b8 σb is xs)[k]?=(ci σ caps)[k - nown]?:=⟨by rw[qX];exact hlen,fun k hk=>by rw[qY his k hk];exact hcap k hk⟩
          refine⟨_,b,hE',hb,fun H5 e5=>?_⟩
          have e25:Same H2 H5:=e3.trans e5
          cases b with
          | false =>
            cases ho
            refine dW ⟨ds.length - (i+1),by omega,rfl,hlt,e2.trans e25,shape,done,rest',hgo',htot',by omega,aH e25 hr,fun A hD hz=>aH (bm e25) (hA A hD hz)⟩
          | true =>
            have ho':(fe (b8 (be nown caps ρ) is ts)).map some=some o:=ho
            cases hfe:fe (b8 (be nown caps ρ) is ts) with
            | none=>rw[hfe] at ho';cases ho'
            | some dv =>
              rw[hfe] at ho'
              cases ho'
              refine dX ⟨_,dv,hE'.mono e5,hfe,fun v H6 p6=>?_⟩
              have e26:Same H2 H6:=e25.trans p6.same
              refine⟨ds.length - (i+1),by omega,rfl,hlt,e2.trans e26,shape,done++[dv],rest',hgo',by rw[htot'];simp,by simp;omega,(aH e26 hr).append (.cons p6.rep .nil),fun A hD hz=>?_⟩
              exact (aH (bm e26) (hA A hD hz)).append (.cons (p6.av A (hD.mono (e13.trans e5)) (av A hD hz H5 e5)) .nil)
        · have ei':i=ds.length:=by omega
          subst ei'
          rw[List.drop_length] at hgo
          cases hgo
          rw[List.append_nil] at htot'
          subst htot'
          exact .inl ⟨p.stop H2 e2,fun d hd=>hQ _ _ (gZ (p.same.trans e2) hd fun A hD hz=>hA A hD hz)⟩
  · rw[if_neg hl] at hf;cases hf
end VL
namespace VL
open PySem PySem.Spec PyProof.Rows L2
def b2z(b:Bool):Int:=if b then 1 else 0
def fM:D->D->Bool
  | .non,.non=>true
  | .bl a,.bl b=>a == b
  | .int i,.int j=>i == j
  | .str x,.str y=>x == y
  | .bl a,.int j=>b2z a == j
  | .int i,.bl b=>i == b2z b
  | _,_=>false
def aX:Nat->D->D->Bool
  | k+1,.lst xs,.lst ys=>xs.length == ys.length && (xs.zip ys).all fun p=>aX k p.1 p.2
  | k+1,.tup xs,.tup ys=>xs.length == ys.length && (xs.zip ys).all fun p=>aX k p.1 p.2
  | _,d,e=>fM d e
def aY:Nat->D->Bool
  | _,.scr _=>false
  | _,.dct _ _=>false
  | _,.ptr _=>false
  | 0,.lst _=>false
  | 0,.tup _=>false
  | k+1,.lst xs=>xs.all (aY k)
  | k+1,.tup xs=>xs.all (aY k)
  | _,_=>true
structure Cmp3 (A:Around) (s:Shared) (v u:Value) (b:Bool):Prop where
  eq:SeqAt.EqAt A s v u b
  rc:SeqAt.RcAt A s v u b
  ne:SeqAt.RcNeAt A s v u (!b)
theorem mJ(f:D->D->Bool):∀ (xs ys:List D),xs.length=ys.length ->
    (List.range xs.length).all (fun j=>match xs[j]?,ys[j]? with | some a,some b=>f a b | _,_=>false)=(xs.zip ys).all fun p=>f p.1 p.2
  | [],[],_=>rfl
  | [],_::_,h=>by cases h
  | _::_,[],h=>by cases h
  | x::xs,y::ys,h=>by
    have ih:=mJ f xs ys (by simpa using h)
    rw[List.length_cons,List.range_succ_eq_map,List.all_cons,List.all_map,List.zip_cons_cons,List.all_cons,<- ih]
    simp[Function.comp_def]
def mK:D->Bool
  | .scr _=>true
  | .dct _ _=>true
  | .ptr _=>true
  | _=>false
def kx:D->D->Bool
  | .lst _,.lst _=>true
  | .tup _,.tup _=>true
  | _,_=>false
theorem qZ{X:Cx}{pins:List (Addr × Obj)}{σ:St}{H:Hp}{s:Shared}(I:L2.Inv X pins σ H s)(A:Around)(v u:V)(vv uu:Value)(d e:D)(hu:A.units < cLine)(nd:mK d=false)(ne:mK e=false)(nl:kx d e=false)(rd:Rep X.K H v d)(re:Rep X.K H u e)(rv:RelV v vv)(ru:RelV u uu):Cmp3 A s vv uu (fM d e):=by
  cases rd with
  | scr _=>cases nd
  | dct _=>cases nd
  | ptr _=>cases nd
  | non =>
    cases rv
    cases re with
    | scr _=>cases ne
    | dct _=>cases ne
    | ptr _=>cases ne
    | non =>
      cases ru
      exact⟨.same _,.none_none,.none_none⟩
    | bl b2 =>
      cases ru
      exact⟨.none_bool b2,.none_bool b2,.none_bool b2⟩
    | int i2 =>
      obtain⟨t2,rfl⟩:=ru
      exact⟨.none_int i2 t2,.none_int i2 t2,.none_int i2 t2⟩
    | str x2 =>
      obtain⟨t2,rfl⟩:=ru
      exact⟨.none_str x2 t2,.none_str x2 t2,.none_str x2 t2⟩
    | @lst p2 xs2 ds2 h2 r2 =>
      cases ru;obtain⟨its2,q2,pl2,z2⟩:=I.list (.inl h2);have l2:=pl2.isList
      exact⟨.none_list l2 hu,.none_list l2 hu,.none_list l2 hu⟩
    | @tup p2 xs2 ds2 h2 r2 =>
      cases ru;obtain⟨its2,q2,l2,z2⟩:=I.tuple (.inl h2)
      exact⟨.none_tuple l2 hu,.none_tuple l2 hu,.none_tuple l2 hu⟩
  | bl b1 =>
    cases rv
    cases re with
    | scr _=>cases ne
    | dct _=>cases ne
    | ptr _=>cases ne
    | non =>
      cases ru
      exact⟨.bool_none b1,.bool_none b1,.bool_none b1⟩
    | bl b2 =>
      cases ru
      exact⟨.bool_bool b1 b2,.bool_bool b1 b2,.bool_bool b1 b2⟩
    | int i2 =>
      obtain⟨t2,rfl⟩:=ru
      exact⟨.bool_int b1 i2 t2,.bool_int b1 i2 t2,.bool_int b1 i2 t2⟩
    | str x2 =>
      obtain⟨t2,rfl⟩:=ru
      exact⟨.bool_str b1 x2 t2,.bool_str b1 x2 t2,.bool_str b1 x2 t2⟩
    | @lst p2 xs2 ds2 h2 r2 =>
      cases ru;obtain⟨its2,q2,pl2,z2⟩:=I.list (.inl h2);have l2:=pl2.isList
      exact⟨.bool_list b1 l2 hu,.bool_list b1 l2 hu,.bool_list b1 l2 hu⟩
    | @tup p2 xs2 ds2 h2 r2 =>
      cases ru;obtain⟨its2,q2,l2,z2⟩:=I.tuple (.inl h2)
      exact⟨.bool_tuple b1 l2 hu,.bool_tuple b1 l2 hu,.bool_tuple b1 l2 hu⟩
  | int i1 =>
    obtain⟨t1,rfl⟩:=rv
    cases re with
    | scr _=>cases ne
    | dct _=>cases ne
    | ptr _=>cases ne
    | non =>
      cases ru
      exact⟨.int_none i1 t1,.int_none i1 t1,.int_none i1 t1⟩
    | bl b2 =>
      cases ru
      exact⟨.int_bool i1 t1 b2,.int_bool i1 t1 b2,.int_bool i1 t1 b2⟩
    | int i2 =>
      obtain⟨t2,rfl⟩:=ru
      exact⟨.int_int i1 t1 i2 t2,.int_int i1 t1 i2 t2,.int_int i1 t1 i2 t2⟩
    | str x2 =>
      obtain⟨t2,rfl⟩:=ru
      exact⟨.int_str i1 t1 x2 t2,.int_str i1 t1 x2 t2,.int_str i1 t1 x2 t2⟩
    | @lst p2 xs2 ds2 h2 r2 =>
      cases ru;obtain⟨its2,q2,pl2,z2⟩:=I.list (.inl h2);have l2:=pl2.isList
      exact⟨.int_list i1 t1 l2 hu,.int_list i1 t1 l2 hu,.int_list i1 t1 l2 hu⟩
    | @tup p2 xs2 ds2 h2 r2 =>
      cases ru;obtain⟨its2,q2,l2,z2⟩:=I.tuple (.inl h2)
      exact⟨.int_tuple i1 t1 l2 hu,.int_tuple i1 t1 l2 hu,.int_tuple i1 t1 l2 hu⟩
  | str x1 =>
    obtain⟨t1,rfl⟩:=rv
    cases re with
    | scr _=>cases ne
    | dct _=>cases ne
    | ptr _=>cases ne
    | non =>
      cases ru
      exact⟨.str_none x1 t1,.str_none x1 t1,.str_none x1 t1⟩
    | bl b2 =>
      cases ru
      exact⟨.str_bool x1 t1 b2,.str_bool x1 t1 b2,.str_bool x1 t1 b2⟩
    | int i2 =>
      obtain⟨t2,rfl⟩:=ru
      exact⟨.str_int x1 t1 i2 t2,.str_int x1 t1 i2 t2,.str_int x1 t1 i2 t2⟩
    | str x2 =>
      obtain⟨t2,rfl⟩:=ru
      exact⟨.str_str x1 t1 x2 t2,.str_str x1 t1 x2 t2,.str_str x1 t1 x2 t2⟩
    | @lst p2 xs2 ds2 h2 r2 =>
      cases ru;obtain⟨its2,q2,pl2,z2⟩:=I.list (.inl h2);have l2:=pl2.isList
      exact⟨.str_list x1 t1 l2 hu,.str_list x1 t1 l2 hu,.str_list x1 t1 l2 hu⟩
    | @tup p2 xs2 ds2 h2 r2 =>
      cases ru;obtain⟨its2,q2,l2,z2⟩:=I.tuple (.inl h2)
      exact⟨.str_tuple x1 t1 l2 hu,.str_tuple x1 t1 l2 hu,.str_tuple x1 t1 l2 hu⟩
  | @lst p1 xs1 ds1 h1 r1 =>
    cases rv;obtain⟨its1,q1,pl1,z1⟩:=I.list (.inl h1);have l1:=pl1.isList
    cases re with
    | scr _=>cases ne
    | dct _=>cases ne
    | ptr _=>cases ne
    | non =>
      cases ru
      exact⟨.list_none l1 hu,.list_none l1 hu,.list_none l1 hu⟩
    | bl b2 =>
      cases ru
      exact⟨.list_bool b2 l1 hu,.list_bool b2 l1 hu,.list_bool b2 l1 hu⟩
    | int i2 =>
      obtain⟨t2,rfl⟩:=ru
      exact⟨.list_int i2 t2 l1 hu,.list_int i2 t2 l1 hu,.list_int i2 t2 l1 hu⟩
    | str x2 =>
      obtain⟨t2,rfl⟩:=ru
      exact⟨.list_str x2 t2 l1 hu,.list_str x2 t2 l1 hu,.list_str x2 t2 l1 hu⟩
    | lst _ _=>cases nl
    | @tup p2 xs2 ds2 h2 r2 =>
      cases ru;obtain⟨its2,q2,l2,z2⟩:=I.tuple (.inl h2)
      exact⟨.list_tuple l1 l2 hu,.list_tuple l1 l2 hu,.list_tuple l1 l2 hu⟩
  | @tup p1 xs1 ds1 h1 r1 =>
    cases rv;obtain⟨its1,q1,l1,z1⟩:=I.tuple (.inl h1)
    cases re with
    | scr _=>cases ne
    | dct _=>cases ne
    | ptr _=>cases ne
    | non =>
      cases ru
      exact⟨.tuple_none l1 hu,.tuple_none l1 hu,.tuple_none l1 hu⟩
    | bl b2 =>
      cases ru
      exact⟨.tuple_bool b2 l1 hu,.tuple_bool b2 l1 hu,.tuple_bool b2 l1 hu⟩
    | int i2 =>
      obtain⟨t2,rfl⟩:=ru
      exact⟨.tuple_int i2 t2 l1 hu,.tuple_int i2 t2 l1 hu,.tuple_int i2 t2 l1 hu⟩
    | str x2 =>
      obtain⟨t2,rfl⟩:=ru
      exact⟨.tuple_str x2 t2 l1 hu,.tuple_str x2 t2 l1 hu,.tuple_str x2 t2 l1 hu⟩
    | @lst p2 xs2 ds2 h2 r2 =>
      cases ru;obtain⟨its2,q2,pl2,z2⟩:=I.list (.inl h2);have l2:=pl2.isList
      exact⟨.tuple_list l1 l2 hu,.tuple_list l1 l2 hu,.tuple_list l1 l2 hu⟩
    | tup _ _=>cases nl
theorem r8{K:PySem.W.Frag}:∀ (k:Nat) (H:Hp) {xs:List V} {j:Nat} {d e:D},(∃ v,xs[j]?=some v/\Rep K H v d)->(∃ v,xs[j]?=some v/\Rep K H v e)->aY k d=true->aY k e=true->aX k d e=true:=by
  intro k H
  have main:∀ (k:Nat) {v:V} {d e:D},Rep K H v d->Rep K H v e->aY k d=true->aY k e=true->aX k d e=true:=by
    intro k
    induction k with
    | zero =>
      intro v d e h1 h2 f1 f2
      cases h1 <;> cases h2 <;> first | (cases f1;done) | (cases f2;done) | simp[aX,fM]
    | succ k ih =>
      intro v d e h1 h2 f1 f2
      have seq:∀ {xs:List V} {ds es:List D},Reps K H xs ds->Reps K H xs es->ds.all (aY k)=true->es.all (aY k)=true->(ds.length == es.length && (ds.zip es).all fun p=>aX k p.1 p.2)=true:=by
        intro xs ds es r1 r2 g1 g2
        rw[Bool.and_eq_true]
        refine⟨by rw[<- r1.length,r2.length];simp,List.all_eq_true.mpr fun z hz=>?_⟩
        obtain⟨j,hj,ej⟩:=List.getElem_of_mem hz
        have ej':(ds.zip es)[j]?=some z:=by rw[List.getElem?_eq_getElem hj,ej]
        rw[List.getElem?_zip_eq_some] at ej'
        obtain⟨a,a1,a2⟩:=r1.get ej'.1
        obtain⟨b,b1,b2⟩:=r2.get ej'.2
        rw[a1] at b1;cases b1
        exact ih a2 b2 (List.all_eq_true.mp g1 _ (List.mem_of_getElem? ej'.1)) (List.all_eq_true.mp g2 _ (List.mem_of_getElem? ej'.2))
      cases h1 with
      | lst a1 a2 =>
        cases h2 with
        | lst b1 b2=>rw[gN a1 b1] at a2;exact seq a2 b2 f1 f2
        | tup b1 b2=>exact (qA a1 b1).elim
        | scr _=>cases f2
        | dct _=>cases f2
        | ptr _=>cases f2
      | tup a1 a2 =>
        cases h2 with
        | tup b1 b2=>rw[iL a1 b1] at a2;exact seq a2 b2 f1 f2
        | lst b1 b2=>exact (qA b1 a1).elim
        | scr _=>cases f2
        | dct _=>cases f2
        | ptr _=>cases f2
      | scr _=>cases f1
      | dct _=>cases f1
      | ptr _=>cases f1
      | _=>cases h2;simp[aX,fM]
  intro xs j d e ⟨v,h1,r1⟩ ⟨w,h2,r2⟩ f1 f2
  rw[h1] at h2;cases h2
  exact main k r1 r2 f1 f2
theorem ra{k:Nat}{d e:D}(h:kx d e=false):aX k d e=fM d e:=by
  cases k <;> cases d <;> cases e <;> first | rfl | cases h
theorem ky{k:Nat}{d:D}(h:aY k d=true):mK d=false:=by
  cases d <;> first | rfl | (cases k <;> cases h)
theorem rb{X : Cx}{pins:List (Addr × Obj)}{σ:St}{H:Hp}{s:Shared}(I:L2.Inv X pins σ H s):∀ (k:Nat) (A:Around) (v u:V) (vv uu:Value) (d e:D),A.units+k < cLine->aY k d=true->aY k e=true ->
    Rep X.K H v d->Rep X.K H u e->RelV v vv->RelV u uu->Cmp3 A s vv uu (aX k d e):=by
  intro k
  induction k with
  | zero =>
    intro A v u vv uu d e hA fd fe rd re rv ru
    have nb:kx d e=false:=by
      cases d <;> cases e <;> first | rfl | cases fd
    rw[ra nb]
    exact qZ I A v u vv uu d e (by omega) (ky fd) (ky fe) nb rd re rv ru
  | succ k ih =>
    intro A v u vv uu d e hA fd fe rd re rv ru
    have hu:A.units < cLine:=by omega
    have hin:A.in1.units+k < cLine:=by show A.units+1+k < cLine;omega
    cases nb:kx d e with
    | false =>
      rw[ra nb]
      exact qZ I A v u vv uu d e hu (ky fd) (ky fe) nb rd re rv ru
    | true =>
      have items:∀ {ds es:List D} {xs ys:List V} {its its2:List Value},ds.all (aY k)=true->es.all (aY k)=true->Reps X.K H xs ds->Reps X.K H ys es->Vals xs its->Vals ys its2 ->
          ∀ j (h1:j < its.toArray.size) (h2:j < its2.toArray.size),SeqAt.EqAt A.in1 s its.toArray[j] its2.toArray[j] (match ds[j]?,es[j]? with | some a,some b=>aX k a b | _,_=>false):=by
        intro ds es xs ys its its2 hd he rx ry vx vy j h1 h2
        have lx:=rx.length
        have ly:=ry.length
        have mx:=vx.length
        have my:=vy.length
        have k1:j < ds.length:=by simp only[List.size_toArray] at h1;omega
        have k2:j < es.length:=by simp only[List.size_toArray] at h2;omega
        obtain⟨a,ea⟩:∃ a,ds[j]?=some a:=⟨_,List.getElem?_eq_getElem k1⟩
        obtain⟨b,eb⟩:∃ b,es[j]?=some b:=⟨_,List.getElem?_eq_getElem k2⟩
        obtain⟨x,ex,qx⟩:=rx.get ea
        obtain⟨y,ey,qy⟩:=ry.get eb
        obtain⟨w1,e1,r1⟩:=vx.get ex
        obtain⟨w2,e2,r2⟩:=vy.get ey
        have f1:its.toArray[j]=w1:=by have:=(List.getElem?_eq_some_iff.mp e1).2;simpa using this
        have f2:its2.toArray[j]=w2:=by have:=(List.getElem?_eq_some_iff.mp e2).2;simpa using this
        rw[f1,f2,ea,eb]
        exact (ih A.in1 x y w1 w2 a b hin (List.all_eq_true.mp hd a (List.mem_of_getElem? ea)) (List.all_eq_true.mp he b (List.mem_of_getElem? eb)) qx qy r1 r2).eq
      cases rd with
      | @lst p xs ds h1 h2 =>
        cases rv
        cases re with
        | @lst q ys es h3 h4 =>
          cases ru
          obtain⟨its,vx,pl,hz⟩:=I.list (.inl h1)
          obtain⟨its2,vy,pl2,hz2⟩:=I.list (.inl h3)
          have e1:its.toArray.size=ds.length:=by rw[List.size_toArray,<- vx.length,h2.length]
          have e2:its2.toArray.size=es.length:=by rw[List.size_toArray,<- vy.length,h4.length]
          have core:SeqAt.RcAt A s (.ref p) (.ref q) (aX (k+1) (.lst ds) (.lst es))/\SeqAt.RcNeAt A s (.ref p) (.ref q) (!aX (k+1) (.lst ds) (.lst es)):=by
            by_cases hl:ds.length=es.length
            · have val:aX (k+1) (.lst ds) (.lst es)=(List.range its.toArray.size).all (fun j=>match ds[j]?,es[j]? with | some a,some b=>aX k a b | _,_=>false):=by
                rw[e1,mJ (aX k) ds es hl]
                show (ds.length == es.length && _)=_
                rw[hl];simp
              rw[val]
              exact⟨.lists pl.isList pl2.isList (by omega) hu (items fd fe h2 h4 vx vy),.lists pl.isList pl2.isList (by omega) hu (items fd fe h2 h4 vx vy)⟩
            · have val:aX (k+1) (.lst ds) (.lst es)=false:=by
                show (ds.length == es.length && _)=false
                rw[show (ds.length == es.length)=false by simpa using hl];rfl
              rw[val]
              have hne:(its.toArray.size != its2.toArray.size)=true:=by rw[e1,e2];simpa using hl
              exact⟨.lists_lengths pl.isList pl2.isList hne hu,.lists_lengths pl.isList pl2.isList hne hu⟩
          refine⟨?_,core.1,core.2⟩
          by_cases hpq:p=q
          · subst hpq
            have ev:aX (k+1) (.lst ds) (.lst es)=true:=by
              have exy:=gN h1 h3
              subst exy
              show (ds.length == es.length && (ds.zip es).all fun p=>aX k p.1 p.2)=true
              rw[Bool.and_eq_true]
              refine⟨by rw[<- h2.length,h4.length];simp,List.all_eq_true.mpr fun z hz=>?_⟩
              obtain⟨j,hj,ej⟩:=List.getElem_of_mem hz
              have ej':(ds.zip es)[j]?=some z:=by rw[List.getElem?_eq_getElem hj,ej]
              rw[List.getElem?_zip_eq_some] at ej'
              exact r8 k H (h2.get ej'.1) (h4.get ej'.2) (List.all_eq_true.mp fd _ (List.mem_of_getElem? ej'.1)) (List.all_eq_true.mp fe _ (List.mem_of_getElem? ej'.2))
            rw[ev]
            exact .same _
          · exact .of_refs hpq core.1
        | tup _ _=>cases nb
        | _=>cases nb
      | @tup p xs ds h1 h2 =>
        cases rv
        cases re with
        | @tup q ys es h3 h4 =>
          cases ru
          obtain⟨its,vx,pl,hz⟩:=I.tuple (.inl h1)
          obtain⟨its2,vy,pl2,hz2⟩:=I.tuple (.inl h3)
          have e1:its.toArray.size=ds.length:=by rw[List.size_toArray,<- vx.length,h2.length]
          have e2:its2.toArray.size=es.length:=by rw[List.size_toArray,<- vy.length,h4.length]
          have core:SeqAt.RcAt A s (.ref p) (.ref q) (aX (k+1) (.tup ds) (.tup es))/\SeqAt.RcNeAt A s (.ref p) (.ref q) (!aX (k+1) (.tup ds) (.tup es)):=by
            have val:aX (k+1) (.tup ds) (.tup es)=((List.range (min its.toArray.size its2.toArray.size)).all (fun j=>match ds[j]?,es[j]? with | some a,some b=>aX k a b | _,_=>false) && its.toArray.size == its2.toArray.size):=by
              rw[e1,e2]
              by_cases hl:ds.length=es.length
              · rw[<- hl,Nat.min_self,mJ (aX k) ds es hl]
                show (ds.length == es.length && _)=_
                rw[hl];simp
              · show (ds.length == es.length && _)=_
                rw[show (ds.length == es.length)=false by simpa using hl];simp
            rw[val]
            exact⟨.tuples pl pl2 hu (items fd fe h2 h4 vx vy),.tuples pl pl2 hu (items fd fe h2 h4 vx vy)⟩
          refine⟨?_,core.1,core.2⟩
          by_cases hpq:p=q
          · subst hpq
            have ev:aX (k+1) (.tup ds) (.tup es)=true:=by
              have exy:=iL h1 h3
              subst exy
              show (ds.length == es.length && (ds.zip es).all fun p=>aX k p.1 p.2)=true
              rw[Bool.and_eq_true]
              refine⟨by rw[<- h2.length,h4.length];simp,List.all_eq_true.mpr fun z hz=>?_⟩
              obtain⟨j,hj,ej⟩:=List.getElem_of_mem hz
              have ej':(ds.zip es)[j]?=some z:=by rw[List.getElem?_eq_getElem hj,ej]
              rw[List.getElem?_zip_eq_some] at ej'
              exact r8 k H (h2.get ej'.1) (h4.get ej'.2) (List.all_eq_true.mp fd _ (List.mem_of_getElem? ej'.1)) (List.all_eq_true.mp fe _ (List.mem_of_getElem? ej'.2))
            rw[ev]
            exact .same _
          · exact .of_refs hpq core.1
        | lst _ _=>cases nb
        | _=>cases nb
      | _=>cases e <;> cases nb
end VL
namespace VL
open PySem PySem.Spec PyProof.Rows L2
section
variable {X:Cx} {a b c:Expr} {es ea eb:List Es} {fa fb:FE} {pos p p2:Pos} {k:Nat}
def rf(K:PySem.W.Frag):R2:=fun x y H Q=>∃ d e,Rep K H x d/\Rep K H y e/\aY 4 d=true/\aY 4 e=true/\Q (.bl (aX 4 d e)) H
def rg(K:PySem.W.Frag):R2:=fun x y H Q=>∃ d e,Rep K H x d/\Rep K H y e/\aY 4 d=true/\aY 4 e=true/\Q (.bl (!aX 4 d e)) H
theorem kz(hr:Room k X.A):OpR X (compareOp .Eq) (rf X.K):=by
  intro pins s σ H x y v u Q I rx ry h
  obtain⟨d,e,r1,r2,f1,f2,q⟩:=h
  have hu:=hr.units
  exact (rb I 4 X.A x y v u d e (by omega) f1 f2 r1 r2 rx ry).rc X.prog X.w X.xe _ ⟨.bl _,H,I,rfl,q⟩
theorem zQ(hr:Room k X.A):OpR X (compareOp .NotEq) (rg X.K):=by
  intro pins s σ H x y v u Q I rx ry h
  obtain⟨d,e,r1,r2,f1,f2,q⟩:=h
  have hu:=hr.units
  exact (rb I 4 X.A x y v u d e (by omega) f1 f2 r1 r2 rx ry).ne X.prog X.w X.xe _ ⟨.bl _,H,I,rfl,q⟩
def eqD(d e:D):Option D:=if aY 4 d=true/\aY 4 e=true then some (.bl (aX 4 d e)) else none
def neD(d e:D):Option D:=if aY 4 d=true/\aY 4 e=true then some (.bl (!aX 4 d e)) else none
theorem kA(K:PySem.W.Frag):OpV K (rf K) eqD:=by
  intro x y H dx dy d Q rx ry hg hQ
  obtain⟨⟨h1,h2⟩,rfl⟩:=bW hg
  exact⟨dx,dy,rx,ry,h1,h2,hQ _ H (Same.refl H) (.bl _) fun A _ _ _=>.bl _⟩
theorem zR(K:PySem.W.Frag):OpV K (rg K) neD:=by
  intro x y H dx dy d Q rx ry hg hQ
  obtain⟨⟨h1,h2⟩,rfl⟩:=bW hg
  exact⟨dx,dy,rx,ry,h1,h2,hQ _ H (Same.refl H) (.bl _) fun A _ _ _=>.bl _⟩
theorem zS(x y d:D)(h:eqD x y=some d):b6 d=true:=by obtain⟨_,rfl⟩:=bW h;rfl
theorem zT(hr:Room k X.A)(ha:VE X a fa ea)(hb:VE X b fb eb):VE X (.Compare a [.Eq] [b] pos) (e2 eqD fa fb) []:=fC (kz hr) (kA X.K) ha hb (cv _) zS
theorem zU(hr:Room k X.A)(ha:VE X a fa ea)(hb:VE X b fb eb):VT X (.Compare a [.Eq] [b] pos) (eT (e2 eqD fa fb)):=iQ (kz hr) (kA X.K) ha hb (cv _)
theorem zV(hr:Room k X.A)(ha:VE X a fa ea)(hb:VE X b fb eb):VT X (.Compare a [.NotEq] [b] pos) (eT (e2 neD fa fb)):=iQ (zQ hr) (zR X.K) ha hb (cv _)
theorem rh(K:PySem.W.Frag)(d:D):PySem.W.kitOne K (.type (tyD d)) (.type "int")=some (eg "int" (tyD d)):=by
  cases d <;> first | rfl | kernel_rfl
theorem rj(K:PySem.W.Frag)(d:D):PySem.W.kitOne K (.type (tyD d)) (.type "bool")=some (eg "bool" (tyD d)):=by
  cases d <;> first | rfl | kernel_rfl
theorem zW(K:PySem.W.Frag)(d:D):PySem.W.kitOne K (.type (tyD d)) (.type "tuple")=some (eg "tuple" (tyD d)):=by
  cases d <;> first | rfl | kernel_rfl
def mL:D->Bool
  | .ptr _=>true
  | _=>false
theorem zX{T:String}(hk:∀ K d,PySem.W.kitOne K (.type (tyD d)) (.type T)=some (eg T (tyD d))):CallR X (.builtin "isinstance") (fun xs H Q=>∃ x d,xs=[x,.ty T]/\Rep X.K H x d/\mL d=false/\Q (.bl (eg T (tyD d))) H):=by
  intro pins s σ H xs us Q I r h
  obtain⟨x,d,rfl,rx,np,q⟩:=h
  obtain⟨u,w,rfl,ru,rw'⟩:=lV r
  cases rw'
  have fin:∀ tk,EP X pins σ Q (.bool (eg T (tyD d))) { s with toks:=tk }:=fun tk=>⟨.bl _,H,I.tok tk,rfl,q⟩
  have e:=hk X.K d
  cases rx with
  | non=>cases ru;exact PySem.W.kia_one PySem.W.kitx_none I.kIn True.intro e (fun z=>nomatch z) fin
  | bl b=>cases ru;exact PySem.W.kia_one PySem.W.kitx_bool I.kIn True.intro e (fun z=>nomatch z) fin
  | int i=>obtain⟨t,rfl⟩:=ru;exact PySem.W.kia_one PySem.W.kitx_int I.kIn True.intro e (fun z=>nomatch z) fin
  | str i=>obtain⟨t,rfl⟩:=ru;exact PySem.W.kia_one PySem.W.kitx_str I.kIn True.intro e (fun z=>nomatch z) fin
  | lst h1 h2 =>
    cases ru
    obtain⟨its,_,⟨o,n,e1,e2,_⟩,_⟩:=I.list (.inl h1)
    exact PySem.W.kia_one PySem.W.kitx_list I.kIn ⟨o,e1,e2⟩ e (fun z=>nomatch z) fin
  | scr h1 =>
    cases ru
    obtain⟨its,_,⟨o,n,e1,e2,_⟩,_⟩:=I.list h1
    exact PySem.W.kia_one PySem.W.kitx_list I.kIn ⟨o,e1,e2⟩ e (fun z=>nomatch z) fin
  | tup h1 h2 =>
    cases ru
    obtain⟨its,_,⟨o,e1,e2,_⟩,_⟩:=I.tuple (.inl h1)
    exact PySem.W.kia_one PySem.W.kitx_tuple I.kIn ⟨o,e1,e2⟩ e (fun z=>nomatch z) fin
  | dct h1 =>
    cases ru
    obtain⟨_,_,vs,_,o,es,ep,e1,e2,_⟩:=jZ I.hok h1.rd
    exact PySem.W.kia_one PySem.W.kitx_dict I.kIn ⟨o,e1,e2.1⟩ e (fun z=>nomatch z) fin
  | ptr a=>cases np
def da(T:String):D->Option D:=fun d=>if mL d=true then none else some (.bl (eg T (tyD d)))
theorem zY{T:Str}{TS:String}(hk:∀ K d,PySem.W.kitOne K (.type (tyD d)) (.type TS)=some (eg TS (tyD d)))(hT:bootBuiltins T=some (.type TS))(mi:X.mg "isinstance" = none)(mt:X.mg T=none)(ha:VE X a fa ea)(hg:Gl X "isinstance":=by rfl)(hgT:Gl X T:=by rfl)(hn:T ≠ "__name__":=by decide)(hd:(T == ("__debug__" : Str))=false:=by decide)(hs:starEach [a,.Name T p2] X.env=(false,eval a X.env)::starEach [.Name T p2] X.env:=by rfl)(hs2:starEach [.Name T p2] X.env=(false,eval (.Name T p2) X.env)::starEach [] X.env:=by rfl)(hpl:(backTo pos (starEach [.Name T p2] X.env)).any (·.1)=false:=by rfl):
    VE X (.Call (.Name "isinstance" p) [a,.Name T p2] [] pos) (e1 (da TS) fa) [] :=
  aJ (m6 (zX hk) hg mi (by decide +kernel) (bK ha (bK (vW (v:=.ty TS) hgT mt hT rfl hn hd) ce hs2) hs) (by decide) (by decide) hs hpl) fun σ H Q ⟨ρ,d,hE,hf,hQ⟩=>by
    obtain⟨dx,h1,hf⟩:=bind_some hf
    cases np:mL dx with
    | true=>simp only[da,np] at hf;cases hf
    | false =>
    simp only[da,np] at hf
    cases hf
    exact⟨ρ,dx,hE,h1,fun x H1 p1=>⟨x,dx,rfl,p1.rep,np,hQ _ H1 ⟨p1.same,.bl _,fun A _ _=>.bl _⟩⟩⟩
def fN:List D->Option (List Bool)
  | []=>some []
  | .bl b::r=>(fN r).map (b::·)
  | _::_=>none
theorem rl:∀ {ds:List D} {bs:List Bool},fN ds=some bs->ds=bs.map D.bl
  | [],bs,h=>by cases h;rfl
  | .bl i::r,bs,h=>by
    simp only[fN] at h
    cases e:fN r with
    | none=>rw[e] at h;cases h
    | some ms=>rw[e] at h;cases h;rw[rl e];rfl
  | .non::_,_,h=>by cases h
  | .int _::_,_,h=>by cases h
  | .str _::_,_,h=>by cases h
  | .lst _::_,_,h=>by cases h
  | .tup _::_,_,h=>by cases h
  | .scr _::_,_,h=>by cases h
theorem rm{K:PySem.W.Frag}{H:Hp}:∀ {bs:List Bool} {xs:List V},Reps K H xs (bs.map D.bl)->xs=bs.map V.bl
  | [],xs,h=>by cases h;rfl
  | n::ns,xs,h=>by
    cases h with
    | cons h1 h2=>cases h1;rw[rm h2];rfl
theorem zZ{bs:List Bool}{us:List Value}(h:Vals (bs.map V.bl) us):us=bs.map Value.bool:=by
  induction bs generalizing us with
  | nil=>cases h;rfl
  | cons b r ih =>
    cases h with
    | cons h1 h2=>cases h1;rw[ih h2];rfl
theorem A0(bs:List Bool):((List.range bs.length).all fun i=>(bs[i]?).getD true)=bs.all id:=by
  rw[Bool.eq_iff_iff,List.all_eq_true,List.all_eq_true]
  constructor
  · intro h b hb
    obtain⟨i,hi,rfl⟩:=List.getElem_of_mem hb
    have:=h i (List.mem_range.mpr hi)
    simpa [List.getElem?_eq_getElem hi] using this
  · intro h i hi
    have hi':=List.mem_range.mp hi
    simpa [List.getElem?_eq_getElem hi'] using h _ (List.getElem_mem hi')
theorem A1(hc:X.calm=true):CallR X (.builtin "all") (fun xs H Q=>∃ (q:Addr) (bs:List Bool),xs=[.ref q]/\SqL X.K H q (bs.map V.bl)/\Q (.bl (bs.all id)) H):=by
  intro pins s σ H xs us Q I r h
  obtain⟨q,bs,rfl,hq,hQ⟩:=h
  obtain⟨u,rfl,ru⟩:=dC r
  cases ru
  obtain⟨its,rv,pl,hz⟩:=I.list hq
  have ei:=zZ rv
  have hl:=pl.isList
  have hlt:q < s.heap.objs.size:=by obtain⟨_,e,_⟩:=hl;exact Heap.lt_size e
  refine call_all_walk (wpAny_pyIter_list hl ⟨s.heap.objs.size,[s.heap.objs.size,q],[s.heap.objs.size],its.toArray.size,_,_,fun i=>(bs[i]?).getD true,rfl,Walks.list (A:=X.A.in1) (I.ok.hd hc) _ q (Nat.ne_of_lt hlt) its.toArray,
    ⟨⟨_,Heap.get?_push_size _ rfl,rfl,rfl⟩,hl.push _⟩,fun i v s' Q' E' hP hQ'=>?_,fun h' tk hk=>?_⟩)
  · have hP':its[i]?=some v:=by simpa using hP
    rw[ei,List.getElem?_map] at hP'
    cases e:bs[i]? with
    | none=>rw[e] at hP';cases hP'
    | some b =>
      rw[e] at hP'
      cases hP'
      simp only[e,Option.getD_some] at hQ'
      exact wpAny_truthy_bool hQ'
  · have e:its.toArray.size=bs.length:=by rw[List.size_toArray,ei,List.length_map]
    rw[e,A0]
    refine⟨.bl _,H,I.kept (t':=tk) fun b o z=>hk b o (fun hm=>?_) (Heap.get?_push_of_some _ z),rfl,hQ⟩
    rw[List.mem_singleton.mp hm] at z
    exact Nat.lt_irrefl _ (Heap.lt_size z)
def eK(g:List Bool->Bool):D->Option D
  | .lst ds=>(fN ds).bind fun bs=>some (.bl (g bs))
  | _=>none
theorem A2(g:List Bool->Bool):fF X.K (fun xs H Q=>∃ (q:Addr) (bs:List Bool),xs=[.ref q]/\SqL X.K H q (bs.map V.bl)/\Q (.bl (g bs)) H) (aI (eK g)):=by
  intro xs H ds d Q r hg hQ
  obtain⟨x,rfl,hg1⟩:=iS hg
  obtain⟨v,rfl,r1⟩:=e9 r
  cases x with
  | lst es =>
    obtain⟨bs,h2,hg3⟩:=bind_some hg1
    cases hg3
    obtain⟨q,ys,rfl,hq,hx,_⟩:=mm r1
    rw[rl h2] at hx
    rw[rm hx] at hq
    exact⟨q,bs,rfl,.inl hq,hQ _ fun H'=>.bl _⟩
  | _=>cases hg1
theorem A3{as:FEs}(hc:X.calm=true)(ml:X.mg "all" = none)(ha:VA X [a] as es)(hg:Gl X "all":=by rfl)(he:starEach [a] X.env=(false,eval a X.env)::starEach [] X.env:=by rfl)(hpl:(backTo pos (starEach [] X.env)).any (·.1)=false:=by rfl):
    VE X (.Call (.Name "all" p) [a] [] pos) (eA (aI (eK fun bs=>bs.all id)) as) []:=iR (A1 hc) (A2 _) ml PyProof.Rows.boot_all ha hg (by decide) (by decide) he hpl
end
section
variable {X:Cx} {elt tg iter:Expr} {ifs:List Expr} {scope:Scope} {own cn:List Str} {caps is:List Nat} {g:TG} {un:D->Option (List D)} {fi:FEs} {ei ee:List Es} {c:ad->Option Bool} {fe:FE} {pos spos p2:Pos}
theorem cM{X:Cx}:PTs X [] (tvT X.K bN):=fun pins s σ H Q I h=>by
  obtain⟨ρ,b,_,hb,hQ⟩:=h
  cases hb
  exact mF pins s σ H Q I (hQ H (Same.refl H))
theorem A4(B:BlkOk X scope own caps cn)(hc:X.calm=true)(hi:VI X tg iter fi ei)(hg:∀ s H cl ex,PG (blk X (own++cn) s H scope cl ex) tg g)(hgv:TgV X.K g is un)(his:∀ i ∈ is,i < own.length)(ht:∀ s H cl ex,PTs (blk X (own++cn) s H scope cl ex) ifs (tvT X.K c))(he:∀ s H cl ex,VE (blk X (own++cn) s H scope cl ex) elt fe ee)(hs:∀ x,foldedSetIterable iter X.env x=pure x:=by intro _;rfl):
    VF X (.ListComp elt [⟨tg,iter,ifs,0⟩] scope pos) (bM own.length caps is un fi c fe) (esC own.length caps ei ee):=by
  intro pins s σ H Q I h
  obtain⟨cl,hclos,hcl,hha⟩:=qS (scope:=scope) (env:=X.env) fun x hx hf=>I.ok.has x.1 (B.free x hx hf)
  rw[eval_ListComp]
  refine wpAny_comprehension_free (use:=none) rfl hs hclos B.kind B.locals (qU B hc hi hg ht he I (zP hgv his h) hcl hha (RR:=fun acc C=>compPost (model X.prog X.w) X.A X.xe none (EP X pins σ Q) acc C) fun d c ys H' s' af q=>?_)
  obtain⟨m,hm⟩:=af.ns
  obtain⟨f0,f1,_,f3,f4,f5⟩:=af.cf
  refine⟨m,hm,fun h' sb=>⟨.ref d,_,af.inv.turned (t':=s'.toks) (it:=c) (fun b o hb e=>(sb.2 b hb).trans e) f0 f1 f3 f4 f5,rfl,q⟩⟩
end
end VL
namespace VL
open PySem PySem.Spec PyProof.Rows L2
def Def(P:Program)(w:World)(K:PySem.W.Frag)(mg:Str->Option Value)(base:Heap)(x:Str)(k:Nat)(ps:List Str)(G:List D->Option D)(fr:Bool):Prop :=
  ∃ f fd,FnOk P w K mg base CX0 k f fd ps (spF K G fr)/\mg x=some (.ref f)/\PySem.W.keepIn K (.ref f)=true/\Binds K fd ps []
def scF(G:List D->Option D):List D->Option D:=fun ds=>(G ds).bind fun d=>if b6 d=true then some d else none
theorem rn{G:List D->Option D}{ds:List D}{d:D}(h:scF G ds=some d):G ds=some d/\b6 d=true:=by
  obtain⟨e,h1,h2⟩:=bind_some h
  obtain⟨h3,rfl⟩:=bW h2
  exact⟨h1,h3⟩
section
variable {P:Program} {w:World} {K:PySem.W.Frag} {mg:Str->Option Value} {base:Heap} {x:Str} {j k:Nat} {ps:List Str} {G:List D->Option D} {fr:Bool}
theorem Def.sc(h:Def P w K mg base x k ps G fr):Def P w K mg base x k ps (scF G) fr :=
  let ⟨f,fd,F,m,kp,b⟩:=h
  ⟨f,fd,F.imp fun vs H Q E ⟨ds,d,r,hg,q⟩=>⟨ds,d,r,(rn hg).1,q⟩,m,kp,b⟩
theorem Def.mono(h:Def P w K mg base x j ps G fr)(hk:j<=k:=by decide):Def P w K mg base x k ps G fr :=
  let ⟨f,fd,F,m,kp,b⟩:=h
  ⟨f,fd,F.mono hk,m,kp,b⟩
theorem A5{np n:Nat}{qual:Str}{st:Stmt}{f:Addr}{fd:FuncData}{N:List Str}{body:FS}(O' OL:List Nat)(h1:ps.length=np)(h2:N.length=n)(h3:G=mkF fr np n body)(Fn:Fun K x qual st f fd)(S:FnScope N ps (ai st))(h:∀ (cdv:Value) (A:Around) (outer:List PySem.Env) (s:Shared) (H:Hp) (E:XK) (F:Fr0),F.n=n->Room k (A.deeper (envOfC qual (ai st) s.heap.objs.size f cdv)) ->
      VSs (cK CX0 P w K mg base N qual (ai st) f cdv A outer s H E).nox F [] (aD st) body O' OL fr):
    FnOk P w K mg base CX0 (k+1) f fd ps (spF K G fr):=by
  subst h1 h2 h3
  exact zG Fn S h
end
section
variable {X:Cx} {k:Nat} {ps:List Str} {G:List D->Option D} {fr:Bool} {x:Str} {p pos:Pos} {e:Expr} {es':List Expr} {as:FEs} {es:List Es}
theorem rp(d:Def X.prog X.w X.K X.mg X.base x k ps G fr)(hr:Room k X.A)(ha:VA X (e::es') as es)(hg:Gl X x:=by rfl)(hdb:(x == ("__debug__" : Str))=false:=by decide)(he:starEach (e::es') X.env=(false,eval e X.env)::starEach es' X.env:=by rfl)(hpl:(backTo pos (starEach es' X.env)).any (·.1)=false:=by rfl):
    VE X (.Call (.Name x p) (e::es') [] pos) (eA G as) es :=
  let ⟨_,_,F,m,kp,b⟩:=d
  zH F hr m kp b ha hg hdb he hpl
theorem A6(d:Def X.prog X.w X.K X.mg X.base x k ps G true)(hr:Room k X.A)(ha:VA X (e::es') as es)(hg:Gl X x:=by rfl)(hdb:(x == ("__debug__" : Str))=false:=by decide)(he:starEach (e::es') X.env=(false,eval e X.env)::starEach es' X.env:=by rfl)(hpl:(backTo pos (starEach es' X.env)).any (·.1)=false:=by rfl):
    VF X (.Call (.Name x p) (e::es') [] pos) (eA G as) es :=
  let ⟨_,_,F,m,kp,b⟩:=d
  zI F hr m kp b ha hg hdb he hpl
theorem A7(d:Def X.prog X.w X.K X.mg X.base x k ps (scF G) fr)(hr:Room k X.A)(ha:VA X (e::es') as es)(hg:Gl X x:=by rfl)(hdb:(x == ("__debug__" : Str))=false:=by decide)(he:starEach (e::es') X.env=(false,eval e X.env)::starEach es' X.env:=by rfl)(hpl:(backTo pos (starEach es' X.env)).any (·.1)=false:=by rfl):
    VE X (.Call (.Name x p) (e::es') [] pos) (eA (scF G) as) [] :=
  kh (rp d hr ha hg hdb he hpl) fun ρ d h=>by
    obtain⟨ds,_,h2⟩:=bind_some h
    exact (rn h2).2
end
def mM:D->Bool
  | .non=>true
  | _=>false
def cz:D->Option D:=fun d=>some (.bl (mM d))
def db:D->Option D:=fun d=>some (.bl (!mM d))
def kB:D->D->Option D
  | d,.non=>cz d
  | _,_=>none
def mN:D->D->Option D
  | d,.non=>db d
  | _,_=>none
theorem rq{K:PySem.W.Frag}{H:Hp}{v:V}{d:D}(r:Rep K H v d):decide (v=.non)=mM d:=by
  cases r <;> rfl
theorem mO(K:PySem.W.Frag):OpV K (fun x y H Q=>y=.non/\Q (.bl (decide (x=.non))) H) kB:=fun x y H dx dy d Q rx ry hg q=>by
  cases dy <;> first | (cases hg;done) | skip
  cases ry
  have hg:some (D.bl _)=some d:=hg
  cases hg
  refine⟨rfl,q _ _ (Same.refl H) ?_ fun A _ _ _=>?_⟩ <;> (rw[rq rx];exact .bl _)
theorem rz(K:PySem.W.Frag):OpV K (fun x y H Q=>y=.non/\Q (.bl (!decide (x=.non))) H) mN:=fun x y H dx dy d Q rx ry hg q=>by
  cases dy <;> first | (cases hg;done) | skip
  cases ry
  have hg:some (D.bl _)=some d:=hg
  cases hg
  refine⟨rfl,q _ _ (Same.refl H) ?_ fun A _ _ _=>?_⟩ <;> (rw[rq rx];exact .bl _)
section
variable {X:Cx} {a b:Expr} {fa fb:FE} {ea eb:List Es} {pos p2:Pos}
theorem A8(x y d:D)(h:kB x y=some d):b6 d=true:=by
  cases y <;> first | (cases h;done) | (have h:some (D.bl _)=some d:=h;cases h;rfl)
theorem A9(x y d:D)(h:mN x y=some d):b6 d=true:=by
  cases y <;> first | (cases h;done) | (have h:some (D.bl _)=some d:=h;cases h;rfl)
theorem rA(fa:FE):e2 kB fa (eC .non)=e1 cz fa:=by
  funext ρ
  unfold e2 e1 eC
  cases fa ρ <;> rfl
theorem rB(fa:FE):e2 mN fa (eC .non)=e1 db fa:=by
  funext ρ
  unfold e2 e1 eC
  cases fa ρ <;> rfl
theorem Aa{j}(ha:VE X a fa ea):VE X (.Compare a [.Is] [.Constant .none j p2] pos) (e1 cz fa) []:=by
  rw[<- rA];exact fC lT (mO X.K) ha gP (cv _) A8
theorem Ab{j}(ha:VE X a fa ea):VT X (.Compare a [.Is] [.Constant .none j p2] pos) (eT (e1 cz fa)):=by
  rw[<- rA];exact iQ lT (mO X.K) ha gP (cv _)
theorem Ac{j}(ha:VE X a fa ea):VE X (.Compare a [.IsNot] [.Constant .none j p2] pos) (e1 db fa) []:=by
  rw[<- rB];exact fC pK (rz X.K) ha gP (cv _) A9
theorem Ad{j}(ha:VE X a fa ea):VT X (.Compare a [.IsNot] [.Constant .none j p2] pos) (eT (e1 db fa)):=by
  rw[<- rB];exact iQ pK (rz X.K) ha gP (cv _)
theorem Ae{K:PySem.W.Frag}{H:Hp}{v:V}{ds:List D}(r:Rep K H v (.tup ds)):∃ p xs,v=V.ref p/\Rd H p (.tup xs)/\Reps K H xs ds:=by
  cases r with
  | @tup p xs _ h1 h2=>exact⟨p,xs,rfl,h1,h2⟩
theorem Af{K:PySem.W.Frag}{σ:St}{ρ:ad}{H H1:Hp}{es:List Es}{xs:List V}{ds:List D}{l:Addr}(e:Same H H1)(hl:H1 l=none)(r:Reps K H1 xs ds)(h:∀ A,Dom H A->(∀ z ∈ es,Av K H σ ρ A z)->Reps K (aj H1 A) xs ds):Post K σ ρ H es (.tup ds) (.ref l) (upd H1 l (.tup xs)):=by
  refine⟨e.trans (bg hl _),.tup (.inl b5) (aH (bg hl _) r),fun A hA hz=>?_⟩
  have hA1:=hA.mono e
  refine .tup (.inl ?_) (aH (bm (bg hl _)) (h A hA hz))
  rw[bc (hA1.not_new hl)]
  exact b5
def iY(fa:FE)(lo hi:FO):FE:=fun ρ=>(fa ρ).bind fun x=>(lo ρ).bind fun l=>(hi ρ).bind fun h=>match x with
  | .tup ds=>if HT.sIx ds.length 0 l=0/\HT.sIx ds.length ds.length h=ds.length then none else some (.tup (cZ ds l h))
  | _=>none
theorem Ag{lo hi:Option Expr}{flo fhi:FO}(ha:VB X a fa ea)(hl:VO X lo flo)(hh:VO X hi fhi):VE X (.Subscript a (.Slice lo hi none p2) pos) (iY fa flo fhi) ea :=
  aJ (qd xv ha hl hh) fun σ H Q ⟨ρ,d,hE,hf,hQ⟩=>by
    obtain⟨dx,h1,hf⟩:=bind_some hf
    obtain⟨l,h2,hf⟩:=bind_some hf
    obtain⟨h,h3,hf⟩:=bind_some hf
    refine⟨ρ,dx,hE,h1,fun x H1 p1=>⟨ρ,l,hE.mono p1.same,h2,fun H2 e2=>⟨ρ,h,hE.mono (p1.same.trans e2),h3,fun H3 e3=>?_⟩⟩⟩
    have q:=p1.up (e2.trans e3)
    cases dx with
    | tup ds =>
      by_cases hw:HT.sIx ds.length 0 l=0/\HT.sIx ds.length ds.length h=ds.length
      · simp only[if_pos hw] at hf;cases hf
      · simp only[if_neg hw] at hf
        cases hf
        obtain⟨p,xs,rfl,hp,hx⟩:=Ae q.rep
        refine⟨p,xs,rfl,.inl hp,by rw[hx.length];exact hw,fun r hr=>hQ _ _ (Af q.same hr (mo hx l h) fun A hD hz=>mo ?_ l h)⟩
        rcases q.av A hD hz with (e | ⟨_,e⟩) | ⟨q',ys,es',e,⟨e1,e2⟩ | ⟨e1,e2⟩,e3⟩
        · cases e
        · cases e
        · cases e1
        · cases e;cases e1;rw[iL hp e2];exact e3
    | _=>cases hf
end
end VL
namespace VL
open PySem PySem.Spec PyProof.Rows L2
def bt(d:D):Option (List D):=if ck d=true then none else items d
def hX(t:Nat)(it:FE)(tb:FS):FS:=fun ρ=>(it ρ).bind fun d=>(bt d).bind fun ds=>aZ (fun x ρ=>tb (ρ.set t (some x))) ds.reverse ρ
def kC:D->Option D:=fun d=>(bt d).bind fun ds=>some (.lst ds.reverse)
def cA(ds:List D):List D:=ds.zipIdx.map fun p=>.tup [.int (p.2:Nat),p.1]
def cB(ds es:List D):List D:=(ds.zip es).map fun p=>.tup [p.1,p.2]
def iZ(a:FE):FEs:=fun ρ=>(a ρ).bind fun d=>(bt d).bind fun ds=>some (cA ds)
def hZ(a b:FE):FEs:=fun ρ=>(a ρ).bind fun d=>(b ρ).bind fun e=>(bt d).bind fun ds=>(bt e).bind fun es=>some (cB ds es)
def eM(t u:Nat)(tb:FS):D->FS:=fun x ρ=>match x with
  | .tup [a,b]=>tb ((ρ.set t (some a)).set u (some b))
  | _=>none
def j1(t u:Nat)(it:FE)(tb:FS):FS:=fun ρ=>(it ρ).bind fun d=>(bt d).bind fun ds=>aZ (eM t u tb) (cA ds) ρ
def j2(t u:Nat)(it it':FE)(tb:FS):FS:=fun ρ=>(it ρ).bind fun d=>(it' ρ).bind fun e=>(bt d).bind fun ds=>(bt e).bind fun es=>aZ (eM t u tb) (cB ds es) ρ
def fO(i:Nat)(ix f:FE):FS:=fun ρ=>(aa i ρ).bind fun x=>match x with
  | .lst ds=>(ix ρ).bind fun k=>match k with
    | .int k=>(f ρ).bind fun d=>if ds.length < 100000/\0<=k/\k < 100000 then some (.nx (ρ.set i (some (.lst (ds.insertIdx (min k.toNat ds.length) d))))) else none
    | _=>none
  | _=>none
end VL
namespace VL
open PySem PySem.Spec PyProof.Rows L2
theorem mP{X:Cx}{pins:List (Addr × Obj)}{σ:St}{H:Hp}{s:Shared}{h':Heap}{t':Nat}{ch:List Addr}(I:Inv X pins σ H s)(k:∀ b o,b ∉ ch->s.heap.get? b=some o->h'.get? b=some o)(hf:∀ b ∈ ch,bI X pins H b):
    Inv X pins σ H { s with heap:=h',toks:=t' }:=by
  have nit:∀ b u,H b=some u->b ∉ ch:=fun b u e z=>by rw[(hf b z).1] at e;cases e
  have hL:X.env.locals ∉ ch:=fun z=>(hf _ z).2.1 rfl
  refine I.step (g':=s.gens) (d':=s.drawn) (ch:=ch) (fun b hb=>?_) (fun b o _ _ hc e _=>k b o hc e) (fun b o _ _ hc e _=>⟨o.slots,k b o hc e⟩) (fun _ _ _ _ n=>n)
    (fun b o hc e=>⟨o,k b o hc e⟩) (fun _ _ e=>e) (fun _ _ _ e=>e) (fun b ps e=>⟨#[],by rw[e];simp⟩) (fun m hm=>?_) (fun b u e=>?_) I.bare
  · obtain⟨f0,f1,f2,f3,f4,f5⟩:=hf b hb
    exact⟨f3,f1,f4,f5⟩
  · obtain⟨o,es,ep,ho,r⟩:=hm
    exact⟨o,es,ep,k _ o hL ho,r⟩
  · refine (I.hok b u e).stay (fun c v hc q=>k c v ?_ q) (fun _ q=>q) fun _ _ q=>q
    rcases hc with z | z
    · rw[z];exact nit b u e
    · exact nit c _ z
theorem kD{X:Cx}{pins:List (Addr × Obj)}{σ:St}{H:Hp}{s:Shared}{T:Addr}{o:HO}(I:Inv X pins σ H s)(hf:bI X pins H T)(new:ObjOk X.prog X.w (upd H T o) s.heap T o):Inv X pins σ (upd H T o) s:=by
  obtain⟨f0,f1,f2,f3,f4,f5⟩:=hf
  have key:=I.step (h':=s.heap) (H':=upd H T o) (g':=s.gens) (d':=s.drawn) (t':=s.toks) (ch:=[T]) (fun b hb=>?_) (fun b o _ _ hc e _=>e) (fun b o _ _ hc e _=>⟨o.slots,e⟩) (fun b o' hc e n=>by rw[aC (by simpa using hc)];exact n)
    (fun b o hc e=>⟨o,e⟩) (fun b xs e=>by rw[aC (bP e f0)];exact e) (fun b o u e=>by rw[aC (bP e f0)];exact e) (fun b ps e=>⟨#[],by rw[aC (bP e f0),e];simp⟩) (fun m hm=>hm) (fun b u e=>?_) I.bare
  · exact key
  · have e:b=T:=by simpa using hb
    subst e
    exact⟨f3,f1,f4,f5⟩
  · by_cases hb:b=T
    · subst hb;rw[b5] at e;cases e;exact new
    · rw[aC hb] at e
      exact (I.hok b u e).stay (fun c v _ q=>q) (fun c q=>by rw[aC (bP q f0)];exact q) fun c xs q=>by rw[aC (bP q f0)];exact q
def Itv(K:PySem.W.Frag)(a:Addr)(n:Nat):It :=
  ⟨fun i H=>∃ xs x,SqL K H a xs/\xs.length=n/\i < n/\xs[n - 1 - i]?=some x,fun i H x H'=>H'=H/\∀ xs,SqL K H a xs->xs[n - 1 - i]?=some x,fun i H=>i=n⟩
theorem Ah{P:Program}{w:World}{K:PySem.W.Frag}{tg:Expr}(a it:Addr)(n:Nat):Turn P w K tg (Itv K a n) [it] it (fun i h=>h.IsRevIter it a ((n:Int) - 1 - (i:Nat))) where
  mem:=by simp
  obj:=fun i h st b hb=>by
    have e:b=it:=by simpa using hb
    subst e
    obtain⟨o,e,c,d⟩:=st
    exact⟨o,e,fun v z=>by rw[d] at z;cases z⟩
  keep:=fun i h h' st k=>st.at fun o e=>k it (by simp) o e
  item:=by
    intro X hP hw hK hc i pins s σ H E I hf st hg
    subst hP hw hK
    obtain⟨xs,x,hq,hn,hi,hx⟩:=hg
    obtain⟨its,rv,p,hz⟩:=I.list hq
    obtain⟨u,hu,ru⟩:=rv.get hx
    obtain⟨f0,f1,f2,f3,f4,f5⟩:=hf it (by simp)
    have st':s.heap.IsRevIter it a ((n - 1 - i:Nat):Int):=by
      have e:((n - 1 - i:Nat):Int)=(n:Int) - 1 - (i:Nat):=by omega
      rw[e];exact st
    refine wpAny_pyNext_rev_item st' p.isList (x:=u) (by simpa using hu) fun h' st2 sb=>?_
    have I1:Inv X pins σ H { s with heap:=h' }:=I.turned (t':=s.toks) (fun b o hb e=>(sb.2 b hb).trans e) f0 f1 f3 f4 f5
    obtain⟨o,e,c,d⟩:=id st2
    refine⟨u,rfl,jP (s:={ s with heap:=h' }) e c d (by decide) ⟨x,H,I1,ru,⟨rfl,fun ys hy=>by rw[I.list_inj hy hq];exact hx⟩,?_,fun b hb=>(hf b hb).1⟩⟩
    have e:(n:Int) - 1 - ((i+1:Nat):Int)=((n - 1 - i:Nat):Int) - 1:=by omega
    show h'.IsRevIter it a ((n:Int) - 1 - ((i+1:Nat):Int))
    rw[e];exact st2
  done:=by
    intro X hP hw hK hc i pins s σ H E I hf st hg
    subst hP hw hK
    have hg:i=n:=hg
    subst hg
    obtain⟨f0,f1,f2,f3,f4,f5⟩:=hf it (by simp)
    have st':s.heap.IsRevIter it a (-1):=by
      have e:(-1:Int)=(i:Int) - 1 - (i:Nat):=by omega
      rw[e];exact st
    exact wpAny_pyNext_rev_end (I.ok.hd hc) st' fun h' eb=>⟨rfl,I.turned (t':=s.toks) (fun b o hb e=>eb b o hb e) f0 f1 f3 f4 f5⟩
  self:=fun _ _ _ _ _ st h=>wpAny_pyIter_revIter st h
def Ite(K:PySem.W.Frag)(a:Addr):It :=
  ⟨fun i H=>∃ xs x,SqL K H a xs/\xs[i]?=some x,fun i H x H'=>∃ T y,H T=none/\x=.ref T/\H'=upd H T (.tup [.int (i:Nat),y])/\∀ xs,SqL K H a xs->xs[i]?=some y,fun i H=>∃ xs,SqL K H a xs/\xs.length<=i⟩
theorem kE{X:Cx}{pins:List (Addr × Obj)}{σ:St}{H:Hp}{s:Shared}(I:Inv X pins σ H s):bI X pins H s.heap.objs.size:=I.fpOk (Nat.le_refl _) (I.hok.fresh (Nat.le_refl _))
theorem Ai{P:Program}{w:World}{K:PySem.W.Frag}{elts:List Expr}{ek:Nat}{ep:Pos}(a e it:Addr)(hei:e ≠ it):Turn P w K (.Tuple elts ek ep) (Ite K a) [e,it] e (fun i h=>(∃ old,IsEnum h e it (i:Nat) old)/\h.IsListIter it a i) where
  mem:=by simp
  obj := fun i h st b hb=>by
    obtain⟨⟨old,he⟩,hit⟩:=st
    have e:b=e\/b=it:=by simpa using hb
    rcases e with rfl | rfl
    · exact⟨_,he,fun v z=>by have z':Data.fields _=Data.cell v:=z;cases z'⟩
    · obtain⟨o,e,c,d⟩:=hit
      exact⟨o,e,fun v z=>by rw[d] at z;cases z⟩
  keep:=fun i h h' st k=>⟨let ⟨old,he⟩:=st.1;⟨old,k e (by simp) _ he⟩,st.2.at fun o q=>k it (by simp) o q⟩
  item:=by
    intro X hP hw hK hc i pins s σ H E I hf st hg
    subst hP hw hK
    obtain⟨⟨old,he⟩,hit⟩:=st
    obtain⟨xs,x,hq,hx⟩:=hg
    obtain⟨its,rv,p,hz⟩:=I.list hq
    obtain⟨u,hu,ru⟩:=rv.get hx
    have fT:=kE I
    have hsz:∀ b ∈ [e,it],b < s.heap.objs.size:=fun b hb=>by
      have:b=e\/b=it:=by simpa using hb
      rcases this with rfl | rfl
      · exact Heap.lt_size he
      · obtain⟨o,q,_⟩:=hit;exact Heap.lt_size q
    refine wpAny_pyNext_enum_item he hit p.isList (x:=u) (by simpa using hu) hei fun h' ho hit' hT hs' hk=>?_
    refine⟨_,rfl,wpAny_letOwnedTupleGo_enum (s:={ s with heap:=h',toks:=s.toks+1 }) ho fun h2 he2 hs2=>?_⟩
    have hT2:h2.get? s.heap.objs.size=some { cls:=.type "tuple",data:=.seq #[.int i s.toks,u] }:=(hs2.2 _ (Nat.ne_of_gt (hsz e (by simp)))).trans hT
    have I1:Inv X pins σ H { s with heap:=h2,toks:=s.toks+1 }:=mP I (fun b o hb q=>(hs2.2 b fun z=>hb (by simp[z])).trans (hk b o (fun z=>hb (by simp[z])) (fun z=>hb (by simp[z])) q)) hf
    have I2:=kD (o:=.tup [.int (i:Nat),x]) I1 fT ⟨show 2<=sizeLine by decide,[.int i s.toks,u],.cons ⟨_,rfl⟩ (.cons ru .nil),⟨_,hT2,rfl,_,rfl⟩⟩
    refine⟨.ref s.heap.objs.size,_,I2,rfl,⟨s.heap.objs.size,x,fT.1,rfl,rfl,fun ys hy=>by rw[I.list_inj hy hq];exact hx⟩,⟨⟨u,?_⟩,?_⟩,fun b hb=>?_⟩
    · have q:((i+1:Nat):Int)=(i:Int)+1:=by omega
      show IsEnum h2 e it ((i+1:Nat):Int) u
      rw[q];exact he2
    · exact hit'.at fun o q=>(hs2.2 it hei.symm).trans q
    · rw[aC (Nat.ne_of_lt (hsz b hb))];exact (hf b hb).1
  done:=by
    intro X hP hw hK hc i pins s σ H E I hf st hg
    subst hP hw hK
    obtain⟨⟨old,he⟩,hit⟩:=st
    obtain⟨xs,hq,hx⟩:=hg
    obtain⟨its,rv,p,hz⟩:=I.list hq
    have hl:=rv.length
    obtain⟨f0,f1,f2,f3,f4,f5⟩:=hf it (by simp)
    exact wpAny_pyNext_enum_end (I.ok.hd hc) he hit p.isList (Array.getElem?_eq_none (by simp;omega)) fun h' eb=>⟨rfl,I.turned (t':=s.toks) (fun b o hb e=>eb b o hb e) f0 f1 f3 f4 f5⟩
  self:=fun _ _ _ _ _ st h=>let ⟨⟨_,he⟩,_⟩:=st;wpAny_pyIter_enum he h
def Itz(K:PySem.W.Frag)(l1 l2:Addr):It :=
  ⟨fun i H=>∃ xs ys x y,SqL K H l1 xs/\SqL K H l2 ys/\xs[i]?=some x/\ys[i]?=some y,
   fun i H v H'=>∃ T x y,H T=none/\v=.ref T/\H'=upd H T (.tup [x,y])/\∀ xs ys,SqL K H l1 xs->SqL K H l2 ys->xs[i]?=some x/\ys[i]?=some y,
   fun i H=>∃ xs ys,SqL K H l1 xs/\SqL K H l2 ys/\(xs.length<=i\/ys.length<=i)⟩
theorem Aj{P:Program}{w:World}{K:PySem.W.Frag}{elts:List Expr}{ek:Nat}{ep:Pos}(l1 l2 z TI TO i1 i2:Addr)(D:ZipApart z TI TO i1 i2 l1 l2):
    Turn P w K (.Tuple elts ek ep) (Itz K l1 l2) [z,TI,TO,i1,i2] z (fun i h=>IsZip h z TI TO .none/\IsPair h TI (.ref i1) (.ref i2)/\(∃ a b,IsPair h TO a b)/\h.IsListIter i1 l1 i/\h.IsListIter i2 l2 i) where
  mem:=by simp
  obj := fun i h st b hb=>by
    obtain⟨hz,hTI,⟨a,b',hTO⟩,h1,h2⟩:=st
    have e:b=z\/b=TI\/b=TO\/b=i1\/b=i2:=by simpa using hb
    rcases e with rfl | rfl | rfl | rfl | rfl
    · exact⟨_,hz,fun v z=>by have z':Data.fields _=Data.cell v:=z;cases z'⟩
    · exact⟨_,hTI,fun v z=>by have z':Data.seq _ _=Data.cell v:=z;cases z'⟩
    · exact⟨_,hTO,fun v z=>by have z':Data.seq _ _=Data.cell v:=z;cases z'⟩
    · obtain⟨o,e,c,d⟩:=h1
      exact⟨o,e,fun v z=>by rw[d] at z;cases z⟩
    · obtain⟨o,e,c,d⟩:=h2
      exact⟨o,e,fun v z=>by rw[d] at z;cases z⟩
  keep:=fun i h h' st k=>by
    obtain⟨hz,hTI,⟨a,b',hTO⟩,h1,h2⟩:=st
    exact⟨k z (by simp) _ hz,k TI (by simp) _ hTI,⟨a,b',k TO (by simp) _ hTO⟩,h1.at fun o q=>k i1 (by simp) o q,h2.at fun o q=>k i2 (by simp) o q⟩
  item:=by
    intro X hP hw hK hc i pins s σ H E I hf st hg
    subst hP hw hK
    obtain⟨hz,hTI,⟨a,b',hTO⟩,h1,h2⟩:=st
    obtain⟨xs,ys,x,y,hq1,hq2,hx,hy⟩:=hg
    obtain⟨its1,rv1,p1,hz1⟩:=I.list hq1
    obtain⟨its2,rv2,p2,hz2⟩:=I.list hq2
    obtain⟨u,hu,ru⟩:=rv1.get hx
    obtain⟨v,hv,rv⟩:=rv2.get hy
    have fT:=kE I
    have hsz:∀ b ∈ [z,TI,TO,i1,i2],b < s.heap.objs.size:=fun b hb=>by
      have e:b=z\/b=TI\/b=TO\/b=i1\/b=i2:=by simpa using hb
      rcases e with rfl | rfl | rfl | rfl | rfl
      · exact Heap.lt_size hz
      · exact Heap.lt_size hTI
      · exact Heap.lt_size hTO
      · obtain⟨o,q,_⟩:=h1;exact Heap.lt_size q
      · obtain⟨o,q,_⟩:=h2;exact Heap.lt_size q
    refine wpAny_pyNext_zip_item D hz hTI hTO h1 h2 p1.isList p2.isList (x:=u) (y:=v) (by simpa using hu) (by simpa using hv) fun h' hz' hTO' h1' h2' hT hs' hk=>?_
    refine⟨_,rfl,wpAny_letOwnedTupleGo_zip (s:={ s with heap:=h' }) hz' fun h3 hz3 hs3=>?_⟩
    have hT3:IsPair h3 s.heap.objs.size u v:=(hs3.2 _ (Nat.ne_of_gt (hsz z (by simp)))).trans hT
    have I1:Inv X pins σ H { s with heap:=h3,toks:=s.toks }:=mP I (fun b o hb q=>(hs3.2 b fun z=>hb (by simp[z])).trans (hk b o (fun z=>hb (by simp[z])) (fun z=>hb (by simp[z])) (fun z=>hb (by simp[z])) (fun z=>hb (by simp[z])) q)) hf
    have I2:=kD (o:=.tup [x,y]) I1 fT ⟨show 2<=sizeLine by decide,[u,v],.cons ru (.cons rv .nil),⟨_,hT3,rfl,_,rfl⟩⟩
    refine⟨.ref s.heap.objs.size,_,I2,rfl,⟨s.heap.objs.size,x,y,fT.1,rfl,rfl,fun as bs ha hb=>⟨by rw[I.list_inj ha hq1];exact hx,by rw[I.list_inj hb hq2];exact hy⟩⟩,⟨hz3,?_,⟨u,v,?_⟩,?_,?_⟩,fun b hb=>?_⟩
    · exact (hs3.2 TI D.TIz).trans (hk TI _ D.TIz D.TITO D.TIi1 D.TIi2 hTI)
    · exact (hs3.2 TO D.TOz).trans hTO'
    · exact h1'.at fun o q=>(hs3.2 i1 D.i1z).trans q
    · exact h2'.at fun o q=>(hs3.2 i2 D.i2z).trans q
    · rw[aC (Nat.ne_of_lt (hsz b hb))];exact (hf b hb).1
  done:=by
    intro X hP hw hK hc i pins s σ H E I hf st hg
    subst hP hw hK
    obtain⟨hz,hTI,⟨a,b',hTO⟩,h1,h2⟩:=st
    obtain⟨xs,ys,hq1,hq2,hx⟩:=hg
    obtain⟨its1,rv1,p1,hz1⟩:=I.list hq1
    obtain⟨its2,rv2,p2,hz2⟩:=I.list hq2
    have l1:=rv1.length
    have l2:=rv2.length
    refine wpAny_pyNext_zip_end (I.ok.hd hc) D hz hTI hTO h1 h2 p1.isList p2.isList (hx.imp (fun q=>Array.getElem?_eq_none (by simp;omega)) fun q=>Array.getElem?_eq_none (by simp;omega)) fun h' hk=>⟨rfl,?_⟩
    exact mP (t':=s.toks) I (fun b o hb q=>hk b o (fun z=>hb (by simp[z])) (fun z=>hb (by simp[z])) (fun z=>hb (by simp[z])) (fun z=>hb (by simp[z])) q) hf
  self:=fun _ _ _ _ _ st h=>wpAny_pyIter_zip st.1 h
section
variable {X:Cx} {tg a b:Expr} {elts:List Expr} {ek:Nat} {ep pn pr:Pos} {ta:TA}
def Ak(K:PySem.W.Frag)(ta:TA):TI:=fun σ H R=>ta σ H fun vs H1=>∃ p xs,vs=[.ref p]/\SqL K H1 p xs/\R (Itv K p xs.length) H1
theorem Al(hg:Gl X "reversed")(hm:X.mg "reversed" = none)(ha:PA X [a] ta)(hs:starEach [a] X.env=[(false,eval a X.env)]:=by rfl):PI X tg (.Call (.Name "reversed" pn) [a] [] pr) (Ak X.K ta):=by
  intro pins s σ H R I h
  refine Call_ (cJ I hg hm boot_reversed (PyProof.Rows.callWith_type1 (thn (ha pr pins s σ H _ I h) fun us s1 ⟨vs,H1,I1,r1,q1⟩=>?_) hs rfl))
  obtain⟨p,xs,rfl,hq,q⟩:=q1
  obtain⟨u,rfl,ru⟩:=dC r1
  cases ru
  obtain⟨its,rv,pl,hz⟩:=I1.list hq
  have hl:=rv.length
  refine call_reversed_list pl.isList ?_
  have e0:(s1.heap.push (revObj p ((its.toArray.size:Int) - 1))).get? s1.heap.objs.size=some (revObj p ((its.toArray.size:Int) - 1)):=Heap.get?_push_size _ rfl
  refine wpAny_pyIter_revIter ⟨_,e0,rfl,rfl⟩ ?_
  refine⟨s1.heap.objs.size,[s1.heap.objs.size],_,_,H1,rfl,I1.kept (t':=s1.toks) fun b o e=>Heap.get?_push_of_some _ e,Ah p _ xs.length,⟨_,e0,rfl,?_⟩,fun b hb=>?_,q⟩
  · rw[hl];simp[revObj]
  have e:b=s1.heap.objs.size:=by simpa using hb
  subst e
  exact I1.fpOk (Nat.le_refl _) (I1.hok.fresh (Nat.le_refl _))
def Am(K:PySem.W.Frag)(ta:TA):TI:=fun σ H R=>ta σ H fun vs H1=>∃ p xs,vs=[.ref p]/\SqL K H1 p xs/\R (Ite K p) H1
theorem rC(hg:Gl X "enumerate")(hm:X.mg "enumerate" = none)(ha:PA X [a] ta)(hs:starEach [a] X.env=[(false,eval a X.env)]:=by rfl):PI X (.Tuple elts ek ep) (.Call (.Name "enumerate" pn) [a] [] pr) (Am X.K ta):=by
  intro pins s σ H R I h
  refine Call_ (cJ I hg hm boot_enumerate (PyProof.Rows.callWith_type1 (thn (ha pr pins s σ H _ I h) fun us s1 ⟨vs,H1,I1,r1,q1⟩=>?_) hs rfl))
  obtain⟨p,xs,rfl,hq,q⟩:=q1
  obtain⟨u,rfl,ru⟩:=dC r1
  cases ru
  obtain⟨its,rv,pl,hz⟩:=I1.list hq
  refine call_enumerate_list pl.isList fun h' he hit hsz hk=>?_
  refine wpAny_pyIter_enum he ?_
  refine⟨s1.heap.objs.size+1,[s1.heap.objs.size+1,s1.heap.objs.size],_,_,H1,rfl,I1.kept (t':=s1.toks) fun b o e=>hk b o e,Ai p _ _ (by simp),⟨⟨_,he⟩,hit⟩,fun b hb=>?_,q⟩
  have e:b=s1.heap.objs.size+1\/b=s1.heap.objs.size:=by simpa using hb
  rcases e with rfl | rfl
  · exact I1.fpOk (by omega) (I1.hok.fresh (by omega))
  · exact I1.fpOk (Nat.le_refl _) (I1.hok.fresh (Nat.le_refl _))
def An(K:PySem.W.Frag)(ta:TA):TI:=fun σ H R=>ta σ H fun vs H1=>∃ p p' xs ys,vs=[.ref p,.ref p']/\SqL K H1 p xs/\SqL K H1 p' ys/\R (Itz K p p') H1
theorem rD(hg:Gl X "zip")(hm:X.mg "zip" = none)(ha:PA X [a,b] ta)(hs:starEach [a,b] X.env=[(false,eval a X.env),(false,eval b X.env)]:=by rfl)(hs2:starEach [b] X.env=[(false,eval b X.env)]:=by rfl):
    PI X (.Tuple elts ek ep) (.Call (.Name "zip" pn) [a,b] [] pr) (An X.K ta):=by
  intro pins s σ H R I h
  refine Call_ (cJ I hg hm boot_zip (PyProof.Rows.callWith_type1 (thn (ha pr pins s σ H _ I h) fun us s1 ⟨vs,H1,I1,r1,q1⟩=>?_) (by rw[hs,hs2]) (by rw[hs2];rfl)))
  obtain⟨p,p',xs,ys,rfl,hq,hq',q⟩:=q1
  cases r1 with
  | cons ru rr =>
    cases rr with
    | cons rv' rr =>
      cases rr
      cases ru
      cases rv'
      obtain⟨its,rv,pl,hz⟩:=I1.list hq
      obtain⟨its',rv',pl',hz'⟩:=I1.list hq'
      have lt1:p < s1.heap.objs.size:=by obtain⟨o,e,_⟩:=pl.isList;exact Heap.lt_size e
      have lt2:p' < s1.heap.objs.size:=by obtain⟨o,e,_⟩:=pl'.isList;exact Heap.lt_size e
      refine call_zip_2 pl.isList pl'.isList fun h' hz hTI hTO hit1 hit2 hsz hk=>?_
      refine wpAny_pyIter_zip hz ?_
      refine⟨s1.heap.objs.size+4,[s1.heap.objs.size+4,s1.heap.objs.size+2,s1.heap.objs.size+3,s1.heap.objs.size,s1.heap.objs.size+1],_,_,H1,rfl,I1.kept (t':=s1.toks) fun b o e=>hk b o e,
        Aj p p' _ _ _ _ _ (zipApart_new lt1 lt2),⟨hz,hTI,⟨_,_,hTO⟩,hit1,hit2⟩,fun b hb=>?_,q⟩
      have e:b=s1.heap.objs.size+4\/b=s1.heap.objs.size+2\/b=s1.heap.objs.size+3\/b=s1.heap.objs.size\/b=s1.heap.objs.size+1:=by simpa using hb
      rcases e with rfl | rfl | rfl | rfl | rfl <;> exact I1.fpOk (by omega) (I1.hok.fresh (by omega))
end
end VL
namespace VL
open PySem PySem.Spec PyProof.Rows L2
theorem eN{d:D}{ds:List D}(h:bt d=some ds):ck d=false/\items d=some ds:=by
  unfold bt at h
  cases ht:ck d with
  | true=>rw[if_pos ht] at h;cases h
  | false=>rw[if_neg (by rw[ht];exact Bool.false_ne_true)] at h;exact⟨rfl,h⟩
theorem rE{ds:List D}{i:Nat}{d:D}(h:(cA ds)[i]?=some d):∃ e,ds[i]?=some e/\d=.tup [.int (i:Nat),e]:=by
  unfold cA at h
  rw[List.getElem?_map,List.getElem?_zipIdx] at h
  cases e:ds[i]? with
  | none=>rw[e] at h;cases h
  | some x=>rw[e] at h;simp at h;exact⟨x,rfl,h.symm⟩
theorem rF{ds es:List D}{i:Nat}{d:D}(h:(cB ds es)[i]?=some d):∃ a b,ds[i]?=some a/\es[i]?=some b/\d=.tup [a,b]:=by
  unfold cB at h
  rw[List.getElem?_map] at h
  cases e:(ds.zip es)[i]? with
  | none=>rw[e] at h;cases h
  | some p =>
    rw[e] at h
    obtain⟨h1,h2⟩:=List.getElem?_zip_eq_some.mp e
    simp at h
    exact⟨p.1,p.2,h1,h2,h.symm⟩
theorem mQ(ds:List D):(cA ds).length=ds.length:=by simp[cA]
theorem mR(ds es:List D):(cB ds es).length=min ds.length es.length:=by simp[cB]
section
variable {X:Cx} {tg a b:Expr} {elts:List Expr} {ek:Nat} {ep pn pr:Pos} {fa fb:FE} {ea eb:List Es}
theorem Ao(mr:X.mg "enumerate" = none)(h:VB X a fa ea)(hg:Gl X "enumerate":=by rfl)(hst:starEach [a] X.env=[(false,eval a X.env)]:=by rfl):VI X (.Tuple elts ek ep) (.Call (.Name "enumerate" pn) [a] [] pr) (iZ fa) ea :=
  kr (rC hg mr (bK h ce hst) hst) fun σ H R ⟨ρ,ds,hE,hf,hR⟩=>by
    obtain⟨d,h1,hf⟩:=bind_some hf
    obtain⟨es,h2,hf⟩:=bind_some hf
    cases hf
    obtain⟨ht,hi⟩:=eN h2
    refine⟨ρ,d,hE,h1,fun v H1 p=>?_⟩
    obtain⟨q,xs,rfl,hq,hx,hA⟩:=e8 p.rep hi ht
    have len:=hx.length
    refine⟨q,xs,rfl,hq,hR _ _ ⟨p.same,fun i d' H' hd e=>?_,fun H' e=>⟨xs,e.seq hq,by rw[mQ];omega⟩⟩⟩
    obtain⟨e',hd2,rfl⟩:=rE hd
    obtain⟨x,h3,h4⟩:=hx.get hd2
    refine⟨⟨xs,x,e.seq hq,h3⟩,fun y H'' ⟨T,y',hT,ey,eH,hy⟩=>?_⟩
    subst ey eH
    have e2:=hy xs (e.seq hq)
    rw[h3] at e2;cases e2
    have sn:=bg hT (.tup [.int (i:Nat),x])
    refine⟨sn,.tup (.inl b5) (.cons (.int _) (.cons (aw (e.trans sn) h4) .nil)),fun A hD hz=>?_⟩
    obtain⟨x',h5,h6⟩:=(hA A (p.av A hD hz)).get hd2
    rw[h3] at h5;cases h5
    refine .tup (.inl ?_) (.cons (.int _) (.cons (aw (bm (e.trans sn)) h6) .nil))
    rw[bc ((hD.mono (p.same.trans e)).not_new hT)]
    exact b5
theorem Ap(mr:X.mg "zip" = none)(ha:VB X a fa ea)(hb:VB X b fb eb)(hg:Gl X "zip":=by rfl)(hst:starEach [a,b] X.env=[(false,eval a X.env),(false,eval b X.env)]:=by rfl)(hst2:starEach [b] X.env=[(false,eval b X.env)]:=by rfl):
    VI X (.Tuple elts ek ep) (.Call (.Name "zip" pn) [a,b] [] pr) (hZ fa fb) (ea++eb) :=
  kr (rD hg mr (bK ha (bK hb ce hst2) (by rw[hst,hst2])) hst hst2) fun σ H R ⟨ρ,ds,hE,hf,hR⟩=>by
    obtain⟨d,h1,hf⟩:=bind_some hf
    obtain⟨d2,h1',hf⟩:=bind_some hf
    obtain⟨es,h2,hf⟩:=bind_some hf
    obtain⟨es2,h2',hf⟩:=bind_some hf
    cases hf
    obtain⟨ht,hi⟩:=eN h2
    obtain⟨ht',hi'⟩:=eN h2'
    refine⟨ρ,d,hE,h1,fun v H1 p1=>⟨ρ,d2,hE.mono p1.same,h1',fun v2 H2 p2=>?_⟩⟩
    have p:=p1.up p2.same
    have p':=p2.down p1.same
    obtain⟨q,xs,rfl,hq,hx,hA⟩:=e8 p.rep hi ht
    obtain⟨q',ys,rfl,hq',hy,hA'⟩:=e8 p'.rep hi' ht'
    have len:=hx.length
    have len':=hy.length
    refine⟨q,q',xs,ys,rfl,hq,hq',hR _ _ ⟨p.same,fun i d' H' hd e=>?_,fun H' e=>⟨xs,ys,e.seq hq,e.seq hq',by rw[mR];omega⟩⟩⟩
    obtain⟨e1,e2,hd1,hd2,rfl⟩:=rF hd
    obtain⟨x,h3,h4⟩:=hx.get hd1
    obtain⟨y,h3',h4'⟩:=hy.get hd2
    refine⟨⟨xs,ys,x,y,e.seq hq,e.seq hq',h3,h3'⟩,fun w H'' ⟨T,x',y',hT,ey,eH,hxy⟩=>?_⟩
    subst ey eH
    obtain⟨g1,g2⟩:=hxy xs ys (e.seq hq) (e.seq hq')
    rw[h3] at g1;cases g1
    rw[h3'] at g2;cases g2
    have sn:=bg hT (.tup [x,y])
    refine⟨sn,.tup (.inl b5) (.cons (aw (e.trans sn) h4) (.cons (aw (e.trans sn) h4') .nil)),fun A hD hz=>?_⟩
    obtain⟨x'',h5,h6⟩:=(hA A (p.av A hD fun z hz'=>hz z (List.mem_append_left _ hz'))).get hd1
    rw[h3] at h5;cases h5
    obtain⟨y'',h5',h6'⟩:=(hA' A (p'.av A hD fun z hz'=>hz z (List.mem_append_right _ hz'))).get hd2
    rw[h3'] at h5';cases h5'
    refine .tup (.inl ?_) (.cons (aw (bm (e.trans sn)) h6) (.cons (aw (bm (e.trans sn)) h6') .nil))
    rw[bc ((hD.mono (p.same.trans e)).not_new hT)]
    exact b5
end
end VL
namespace VL
open PySem PySem.Spec PyProof.Rows L2
theorem Aq{K:PySem.W.Frag}{a:Addr}{xs:List V}{g:TG}{tb:TS}{D:Ends}{σ:St}{H:Hp}(Pv:Nat->St->Hp->Prop)(h0:Pv 0 σ H)(hl:∀ i σ H,i<=xs.length->Pv i σ H->SqL K H a xs)(hs:∀ i x σ H,xs.reverse[i]?=some x->Pv i σ H->g x σ H fun σ2 H2=>tb { D with nx:=Pv (i+1),ct:=Pv (i+1),bk:=D.nx } σ2 H2)(hd:∀ σ H,Pv xs.length σ H->D.nx σ H):
    ∃ W:Nat->Nat->St->Hp->Prop,(∃ m,W 0 m σ H)/\∀ i m σ H,W i m σ H ->
      ((Itv K a xs.length).stop i H/\D.nx σ H)\/((Itv K a xs.length).go i H/\∃ N:St->Hp->Prop,(∀ σ' H',N σ' H'->∃ m',m' < m/\W (i+1) m' σ' H')/\∀ x H',(Itv K a xs.length).yld i H x H'->g x σ H' fun σ2 H2=>tb { D with nx:=N,ct:=N,bk:=D.nx } σ2 H2):=by
  refine⟨fun i m σ H=>m=xs.length - i/\i<=xs.length/\Pv i σ H,⟨xs.length,by simp,Nat.zero_le _,h0⟩,?_⟩
  rintro i m σ H ⟨rfl,hi,p⟩
  have q:=hl i σ H hi p
  by_cases hlt:i < xs.length
  · have hlt':xs.length - 1 - i < xs.length:=by omega
    refine .inr ⟨⟨xs,xs[xs.length - 1 - i],q,rfl,hlt,by simp[hlt']⟩,Pv (i+1),fun σ' H' p'=>⟨xs.length - (i+1),by omega,rfl,hlt,p'⟩,fun x H' y=>?_⟩
    obtain⟨e,y⟩:=y
    subst e
    exact hs i x σ _ (by rw[List.getElem?_reverse hlt];exact y xs q) p
  · have e:i=xs.length:=by omega
    subst e
    exact .inl ⟨rfl,hd σ H p⟩
theorem Ar{K:PySem.W.Frag}{a:Addr}{xs:List V}{g:TG}{tb:TS}{D:Ends}{σ:St}{H:Hp}(Pv:Nat->St->Hp->Prop)(h0:Pv 0 σ H)(hl:∀ i σ H,i<=xs.length->Pv i σ H->SqL K H a xs)(hs:∀ i x T σ H,xs[i]?=some x->H T=none->Pv i σ H->g (.ref T) σ (upd H T (.tup [.int (i:Nat),x])) fun σ2 H2=>tb { D with nx:=Pv (i+1),ct:=Pv (i+1),bk:=D.nx } σ2 H2)(hd:∀ σ H,Pv xs.length σ H->D.nx σ H):
    ∃ W:Nat->Nat->St->Hp->Prop,(∃ m,W 0 m σ H)/\∀ i m σ H,W i m σ H ->
      ((Ite K a).stop i H/\D.nx σ H)\/((Ite K a).go i H/\∃ N:St->Hp->Prop,(∀ σ' H',N σ' H'->∃ m',m' < m/\W (i+1) m' σ' H')/\∀ x H',(Ite K a).yld i H x H'->g x σ H' fun σ2 H2=>tb { D with nx:=N,ct:=N,bk:=D.nx } σ2 H2):=by
  refine⟨fun i m σ H=>m=xs.length - i/\i<=xs.length/\Pv i σ H,⟨xs.length,by simp,Nat.zero_le _,h0⟩,?_⟩
  rintro i m σ H ⟨rfl,hi,p⟩
  have q:=hl i σ H hi p
  by_cases hlt:i < xs.length
  · refine .inr ⟨⟨xs,xs[i],q,by simp[hlt]⟩,Pv (i+1),fun σ' H' p'=>⟨xs.length - (i+1),by omega,rfl,hlt,p'⟩,fun x H' y=>?_⟩
    obtain⟨T,y,hT,ex,eH,hy⟩:=y
    subst ex eH
    exact hs i y T σ _ (hy xs q) hT p
  · have e:i=xs.length:=by omega
    subst e
    exact .inl ⟨⟨xs,q,Nat.le_refl _⟩,hd σ H p⟩
theorem As{K:PySem.W.Frag}{a b:Addr}{xs ys:List V}{g:TG}{tb:TS}{D:Ends}{σ:St}{H:Hp}(Pv:Nat->St->Hp->Prop)(h0:Pv 0 σ H)(hl:∀ i σ H,Pv i σ H->SqL K H a xs/\SqL K H b ys)(hs:∀ i x y T σ H,xs[i]?=some x->ys[i]?=some y->H T=none->Pv i σ H->g (.ref T) σ (upd H T (.tup [x,y])) fun σ2 H2=>tb { D with nx:=Pv (i+1),ct:=Pv (i+1),bk:=D.nx } σ2 H2)(hd:∀ σ H,Pv (min xs.length ys.length) σ H->D.nx σ H):
    ∃ W:Nat->Nat->St->Hp->Prop,(∃ m,W 0 m σ H)/\∀ i m σ H,W i m σ H ->
      ((Itz K a b).stop i H/\D.nx σ H)\/((Itz K a b).go i H/\∃ N:St->Hp->Prop,(∀ σ' H',N σ' H'->∃ m',m' < m/\W (i+1) m' σ' H')/\∀ x H',(Itz K a b).yld i H x H'->g x σ H' fun σ2 H2=>tb { D with nx:=N,ct:=N,bk:=D.nx } σ2 H2):=by
  refine⟨fun i m σ H=>m=min xs.length ys.length - i/\i<=min xs.length ys.length/\Pv i σ H,⟨min xs.length ys.length,by simp,Nat.zero_le _,h0⟩,?_⟩
  rintro i m σ H ⟨rfl,hi,p⟩
  obtain⟨q1,q2⟩:=hl i σ H p
  by_cases hlt:i < min xs.length ys.length
  · have l1:i < xs.length:=by omega
    have l2:i < ys.length:=by omega
    refine .inr ⟨⟨xs,ys,xs[i],ys[i],q1,q2,by simp[l1],by simp[l2]⟩,Pv (i+1),fun σ' H' p'=>⟨min xs.length ys.length - (i+1),by omega,rfl,hlt,p'⟩,fun x H' y=>?_⟩
    obtain⟨T,x,y,hT,ex,eH,hxy⟩:=y
    subst ex eH
    obtain⟨g1,g2⟩:=hxy xs ys q1 q2
    exact hs i x y T σ _ g1 g2 hT p
  · have e:i=min xs.length ys.length:=by omega
    subst e
    exact .inl ⟨⟨xs,ys,q1,q2,by omega⟩,hd σ H p⟩
section
variable {X:Cx} {F:Fr0} {O O2 OL:List Nat} {fr:Bool} {a b:Expr} {body:List Stmt} {fa fb:FE} {ea eb:List Es} {tb:FS} {p2 pos pn pr:Pos}
theorem At(t:Nat){x:Str}(Ol:List Nat)(hN:X.N.Nodup)(hc:X.calm=true)(mr:X.mg "reversed" = none)(hi:VE X a fa ea)(hb:VSs X F Ol body tb O2 Ol fr)(h1:∀ i ∈ Ol,i ∈ aW O ea:=by decide)(h2:∀ i ∈ Ol,i ∈ O2:=by decide)(h3:t ∉ Ol:=by decide)(hp:PassesOwn (model X.prog X.w) X.A X.env X.xe:=by exact PassesOwn.never)(hg:Gl X "reversed":=by rfl)(hst:starEach [a] X.env=[(false,eval a X.env)]:=by rfl)(hxN:X.N[t]?=some x:=by rfl)(hx:Loc X.env.scope x:=by first | exact Or.inl rfl | exact Or.inr rfl)(hfn:X.fn x=true\/X.env.scope.names.lookup x=some .local:=by first | exact .inl rfl | exact .inr rfl)(hs:∀ x,foldedSetIterable (.Call (.Name "reversed" pn) [a] [] pr) X.env x=pure x:=by intro _;rfl):VS X F O (.For (.Name x p2) (.Call (.Name "reversed" pn) [a] [] pr) body [] pos) (hX t fa tb) Ol OL fr:=fun held=>by
  have hb':PSs X body (fun De σ H=>∃ p:Hd,ts X.K F (p::held) Ol Ol Ol fr tb De σ H):=fun pins s σ H De I ⟨p,h⟩=>fJ hb h2 (p::held) pins s σ H De I h
  refine b7 (dS hp hc (Al hg mr (bK hi ce hst) hst) (bH hN hxN hx hfn) hb' hs) fun De σ H h=>?_
  obtain⟨ρ,o,hE,hf,hQ⟩:=h
  obtain⟨d,hd,hf⟩:=bind_some hf
  obtain⟨ds,hsq,hf⟩:=bind_some hf
  obtain⟨ht,hds⟩:=eN hsq
  refine⟨ρ,d,hE.envR,hd,fun v H1 p=>?_⟩
  obtain⟨hE1,hr⟩:=hE.eval p
  have hE2:=hE1.weaken h1
  have hr2:∀ A,F.PA A->Rep X.K (aj H1 (Off σ Ol A)) v d:=fun A hA=>aw (bC (fun _ _ q=>q) (eI h1)) (hr A hA)
  obtain⟨q,xs,rfl,hq⟩:=iV hr2 hds ht
  have len:xs.length=ds.length:=(hq _ F.none).2.length
  refine⟨q,xs,rfl,(aQ _ _).seq (hq _ F.none).1,?_⟩
  refine Aq (K:=X.K) (a:=q) (xs:=xs) (g:=bQ t) (tb:=fun De σ H=>∃ p:Hd,ts X.K F (p::held) Ol Ol Ol fr tb De σ H) (D:=De) (fun i σ' H'=>∃ ρ',EnvO X.K F (hdL X.K q xs ds::held) Ol σ' ρ' H'/\aZ (fun x ρ=>tb (ρ.set t (some x))) (ds.reverse.drop i) ρ'=some o) ⟨ρ,hE2.hold hq,by simpa using hf⟩ ?_ ?_ ?_
  · rintro i σ' H' _ ⟨ρ',hE',_⟩
    exact (aQ _ _).seq (hE'.hld _ List.mem_cons_self _ F.none).1
  · rintro i y σ' H' hy ⟨ρ',hE',hf'⟩
    obtain⟨dy,h4,_⟩:=(hE'.hld _ List.mem_cons_self _ F.none).2.reverse.getV hy
    have h5:∀ A,F.PA A->Rep X.K (aj H' (Off σ' Ol A)) y dy:=fun A hA=>by
      obtain⟨dy',h6,h7⟩:=(hE'.hld _ List.mem_cons_self A hA).2.reverse.getV hy
      rw[h4] at h6;cases h6;exact h7
    have h4:ds.reverse[i]?=some dy:=h4
    have hi':i < ds.reverse.length:=(List.getElem?_eq_some_iff.mp h4).1
    have ed:ds.reverse.drop i=dy::ds.reverse.drop (i+1):=by
      rw[List.drop_eq_getElem_cons hi']
      have e2:ds.reverse[i]=dy:=(List.getElem?_eq_some_iff.mp h4).2
      rw[e2]
    rw[ed] at hf'
    have hf2:=hf'
    rw[fK] at hf2
    obtain⟨o1,h8,_⟩:=bind_some hf2
    refine⟨hdL X.K q xs ds,ρ'.set t (some dy),o1,hE'.set h3 h5,h8,?_⟩
    exact iU h8 hf' hQ (fun _ _ _ z=>z.unhold) fun σ'' H'' ρ'' hE'' hf''=>⟨ρ'',hE'',hf''⟩
  · rintro σ' H' ⟨ρ',hE',hf'⟩
    rw[len,<- List.length_reverse,List.drop_length] at hf'
    cases hf'
    exact hQ σ' H' hE'.unhold
theorem rG{K:PySem.W.Frag}{held:List Hd}{Ol:List Nat}{σ:St}{ρ:ad}{H:Hp}{t u:Nat}{T:Addr}{x y:V}{dx dy:D}{Q:St->Hp->Prop}(hE:EnvO K F held Ol σ ρ H)(hT:H T=none)(ht:t ∉ Ol)(hu:u ∉ Ol)(hx:∀ A,F.PA A->Rep K (aj H (Off σ Ol A)) x dx)(hy:∀ A,F.PA A->Rep K (aj H (Off σ Ol A)) y dy)(hQ:∀ σ' H',EnvO K F held Ol σ' ((ρ.set t (some dx)).set u (some dy)) H'->Q σ' H'):iG K 2 (eh [t,u]) (.ref T) σ (upd H T (.tup [x,y])) Q:=by
  have sn:=bg hT (.tup [x,y])
  refine⟨T,[x,y],rfl,.inl (.inl b5),rfl,mB (ds:=[dx,dy]) (hE.up sn) (fun i hi=>?_) rfl (fun A hA=>?_) hQ⟩
  · have e:i=t\/i=u:=by simpa using hi
    rcases e with rfl | rfl
    · exact ht
    · exact hu
  · exact .cons (aw (bm sn) (hx A hA)) (.cons (aw (bm sn) (hy A hA)) .nil)
theorem Au(t u:Nat){tes:List Expr}{k:Nat}(Ol:List Nat)(hN:X.N.Nodup)(hc:X.calm=true)(mr:X.mg "enumerate" = none)(hi:VE X a fa ea)(hb:VSs X F Ol body tb O2 Ol fr)(htg:Tgs X tes [t,u])(h1:∀ i ∈ Ol,i ∈ aW O ea:=by decide)(h2:∀ i ∈ Ol,i ∈ O2:=by decide)(h3:t ∉ Ol:=by decide)(h3':u ∉ Ol:=by decide)(hp:PassesOwn (model X.prog X.w) X.A X.env X.xe:=by exact PassesOwn.never)(hg:Gl X "enumerate":=by rfl)(hst:starEach [a] X.env=[(false,eval a X.env)]:=by rfl)(hn:(assignEach tes X.env).length=2:=by rfl)(hsx:(assignEach tes X.env).findIdx? (·.1)=none:=by rfl)(hs:∀ x,foldedSetIterable (.Call (.Name "enumerate" pn) [a] [] pr) X.env x=pure x:=by intro _;rfl):VS X F O (.For (.Tuple tes k p2) (.Call (.Name "enumerate" pn) [a] [] pr) body [] pos) (j1 t u fa tb) Ol OL fr:=fun held=>by
  have hb':PSs X body (fun De σ H=>∃ p:Hd,ts X.K F (p::held) Ol Ol Ol fr tb De σ H):=fun pins s σ H De I ⟨p,h⟩=>fJ hb h2 (p::held) pins s σ H De I h
  refine b7 (dS hp hc (rC hg mr (bK hi ce hst) hst) (fw hc (Tgs.ok hN htg) hn hsx) hb' hs) fun De σ H h=>?_
  obtain⟨ρ,o,hE,hf,hQ⟩:=h
  obtain⟨d,hd,hf⟩:=bind_some hf
  obtain⟨ds,hsq,hf⟩:=bind_some hf
  obtain⟨ht,hds⟩:=eN hsq
  refine⟨ρ,d,hE.envR,hd,fun v H1 p=>?_⟩
  obtain⟨hE1,hr⟩:=hE.eval p
  have hE2:=hE1.weaken h1
  have hr2:∀ A,F.PA A->Rep X.K (aj H1 (Off σ Ol A)) v d:=fun A hA=>aw (bC (fun _ _ q=>q) (eI h1)) (hr A hA)
  obtain⟨q,xs,rfl,hq⟩:=iV hr2 hds ht
  have len:xs.length=ds.length:=(hq _ F.none).2.length
  refine⟨q,xs,rfl,(aQ _ _).seq (hq _ F.none).1,?_⟩
  refine Ar (K:=X.K) (a:=q) (xs:=xs) (g:=iG X.K 2 (eh [t,u])) (tb:=fun De σ H=>∃ p:Hd,ts X.K F (p::held) Ol Ol Ol fr tb De σ H) (D:=De) (fun i σ' H'=>∃ ρ',EnvO X.K F (hdL X.K q xs ds::held) Ol σ' ρ' H'/\aZ (eM t u tb) ((cA ds).drop i) ρ'=some o) ⟨ρ,hE2.hold hq,by simpa using hf⟩ ?_ ?_ ?_
  · rintro i σ' H' _ ⟨ρ',hE',_⟩
    exact (aQ _ _).seq (hE'.hld _ List.mem_cons_self _ F.none).1
  · rintro i y T σ' H' hy hT ⟨ρ',hE',hf'⟩
    obtain⟨dy,h4,_⟩:=(hE'.hld _ List.mem_cons_self _ F.none).2.getV hy
    have h5:∀ A,F.PA A->Rep X.K (aj H' (Off σ' Ol A)) y dy:=fun A hA=>by
      obtain⟨dy',h6,h7⟩:=(hE'.hld _ List.mem_cons_self A hA).2.getV hy
      rw[h4] at h6;cases h6;exact h7
    have h4:ds[i]?=some dy:=h4
    have hi':i < (cA ds).length:=by rw[mQ];exact (List.getElem?_eq_some_iff.mp h4).1
    have ed:(cA ds).drop i=.tup [.int (i:Nat),dy]::(cA ds).drop (i+1):=by
      rw[List.drop_eq_getElem_cons hi']
      obtain⟨e',q1,q2⟩:=rE (List.getElem?_eq_getElem hi')
      rw[h4] at q1;cases q1
      rw[q2]
    rw[ed] at hf'
    have hf2:=hf'
    rw[fK] at hf2
    obtain⟨o1,h8,_⟩:=bind_some hf2
    refine rG hE' hT h3 h3' (fun A _=>.int _) h5 fun σ2 H2 hE2=>⟨hdL X.K q xs ds,_,o1,hE2,h8,?_⟩
    exact iU h8 hf' hQ (fun _ _ _ z=>z.unhold) fun σ'' H'' ρ'' hE'' hf''=>⟨ρ'',hE'',hf''⟩
  · rintro σ' H' ⟨ρ',hE',hf'⟩
    rw[len,<- mQ,List.drop_length] at hf'
    cases hf'
    exact hQ σ' H' hE'.unhold
theorem Aw(t u:Nat){tes:List Expr}{k:Nat}(Ol:List Nat)(hN:X.N.Nodup)(hc:X.calm=true)(mr:X.mg "zip" = none)(hi:VE X a fa ea)(hi2:VE X b fb eb)(hb:VSs X F Ol body tb O2 Ol fr)(htg:Tgs X tes [t,u])(h1:∀ i ∈ Ol,i ∈ aW (aW O ea) eb:=by decide)(h2:∀ i ∈ Ol,i ∈ O2:=by decide)(h3:t ∉ Ol:=by decide)(h3':u ∉ Ol:=by decide)(hp:PassesOwn (model X.prog X.w) X.A X.env X.xe:=by exact PassesOwn.never)(hg:Gl X "zip":=by rfl)(hst:starEach [a,b] X.env=[(false,eval a X.env),(false,eval b X.env)]:=by rfl)(hst2:starEach [b] X.env=[(false,eval b X.env)]:=by rfl)(hn:(assignEach tes X.env).length=2:=by rfl)(hsx:(assignEach tes X.env).findIdx? (·.1)=none:=by rfl)(hs:∀ x,foldedSetIterable (.Call (.Name "zip" pn) [a,b] [] pr) X.env x=pure x:=by intro _;rfl):VS X F O (.For (.Tuple tes k p2) (.Call (.Name "zip" pn) [a,b] [] pr) body [] pos) (j2 t u fa fb tb) Ol OL fr:=fun held=>by
  have hb':PSs X body (fun De σ H=>∃ p p':Hd,ts X.K F (p::p'::held) Ol Ol Ol fr tb De σ H):=fun pins s σ H De I ⟨p,p',h⟩=>fJ hb h2 (p::p'::held) pins s σ H De I h
  refine b7 (dS hp hc (rD hg mr (bK hi (bK hi2 ce hst2) (by rw[hst,hst2])) hst hst2) (fw hc (Tgs.ok hN htg) hn hsx) hb' hs) fun De σ H h=>?_
  obtain⟨ρ,o,hE,hf,hQ⟩:=h
  obtain⟨d,hd,hf⟩:=bind_some hf
  obtain⟨d2,hd2,hf⟩:=bind_some hf
  obtain⟨ds,hsq,hf⟩:=bind_some hf
  obtain⟨es,hsq2,hf⟩:=bind_some hf
  obtain⟨ht,hds⟩:=eN hsq
  obtain⟨ht2,hds2⟩:=eN hsq2
  refine⟨ρ,d,hE.envR,hd,fun v H1 p=>?_⟩
  obtain⟨hE1,hr⟩:=hE.eval p
  refine⟨ρ,d2,hE1.envR,hd2,fun v2 H2 p2'=>?_⟩
  obtain⟨hE2,hr'⟩:=hE1.eval p2'
  have hE3:=hE2.weaken h1
  have hr2:∀ A,F.PA A->Rep X.K (aj H2 (Off σ Ol A)) v d:=fun A hA=>aw (bC p2'.same (eI fun i hi=>hJ i (h1 i hi))) (hr A hA)
  have hr3:∀ A,F.PA A->Rep X.K (aj H2 (Off σ Ol A)) v2 d2:=fun A hA=>aw (bC (fun _ _ q=>q) (eI h1)) (hr' A hA)
  obtain⟨q,xs,rfl,hq⟩:=iV hr2 hds ht
  obtain⟨q',ys,rfl,hq'⟩:=iV hr3 hds2 ht2
  have len:xs.length=ds.length:=(hq _ F.none).2.length
  have len':ys.length=es.length:=(hq' _ F.none).2.length
  refine⟨q,q',xs,ys,rfl,(aQ _ _).seq (hq _ F.none).1,(aQ _ _).seq (hq' _ F.none).1,?_⟩
  refine As (K:=X.K) (a:=q) (b:=q') (xs:=xs) (ys:=ys) (g:=iG X.K 2 (eh [t,u])) (tb:=fun De σ H=>∃ p p':Hd,ts X.K F (p::p'::held) Ol Ol Ol fr tb De σ H) (D:=De) (fun i σ' H'=>∃ ρ',EnvO X.K F (hdL X.K q xs ds::hdL X.K q' ys es::held) Ol σ' ρ' H'/\aZ (eM t u tb) ((cB ds es).drop i) ρ'=some o) ⟨ρ,(hE3.hold hq').hold hq,by simpa using hf⟩ ?_ ?_ ?_
  · rintro i σ' H' ⟨ρ',hE',_⟩
    exact⟨(aQ _ _).seq (hE'.hld _ List.mem_cons_self _ F.none).1,(aQ _ _).seq (hE'.hld _ (List.mem_cons_of_mem _ List.mem_cons_self) _ F.none).1⟩
  · rintro i x y T σ' H' hx hy hT ⟨ρ',hE',hf'⟩
    obtain⟨dx,g4,_⟩:=(hE'.hld _ List.mem_cons_self _ F.none).2.getV hx
    obtain⟨dy,h4,_⟩:=(hE'.hld _ (List.mem_cons_of_mem _ List.mem_cons_self) _ F.none).2.getV hy
    have g5:∀ A,F.PA A->Rep X.K (aj H' (Off σ' Ol A)) x dx:=fun A hA=>by
      obtain⟨dy',h6,h7⟩:=(hE'.hld _ List.mem_cons_self A hA).2.getV hx
      rw[g4] at h6;cases h6;exact h7
    have h5:∀ A,F.PA A->Rep X.K (aj H' (Off σ' Ol A)) y dy:=fun A hA=>by
      obtain⟨dy',h6,h7⟩:=(hE'.hld _ (List.mem_cons_of_mem _ List.mem_cons_self) A hA).2.getV hy
      rw[h4] at h6;cases h6;exact h7
    have g4:ds[i]?=some dx:=g4
    have h4:es[i]?=some dy:=h4
    have hi':i < (cB ds es).length:=by
      have:=(List.getElem?_eq_some_iff.mp h4).1
      have:=(List.getElem?_eq_some_iff.mp g4).1
      rw[mR];omega
    have ed:(cB ds es).drop i=.tup [dx,dy]::(cB ds es).drop (i+1):=by
      rw[List.drop_eq_getElem_cons hi']
      obtain⟨e',e'',q1,q2,q3⟩:=rF (List.getElem?_eq_getElem hi')
      rw[g4] at q1;cases q1
      rw[h4] at q2;cases q2
      rw[q3]
    rw[ed] at hf'
    have hf2:=hf'
    rw[fK] at hf2
    obtain⟨o1,h8,_⟩:=bind_some hf2
    refine rG hE' hT h3 h3' g5 h5 fun σ2 H2 hE2=>⟨hdL X.K q xs ds,hdL X.K q' ys es,_,o1,hE2,h8,?_⟩
    exact iU h8 hf' hQ (fun _ _ _ z=>z.unhold.unhold) fun σ'' H'' ρ'' hE'' hf''=>⟨ρ'',hE'',hf''⟩
  · rintro σ' H' ⟨ρ',hE',hf'⟩
    rw[len,len',<- mR,List.drop_length] at hf'
    cases hf'
    exact hQ σ' H' hE'.unhold.unhold
end
end VL
namespace VL
open PySem PySem.Spec PyProof.Rows L2
theorem Ax:typeLookup (.type "list_reverseiterator") "__len__" = pure none:=by rw[typeLookup_type,builtinLookup_eq_fast];kernel_rfl
theorem Ay:typeLookup (.type "list_reverseiterator") "__length_hint__" = pure (some (.builtin "list_reverseiterator.__length_hint__")):=by rw[typeLookup_type,builtinLookup_eq_fast];kernel_rfl
section
variable {prog:Program} {w:World} {A:Around} {s:Shared} {R:Result->Shared->Prop}
variable {I:Addr} {fp wr:List Addr} {G:Array GenState->Array GenState->Prop} {n:Nat} {P:Nat->Value->Prop} {St:Nat->Shared->Prop}
theorem Az(W:WalksS prog w A.in1 I fp wr G n P St)(hT:∀ i s,St i s->s.TypeIs (.ref I) "list_reverseiterator")(S:Addr)(res:Value)(c₀:Nat)(hst:St 0 s)(hSf:S ∉ fp)(hI:I ∈ fp)(hS:s.heap.get? S=some { cls:=.type "list",data:=.seq #[] c₀ })(hR:∀ s' acc' c',Moved (S::wr) G s s'->s'.heap.get? S=some { cls:=.type "list",dict:=none,data:=.seq acc' c',slots:=#[] }->ItemsOf P acc' n->R (.ok (.ret res)) s')(hn:n<=sizeLine):
    wpAny (model prog w) A.in1 (Builtin.List.listExtendWith (.ref S) (.ref I) res)
      (fun fin s'=>match fin with | .done f=>R (.ok f) s' | .again c'=>c'.quiet=true/\codeAny (model prog w) A c' R s') (fun e s'=>R (.error e) s') s:=by
  have hSI:S ≠ I:=fun e=>hSf (e ▸ hI)
  unfold Builtin.List.listExtendWith
  refine wpAny_bind (wpAny_typeOf (hT 0 _ hst) ?_)
  have h1:Builtin.List.listSameRef (.ref S) (.ref I)=false:=by simp[Builtin.List.listSameRef,hSI]
  rw[if_neg (by rw[h1];decide)]
  refine wpAny_bind (W.self 0 _ _ _ hst ?_)
  refine wpAny_bind (wpAny_holding ?_)
  unfold Builtin.List.listLengthHint
  refine wpAny_bind (wpAny_specialOf (hT 0 _ hst) Ax ?_)
  show wpAny _ A.in1 (specialOf (Value.ref I) (Str.ofString "__length_hint__") >>= _) _ _ _
  refine wpAny_bind (wpAny_specialOf (hT 0 _ hst) Ay ?_)
  (generalize hid:("list_reverseiterator.__length_hint__" : String)=id0;(fail_if_success (clear hid id0));wp_delta;rw[show splitId id0=some ("list_reverseiterator","__length_hint__") from by subst hid;decide +kernel];subst hid)
  refine wpAny_bind (wpAny_isInstance (b:=true) (hT 0 _ hst) (by rw[isSubtype_type];kernel_rfl) ?_)
  refine wpAny_pure ?_
  rw[if_neg (by decide)]
  exact wpAny_pure ⟨plainId_quiet F.plain_extend_loop _,codeAny_extend_loopS W hn _ hSf _ n 0 _ _ _ rfl (Nat.zero_le _) hst hS (ItemsOf.nil P) fun s' acc' c' hm hS' hacc=>hR s' acc' c' hm hS' hacc⟩
theorem AB(W:WalksS prog w A.in1 I fp wr G n P St)(hT:∀ i s,St i s->s.TypeIs (.ref I) "list_reverseiterator")(S:Addr)(hst:St 0 s)(hSf:S ∉ fp)(hI:I ∈ fp)(hS:s.heap.get? S=some { cls:=.type "list",data:=.seq #[] })(hR:∀ s' acc' c',Moved (S::wr) G s s'->s'.heap.get? S=some { cls:=.type "list",dict:=none,data:=.seq acc' c',slots:=#[] }->ItemsOf P acc' n->R (.ok (.ret .none)) s')(hn:n<=sizeLine):
    wpAny (model prog w) A.in1 (Builtin.«list.__init__» ⟨[.ref S,.ref I],[]⟩)
      (fun fin s'=>match fin with | .done f=>R (.ok f) s' | .again c'=>c'.quiet=true/\codeAny (model prog w) A c' R s') (fun e s'=>R (.error e) s') s:=by
  show wpAny _ A.in1 (do let old <- Builtin.List.listItems (.ref S);Builtin.List.listUpdate (.ref S) (fun _=>#[]);letGo old.toList.reverse;Builtin.List.listExtendWith (.ref S) (.ref I) .none) _ _ s
  refine wpAny_bind ?_
  unfold Builtin.List.listItems
  refine wpAny_bind (wpAny_seqItems hS rfl (wpAny_pure ?_))
  show wpAny _ A.in1 (updateSeq S (fun _=>#[]) >>= fun _=>letGo (#[]:Array Value).toList.reverse >>= fun _=>Builtin.List.listExtendWith (.ref S) (.ref I) .none) _ _ s
  refine wpAny_bind (wpAny_updateSeq hS rfl ?_)
  have hS₂:=Heap.get?_update_self (Obj.mapSeq (fun _=>(#[]:Array Value))) hS rfl
  have oth:∀ b o,b ≠ S->s.heap.get? b=some o->(s.heap.update S (Obj.mapSeq (fun _=>(#[]:Array Value)))).get? b=some o :=
    fun b o hb e=>(Heap.get?_update_other _ _ (Ne.symm hb)).trans e
  refine wpAny_bind (wpAny_letGo ?_)
  refine Az (hn:=hn) W hT S .none _ (W.frame 0 s _ s.toks hst (Nat.le_refl _) fun b hb o e=>oth b o (fun h=>hSf (h ▸ hb)) e) hSf hI hS₂ fun s' acc' c' hm hS' hacc=>?_
  exact hR s' acc' c' (Moved.trans W.gtrans ((Moved.refl W.grefl).then_heap (Nat.le_refl _) fun b o hb e=>oth b o (fun h=>hb (h ▸ List.mem_cons_self)) e) hm) hS' hacc
end
section
variable {prog:Program} {w:World} {A:Around} {E:Value->Shared->Prop} {s:Shared}
theorem AC{it l:Addr}{items:Array Value}{Q:Value->Shared->Prop}(hh:A.handled=none)(hit:s.heap.IsRevIter it l ((items.size:Int) - 1))(hl:s.heap.IsList l items)(hne:l ≠ it)(hn:items.size<=sizeLine)(hQ:∀ (h':Heap) (tk:Nat) (acc':Array Value) (c':Nat),(∀ b o,b ≠ it->s.heap.get? b=some o->h'.get? b=some o) ->
      h'.get? s.heap.objs.size=some { cls:=.type "list",dict:=none,data:=.seq acc' c',slots:=#[] }->ItemsOf (fun i v=>items[items.size - 1 - i]?=some v) acc' items.size->Q (.ref s.heap.objs.size) { s with heap:=h',toks:=tk }):
    wpAny (model prog w) A (call (.type "list") [.ref it]) Q E s:=by
  refine callType_codes (Q₁:=fun obj s₁=>obj=.ref s.heap.objs.size/\s₁={ s with heap:=s.heap.push { cls:=.type "list",data:=.seq #[] } }) F.called_list (F.typeCall_list_1 _) F.entry_list_init
    (code_list_new _ ⟨rfl,rfl⟩) fun obj s₁ h₁=>?_
  obtain⟨rfl,rfl⟩:=h₁
  have hS:(s.heap.push { cls:=.type "list",data:=.seq #[] }).get? s.heap.objs.size=some { cls:=.type "list",data:=.seq #[] }:=Heap.get?_push_size _ rfl
  have lt1:it < s.heap.objs.size:=by obtain⟨o,e,_⟩:=hit;exact Heap.lt_size e
  have lt2:l < s.heap.objs.size:=by obtain⟨o,e,_⟩:=hl;exact Heap.lt_size e
  have W:=(Walks.listRev (prog:=prog) (w:=w) (A:=A.in1.in1) hh it l hne items).toS
  refine⟨⟨_,hS,rfl⟩,F.args_list_init_2 _ _,AB (A:=A.in1) W (fun i s st=>let ⟨o,ho,hc,_⟩:=st.2.1;⟨o,ho,hc⟩) _ ?_ ?_ (by simp) hS (fun s' acc' c' hm hS' hacc=>?_) hn⟩
  · refine⟨Nat.zero_le _,?_,hl.at fun o e=>Heap.get?_push_of_some _ e⟩
    have:(items.size:Int) - 1 - ((0:Nat):Int)=(items.size:Int) - 1:=by omega
    rw[this]
    exact hit.at fun o e=>Heap.get?_push_of_some _ e
  · intro hm
    have e:s.heap.objs.size=it\/s.heap.objs.size=l:=by simpa using hm
    rcases e with e | e
    · exact absurd e (Nat.ne_of_gt lt1)
    · exact absurd e (Nat.ne_of_gt lt2)
  · rw[Moved.eq_with hm]
    refine⟨rfl,hQ s'.heap s'.toks acc' c' (fun b o hb e=>hm.heap b o (fun hmem=>?_) (Heap.get?_push_of_some _ e)) hS' hacc⟩
    have lt:=Heap.lt_size e
    have e':b=s.heap.objs.size\/b=it:=by simpa using hmem
    rcases e' with e' | e'
    · exact absurd e' (Nat.ne_of_lt lt)
    · exact hb e'
end
section
variable {X:Cx} {a b e ix:Expr} {fa fb fe fx:FE} {ea eb es ei:List Es} {pos pos2 p p2:Pos} {ta:TA}
def AD(K:PySem.W.Frag)(ta:TA):TE:=fun σ H Q=>ta σ H fun vs H1=>∃ q xs,vs=[.ref q]/\SqL K H1 q xs/\∀ l,H1 l=none->Q (.ref l) (upd H1 l (.lst xs.reverse))
theorem rH(hc:X.calm=true)(hgl:Gl X "list")(ml:X.mg "list" = none)(hgr:Gl X "reversed")(mr:X.mg "reversed" = none)(ha:PA X [a] ta)(hs:starEach [a] X.env=[(false,eval a X.env)])(hs2:starEach [.Call (.Name "reversed" p2) [a] [] pos2] X.env=[(false,eval (.Call (.Name "reversed" p2) [a] [] pos2) X.env)]):
    PE X (.Call (.Name "list" p) [.Call (.Name "reversed" p2) [a] [] pos2] [] pos) (AD X.K ta):=by
  intro pins s σ H Q I h
  refine Call_ (cJ I hgl ml PyProof.Rows.boot_list (PyProof.Rows.callWith_type1 ?_ hs2 rfl))
  rw[hs2]
  show wpAny _ _ (spliced ((false,eval (.Call (.Name "reversed" p2) [a] [] pos2) X.env)::backTo pos [])) _ _ s
  refine Calls.spliced_cons ?_
  refine Call_ (cJ I hgr mr boot_reversed (PyProof.Rows.callWith_type1 (thn (ha pos2 pins s σ H _ I h) fun us s1 ⟨vs,H1,I1,r1,q1⟩=>?_) hs rfl))
  obtain⟨q,xs,rfl,hq,hQ⟩:=q1
  obtain⟨u,rfl,ru⟩:=dC r1
  cases ru
  obtain⟨its,rv,pl,hz⟩:=I1.list hq
  have hl:=rv.length
  have lt:q < s1.heap.objs.size:=by obtain⟨o,e,_⟩:=pl.isList;exact Heap.lt_size e
  refine call_reversed_list pl.isList ?_
  refine Calls.spliced_nil ?_
  have e0:(s1.heap.push (revObj q ((its.toArray.size:Int) - 1))).get? s1.heap.objs.size=some (revObj q ((its.toArray.size:Int) - 1)):=Heap.get?_push_size _ rfl
  have I2:Inv X pins σ H1 { s1 with heap:=s1.heap.push (revObj q ((its.toArray.size:Int) - 1)),toks:=s1.toks }:=I1.kept fun b o e=>Heap.get?_push_of_some _ e
  have fp:bI X pins H1 s1.heap.objs.size:=I1.fpOk (Nat.le_refl _) (I1.hok.fresh (Nat.le_refl _))
  refine AC (it:=s1.heap.objs.size) (l:=q) (items:=its.toArray) (I.ok.hd hc) ⟨_,e0,rfl,rfl⟩ (pl.isList.at fun o e=>Heap.get?_push_of_some _ e) (Nat.ne_of_lt lt) (by simpa using (show its.length<=sizeLine by omega)) fun h' tk acc c hk hS hacc=>?_
  have fS:bI X pins H1 (s1.heap.push (revObj q ((its.toArray.size:Int) - 1))).objs.size:=kE I2
  obtain⟨f0,f1,f2,f3,f4,f5⟩:=fp
  have I3:Inv X pins σ H1 { s1 with heap:=h',toks:=tk }:=I2.turned (t':=tk) (fun b o hb e=>hk b o hb e) f0 f1 f3 f4 f5
  obtain⟨al,hal⟩:=hacc
  have hv:Vals xs.reverse acc.toList:=by
    have:acc.toList=its.reverse:=by
      refine List.ext_getElem (by simp[al]) fun i h1 h2=>?_
      have hi:i < its.toArray.size:=by simpa using h2
      have q1:=hal i (acc.toList[i]) (by simp)
      have hi2:its.length - 1 - i < its.length:=by simp at hi;omega
      rw[List.getElem_reverse]
      simp[hi2] at q1
      exact q1.symm
    rw[this]
    exact rv.reverse
  have I4:=kD (o:=.lst xs.reverse) I3 fS ⟨by rw[List.length_reverse];omega,acc.toList,c,hv,by simpa using hS⟩
  exact⟨.ref _,_,I4,rfl,hQ _ fS.1⟩
theorem AE(ml:X.mg "list" = none)(mr:X.mg "reversed" = none)(ha:VB X a fa ea)(hc:X.calm=true:=by rfl)(hgl:Gl X "list":=by rfl)(hgr:Gl X "reversed":=by rfl)(hs:starEach [a] X.env=[(false,eval a X.env)]:=by rfl)(hs2:starEach [.Call (.Name "reversed" p2) [a] [] pos2] X.env=[(false,eval (.Call (.Name "reversed" p2) [a] [] pos2) X.env)]:=by rfl):
    VF X (.Call (.Name "list" p) [.Call (.Name "reversed" p2) [a] [] pos2] [] pos) (e1 kC fa) ea :=
  aJ (rH hc hgl ml hgr mr (bK ha ce hs) hs hs2) fun σ H Q ⟨ρ,d,hE,hf,hQ⟩=>by
    obtain⟨dx,h1,hf⟩:=bind_some hf
    obtain⟨ds,h2,hf⟩:=bind_some hf
    cases hf
    obtain⟨ht,hi⟩:=eN h2
    refine⟨ρ,dx,hE,h1,fun x H1 p1=>?_⟩
    obtain⟨p,xs,rfl,hp,hx,hA⟩:=e8 p1.rep hi ht
    exact⟨p,xs,rfl,hp,fun l hl=>hQ _ _ (gZ p1.same hl fun A hD hz=>(hA A (p1.av A hD hz)).reverse)⟩
def AF:V->List V->Hp->VK->Prop:=fun x vs H Q=>∃ l xs k y,x=.ref l/\vs=[.int k,y]/\H l=some (.lst xs)/\0<=k/\k < 2 ^ 62/\xs.length < sizeLine/\Q .non (upd H l (.lst (xs.insertIdx (min k.toNat xs.length) y)))
theorem rJ{v:V}{u:Value}(r:RelV v u):∀ {xs:List V} {us:List Value} (i:Nat),Vals xs us->Vals (xs.insertIdx i v) (us.insertIdx i u)
  | _,_,0,h=>by rw[List.insertIdx_zero,List.insertIdx_zero];exact .cons r h
  | _,_,i+1,.nil=>by rw[List.insertIdx_succ_nil,List.insertIdx_succ_nil];exact .nil
  | _,_,i+1,.cons h1 h2=>by rw[List.insertIdx_succ_cons,List.insertIdx_succ_cons];exact .cons h1 (rJ r i h2)
theorem AG{α:Type}(xs:List α)(y:α):∀ k,k<=xs.length->xs.take k++[y]++xs.drop k=xs.insertIdx k y:=by
  intro k
  induction xs generalizing k with
  | nil => intro h;have:k=0:=by simpa using h
           subst this;simp
  | cons x r ih =>
    intro h
    cases k with
    | zero=>simp
    | succ k=>simpa using ih k (by simpa using h)
theorem AH:MtM X "list.insert" AF:=by
  intro pins s σ H x vs v us Q I rx rv h
  obtain⟨l,xs,k,y,rfl,rfl,hH,hk0,hk1,hz,q⟩:=h
  cases rx
  cases rv with
  | cons ru rr =>
    cases rr with
    | cons ry rr =>
      cases rr
      obtain⟨t,rfl⟩:=ru
      rename_i w
      obtain⟨z,its,n,r,hl,e⟩:=I.lstM hH
      refine call_meets PySem.F.slot_list_insert ⟨_,e,rfl⟩ PySem.F.entry_list_insert (PySem.F.args_list_insert_3 _ _ _) (AutoSeq1.list_insert_list_int_val_1 l its.toArray n k t w (by rw[fitsIndex_both (k:=k) (by omega) (by omega)];decide) (by rw[List.size_toArray];omega)) ⟨e,?_⟩
      refine⟨.non,_,I.lset (its':=its.insertIdx (min k.toNat xs.length) w) hH e ?_ (rJ ry _ r) ?_,rfl,q⟩
      · have hm:min k.toNat its.length<=its.length:=Nat.min_le_right _ _
        rw[hl,<- AG its w _ hm]
        simp only[List.size_toArray,if_neg (show ¬ k < 0 by omega)]
        apply Array.toList_inj.mp
        simp
        exact List.take_of_length_le (by rw[List.length_drop];omega)
      · have:(xs.insertIdx (min k.toNat xs.length) y).length<=xs.length+1:=by rw[List.length_insertIdx];split <;> omega
        omega
end
section
variable {X:Cx} {F:Fr0} {O OL:List Nat} {fr:Bool} {e ix:Expr} {fe fx:FE} {es ei:List Es} {pos p2:Pos}
theorem AI(i:Nat){x:Str}{ap cp:Pos}(hx:VE X ix fx ei)(he:VE X e fe es)(hi:i ∈ aW O es:=by decide)(hN:X.N[i]?=some x:=by rfl)(hv:Vis X.env.scope x:=by first | exact Or.inl rfl | exact Or.inr (Or.inl rfl) | exact Or.inr (Or.inr rfl))(hd:(x == ("__debug__" : Str))=false:=by decide)(hcd:(x == ("__classdict__" : Str))=false:=by decide)(hbase:attributeBase (.Name x p2) "insert" X.env (eval (.Name x p2) X.env)=eval (.Name x p2) X.env:=by rfl)(hfew:((backTo cp (starEach [ix,e] X.env)).all (fun x=>!x.1) && (backToKw cp (keywordEach [] X.env)).all (fun x=>x.1.isSome)
      && decide (([ix,e]:List Expr).length+([]:List Keyword).length+(if ([]:List Keyword).isEmpty then 0 else 1) < 30))=true:=by rfl)(hline:(ap.endLine == cp.line)=true:=by rfl)(hs:starEach [ix,e] X.env=(false,eval ix X.env)::starEach [e] X.env:=by rfl)(hs2:starEach [e] X.env=(false,eval e X.env)::starEach [] X.env:=by rfl)(hplain:(backTo cp (starEach [e] X.env)).any (·.1)=false:=by rfl)(hsw:swapsWith (.Call (.Attribute (.Name x p2) "insert" ap) [ix,e] [] cp) none pos.line X.env=pure false:=by rfl):
    VS X F O (.Expr (.Call (.Attribute (.Name x p2) "insert" ap) [ix,e] [] cp) pos) (fO i fx fe) (aW O es) OL fr:=fun held =>
  b7 (iF (jV PySem.F.plainAttrs_list PySem.F.slot_list_insert PySem.F.type_list_insert AH (dR hN hv hd hcd) (bK hx (bK he ce hs2) hs) hbase hfew hline hs hplain) hsw) fun De σ H ⟨ρ,o,hE,hf,hQ⟩=>by
    obtain⟨x,h1,hf⟩:=bind_some hf
    have h1:=dZ h1
    obtain⟨ds0,rfl⟩:∃ ds0,x=.lst ds0:=by cases x <;> first | exact⟨_,rfl⟩ | cases hf
    obtain⟨a,xs,ds,k1,k2,k3,k4,k5⟩:=hE.ownL (hJ i hi) h1
    rw[k2] at h1;cases h1
    obtain⟨dk,h0,hf⟩:=bind_some hf
    cases dk with
    | int k =>
      obtain⟨d,h2,hf⟩:=bind_some hf
      obtain⟨⟨hl,hk0,hk1⟩,rfl⟩:=bW hf
      refine⟨_,k1,.inl ⟨rfl,xs,.inl (.inl k3)⟩,ρ,.int k,hE.envR,h0,fun v0 H0 p0=>?_⟩
      have hE0:=hE.up p0.same
      cases p0.rep
      refine⟨ρ,d,hE0.envR,h2,fun v H1 p=>?_⟩
      obtain⟨hE1,hr⟩:=hE0.eval p
      obtain⟨a',ys,ds',m1,m2,m3,m4,m5⟩:=hE1.ownL hi k2
      rw[k1] at m1;cases m1
      rw[k2] at m2;cases m2
      have e3:=p.same _ _ (p0.same _ _ k3)
      have e4:xs=ys:=by rw[m3] at e3;cases e3;rfl
      subst e4
      have len:=(m5 _ F.none).length
      refine⟨a,xs,k,v,rfl,rfl,m3,hk0,by omega,Nat.lt_of_lt_of_le (show xs.length < 100000 by omega) (by decide),hQ σ _ ?_⟩
      rw[len]
      exact hE1.put hi k1 fun A hA=>(m5 A hA).insertIdx (hr A hA) _
    | _=>cases hf
end
def AJ(sc:Scope)(names:List (Str × NameKind)):Bool:=names.all fun x=>!(x.2 == .free) || sc.names.lookup x.1 == some .cell || sc.names.lookup x.1 == some .free
theorem cm{X:Cx}{names:List (Str × NameKind)}(sc:Scope)(hs:X.env.scope=sc)(h:AJ sc names=true):∀ x ∈ names,x.2=.free->(X.env.kindOf x.1=some .cell\/X.env.kindOf x.1=some .free):=fun x hx hf=>by
  have:=List.all_eq_true.mp h x hx
  unfold PySem.Env.kindOf
  rw[hs]
  simp only[hf,beq_self_eq_true,Bool.not_true,Bool.false_or,Bool.or_eq_true,beq_iff_eq] at this
  exact this
end VL
namespace VL
open PySem PySem.Spec PyProof.Rows L2
section
variable {X:Cx} {a b e:Expr} {te:TE} {fa fb:FE} {ea eb:List Es} {pos p p2:Pos} {lo hi:Option Expr} {ke:Expr} {tl th tk:TO} {flo fhi fst:FO}
end
end VL
namespace VL
open PySem PySem.Spec PyProof.Rows L2
def Itd(lo:Int)(n:Nat):It:=⟨fun i _=>i < n,fun i H x H'=>H'=H/\x=.int (lo - i),fun i _=>n<=i⟩
theorem AK{P:Program}{w:World}{K:PySem.W.Frag}{tg:Expr}(it:Addr)(lo:Int)(n:Nat):Turn P w K tg (Itd lo n) [it] it (fun i h=>IsRangeIter h it (lo+(i:Nat) * (-1)) ((n:Int) - (i:Nat)) (-1)) where
  mem:=by simp
  obj := fun i h st b hb=>by
    have e:b=it:=by simpa using hb
    subst e
    exact⟨_,st,fun v z=>by
      have z':Data.fields _=Data.cell v:=z
      cases z'⟩
  keep:=fun i h h' st k=>k it (by simp) _ st
  item:=by
    intro X hP hw hK hc i pins s σ H E I hf st hg
    subst hP hw hK
    obtain⟨f0,f1,f2,f3,f4,f5⟩:=hf it (by simp)
    have W:=Walks.range (prog:=X.prog) (w:=X.w) (I.ok.hd hc) it lo (-1) n
    refine W.item i s _ _ hg st fun v h' tk hv st' kk=>?_
    obtain⟨t,rfl⟩:=hv
    have I1:Inv X pins σ H { s with heap:=h',toks:=tk }:=I.turned (fun b o hb e=>kk b o (by simpa using hb) e) f0 f1 f3 f4 f5
    refine⟨_,rfl,jP (s:={ s with heap:=h',toks:=tk }) (n:="range_iterator") st' rfl rfl (by decide) ⟨.int (lo - i),H,I1,⟨t,?_⟩,⟨rfl,rfl⟩,st',fun b hb=>(hf b hb).1⟩⟩
    congr 1;omega
  done:=by
    intro X hP hw hK hc i pins s σ H E I hf st hg
    subst hP hw hK
    obtain⟨f0,f1,f2,f3,f4,f5⟩:=hf it (by simp)
    exact wpAny_pyNext_range_end (I.ok.hd hc) st (by have:n<=i:=hg;omega) fun h' eb=>⟨rfl,I.turned (t':=s.toks) (fun b o hb e=>eb b o hb e) f0 f1 f3 f4 f5⟩
  self:=fun _ _ _ _ _ st h=>wpAny_pyIter_rangeiter st h
theorem rK(a b:Int):Builtin.Range.rangeSize a b (-1)=if b < a then a - b else 0:=by
  unfold Builtin.Range.rangeSize
  rw[if_neg (by decide)]
  have:(-(-1):Int)=1:=by decide
  rw[this,Int.ediv_one]
  by_cases h:b < a
  · rw[if_pos h,if_pos h];omega
  · rw[if_neg h,if_neg h]
theorem AL{a b:Int}(ha:-(2 ^ 62)<=a)(ha':a < 2 ^ 62)(hb:-(2 ^ 62)<=b)(hb':b < 2 ^ 62):Builtin.Range.small a b (-1)=true:=by
  unfold Builtin.Range.small
  rw[rK]
  simp only[Builtin.Range.rangeFitsLong,Bool.and_eq_true,Bool.or_eq_true,decide_eq_true_eq,beq_iff_eq,show ¬ ((-1:Int) > 0) by decide,if_false]
  split <;> omega
section
variable {X:Cx} {tg:Expr}
theorem AM{pins:List (Addr × Obj)}{σ:St}{H:Hp}{s:Shared}{R:It->Hp->Prop}{E:Value->Shared->Prop}{lo hi:Int}{t u v:Tok}{tk:Nat}(I:Inv X pins σ H s)(h1:-(2 ^ 62)<=lo)(h2:lo < 2 ^ 62)(h3:-(2 ^ 62)<=hi)(h4:hi < 2 ^ 62)(q:R (Itd lo (lo - hi).toNat) H):wpAny (model X.prog X.w) X.A (pyIter (.ref s.heap.objs.size)) (PIE X pins σ tg R) E { s with heap:=s.heap.push { cls:=.type "range",data:=.fields #[.int lo t,.int hi u,.int (-1) v] },toks:=tk }:=by
  refine wpAny_pyIter_range (IsRange.new ..) (AL h1 h2 h3 h4) ?_
  have I1:Inv X pins σ H { s with heap:=s.heap.push { cls:=.type "range",data:=.fields #[.int lo t,.int hi u,.int (-1) v] },toks:=tk }:=I.kept fun b o e=>Heap.get?_push_of_some _ e
  refine⟨(s.heap.push { cls:=.type "range",data:=.fields #[.int lo t,.int hi u,.int (-1) v] }).objs.size,[(s.heap.push { cls:=.type "range",data:=.fields #[.int lo t,.int hi u,.int (-1) v] }).objs.size],_,_,H,rfl,
    I1.kept (t':=tk) fun b o e=>Heap.get?_push_of_some _ e,AK _ lo (lo - hi).toNat,?_,fun b hb=>?_,q⟩
  · have e1:lo+((0:Nat):Int) * (-1)=lo:=by omega
    have e2:(((lo - hi).toNat:Nat):Int) - ((0:Nat):Int)=Builtin.Range.rangeSize lo hi (-1):=by rw[rK];split <;> omega
    show IsRangeIter _ _ (lo+((0:Nat):Int) * (-1)) ((((lo - hi).toNat:Nat):Int) - ((0:Nat):Int)) (-1)
    rw[e1,e2]
    exact Heap.get?_push_size _ rfl
  · have e:b=(s.heap.push { cls:=.type "range",data:=.fields #[.int lo t,.int hi u,.int (-1) v] }).objs.size:=by simpa using hb
    subst e
    exact I1.fpOk (Nat.le_refl _) (I1.hok.fresh (Nat.le_refl _))
def AN(ta:TA):TI:=fun σ H R=>ta σ H fun vs H1=>∃ i j:Int,vs=[.int i,.int j,.int (-1)]/\(-(2 ^ 62)<=i/\i < 2 ^ 62/\-(2 ^ 62)<=j/\j < 2 ^ 62)/\R (Itd i (i - j).toNat) H1
theorem AO{a b c:Expr}{ta:TA}{p pos:Pos}(hg:Gl X "range")(hm:X.mg "range" = none)(ha:PA X [a,b,c] ta)(hs:starEach [a,b,c] X.env=(false,eval a X.env)::starEach [b,c] X.env:=by rfl)(hpl:(backTo pos (starEach [b,c] X.env)).any (·.1)=false:=by rfl):
    PI X tg (.Call (.Name "range" p) [a,b,c] [] pos) (AN ta):=by
  intro pins s σ H R I h
  refine Call_ (cJ I hg hm boot_range (PyProof.Rows.callWith_type1 (thn (ha pos pins s σ H _ I h) fun us s1 ⟨vs,H1,I1,r1,q1⟩=>?_) hs hpl))
  obtain⟨i,j,e,⟨q1,q2,q3,q4⟩,q⟩:=q1
  subst e
  cases r1 with
  | cons r rr =>
    cases rr with
    | cons r' rr =>
      cases rr with
      | cons r'' rr =>
        cases rr
        obtain⟨t,rfl⟩:=r
        obtain⟨t',rfl⟩:=r'
        obtain⟨t'',rfl⟩:=r''
        exact call_range_3 (by decide) (AM I1 q1 q2 q3 q4 q) (.inl (PyProof.noPylong_of_log2 (by decide +kernel)))
end
def eO(lo:Int)(n:Nat):List D:=(List.range n).map fun (k:Nat)=>.int (lo - k)
theorem AQ{lo:Int}{n i:Nat}(h:i < n):(eO lo n).drop i=.int (lo - i)::(eO lo n).drop (i+1):=by
  have hl:i < (eO lo n).length:=by simpa [eO] using h
  rw[List.drop_eq_getElem_cons hl]
  simp[eO]
theorem AR{g:TG}{tb:TS}{D:Ends}{σ:St}{H:Hp}{lo:Int}{n:Nat}(Pv:Nat->St->Hp->Prop)(h0:Pv 0 σ H)(hs:∀ i σ H,i < n->Pv i σ H->g (.int (lo - (i:Nat))) σ H fun σ2 H2=>tb { D with nx:=Pv (i+1),ct:=Pv (i+1),bk:=D.nx } σ2 H2)(hd:∀ σ H,Pv n σ H->D.nx σ H):
    ∃ W:Nat->Nat->St->Hp->Prop,(∃ m,W 0 m σ H)/\∀ i m σ H,W i m σ H ->
      ((Itd lo n).stop i H/\D.nx σ H)\/((Itd lo n).go i H/\∃ N:St->Hp->Prop,(∀ σ' H',N σ' H'->∃ m',m' < m/\W (i+1) m' σ' H')/\∀ x H',(Itd lo n).yld i H x H'->g x σ H' fun σ2 H2=>tb { D with nx:=N,ct:=N,bk:=D.nx } σ2 H2):=by
  refine⟨fun i m σ H=>m=n - i/\i<=n/\Pv i σ H,⟨n,by simp,Nat.zero_le _,h0⟩,?_⟩
  rintro i m σ H ⟨rfl,hi,p⟩
  by_cases hlt:i < n
  · refine .inr ⟨hlt,Pv (i+1),fun σ' H' p'=>⟨n - (i+1),by omega,rfl,hlt,p'⟩,fun x H' y=>?_⟩
    obtain⟨e,y⟩:=y
    subst e y
    exact hs i σ _ hlt p
  · have e:i=n:=by omega
    subst e
    exact .inl ⟨Nat.le_refl _,hd σ H p⟩
def j3(t:Nat)(as:FEs)(tb:FS):FS:=fun ρ=>(as ρ).bind fun ds=>match ds with
  | [.int i,.int j,.int k]=>if okR i/\okR j/\k = -1 then aZ (fun x ρ=>tb (ρ.set t (some x))) (eO i (i - j).toNat) ρ else none
  | _=>none
section
variable {X:Cx} {F:Fr0} {O O2 OL:List Nat} {fr:Bool} {a b c:Expr} {body:List Stmt} {as:FEs} {ei:List Es} {tb:FS} {p2 pos pn pr:Pos}
end
section
variable {X:Cx} {a b:Expr} {fa fb:FE} {ea eb es:List Es} {as:FEs} {pos p kp cp:Pos}
def kF:D->Option D
  | .int i=>some (.int i)
  | .bl k=>some (.int (if k then 1 else 0))
  | _=>none
theorem AT(mi:X.mg "int" = none)(ha:VA X [a] as es)(hg:Gl X "int":=by rfl)(he:starEach [a] X.env=(false,eval a X.env)::starEach [] X.env:=by rfl)(hpl:(backTo pos (starEach [] X.env)).any (·.1)=false:=by rfl):
    VE X (.Call (.Name "int" p) [a] [] pos) (eA (aI kF) as) [] :=
  aJ (m7 wI hg mi (by decide +kernel) ha (by decide) (by decide) he hpl) fun σ H Q ⟨ρ,d,hE,hf,hQ⟩=>by
    obtain⟨ds,h1,hf⟩:=bind_some hf
    refine⟨ρ,ds,hE,h1,fun vs H1 p=>?_⟩
    obtain⟨x,rfl,hg1⟩:=iS hf
    obtain⟨v,rfl,r1⟩:=e9 p.rep
    cases r1 <;> first | (cases hg1;done) | skip
    · cases hg1
      exact .inr ⟨_,rfl,hQ _ _ ⟨p.same,.int _,fun A _ _=>.int _⟩⟩
    · cases hg1
      exact .inl ⟨_,rfl,hQ _ _ ⟨p.same,.int _,fun A _ _=>.int _⟩⟩
end
end VL
namespace VL
open PySem PySem.Spec PyProof.Rows L2
end VL
namespace VL
open PySem PySem.Spec PyProof.Rows L2
end VL
namespace VL
open PySem PySem.Spec PyProof.Rows L2
section
variable {X:Cx} {a b c:Expr} {as:FEs} {es:List Es} {pos p:Pos}
end
section
variable {X:Cx}
end
section
variable {X:Cx} {F:Fr0} {O OL:List Nat} {fr:Bool} {e:Expr} {fe:FE} {es:List Es} {pos p2:Pos}
end
end VL
namespace VL
open PySem PySem.Spec PyProof.Rows L2
abbrev AA(A:Addr->Prop)(a:Addr)(bs:List Addr):Addr->Prop:=fun b=>A b\/b=a\/b ∈ bs
def InR(K:PySem.W.Frag)(H:Hp)(A:Addr->Prop)(bs:List Addr)(dss:List (List D)):Prop :=
  bs.length=dss.length/\∀ (k:Nat) b ds,bs[k]?=some b->dss[k]?=some ds->∃ ys,H b=some (.lst ys)/\Reps K (aj H A) ys ds
section
variable {K:PySem.W.Frag} {H H':Hp} {A A':Addr->Prop} {bs:List Addr} {dss:List (List D)}
theorem InR.mono(e:Same H H')(h:InR K H A bs dss):InR K H' A bs dss:=⟨h.1,fun k b ds h1 h2=>by
  obtain⟨ys,h3,h4⟩:=h.2 k b ds h1 h2
  exact⟨ys,e _ _ h3,aH (bm e) h4⟩⟩
theorem InR.change(e:Same (aj H A) (aj H' A'))(h0:∀ b ∈ bs,H' b=H b)(h:InR K H A bs dss):InR K H' A' bs dss:=⟨h.1,fun k b ds h1 h2=>by
  obtain⟨ys,h3,h4⟩:=h.2 k b ds h1 h2
  exact⟨ys,by rw[h0 b (List.mem_of_getElem? h1)];exact h3,aH e h4⟩⟩
theorem InR.at(h:InR K H A bs dss){k:Nat}{b:Addr}(hb:bs[k]?=some b):∃ ds ys,dss[k]?=some ds/\H b=some (.lst ys)/\Reps K (aj H A) ys ds:=by
  have hk:k < dss.length:=by have:=(List.getElem?_eq_some_iff.mp hb).1;have:=h.1;omega
  obtain⟨ys,h3,h4⟩:=h.2 k b dss[k] hb (List.getElem?_eq_getElem hk)
  exact⟨_,ys,List.getElem?_eq_getElem hk,h3,h4⟩
theorem kG:∀ {vs:List V} {ds:List D},vs.length=ds.length->(∀ (k:Nat) v d,vs[k]?=some v->ds[k]?=some d->Rep K H v d)->Reps K H vs ds
  | [],[],_,_=>.nil
  | [],_::_,h,_=>by cases h
  | _::_,[],h,_=>by cases h
  | v::vs,d::ds,h,k=>.cons (k 0 v d rfl rfl) (kG (by simpa using h) fun m v' d' h1 h2=>k (m+1) v' d' (by simpa using h1) (by simpa using h2))
theorem InR.reps(h:InR K H A bs dss)(hA:∀ b,A' b->A b)(hb:∀ b ∈ bs,¬ A' b):Reps K (aj H A') (bs.map V.ref) (dss.map D.lst):=by
  refine kG (by simpa using h.1) fun k v d h1 h2=>?_
  rw[List.getElem?_map] at h1 h2
  cases e1:bs[k]? with
  | none=>rw[e1] at h1;cases h1
  | some b =>
    cases e2:dss[k]? with
    | none=>rw[e2] at h2;cases h2
    | some ds =>
      rw[e1] at h1;rw[e2] at h2
      cases h1;cases h2
      obtain⟨ys,h3,h4⟩:=h.2 k b ds e1 e2
      refine .lst (.inl ?_) (aH (bC (fun _ _ q=>q) hA) h4)
      rw[bc (hb b (List.mem_of_getElem? e1))]
      exact h3
theorem AU{α:Type}{xs:List α}(h:xs.Nodup){i j:Nat}{x:α}(h1:xs[i]?=some x)(h2:xs[j]?=some x):i=j :=
  (List.getElem?_inj (List.getElem?_eq_some_iff.mp h1).1 h).mp (h1.trans h2.symm)
theorem InR.put(h:InR K H A bs dss)(hn:bs.Nodup){k:Nat}{b:Addr}(hb:bs[k]?=some b)(hA:A b){ys:List V}{ds:List D}(hr:Reps K (aj H A) ys ds):InR K (upd H b (.lst ys)) A bs (dss.set k ds):=by
  have up:Same (aj H A) (aj (upd H b (.lst ys)) A):=fun c o q=>by
    obtain⟨n,q⟩:=cw q
    rw[bc n,aC (show c ≠ b from fun e=>n (by rw[e];exact hA))]
    exact q
  refine⟨by rw[List.length_set];exact h.1,fun m c es h1 h2=>?_⟩
  by_cases e:m=k
  · subst e
    rw[hb] at h1;cases h1
    have hm:m < dss.length:=by have:=(List.getElem?_eq_some_iff.mp h2).1;simpa using this
    rw[List.getElem?_set_self hm] at h2;cases h2
    exact⟨ys,b5,aH up hr⟩
  · rw[List.getElem?_set_ne (Ne.symm e)] at h2
    obtain⟨zs,h3,h4⟩:=h.2 m c es h1 h2
    have ne:c ≠ b:=fun q=>e (AU hn (q ▸ h1) hb)
    exact⟨zs,by rw[aC ne];exact h3,aH up h4⟩
theorem InR.snoc(h:InR K H A bs dss){b:Addr}{ys:List V}{ds:List D}(hb:H b=some (.lst ys))(hr:Reps K (aj H A) ys ds):InR K H A (bs++[b]) (dss++[ds]):=by
  refine⟨by simp[h.1],fun k c es h1 h2=>?_⟩
  by_cases e:k < bs.length
  · rw[List.getElem?_append_left e] at h1
    rw[List.getElem?_append_left (by rw[<- h.1];exact e)] at h2
    exact h.2 k c es h1 h2
  · have:k=bs.length:=by have:=(List.getElem?_eq_some_iff.mp h1).1;simp at this;omega
    subst this
    rw[List.getElem?_append_right (Nat.le_refl _),Nat.sub_self] at h1
    rw[h.1,List.getElem?_append_right (Nat.le_refl _),Nat.sub_self] at h2
    cases h1;cases h2
    exact⟨ys,hb,hr⟩
end
def lkD(ρ:ad)(i r:Nat):Option D:=(aa r ρ).bind fun k=>(aa i ρ).bind fun x=>match k,x with
  | .int k,.lst ds=>ds[k.toNat]?
  | _,_=>none
def vw(i:Nat):Option Nat->ad->ad
  | none,ρ=>ρ
  | some r,ρ=>ρ.set r (lkD ρ i r)
structure EnvD (K:PySem.W.Frag) (F:Fr0) (held:List Hd) (i:Nat) (al:Option Nat) (a:Addr) (bs:List Addr) (dss:List (List D)) (σ:St) (ρ:ad) (H:Hp):Prop where
  same:Same F.H0 H
  lσ:σ.length=F.n
  lρ:ρ.length=F.n
  si:σ[i]?=some (some (V.ref a))
  ri:ρ[i]?=some (some (.lst (dss.map .lst)))
  ha:H a=some (.lst (bs.map V.ref))
  nd:(a::bs).Nodup
  new:∀ b,b=a\/b ∈ bs->F.H0 b=Option.none
  inn:∀ A,F.PA A->InR K H (AA A a bs) bs dss
  val:∀ j d,ρ[j]?=some (some d)->j ≠ i->al ≠ some j->∃ v,σ[j]?=some (some v)/\∀ A,F.PA A->Rep K (aj H (AA A a bs)) v d
  hld:∀ p ∈ held,∀ A,F.PA A->HdOk K (aj H (AA A a bs)) p
  als:∀ r,al=some r->r ≠ i/\∃ (k:Nat) (b:Addr),ρ[r]?=some (some (.int (k:Nat)))/\bs[k]?=some b/\σ[r]?=some (some (V.ref b))
section
variable {K:PySem.W.Frag} {F:Fr0} {held:List Hd} {i:Nat} {al:Option Nat} {a:Addr} {bs:List Addr} {dss:List (List D)} {σ:St} {ρ:ad} {H H':Hp}
theorem EnvD.up(h:EnvD K F held i al a bs dss σ ρ H)(e:Same H H'):EnvD K F held i al a bs dss σ ρ H' :=
  ⟨h.same.trans e,h.lσ,h.lρ,h.si,h.ri,e _ _ h.ha,h.nd,h.new,fun A hA=>(h.inn A hA).mono e,fun j d q h1 h2=>let ⟨v,h3,h4⟩:=h.val j d q h1 h2;⟨v,h3,fun A hA=>aw (bm e) (h4 A hA)⟩,fun p hp A hA=>(h.hld p hp A hA).mono (bm e),h.als⟩
theorem EnvD.out(h:EnvD K F held i al a bs dss σ ρ H){A:Addr->Prop}(hA:F.PA A){b:Addr}(hb:b=a\/b ∈ bs):¬ A b:=fun q=>F.dom A hA b q (h.new b hb)
theorem EnvD.dom(h:EnvD K F held i al a bs dss σ ρ H){A:Addr->Prop}(hA:F.PA A):Dom H (AA A a bs):=fun b q=>by
  rcases q with q | rfl | q
  · exact ((F.dom A hA).mono h.same) b q
  · rw[h.ha];exact fun z=>nomatch z
  · obtain⟨k,hk⟩:=List.getElem?_of_mem q
    obtain⟨_,ys,_,h2,_⟩:=(h.inn A hA).at hk
    rw[h2];exact fun z=>nomatch z
theorem EnvD.repI(h:EnvD K F held i al a bs dss σ ρ H){A:Addr->Prop}(hA:F.PA A):Rep K (aj H A) (V.ref a) (.lst (dss.map .lst)):=by
  refine .lst (.inl ?_) ((h.inn A hA).reps (fun b q=>.inl q) fun b hb=>h.out hA (.inr hb))
  rw[bc (h.out hA (.inl rfl))]
  exact h.ha
theorem AV{k:Nat}{r:Nat}(hr:ρ[r]?=some (some (.int (k:Nat))))(hi:ρ[i]?=some (some (.lst (dss.map .lst)))):lkD ρ i r=(dss[k]?).map D.lst:=by
  unfold lkD aa
  rw[hr,hi]
  simp
theorem EnvD.envR(h:EnvD K F held i al a bs dss σ ρ H):EnvR K H σ (vw i al ρ):=fun j d e=>by
  have plain:ρ[j]?=some (some d)->al ≠ some j->∃ v,σ[j]?=some (some v)/\Rep K H v d:=fun e' hj=>by
    by_cases hi:j=i
    · subst hi
      rw[h.ri] at e';cases e'
      exact⟨_,h.si,aw (aQ _ _) (h.repI F.none)⟩
    · obtain⟨v,h1,h2⟩:=h.val j d e' hi hj
      exact⟨v,h1,aw (aQ _ _) (h2 _ F.none)⟩
  cases al with
  | none=>exact plain e fun z=>nomatch z
  | some r =>
    obtain⟨hri,k,b,h1,h2,h3⟩:=h.als r rfl
    by_cases hj:j=r
    · subst hj
      have hl:j < ρ.length:=(List.getElem?_eq_some_iff.mp h1).1
      unfold vw at e
      rw[List.getElem?_set_self hl,AV h1 h.ri] at e
      obtain⟨ds,ys,h4,h5,h6⟩:=(h.inn _ F.none).at h2
      rw[h4] at e;cases e
      exact⟨_,h3,.lst (.inl h5) (aH (aQ _ _) h6)⟩
    · unfold vw at e
      rw[List.getElem?_set_ne (Ne.symm hj)] at e
      exact plain e fun z=>hj (Option.some.inj z).symm
def apD(i:Nat)(al:Option Nat):Es->Bool
  | .full j=>j != i && al != some j
  | .el j=>j != i && al != some j
theorem AW{j:Nat}(h:al ≠ some j):(vw i al ρ)[j]?=ρ[j]?:=by
  cases al with
  | none=>rfl
  | some r=>exact List.getElem?_set_ne (show r ≠ j from fun e=>h (by rw[e]))
theorem EnvD.av(h:EnvD K F held i al a bs dss σ ρ H){A:Addr->Prop}(hA:F.PA A){e:Es}(he:apD i al e=true):Av K H σ (vw i al ρ) (AA A a bs) e:=by
  have out:∀ (j:Nat) (v:V) (d:D),j ≠ i->al ≠ some j->σ[j]?=some (some v)->(vw i al ρ)[j]?=some (some d)->Rep K (aj H (AA A a bs)) v d:=fun j v d h1 h2 h3 h4=>by
    rw[AW h2] at h4
    obtain⟨v',h5,h6⟩:=h.val j d h4 h1 h2
    rw[h3] at h5;cases h5
    exact h6 A hA
  cases e with
  | full j =>
    simp only[apD,Bool.and_eq_true,bne_iff_ne,ne_eq] at he
    exact fun v d h1 h2=>out j v d he.1 he.2 h1 h2
  | el j =>
    simp only[apD,Bool.and_eq_true,bne_iff_ne,ne_eq] at he
    exact fun v d h1 h2=>(out j v d he.1 he.2 h1 h2).el
theorem EnvD.eval(h:EnvD K F held i al a bs dss σ ρ H){es:List Es}{d:D}{v:V}(hes:es.all (apD i al)=true)(p:Post K σ (vw i al ρ) H es d v H'){A:Addr->Prop}(hA:F.PA A):Rep K (aj H' (AA A a bs)) v d :=
  p.av _ (h.dom hA) fun e he=>h.av hA (List.all_eq_true.mp hes e he)
theorem EnvD.set(h:EnvD K F held i al a bs dss σ ρ H){j:Nat}{v:V}{d:D}(hj:j ≠ i)(hal:al ≠ some j)(hv:∀ A,F.PA A->Rep K (aj H (AA A a bs)) v d):EnvD K F held i al a bs dss (σ.set j (some v)) (ρ.set j (some d)) H:=by
  refine⟨h.same,by rw[List.length_set];exact h.lσ,by rw[List.length_set];exact h.lρ,?_,?_,h.ha,h.nd,h.new,h.inn,fun m e q h1 h2=>?_,h.hld,fun r hr=>?_⟩
  · rw[List.getElem?_set_ne hj];exact h.si
  · rw[List.getElem?_set_ne hj];exact h.ri
  · by_cases e1:m=j
    · subst e1
      have l1:m < ρ.length:=by have:=(List.getElem?_eq_some_iff.mp q).1;simpa using this
      rw[List.getElem?_set_self l1] at q;cases q
      exact⟨v,List.getElem?_set_self (by rw[h.lσ,<- h.lρ];exact l1),hv⟩
    · rw[List.getElem?_set_ne (Ne.symm e1)] at q ⊢
      exact h.val m e q h1 h2
  · obtain⟨h1,k,b,h2,h3,h4⟩:=h.als r hr
    have ne:j ≠ r:=fun e=>hal (e ▸ hr)
    exact⟨h1,k,b,by rw[List.getElem?_set_ne ne];exact h2,h3,by rw[List.getElem?_set_ne ne];exact h4⟩
theorem EnvD.put(h:EnvD K F held i al a bs dss σ ρ H){k:Nat}{b:Addr}(hb:bs[k]?=some b){ys:List V}{ds:List D}(hr:∀ A,F.PA A->Reps K (aj H (AA A a bs)) ys ds):
    EnvD K F held i al a bs (dss.set k ds) σ (ρ.set i (some (.lst ((dss.set k ds).map .lst)))) (upd H b (.lst ys)):=by
  have hm:=List.mem_of_getElem? hb
  have up:∀ {A:Addr->Prop},Same (aj H (AA A a bs)) (aj (upd H b (.lst ys)) (AA A a bs)):=fun {A} c o q=>by
    obtain⟨n,q⟩:=cw q
    rw[bc n,aC (show c ≠ b from fun e=>n (.inr (.inr (by rw[e];exact hm))))]
    exact q
  have nd:=List.nodup_cons.mp h.nd
  have hl:i < ρ.length:=(List.getElem?_eq_some_iff.mp h.ri).1
  refine⟨fun c o q=>?_,h.lσ,by rw[List.length_set];exact h.lρ,h.si,List.getElem?_set_self hl,?_,h.nd,h.new,fun A hA=>(h.inn A hA).put nd.2 hb (.inr (.inr hm)) (hr A hA),fun j e q h1 h2=>?_,fun p hp A hA=>(h.hld p hp A hA).mono up,fun r hr=>?_⟩
  · rw[aC (show c ≠ b from fun e=>by subst e;rw[h.new c (.inr hm)] at q;cases q)]
    exact h.same c o q
  · rw[aC (show a ≠ b from fun e=>nd.1 (by rw[e];exact hm))]
    exact h.ha
  · rw[List.getElem?_set_ne (Ne.symm h1)] at q
    obtain⟨v,h3,h4⟩:=h.val j e q h1 h2
    exact⟨v,h3,fun A hA=>aw up (h4 A hA)⟩
  · obtain⟨h1,m,c,h2,h3,h4⟩:=h.als r hr
    exact⟨h1,m,c,by rw[List.getElem?_set_ne (Ne.symm h1)];exact h2,h3,h4⟩
end
end VL
namespace VL
open PySem PySem.Spec PyProof.Rows L2
def AX(K:PySem.W.Frag)(F:Fr0)(held:List Hd)(i:Nat)(al':Option Nat)(fr:Bool)(De:Ends):Out->Prop
  | .nx ρ'=>∀ a bs dss σ' H',EnvD K F held i al' a bs dss σ' ρ' H'->De.nx σ' H'
  | .rt d=>∀ v H',Ret K F fr d v H'->De.rt v H'
  | .bk _=>True
  | .ct _=>True
def tsD(K:PySem.W.Frag)(F:Fr0)(held:List Hd)(i:Nat)(al al':Option Nat)(fr:Bool)(f:FS):TS:=fun De σ H=>∃ a bs dss ρ o,EnvD K F held i al a bs dss σ ρ H/\f ρ=some o/\AX K F held i al' fr De o
abbrev VD(X:Cx)(F:Fr0)(i:Nat)(al:Option Nat)(st:Stmt)(f:FS)(al':Option Nat)(fr:Bool):Prop:=∀ held,PS X st (tsD X.K F held i al al' fr f)
abbrev VDs(X:Cx)(F:Fr0)(i:Nat)(al:Option Nat)(st:List Stmt)(f:FS)(al':Option Nat)(fr:Bool):Prop:=∀ held,PSs X st (tsD X.K F held i al al' fr f)
section
variable {X:Cx} {F:Fr0} {i:Nat} {al al1 al2:Option Nat} {fr:Bool} {f g:FS} {st:Stmt} {ar:List Stmt} {pos p2 p3 p4:Pos} {e b1 b2:Expr} {fe f1 f2:FE} {es e1 e2:List Es}
theorem i0{K:PySem.W.Frag}{H H':Hp}:∀ {vs:List V} {ds:List D},ds.all b6=true->Reps K H vs ds->Reps K H' vs ds
  | [],_,_,h=>by cases h;exact .nil
  | _ :: _,_,s,h=>by
    cases h with
    | cons h1 h2 =>
      rw[List.all_cons,Bool.and_eq_true] at s
      exact .cons (kd s.1 h1) (i0 s.2 h2)
end
end VL
namespace VL
open PySem PySem.Spec PyProof.Rows L2
structure PostD (K:PySem.W.Frag) (σ:St) (ρ:ad) (H:Hp) (es:List Es) (d:D) (v:V) (H':Hp):Prop where
  same:Same H H'
  new:∃ l bs dss,v=V.ref l/\d=.lst (dss.map .lst)/\(l::bs).Nodup/\(∀ b,b=l\/b ∈ bs->H b=none)/\H' l=some (.lst (bs.map V.ref))/\∀ A,Dom H A->(∀ e ∈ es,Av K H σ ρ A e)->InR K H' (AA A l bs) bs dss
def AY(K:PySem.W.Frag)(σ:St)(ρ:ad)(H:Hp)(es:List Es)(ds:List D)(J:It)(H1:Hp):Prop:=∀ (i:Nat) (d:D) (H':Hp) x H'',ds[i]?=some d->Same H1 H'->J.yld i H' x H''->∀ A,Dom H A->(∀ e ∈ es,Av K H σ ρ A e)->Rep K (aj H1 A) x d
def AZ(K:PySem.W.Frag)(f:FEs)(es:List Es):TI:=fun σ H R=>∃ ρ ds,EnvR K H σ ρ/\f ρ=some ds/\∀ J H1,PostI K σ ρ H es ds J H1->AY K σ ρ H es ds J H1->R J H1
abbrev VIL(X:Cx)(tg iter:Expr)(f:FEs)(es:List Es):Prop:=PI X tg iter (AZ X.K f es)
section
variable {X:Cx} {elt tg iter:Expr} {ifs:List Expr} {scope:Scope} {own cn:List Str} {caps is:List Nat} {g:TG} {un:D->Option (List D)} {fi:FEs} {ei ee:List Es} {c:ad->Option Bool} {fe:FE} {pos spos p2:Pos}
theorem EnvO.setD{K:PySem.W.Frag}{F:Fr0}{held:List Hd}{O:List Nat}{σ:St}{ρ:ad}{H H':Hp}(h:EnvO K F held O σ ρ H){i:Nat}{es:List Es}{d:D}{v:V}(p:PostD K σ ρ H es d v H')(hn:i < F.n):
    ∃ a bs dss,EnvD K F held i none a bs dss (σ.set i (some v)) (ρ.set i (some d)) H':=by
  have h:=h.weaken (O':=[]) fun _ q=>nomatch q
  obtain⟨l,bs,dss,rfl,rfl,hnd,hnew,hl',hr⟩:=p.new
  have off:∀ {A:Addr->Prop} (b:Addr),Off σ [] A b ↔ A b:=fun {A} b=>⟨fun q=>q.elim (fun⟨_,q,_⟩=>nomatch q) id,.inr⟩
  have dom:∀ {A:Addr->Prop},F.PA A->Dom H A:=fun {A} hA=>(F.dom A hA).mono h.same
  have av:∀ {A:Addr->Prop},F.PA A->∀ e ∈ es,Av K H σ ρ A e:=fun {A} hA e he=>by
    have:=h.av (e:=e) hA (by cases e <;> rfl)
    rw[show Off σ [] A=A from funext fun b=>propext (off b)] at this
    exact this
  have up:∀ {A:Addr->Prop},Same (aj H (Off σ [] A)) (aj H' (AA A l bs)):=fun {A} c o q=>by
    obtain⟨n,q⟩:=cw q
    rw[bc]
    · exact p.same c o q
    · rintro (z | z)
      · exact n (.inr z)
      · rw[hnew c z] at q;cases q
  refine⟨l,bs,dss,h.same.trans p.same,by rw[List.length_set];exact h.lσ,by rw[List.length_set];exact h.lρ,List.getElem?_set_self (by rw[h.lσ];exact hn),List.getElem?_set_self (by rw[h.lρ];exact hn),hl',hnd,fun b hb=>h.same.free (hnew b hb),fun A hA=>hr A (dom hA) (av hA),fun j e q h1 h2=>?_,fun z hz A hA=>(h.hld z hz A hA).mono up,fun r hr=>nomatch hr⟩
  rw[List.getElem?_set_ne (Ne.symm h1)] at q ⊢
  obtain⟨v',h3,h4⟩:=h.val j e q fun z=>nomatch z
  exact⟨v',h3,fun A hA=>aw up (h4 A hA)⟩
def j4(f:FS):Prop:=∀ ρ ρ',f ρ ≠ some (.nx ρ')
theorem B0{f g:FS}(h:j4 g):j4 (aE f g):=fun ρ ρ' q=>by
  obtain⟨o,h1,h2⟩:=bind_some q
  cases o with
  | nx ρ1=>exact h ρ1 ρ' h2
  | _=>cases h2
end
end VL
namespace VL
open PySem PySem.Spec PyProof.Rows L2
section
variable {prog:Program} {w:World} {A:Around} {E:Value->Shared->Prop} {s:Shared}
end
section
variable {X:Cx} {tg a:Expr} {ta:TA} {p p2 pos pos2:Pos}
end
section
variable {X:Cx} {F:Fr0} {O O2 OL:List Nat} {fr:Bool} {a:Expr} {body:List Stmt} {as:FEs} {ei:List Es} {tb:FS} {p2 pos pn pr pm pq:Pos}
end
section
variable {X:Cx} {a b c:Expr} {fa fb fc:FE} {ea eb ec:List Es} {pos:Pos}
end
end VL
namespace VL
open PySem PySem.Spec PyProof.Rows L2
section
variable {K:PySem.W.Frag} {F:Fr0} {held:List Hd} {i r:Nat} {al:Option Nat} {a:Addr} {bs:List Addr} {dss:List (List D)} {σ:St} {ρ:ad} {H H':Hp}
end
def B1(K:PySem.W.Frag)(F:Fr0)(held:List Hd)(i:Nat)(al':Option Nat)(a:Addr)(bs:List Addr)(fr:Bool)(De:Ends):Out->Prop
  | .nx ρ'=>∀ dss σ' H',EnvD K F held i al' a bs dss σ' ρ' H'->De.nx σ' H'
  | .rt d=>∀ v H',Ret K F fr d v H'->De.rt v H'
  | .bk _=>True
  | .ct _=>True
def tsK(K:PySem.W.Frag)(F:Fr0)(held:List Hd)(i:Nat)(al al':Option Nat)(a:Addr)(bs:List Addr)(fr:Bool)(f:FS):TS:=fun De σ H=>∃ dss ρ o,EnvD K F held i al a bs dss σ ρ H/\f ρ=some o/\B1 K F held i al' a bs fr De o
abbrev VJ(X:Cx)(F:Fr0)(i:Nat)(al:Option Nat)(st:Stmt)(f:FS)(al':Option Nat)(fr:Bool):Prop:=∀ held a bs,PS X st (tsK X.K F held i al al' a bs fr f)
abbrev VJs(X:Cx)(F:Fr0)(i:Nat)(al:Option Nat)(st:List Stmt)(f:FS)(al':Option Nat)(fr:Bool):Prop:=∀ held a bs,PSs X st (tsK X.K F held i al al' a bs fr f)
section
variable {X:Cx} {F:Fr0} {i r:Nat} {al al1 al2:Option Nat} {fr:Bool} {f g:FS} {st:Stmt} {ar:List Stmt} {pos p2 p3 p4:Pos} {e b1 b2:Expr} {fe f1 f2:FE} {es e1 e2:List Es}
end
end VL
namespace VL
open PySem PySem.Spec PyProof.Rows L2
structure RetX (K:PySem.W.Frag) (H0:Hp) (d:D) (v:V) (H':Hp):Prop where
  same:Same H0 H'
  new:∃ l bs dss,v=V.ref l/\d=.lst (dss.map .lst)/\(l::bs).Nodup/\(∀ b,b=l\/b ∈ bs->H0 b=none)/\H' l=some (.lst (bs.map V.ref))/\∀ A,InR K H' A bs dss
def mS:D->Bool
  | .lst es=>es.all b6
  | _=>false
theorem B2{K:PySem.W.Frag}{H H':Hp}{A:Addr->Prop}{bs:List Addr}{dss:List (List D)}(hs:(dss.map D.lst).all mS=true)(hb:∀ b ∈ bs,H' b=H b)(h:InR K H A bs dss)(A':Addr->Prop):InR K H' A' bs dss:=⟨h.1,fun k b ds h1 h2=>by
  obtain⟨ys,h3,h4⟩:=h.2 k b ds h1 h2
  have hm:D.lst ds ∈ dss.map D.lst:=List.mem_map.mpr ⟨ds,List.mem_of_getElem? h2,rfl⟩
  exact⟨ys,by rw[hb b (List.mem_of_getElem? h1)];exact h3,i0 (List.all_eq_true.mp hs _ hm) h4⟩⟩
section
variable {K:PySem.W.Frag} {F:Fr0} {held:List Hd} {i:Nat} {a:Addr} {bs:List Addr} {dss:List (List D)} {σ:St} {ρ:ad} {H H':Hp}
theorem EnvD.push(h:EnvD K F held i none a bs dss σ ρ H)(e:Same H H'){l:Addr}(hl:H l=none){ys:List V}{ds:List D}(hl':H' l=some (.lst ys))(hr:∀ H'',Reps K H'' ys ds):
    EnvD K F held i none a (bs++[l]) (dss++[ds]) σ (ρ.set i (some (.lst ((dss++[ds]).map .lst)))) (upd H' a (.lst ((bs++[l]).map V.ref))):=by
  have hE:=h.up e
  have nd:=List.nodup_cons.mp h.nd
  have hla:l ≠ a:=fun q=>by subst q;rw[h.ha] at hl;cases hl
  have hlb:l ∉ bs:=fun q=>h.dom F.none l (.inr (.inr q)) hl
  have hpl:i < ρ.length:=(List.getElem?_eq_some_iff.mp h.ri).1
  have sub:∀ {c:Addr},c ∈ bs++[l]->c ∈ bs\/c=l:=fun {c} q=>(List.mem_append.mp q).imp id List.mem_singleton.mp
  have up:∀ {A:Addr->Prop},Same (aj H (AA A a bs)) (aj (upd H' a (.lst ((bs++[l]).map V.ref))) (AA A a (bs++[l]))):=fun {A} c o q=>by
    obtain⟨n,q⟩:=cw q
    have ne:c ≠ a:=fun z=>n (.inr (.inl z))
    have nl:c ≠ l:=bP q hl
    rw[bc,aC ne]
    · exact e c o q
    · rintro (z | z | z)
      · exact n (.inl z)
      · exact ne z
      · rcases sub z with z | z
        · exact n (.inr (.inr z))
        · exact nl z
  refine⟨fun c o q=>?_,h.lσ,by rw[List.length_set];exact h.lρ,h.si,List.getElem?_set_self hpl,b5,?_,fun c hc=>?_,fun A hA=>InR.snoc ⟨(h.inn A hA).1,fun m c es h1 h2=>?_⟩ ?_ (hr _),fun j d q h1 h2=>?_,fun p hp A hA=>(h.hld p hp A hA).mono up,fun r hr=>nomatch hr⟩
  · rw[aC (show c ≠ a from fun z=>by subst z;rw[h.new c (.inl rfl)] at q;cases q)]
    exact hE.same c o q
  · refine List.nodup_cons.mpr ⟨fun z=>?_,?_⟩
    · rcases sub z with z | z
      · exact nd.1 z
      · exact hla z.symm
    · rw[List.nodup_append]
      exact⟨nd.2,by simp,fun x hx y hy=>by rw[List.mem_singleton] at hy;subst hy;exact fun q=>hlb (q ▸ hx)⟩
  · rcases hc with rfl | hc
    · exact h.new c (.inl rfl)
    · rcases sub hc with hc | rfl
      · exact h.new c (.inr hc)
      · cases q:F.H0 c with
        | none=>rfl
        | some o=>rw[h.same c o q] at hl;cases hl
  · obtain⟨zs,h3,h4⟩:=(h.inn A hA).2 m c es h1 h2
    have ne:c ≠ a:=fun z=>nd.1 (z ▸ List.mem_of_getElem? h1)
    exact⟨zs,by rw[aC ne];exact e _ _ h3,aH up h4⟩
  · rw[aC hla];exact hl'
  · rw[List.getElem?_set_ne (Ne.symm h1)] at q
    obtain⟨v,h3,h4⟩:=h.val j d q h1 h2
    exact⟨v,h3,fun A hA=>aw up (h4 A hA)⟩
end
def B3(K:PySem.W.Frag)(F:Fr0)(held:List Hd)(i:Nat)(De:Ends):Out->Prop
  | .nx ρ'=>∀ a bs dss σ' H',EnvD K F held i none a bs dss σ' ρ' H'->De.nx σ' H'
  | .rt d=>∀ v H',RetX K F.H0 d v H'->De.rt v H'
  | .bk _=>True
  | .ct _=>True
def tsX(K:PySem.W.Frag)(F:Fr0)(held:List Hd)(i:Nat)(f:FS):TS:=fun De σ H=>∃ a bs dss ρ o,EnvD K F held i none a bs dss σ ρ H/\f ρ=some o/\B3 K F held i De o
abbrev VX(X:Cx)(F:Fr0)(i:Nat)(st:Stmt)(f:FS):Prop:=∀ held,PS X st (tsX X.K F held i f)
abbrev VXs(X:Cx)(F:Fr0)(i:Nat)(st:List Stmt)(f:FS):Prop:=∀ held,PSs X st (tsX X.K F held i f)
def B4(K:PySem.W.Frag)(F:Fr0)(held:List Hd)(O':List Nat)(De:Ends):Out->Prop
  | .nx ρ'=>∀ σ' H',EnvO K F held O' σ' ρ' H'->De.nx σ' H'
  | .rt d=>∀ v H',RetX K F.H0 d v H'->De.rt v H'
  | .bk _=>True
  | .ct _=>True
def tsR(K:PySem.W.Frag)(F:Fr0)(held:List Hd)(O O':List Nat)(f:FS):TS:=fun De σ H=>∃ ρ o,EnvO K F held O σ ρ H/\f ρ=some o/\B4 K F held O' De o
abbrev VRs(X:Cx)(F:Fr0)(O:List Nat)(st:List Stmt)(f:FS)(O':List Nat):Prop:=∀ held,PSs X st (tsR X.K F held O O' f)
section
variable {X:Cx} {F:Fr0} {O O1 O2 O' OL:List Nat} {i:Nat} {fr:Bool} {f g:FS} {st:Stmt} {ar:List Stmt} {pos p2 p3 p4:Pos} {e:Expr} {fe:FE} {es:List Es}
theorem B5(h1:VX X F i st f)(h2:VXs X F i ar g):VXs X F i (st::ar) (aE f g):=fun held=>d9 (iE (h1 held) (h2 held)) fun De σ H ⟨a,bs,dss,ρ,o,hE,hf,hQ⟩=>by
  obtain⟨o1,h1,hf⟩:=bind_some hf
  refine⟨a,bs,dss,ρ,o1,hE,h1,?_⟩
  cases o1 with
  | nx ρ'=>exact fun a' bs' dss' σ' H' hE'=>⟨a',bs',dss',ρ',o,hE',hf,hQ⟩
  | rt d=>cases hf;exact hQ
  | bk ρ'=>exact trivial
  | ct ρ'=>exact trivial
theorem B6(h1:VX X F i st f):VXs X F i [st] f:=fun held=>d9 (lP (h1 held)) fun De σ H h=>h
def j5(i:Nat)(f:FE):FS:=fun ρ=>(aa i ρ).bind fun x=>match x with
  | .lst ds=>(f ρ).bind fun d=>match d with
    | .lst es=>if es.all b6=true/\ds.length < 100000 then some (.nx (ρ.set i (some (.lst (ds++[.lst es]))))) else none
    | _=>none
  | _=>none
theorem B7{x:Str}{ap cp:Pos}(he:VF X e fe es)(hN:X.N[i]?=some x:=by rfl)(hv:Vis X.env.scope x:=by first | exact Or.inl rfl | exact Or.inr (Or.inl rfl) | exact Or.inr (Or.inr rfl))(hd:(x == ("__debug__" : Str))=false:=by decide)(hcd:(x == ("__classdict__" : Str))=false:=by decide)(hbase:attributeBase (.Name x p2) "append" X.env (eval (.Name x p2) X.env)=eval (.Name x p2) X.env:=by rfl)(hfew:((backTo cp (starEach [e] X.env)).all (fun x=>!x.1) && (backToKw cp (keywordEach [] X.env)).all (fun x=>x.1.isSome)
      && decide (([e]:List Expr).length+([]:List Keyword).length+(if ([]:List Keyword).isEmpty then 0 else 1) < 30))=true:=by rfl)(hline:(ap.endLine == cp.line)=true:=by rfl)(hs:starEach [e] X.env=(false,eval e X.env)::starEach [] X.env:=by rfl)(hplain:(backTo cp (starEach [] X.env)).any (·.1)=false:=by rfl)(hsw:swapsWith (.Call (.Attribute (.Name x p2) "append" ap) [e] [] cp) none pos.line X.env=pure false:=by rfl):
    VX X F i (.Expr (.Call (.Attribute (.Name x p2) "append" ap) [e] [] cp) pos) (j5 i fe):=fun held =>
  b7 (iF (jV PySem.F.plainAttrs_list PySem.F.slot_list_append PySem.F.type_list_append m8 (dR hN hv hd hcd) (bK he ce hs) hbase hfew hline hs hplain) hsw) fun De σ H ⟨a,bs,dss,ρ,o,hE,hf,hQ⟩=>by
    obtain⟨z,h1,hf⟩:=bind_some hf
    have h1:=dZ h1
    rw[hE.ri] at h1;cases h1
    obtain⟨d,h2,hf⟩:=bind_some hf
    refine⟨_,hE.si,.inl ⟨rfl,bs.map V.ref,.inl (.inl hE.ha)⟩,ρ,d,hE.envR,h2,fun v H1 p=>?_⟩
    obtain⟨l,xs,ds,rfl,rfl,hl,hl',hr⟩:=p.new
    obtain⟨⟨hsc,hlen⟩,rfl⟩:=bW hf
    have len:bs.length=dss.length:=(hE.inn _ F.none).1
    have base:=hr dh (Dom.none H) fun e _=>Av.none hE.envR e
    rw[List.length_map] at hlen
    refine⟨a,bs.map V.ref,V.ref l,rfl,rfl,p.same _ _ hE.ha,Nat.lt_of_lt_of_le (show (bs.map V.ref).length < 100000 by rw[List.length_map];omega) (by decide),?_⟩
    refine hQ a (bs++[l]) (dss++[ds]) σ _ ?_
    have h3:=hE.push p.same hl hl' fun H''=>i0 hsc base
    rw[List.map_append,List.map_append] at h3
    exact h3
theorem B8(t:Nat){x:Str}{a b c:Expr}{body:List Stmt}{as:FEs}{ei:List Es}{tb:FS}{pr pn:Pos}(hN:X.N.Nodup)(hc:X.calm=true)(mr:X.mg "range" = none)(hi:VA X [a,b,c] as ei)(hb:VXs X F i body tb)(h3:t ≠ i:=by decide)(hp:PassesOwn (model X.prog X.w) X.A X.env X.xe:=by exact PassesOwn.never)(hg:Gl X "range":=by rfl)(hst:starEach [a,b,c] X.env=(false,eval a X.env)::starEach [b,c] X.env:=by rfl)(hpl:(backTo pr (starEach [b,c] X.env)).any (·.1)=false:=by rfl)(hxN:X.N[t]?=some x:=by rfl)(hx:Loc X.env.scope x:=by first | exact Or.inl rfl | exact Or.inr rfl)(hfn:X.fn x=true\/X.env.scope.names.lookup x=some .local:=by first | exact .inl rfl | exact .inr rfl)(hs:∀ x,foldedSetIterable (.Call (.Name "range" pn) [a,b,c] [] pr) X.env x=pure x:=by intro _;rfl):VX X F i (.For (.Name x p2) (.Call (.Name "range" pn) [a,b,c] [] pr) body [] pos) (j3 t as tb):=fun held=>by
  refine b7 (dS hp hc (AO hg mr hi hst hpl) (bH hN hxN hx hfn) (hb held) hs) fun De σ H h=>?_
  obtain⟨a0,bs,dss,ρ,o,hE,hf,hQ⟩:=h
  obtain⟨ds,hd,hf⟩:=bind_some hf
  refine⟨ρ,ds,hE.envR,hd,fun vs H1 p=>?_⟩
  have hE1:=hE.up p.same
  match ds,hf,p with
  | [.int ii,.int j,.int k],hf,p =>
    by_cases hj:okR ii/\okR j/\k = -1
    · simp only[if_pos hj] at hf
      obtain⟨hj1,hj2,rfl⟩:=hj
      have hv:vs=[.int ii,.int j,.int (-1)]:=by
        cases p.rep with
        | cons a t=>cases a;cases t with
          | cons a t=>cases a;cases t with
            | cons a t=>cases a;cases t;rfl
      refine⟨ii,j,hv,⟨hj1.1,hj1.2,hj2.1,hj2.2⟩,?_⟩
      refine AR (lo:=ii) (n:=(ii - j).toNat) (g:=bQ t) (tb:=tsX X.K F held i tb) (D:=De) (fun q σ' H'=>∃ a' bs' dss' ρ',EnvD X.K F held i none a' bs' dss' σ' ρ' H'/\aZ (fun x ρ=>tb (ρ.set t (some x))) ((eO ii (ii - j).toNat).drop q) ρ'=some o) ⟨a0,bs,dss,ρ,hE1,by simpa using hf⟩ ?_ ?_
      · rintro q σ' H' hq ⟨a',bs',dss',ρ',hE',hf'⟩
        rw[AQ hq,fK] at hf'
        obtain⟨o1,h8,hf''⟩:=bind_some hf'
        refine⟨a',bs',dss',ρ'.set t (some (.int (ii - q))),o1,hE'.set h3 (fun z=>nomatch z) fun A hA=>.int _,h8,?_⟩
        cases o1 with
        | nx ρ1=>exact fun a2 bs2 dss2 σ2 H2 hE2=>⟨a2,bs2,dss2,ρ1,hE2,hf''⟩
        | rt d=>cases hf'';exact hQ
        | bk ρ1=>exact trivial
        | ct ρ1=>exact trivial
      · rintro σ' H' ⟨a',bs',dss',ρ',hE',hf'⟩
        rw[List.drop_eq_nil_of_le (by simp[eO])] at hf'
        cases hf'
        exact hQ a' bs' dss' σ' H' hE'
    · simp only[if_neg hj] at hf
      cases hf
def i3(i:Nat):FS:=fun ρ=>(aa i ρ).bind fun x=>match x with
  | .lst ds=>if ds.all mS=true then some (.rt (.lst ds.reverse)) else none
  | _=>none
theorem B9{x:Str}{pl pr pos2 pos3:Pos}(hc:X.calm=true)(ml:X.mg "list" = none)(mr:X.mg "reversed" = none)(hN:X.N[i]?=some x:=by rfl)(hv:Vis X.env.scope x:=by first | exact Or.inl rfl | exact Or.inr (Or.inl rfl) | exact Or.inr (Or.inr rfl))(hd:(x == ("__debug__" : Str))=false:=by decide)(hcd:(x == ("__classdict__" : Str))=false:=by decide)(hgl:Gl X "list":=by rfl)(hgr:Gl X "reversed":=by rfl)(hs1:starEach [.Name x p2] X.env=(false,eval (.Name x p2) X.env)::starEach [] X.env:=by rfl)(hs:starEach [.Name x p2] X.env=[(false,eval (.Name x p2) X.env)]:=by rfl)(hs2:starEach [.Call (.Name "reversed" pr) [.Name x p2] [] pos2] X.env=[(false,eval (.Call (.Name "reversed" pr) [.Name x p2] [] pos2) X.env)]:=by rfl):
    VX X F i (.Return (some (.Call (.Name "list" pl) [.Call (.Name "reversed" pr) [.Name x p2] [] pos2] [] pos3)) pos) (i3 i):=fun held =>
  b7 (gM (rH hc hgl ml hgr mr (bK (dR hN hv hd hcd) ce hs1) hs hs2)) fun De σ H ⟨a,bs,dss,ρ,o,hE,hf,hQ⟩=>by
    obtain⟨z,h1,hf⟩:=bind_some hf
    have h1:=dZ h1
    rw[hE.ri] at h1;cases h1
    obtain⟨hsc,rfl⟩:=bW hf
    refine⟨_,hE.si,a,bs.map V.ref,rfl,.inl (.inl hE.ha),fun l hl=>hQ _ _ ⟨hE.same.trans (bg hl _),l,bs.reverse,dss.reverse,rfl,by rw[List.map_reverse],?_,?_,by rw[List.map_reverse];exact b5,fun A=>?_⟩⟩
    · refine List.nodup_cons.mpr ⟨fun q=>?_,List.pairwise_reverse.mpr ((List.nodup_cons.mp hE.nd).2.imp fun h=>Ne.symm h)⟩
      exact hE.dom F.none l (.inr (.inr (List.mem_reverse.mp q))) hl
    · rintro b (rfl | hb)
      · exact hE.same.free hl
      · exact hE.new b (.inr (List.mem_reverse.mp hb))
    · have h:=hE.inn _ F.none
      have hne:∀ b ∈ bs,upd H l (.lst (bs.map V.ref).reverse) b=H b:=fun b hb=>aC fun q=>hE.dom F.none b (.inr (.inr hb)) (by rw[q];exact hl)
      have h2:=B2 hsc hne h A
      refine⟨by rw[List.length_reverse,List.length_reverse];exact h2.1,fun k b ds q1 q2=>?_⟩
      have hk:k < bs.length:=by have:=(List.getElem?_eq_some_iff.mp q1).1;simpa using this
      rw[List.getElem?_reverse hk] at q1
      rw[List.getElem?_reverse (by rw[<- h2.1];exact hk),<- h2.1] at q2
      exact h2.2 _ b ds q1 q2
def mT(f:FS):Prop:=∀ ρ o,f ρ=some o->∃ ρ',o=.nx ρ'
theorem Ba{j:Nat}{f:FE}:mT (aR j f):=fun ρ o h=>by
  obtain⟨d,_,rfl⟩:=ko h
  exact⟨_,rfl⟩
theorem Bb(h1:VS X F O st f O1 OL fr)(hn:mT f)(h2:VRs X F O1 ar g O2):VRs X F O (st::ar) (aE f g) O2:=fun held=>d9 (iE (h1 held) (h2 held)) fun De σ H ⟨ρ,o,hE,hf,hQ⟩=>by
  obtain⟨o1,h1,hf⟩:=bind_some hf
  obtain⟨ρ',rfl⟩:=hn _ _ h1
  exact⟨ρ,.nx ρ',hE,h1,fun σ' H' hE'=>⟨ρ',o,hE',hf,hQ⟩⟩
theorem Bc(i:Nat){x:Str}{lp:Pos}(hN:X.N.Nodup)(he:VF X e fe es)(hn:i < F.n)(hrest:VXs X F i ar g)(hret:j4 g)(hi:X.N[i]?=some x:=by rfl)(hx:Loc X.env.scope x:=by first | exact Or.inl rfl | exact Or.inr rfl)(hs:swapsWith (.List [e] lp) (some (.Name x p2)) pos.line X.env=pure false:=by rfl)(hfn:X.fn x=true\/X.env.scope.names.lookup x=some .local:=by first | exact .inl rfl | exact .inr rfl)(hs1:starEach [e] X.env=(false,eval e X.env)::starEach [] X.env:=by rfl):
    VRs X F O (.Assign [.Name x p2] (.List [e] lp) pos::ar) (aE (aR i (bD (ae fe ak))) g) O':=fun held =>
  d9 (iE (jO hN hi hx (lY (bK he ce hs1)) hs hfn) (hrest held)) fun De σ H ⟨ρ,o,hE,hf,hQ⟩=>by
    obtain⟨o1,h1,hf⟩:=bind_some hf
    obtain⟨d,h2,rfl⟩:=ko h1
    obtain⟨dl,h3,h4⟩:=bind_some h2
    obtain⟨hll,rfl⟩:=bW h4
    obtain⟨d1,h5,h6⟩:=bind_some h3
    obtain⟨dn,h7,h8⟩:=bind_some h6
    cases h7
    cases h8
    refine⟨ρ,d1,hE.envR,h5,fun v H1 p=>?_⟩
    refine⟨by show 1<=sizeLine;decide,fun l hl=>?_⟩
    obtain⟨l1,xs,ds,rfl,rfl,hl1,hl1',hr⟩:=p.new
    have ne:l1 ≠ l:=fun q=>by subst q;rw[hl] at hl1';cases hl1'
    have pD:PostD X.K σ ρ H es (.lst [.lst ds]) (V.ref l) (upd H1 l (.lst [V.ref l1])):=by
      refine⟨p.same.trans (bg hl _),l,[l1],[ds],rfl,rfl,?_,?_,b5,fun A hD hz=>⟨rfl,fun k b ds' q1 q2=>?_⟩⟩
      · simp[Ne.symm ne]
      · rintro b (rfl | hb)
        · exact p.same.free hl
        · rw[List.mem_singleton.mp hb];exact hl1
      · have hk:k=0:=by have:=(List.getElem?_eq_some_iff.mp q1).1;simp at this;exact this
        subst hk
        cases q1;cases q2
        refine⟨xs,by rw[aC ne];exact hl1',aH (fun c o q=>?_) (hr A hD hz)⟩
        obtain⟨n,q⟩:=cw q
        have nl:c ≠ l:=bP q hl
        rw[bc,aC nl]
        · exact q
        · rintro (z | z | z)
          · exact n (.inl z)
          · exact nl z
          · exact n (.inr (List.mem_singleton.mp z))
    obtain⟨a,bs,dss,hD⟩:=hE.setD pD hn
    refine⟨a,bs,dss,_,o,hD,hf,?_⟩
    cases o with
    | nx ρ'=>exact absurd hf (hret _ ρ')
    | bk ρ'=>exact trivial
    | ct ρ'=>exact trivial
    | rt d'=>exact hQ
theorem Bd:j4 (i3 i):=fun ρ ρ' h=>by
  obtain⟨x,_,h2⟩:=bind_some h
  cases x with
  | lst ds=>obtain⟨_,q⟩:=bW h2;cases q
  | _=>cases h2
end
def spX(K:PySem.W.Frag)(G:List D->Option D):Sp:=fun vs H Q _=>∃ ds d,Reps K H vs ds/\G ds=some d/\∀ v H',RetX K H d v H'->Q v H'
theorem RetX.retC{K:PySem.W.Frag}{H:Hp}{vs:List V}{ds:List D}{d:D}{v:V}{H':Hp}(h:RetX K H d v H'):RetC K H vs ds true d v H':=by
  obtain⟨l,bs,dss,rfl,rfl,hnd,hnew,hl,hin⟩:=h.new
  have out:∀ {A:Addr->Prop},Dom H A->∀ b,b=l\/b ∈ bs->¬ A b:=fun {A} hA b hb q=>hA b q (hnew b hb)
  refine⟨h.same,fun A hA _=>.lst (.inl ?_) ((hin A).reps (fun _ q=>q) fun b hb=>out hA b (.inr hb)),fun _=>⟨l,_,_,rfl,rfl,hnew l (.inl rfl),hl,fun A hA _=>?_⟩⟩
  · rw[bc (out hA l (.inl rfl))];exact hl
  · refine (hin fun b=>A b\/b=l).reps (fun _ q=>q) fun b hb q=>?_
    rcases q with q | q
    · exact out hA b (.inr hb) q
    · exact (List.nodup_cons.mp hnd).1 (q ▸ hb)
theorem Be{P:Program}{w:World}{K:PySem.W.Frag}{mg:Str->Option Value}{base:Heap}{x qual:Str}{st:Stmt}{f:Addr}{fd:FuncData}{N ps:List Str}{k np n:Nat}{G:List D->Option D}{body:FS}(O':List Nat)(h1:ps.length=np)(h2:N.length=n)(h3:G=mkF true np n body)(Fn:Fun K x qual st f fd)(S:FnScope N ps (ai st))(h:∀ (cdv:Value) (A:Around) (outer:List PySem.Env) (s:Shared) (H:Hp) (E:XK) (F:Fr0),F.n=n->Room k (A.deeper (envOfC qual (ai st) s.heap.objs.size f cdv)) ->
      VRs (cK CX0 P w K mg base N qual (ai st) f cdv A outer s H E).nox F [] (aD st) body O'):
    FnOk P w K mg base CX0 (k+1) f fd ps (spX K G):=by
  subst h1 h2 h3
  have hpl:ps.length<=N.length:=by have:=congrArg List.length S.pre;rw[List.length_take] at this;omega
  refine Fn.ok S (fun vs H Q E h=>?_) (fun cdv A outer s H vs Q E hr h'=>?_)
  · obtain⟨ds,d,r,hg,_⟩:=h
    unfold mkF at hg
    by_cases hl:ds.length=ps.length
    · rw[r.length,hl]
    · rw[if_neg hl] at hg;cases hg
  · obtain⟨ds,d,r,hg,hQ⟩:=h'
    unfold mkF at hg
    by_cases hl:ds.length=ps.length
    · rw[if_pos hl] at hg
      obtain⟨o,ho,hg⟩:=bind_some hg
      let F:Fr0:=⟨H,fun A=>Dom H A/\Reps K (aj H A) vs ds,N.length,fun A h=>h.1,⟨Dom.none H,aH (gO H) r⟩⟩
      refine⟨_,h cdv A outer s H E F rfl hr [],ds.map some++List.replicate (N.length - ps.length) none,o,?_,ho,?_⟩
      · have lv:=r.length
        have get:∀ (i:Nat) (d:D),(ds.map some++List.replicate (N.length - ps.length) none)[i]?=some (some d)->ds[i]?=some d:=fun i d q=>by
          by_cases hi:i < ds.length
          · rw[List.getElem?_append_left (by simpa using hi),List.getElem?_map] at q
            cases e:ds[i]? with
            | none=>rw[e] at q;cases q
            | some z=>rw[e] at q;simpa using q
          · rw[List.getElem?_append_right (by simpa using hi),List.getElem?_replicate] at q
            split at q <;> cases q
        refine⟨Same.refl H,?_,?_,fun i d q _=>?_,fun p hp=>absurd hp (by simp),fun i hi=>absurd hi (by simp),fun i hi=>absurd hi (by simp)⟩
        · show (L2.start N vs).length=N.length
          unfold L2.start
          rw[List.length_append,List.length_map,List.length_replicate]
          omega
        · show _=N.length
          rw[List.length_append,List.length_map,List.length_replicate]
          omega
        · have h1:=get i d q
          obtain⟨v,h2,_⟩:=r.get h1
          refine⟨v,?_,fun A hA=>?_⟩
          · unfold L2.start
            have hi:i < vs.length:=(List.getElem?_eq_some_iff.mp h2).1
            rw[List.getElem?_append_left (by simpa using hi),List.getElem?_map,h2]
            rfl
          · obtain⟨v',h3,h4⟩:=hA.2.get h1
            rw[h2] at h3;cases h3
            exact aw (bC (fun _ _ z=>z) fun b z=>z.elim (fun⟨_,hj,_⟩=>absurd hj (by simp)) id) h4
      · cases o with
        | rt d' =>
          cases hg
          exact fun v H' rt=>hQ v H' rt
        | nx ρ'=>cases hg
        | _=>cases hg
    · rw[if_neg hl] at hg;cases hg
def DefX(P:Program)(w:World)(K:PySem.W.Frag)(mg:Str->Option Value)(base:Heap)(x:Str)(k:Nat)(ps:List Str)(G:List D->Option D):Prop :=
  ∃ f fd,FnOk P w K mg base CX0 k f fd ps (spX K G)/\mg x=some (.ref f)/\PySem.W.keepIn K (.ref f)=true/\Binds K fd ps []
section
variable {P:Program} {w:World} {K:PySem.W.Frag} {mg:Str->Option Value} {base:Heap} {x:Str} {j k:Nat} {ps:List Str} {G:List D->Option D}
theorem DefX.mono(h:DefX P w K mg base x j ps G)(hk:j<=k:=by decide):DefX P w K mg base x k ps G :=
  let ⟨f,fd,F,m,kp,b⟩:=h
  ⟨f,fd,F.mono hk,m,kp,b⟩
theorem DefX.d(h:DefX P w K mg base x k ps G):Def P w K mg base x k ps G true :=
  let ⟨f,fd,F,m,kp,b⟩:=h
  ⟨f,fd,F.imp fun vs H Q E ⟨ds,d,r,hg,q⟩=>⟨ds,d,r,hg,fun v H' rx=>q v H' rx.retC⟩,m,kp,b⟩
end
section
variable {X:Cx} {k:Nat} {ps:List Str} {G:List D->Option D} {F:Fr0} {O O' OL:List Nat} {fr:Bool} {x y:Str} {p p2 pos spos:Pos} {e:Expr} {es':List Expr} {as:FEs} {es:List Es} {ar:List Stmt} {fs:FS} {al':Option Nat}
end
section
variable {X:Cx} {elt tg iter:Expr} {ifs:List Expr} {scope:Scope} {own cn:List Str} {caps is:List Nat} {g:TG} {un:D->Option (List D)} {fi:FEs} {ei ee:List Es} {c:ad->Option Bool} {fe:FE} {pos spos p2:Pos} {F:Fr0} {i:Nat} {fr:Bool}
end
end VL
namespace VL
open PySem PySem.Spec PyProof.Rows L2
def All3(P:V->D->List Addr->Prop):List V->List D->List (List Addr)->Prop
  | [],[],[]=>True
  | v::vs,d::ds,S::Ss=>P v d S/\All3 P vs ds Ss
  | _,_,_=>False
section
variable {P Q:V->D->List Addr->Prop}
theorem All3.imp:∀ {vs:List V} {ds:List D} {Ss:List (List Addr)},(∀ v d S,S ∈ Ss->P v d S->Q v d S)->All3 P vs ds Ss->All3 Q vs ds Ss
  | [],[],[],_,_=>trivial
  | v::vs,d::ds,S::Ss,h,p=>⟨h v d S List.mem_cons_self p.1,All3.imp (fun v d S' hS=>h v d S' (List.mem_cons_of_mem _ hS)) p.2⟩
  | [],[],_::_,_,p=>p.elim
  | [],_::_,_,_,p=>p.elim
  | _::_,[],_,_,p=>p.elim
  | _::_,_::_,[],_,p=>p.elim
theorem All3.len:∀ {vs:List V} {ds:List D} {Ss:List (List Addr)},All3 P vs ds Ss->vs.length=ds.length/\Ss.length=ds.length
  | [],[],[],_=>⟨rfl,rfl⟩
  | v::vs,d::ds,S::Ss,p=>by have:=All3.len p.2;simp[this]
  | [],[],_::_,p=>p.elim
  | [],_::_,_,p=>p.elim
  | _::_,[],_,p=>p.elim
  | _::_,_::_,[],p=>p.elim
theorem All3.get:∀ {vs:List V} {ds:List D} {Ss:List (List Addr)} {k:Nat} {v:V},All3 P vs ds Ss->vs[k]?=some v->∃ d S,ds[k]?=some d/\Ss[k]?=some S/\P v d S
  | v::vs,d::ds,S::Ss,0,_,p,e=>by simp at e;subst e;exact⟨d,S,rfl,rfl,p.1⟩
  | v::vs,d::ds,S::Ss,k+1,_,p,e=>by
    obtain⟨d',S',h1,h2,h3⟩:=All3.get (k:=k) p.2 (by simpa using e)
    exact⟨d',S',by simpa using h1,by simpa using h2,h3⟩
  | [],_,_,_,_,_,e=>by simp at e
  | _::_,[],_,_,_,p,_=>p.elim
  | _::_,_::_,[],_,_,p,_=>p.elim
theorem All3.snoc{v:V}{d:D}{S:List Addr}:∀ {vs:List V} {ds:List D} {Ss:List (List Addr)},All3 P vs ds Ss->P v d S->All3 P (vs++[v]) (ds++[d]) (Ss++[S])
  | [],[],[],_,h=>⟨h,trivial⟩
  | v::vs,d::ds,S::Ss,p,h=>⟨p.1,All3.snoc p.2 h⟩
  | [],[],_::_,p,_=>p.elim
  | [],_::_,_,p,_=>p.elim
  | _::_,[],_,p,_=>p.elim
  | _::_,_::_,[],p,_=>p.elim
theorem All3.put{d':D}:∀ {vs:List V} {ds:List D} {Ss:List (List Addr)} {k:Nat} {v:V} {S:List Addr},All3 P vs ds Ss->vs[k]?=some v->Ss[k]?=some S->Q v d' S->(∀ j v d S',j ≠ k->Ss[j]?=some S'->P v d S'->Q v d S')->All3 Q vs (ds.set k d') Ss
  | v :: vs,d::ds,S::Ss,0,_,_,p,e1,e2,q,h=>by
    simp at e1 e2
    subst e1 e2
    refine⟨q,?_⟩
    have key:∀ {vs:List V} {ds:List D} {Ss':List (List Addr)} (off:Nat),0 < off->(∀ j,Ss'[j]?=(S::Ss)[j+off]?)->All3 P vs ds Ss'->All3 Q vs ds Ss':=by
      intro vs ds Ss'
      induction Ss' generalizing vs ds with
      | nil =>
        intro off _ _ p
        cases vs with
        | nil=>cases ds with
          | nil=>exact trivial
          | cons _ _=>exact p.elim
        | cons _ _=>cases ds with
          | nil=>exact p.elim
          | cons _ _=>exact p.elim
      | cons T Ts ih =>
        intro off ho he p
        cases vs with
        | nil=>cases ds <;> exact p.elim
        | cons v vs=>cases ds with
          | nil=>exact p.elim
          | cons d ds =>
          refine⟨h off v d T (by omega) (by have:=he 0;simpa using this.symm) p.1,ih (off+1) (by omega) (fun j=>?_) p.2⟩
          have:=he (j+1)
          rw[List.getElem?_cons_succ] at this
          rw[this];congr 1;omega
    exact key 1 (by omega) (fun j=>by simp) p.2
  | v::vs,d::ds,S::Ss,k+1,w,S',p,e1,e2,q,h=>by
    refine⟨h 0 v d S (by omega) rfl p.1,?_⟩
    exact All3.put (k:=k) p.2 (by simpa using e1) (by simpa using e2) q fun j v d T hj hT hp=>h (j+1) v d T (by omega) (by simpa using hT) hp
  | [],_,_,_,_,_,_,e,_,_,_=>by simp at e
  | _::_,[],_,_,_,_,p,_,_,_,_=>p.elim
  | _::_,_::_,[],_,_,_,p,_,_,_,_=>p.elim
end
def OwnN(K:PySem.W.Frag)(H:Hp):Nat->V->D->List Addr->Prop
  | 0,v,d,S=>∃ c ys ds,v=V.ref c/\d=.lst ds/\S=[c]/\H c=some (.lst ys)/\ds.all b6=true/\Reps K H ys ds
  | n+1,v,d,S=>∃ b vs dl Ss,v=V.ref b/\d=.lst dl/\S=b::Ss.flatten/\H b=some (.lst vs)/\All3 (OwnN K H n) vs dl Ss
section
variable {K:PySem.W.Frag} {H H':Hp}
theorem OwnN.frame:∀ {n:Nat} {v:V} {d:D} {S:List Addr},(∀ b ∈ S,∀ o,H b=some o->H' b=some o)->OwnN K H n v d S->OwnN K H' n v d S
  | 0,_,_,_,h,⟨c,ys,ds,e1,e2,e3,e4,e5,e6⟩=>⟨c,ys,ds,e1,e2,e3,h c (by rw[e3];exact List.mem_cons_self) _ e4,e5,i0 e5 e6⟩
  | n+1,_,_,_,h,⟨b,vs,dl,Ss,e1,e2,e3,e4,e5⟩=>⟨b,vs,dl,Ss,e1,e2,e3,h b (by rw[e3];exact List.mem_cons_self) _ e4,All3.imp (fun v d S hS p=>OwnN.frame (n:=n) (fun b hb o=>h b (by rw[e3];exact List.mem_cons_of_mem _ (List.mem_flatten.mpr ⟨S,hS,hb⟩)) o) p) e5⟩
theorem OwnN.mono{n:Nat}{v:V}{d:D}{S:List Addr}(e:Same H H')(h:OwnN K H n v d S):OwnN K H' n v d S:=h.frame fun b _ o q=>e b o q
theorem OwnN.dom:∀ {n:Nat} {v:V} {d:D} {S:List Addr},OwnN K H n v d S->∀ b ∈ S,H b ≠ none
  | 0,_,_,_,⟨c,ys,ds,e1,e2,e3,e4,e5,e6⟩,b,hb=>by
    rw[e3,List.mem_singleton] at hb
    rw[hb,e4];exact fun z=>nomatch z
  | n + 1,_,_,_,⟨c,vs,dl,Ss,e1,e2,e3,e4,e5⟩,b,hb=>by
    rw[e3] at hb
    rcases List.mem_cons.mp hb with rfl | hb
    · rw[e4];exact fun z=>nomatch z
    · obtain⟨S,hS,hb⟩:=List.mem_flatten.mp hb
      obtain⟨k,hk⟩:=List.getElem?_of_mem hS
      have hl:=e5.len
      have hkv:k < vs.length:=by have:=(List.getElem?_eq_some_iff.mp hk).1;omega
      obtain⟨d,S',_,h2,h3⟩:=e5.get (List.getElem?_eq_getElem hkv)
      rw[hk] at h2;cases h2
      exact OwnN.dom h3 b hb
theorem OwnN.rep:∀ {n:Nat} {v:V} {d:D} {S:List Addr} {A:Addr->Prop},OwnN K H n v d S->(∀ b ∈ S,¬ A b)->Rep K (aj H A) v d
  | 0,_,_,_,A,⟨c,ys,ds,e1,e2,e3,e4,e5,e6⟩,h=>by
    subst e1 e2
    refine .lst (.inl ?_) (i0 e5 e6)
    rw[bc (h c (by rw[e3];exact List.mem_cons_self))]
    exact e4
  | n + 1,_,_,_,A,⟨b,vs,dl,Ss,e1,e2,e3,e4,e5⟩,h=>by
    subst e1 e2
    refine .lst (.inl ?_) (kG e5.len.1 fun k v d h1 h2=>?_)
    · rw[bc (h b (by rw[e3];exact List.mem_cons_self))]
      exact e4
    · obtain⟨d',S,q1,q2,q3⟩:=e5.get h1
      rw[h2] at q1;cases q1
      exact OwnN.rep q3 fun c hc=>h c (by rw[e3];exact List.mem_cons_of_mem _ (List.mem_flatten.mpr ⟨S,List.mem_of_getElem? q2,hc⟩))
end
structure RetO (K:PySem.W.Frag) (H0:Hp) (n:Nat) (d:D) (v:V) (H':Hp):Prop where
  same:Same H0 H'
  new:∃ S,OwnN K H' n v d S/\S.Nodup/\∀ b ∈ S,H0 b=none
def tvG(K:PySem.W.Frag)(n:Nat)(f:FE):TE:=fun σ H Q=>∃ ρ d,EnvR K H σ ρ/\f ρ=some d/\∀ v H',RetO K H n d v H'->Q v H'
end VL
namespace VL
open PySem PySem.Spec PyProof.Rows L2
section
variable {X:Cx} {elt tg iter:Expr} {ifs:List Expr} {scope:Scope} {own cn:List Str} {n:Nat} {caps is:List Nat} {g:TG} {un:D->Option (List D)} {fi:FEs} {ei:List Es} {c:ad->Option Bool} {fe:FE} {pos:Pos}
end
def Bf(K:PySem.W.Frag)(F:Fr0)(held:List Hd)(n:Nat)(O':List Nat)(De:Ends):Out->Prop
  | .nx ρ'=>∀ σ' H',EnvO K F held O' σ' ρ' H'->De.nx σ' H'
  | .rt d=>∀ v H',RetO K F.H0 n d v H'->De.rt v H'
  | .bk _=>True
  | .ct _=>True
def tsQ(K:PySem.W.Frag)(F:Fr0)(held:List Hd)(n:Nat)(O O':List Nat)(f:FS):TS:=fun De σ H=>∃ ρ o,EnvO K F held O σ ρ H/\f ρ=some o/\Bf K F held n O' De o
abbrev VQs(X:Cx)(F:Fr0)(n:Nat)(O:List Nat)(st:List Stmt)(f:FS)(O':List Nat):Prop:=∀ held,PSs X st (tsQ X.K F held n O O' f)
section
variable {X:Cx} {F:Fr0} {n:Nat} {O O1 O2 O' OL:List Nat} {fr:Bool} {f g:FS} {st:Stmt} {ar:List Stmt} {pos:Pos} {e:Expr} {fe:FE}
end
def spG(K:PySem.W.Frag)(n:Nat)(G:List D->Option D):Sp:=fun vs H Q _=>∃ ds d,Reps K H vs ds/\G ds=some d/\∀ v H',RetO K H n d v H'->Q v H'
theorem RetO.retC{K:PySem.W.Frag}{H:Hp}{n:Nat}{vs:List V}{ds:List D}{d:D}{v:V}{H':Hp}(h:RetO K H n d v H'):RetC K H vs ds true d v H':=by
  obtain⟨S,s1,s2,s3⟩:=h.new
  have out:∀ {A:Addr->Prop},Dom H A->∀ b ∈ S,¬ A b:=fun {A} hA b hb q=>hA b q (s3 b hb)
  refine⟨h.same,fun A hA _=>s1.rep (out hA),fun _=>?_⟩
  cases n with
  | zero =>
    obtain⟨c,ys,ds',rfl,rfl,rfl,e4,e5,e6⟩:=s1
    exact⟨c,ys,ds',rfl,rfl,s3 c List.mem_cons_self,e4,fun A hA _=>i0 e5 e6⟩
  | succ n =>
    obtain⟨b,vs',dl,Ss,rfl,rfl,rfl,e4,e5⟩:=s1
    refine⟨b,vs',dl,rfl,rfl,s3 b List.mem_cons_self,e4,fun A hA _=>kG e5.len.1 fun k v d h1 h2=>?_⟩
    obtain⟨d',S,q1,q2,q3⟩:=e5.get h1
    rw[h2] at q1;cases q1
    have hm:∀ c ∈ S,c ∈ Ss.flatten:=fun c hc=>List.mem_flatten.mpr ⟨S,List.mem_of_getElem? q2,hc⟩
    refine q3.rep fun c hc q=>?_
    rcases q with q | q
    · exact out hA c (List.mem_cons_of_mem _ (hm c hc)) q
    · exact (List.nodup_cons.mp s2).1 (q ▸ hm c hc)
def DefG(P:Program)(w:World)(K:PySem.W.Frag)(mg:Str->Option Value)(base:Heap)(x:Str)(k:Nat)(ps:List Str)(n:Nat)(G:List D->Option D):Prop :=
  ∃ f fd,FnOk P w K mg base CX0 k f fd ps (spG K n G)/\mg x=some (.ref f)/\PySem.W.keepIn K (.ref f)=true/\Binds K fd ps []
section
variable {P:Program} {w:World} {K:PySem.W.Frag} {mg:Str->Option Value} {base:Heap} {x:Str} {j k n:Nat} {ps:List Str} {G:List D->Option D}
theorem DefG.mono(h:DefG P w K mg base x j ps n G)(hk:j<=k:=by decide):DefG P w K mg base x k ps n G :=
  let ⟨f,fd,F,m,kp,b⟩:=h
  ⟨f,fd,F.mono hk,m,kp,b⟩
theorem DefG.d(h:DefG P w K mg base x k ps n G):Def P w K mg base x k ps G true :=
  let ⟨f,fd,F,m,kp,b⟩:=h
  ⟨f,fd,F.imp fun vs H Q E ⟨ds,d,r,hg,q⟩=>⟨ds,d,r,hg,fun v H' rx=>q v H' rx.retC⟩,m,kp,b⟩
end
section
variable {X:Cx} {k n:Nat} {ps:List Str} {G:List D->Option D} {x:Str} {p pos:Pos} {e:Expr} {es':List Expr} {as:FEs} {es:List Es}
end
end VL
namespace VL
open PySem PySem.Spec PyProof.Rows L2
abbrev AS(A:Addr->Prop)(S:List Addr):Addr->Prop:=fun b=>A b\/b ∈ S
structure EnvW (K:PySem.W.Frag) (F:Fr0) (held:List Hd) (i n:Nat) (S:List Addr) (v0:V) (d0:D) (σ:St) (ρ:ad) (H:Hp):Prop where
  same:Same F.H0 H
  lσ:σ.length=F.n
  lρ:ρ.length=F.n
  si:σ[i]?=some (some v0)
  ri:ρ[i]?=some (some d0)
  own:OwnN K H n v0 d0 S
  nd:S.Nodup
  new:∀ b ∈ S,F.H0 b=Option.none
  val:∀ j d,ρ[j]?=some (some d)->j ≠ i->∃ v,σ[j]?=some (some v)/\∀ A,F.PA A->Rep K (aj H (AS A S)) v d
  hld:∀ p ∈ held,∀ A,F.PA A->HdOk K (aj H (AS A S)) p
section
variable {K:PySem.W.Frag} {F:Fr0} {held:List Hd} {i n:Nat} {S:List Addr} {v0:V} {d0:D} {σ:St} {ρ:ad} {H H':Hp}
theorem EnvW.up(h:EnvW K F held i n S v0 d0 σ ρ H)(e:Same H H'):EnvW K F held i n S v0 d0 σ ρ H' :=
  ⟨h.same.trans e,h.lσ,h.lρ,h.si,h.ri,h.own.mono e,h.nd,h.new,fun j d q h1=>let ⟨v,h3,h4⟩:=h.val j d q h1;⟨v,h3,fun A hA=>aw (bm e) (h4 A hA)⟩,fun p hp A hA=>(h.hld p hp A hA).mono (bm e)⟩
theorem EnvW.envR(h:EnvW K F held i n S v0 d0 σ ρ H):EnvR K H σ ρ:=fun j d e=>by
  by_cases hi:j=i
  · subst hi
    rw[h.ri] at e;cases e
    exact⟨_,h.si,aw (aQ H dh) (h.own.rep fun _ _ q=>q)⟩
  · obtain⟨v,h1,h2⟩:=h.val j d e hi
    exact⟨v,h1,aw (aQ _ _) (h2 _ F.none)⟩
theorem EnvW.dom(h:EnvW K F held i n S v0 d0 σ ρ H){A:Addr->Prop}(hA:F.PA A):Dom H (AS A S):=fun b q=>by
  rcases q with q | q
  · exact ((F.dom A hA).mono h.same) b q
  · exact h.own.dom b q
theorem EnvW.eval(h:EnvW K F held i n S v0 d0 σ ρ H){es:List Es}{d:D}{v:V}(hes:es.all (apD i none)=true)(p:Post K σ ρ H es d v H'){A:Addr->Prop}(hA:F.PA A):Rep K (aj H' (AS A S)) v d:=by
  refine p.av _ (h.dom hA) fun e he=>?_
  have hj:=List.all_eq_true.mp hes e he
  have out:∀ (j:Nat) (v:V) (d:D),j ≠ i->σ[j]?=some (some v)->ρ[j]?=some (some d)->Rep K (aj H (AS A S)) v d:=fun j v d h1 h3 h4=>by
    obtain⟨v',h5,h6⟩:=h.val j d h4 h1
    rw[h3] at h5;cases h5
    exact h6 A hA
  cases e with
  | full j =>
    simp only[apD,Bool.and_eq_true,bne_iff_ne,ne_eq] at hj
    exact fun v d h1 h2=>out j v d hj.1 h1 h2
  | el j =>
    simp only[apD,Bool.and_eq_true,bne_iff_ne,ne_eq] at hj
    exact fun v d h1 h2=>(out j v d hj.1 h1 h2).el
end
def Bg(K:PySem.W.Frag)(F:Fr0)(held:List Hd)(i n:Nat)(fr:Bool)(De:Ends):Out->Prop
  | .nx ρ'=>∀ S v0 d0 σ' H',EnvW K F held i n S v0 d0 σ' ρ' H'->De.nx σ' H'
  | .rt d=>∀ v H',Ret K F fr d v H'->De.rt v H'
  | .bk _=>True
  | .ct _=>True
def tsG(K:PySem.W.Frag)(F:Fr0)(held:List Hd)(i n:Nat)(fr:Bool)(f:FS):TS:=fun De σ H=>∃ S v0 d0 ρ o,EnvW K F held i n S v0 d0 σ ρ H/\f ρ=some o/\Bg K F held i n fr De o
abbrev VG(X:Cx)(F:Fr0)(i n:Nat)(st:Stmt)(f:FS)(fr:Bool):Prop:=∀ held,PS X st (tsG X.K F held i n fr f)
abbrev VGs(X:Cx)(F:Fr0)(i n:Nat)(st:List Stmt)(f:FS)(fr:Bool):Prop:=∀ held,PSs X st (tsG X.K F held i n fr f)
section
variable {X:Cx} {F:Fr0} {i n:Nat} {fr:Bool} {f g:FS} {st:Stmt} {ar:List Stmt} {pos p2 p3 p4:Pos} {e:Expr} {fe:FE} {es:List Es}
end
def Ext(S:List Addr)(H H':Hp):Prop:=∀ b o,H b=some o->b ∉ S->H' b=some o
theorem Ext.trans{S:List Addr}{H H1 H2:Hp}(h1:Ext S H H1)(h2:Ext S H1 H2):Ext S H H2:=fun b o q n=>h2 b o (h1 b o q n) n
theorem Ext.sub{S T:List Addr}{H H1:Hp}(h:Ext S H H1)(hs:∀ b ∈ S,b ∈ T):Ext T H H1:=fun b o q n=>h b o q fun z=>n (hs b z)
theorem Ext.refl(S:List Addr)(H:Hp):Ext S H H:=fun _ _ q _=>q
theorem pQ{α:Type}(f:α->α){l:List α}{k:Nat}{x:α}(h:l[k]?=some x):((l.take k).map f++l.drop k).set k (f x)=(l.take (k+1)).map f++l.drop (k+1):=by
  obtain⟨hk,hx⟩:=List.getElem?_eq_some_iff.mp h
  rw[List.set_append_right _ _ (by simp;omega)]
  rw[List.length_map,List.length_take,Nat.min_eq_left (by omega),Nat.sub_self,List.drop_eq_getElem_cons hk,List.set_cons_zero,List.take_succ_eq_append_getElem hk,List.map_append,List.append_assoc,hx]
  rfl
section
variable {X:Cx} {r:Nat} {y:Str} {e:Expr} {d:D} {es:List Es} {pos p2 ap cp:Pos}
end
section
variable {X:Cx} {r1 r2:Nat} {y1 y2:Str} {d:D} {body:List Stmt} {pos p1 p2:Pos}
end
section
variable {X:Cx} {F:Fr0} {i r1 r2:Nat} {x y1 y2:Str} {d:D} {e:Expr} {fe:FE} {es:List Es} {fr:Bool} {ar:List Stmt} {g:FS} {O' OL:List Nat} {pos px py1 py1' py2 pm pl pe2 ap cp:Pos}
theorem EnvW.ext{K:PySem.W.Frag}{held:List Hd}{n:Nat}{S:List Addr}{v0:V}{d0 d1:D}{σ σ':St}{ρ:ad}{H H':Hp}(h:EnvW K F held i n S v0 d0 σ ρ H)(h1:i ≠ r1)(h2:i ≠ r2)(hσ:∀ j,j ≠ r1->j ≠ r2->σ'[j]?=σ[j]?)(hl:σ'.length=σ.length)(hx:Ext S H H')(ho:OwnN K H' n v0 d1 S):
    EnvW K F held i n S v0 d1 σ' (((ρ.set i (some d1)).set r1 none).set r2 none) H':=by
  have up:∀ {A:Addr->Prop},Same (aj H (AS A S)) (aj H' (AS A S)):=fun {A} b o q=>by
    obtain⟨n,q⟩:=cw q
    rw[bc n]
    exact hx b o q fun z=>n (.inr z)
  have hpl:i < ρ.length:=(List.getElem?_eq_some_iff.mp h.ri).1
  have get:∀ j d,(((ρ.set i (some d1)).set r1 none).set r2 none)[j]?=some (some d)->j ≠ i->j ≠ r1/\j ≠ r2/\ρ[j]?=some (some d):=fun j d q hj=>by
    by_cases e2:r2=j
    · subst e2
      have l1:r2 < ((ρ.set i (some d1)).set r1 none).length:=by have:=(List.getElem?_eq_some_iff.mp q).1;simpa using this
      rw[List.getElem?_set_self l1] at q;cases q
    · rw[List.getElem?_set_ne e2] at q
      by_cases e1:r1=j
      · subst e1
        have l1:r1 < (ρ.set i (some d1)).length:=by have:=(List.getElem?_eq_some_iff.mp q).1;simpa using this
        rw[List.getElem?_set_self l1] at q;cases q
      · rw[List.getElem?_set_ne e1,List.getElem?_set_ne (Ne.symm hj)] at q
        exact⟨Ne.symm e1,Ne.symm e2,q⟩
  refine⟨fun b o q=>hx b o (h.same b o q) fun z=>(by rw[h.new b z] at q;cases q),by rw[hl];exact h.lσ,by simp only[List.length_set];exact h.lρ,by rw[hσ i h1 h2];exact h.si,?_,ho,h.nd,h.new,fun j d q hj=>?_,fun p hp A hA=>(h.hld p hp A hA).mono up⟩
  · rw[List.getElem?_set_ne (Ne.symm h2),List.getElem?_set_ne (Ne.symm h1),List.getElem?_set_self hpl]
  · obtain⟨g1,g2,g3⟩:=get j d q hj
    obtain⟨v,k1,k2⟩:=h.val j d g3 hj
    exact⟨v,by rw[hσ j g1 g2];exact k1,fun A hA=>aw up (k2 A hA)⟩
end
section
variable {X:Cx} {k n:Nat} {ps:List Str} {G:List D->Option D} {F:Fr0} {O O' OL:List Nat} {fr:Bool} {x y:Str} {p p2 pos spos:Pos} {e:Expr} {es':List Expr} {as:FEs} {es:List Es} {ar:List Stmt} {fs:FS}
end
end VL
namespace VL
open PySem PySem.Spec PyProof.Rows L2
abbrev VY(X:Cx)(e:Expr)(n:Nat)(fe:FE):Prop:=PE X e (tvG X.K n fe)
section
variable {X:Cx} {F:Fr0} {O O':List Nat} {elt tg iter e:Expr} {ifs:List Expr} {scope:Scope} {own cn:List Str} {n k:Nat} {caps is:List Nat} {g:TG} {un:D->Option (List D)} {fi:FEs} {ei es:List Es} {c:ad->Option Bool} {fe:FE} {pos p:Pos} {ps:List Str} {G:List D->Option D} {x:Str} {es':List Expr} {as:FEs}
end
end VL
namespace VL
open PySem PySem.Spec PyProof.Rows L2
section
variable {X:Cx} {a b c:Expr} {es ea eb ec:List Es} {fa fb fc:FE} {pos p2:Pos} {k:Nat}
def e3(g:D->D->D->Option D)(a b c:FE):FE:=fun ρ=>(a ρ).bind fun x=>(b ρ).bind fun y=>(c ρ).bind fun z=>g x y z
end
section
variable {K:PySem.W.Frag} {F:Fr0} {held:List Hd} {O O':List Nat} {σ:St} {ρ:ad} {H H':Hp}
end
section
variable {X:Cx} {F:Fr0} {O O1 O2 O' OL:List Nat} {fr:Bool} {f g:FS} {st:Stmt} {pos p2 p3:Pos} {e b:Expr} {fe fb:FE} {es eb:List Es} {k:Nat}
end
end VL
namespace VL
open PySem PySem.Spec PyProof.Rows L2
def Bh(ta:TA):TE:=fun σ H Q=>ta σ H fun vs H1=>∃ j:Int,vs=[.int j]/\-100000<=j/\j<=100000/\∀ l,H1 l=none->Q (.ref l) (upd H1 l (.lst ((List.range j.toNat).map fun k=>V.int (k:Nat))))
section
variable {X:Cx} {a:Expr} {as:FEs} {es:List Es} {pos pos2 p p2:Pos} {ta:TA}
theorem Bi(hc:X.calm=true)(hgl:Gl X "list")(ml:X.mg "list" = none)(hgr:Gl X "range")(mr:X.mg "range" = none)(ha:PA X [a] ta)(hs:starEach [a] X.env=[(false,eval a X.env)])(hs2:starEach [.Call (.Name "range" p2) [a] [] pos2] X.env=[(false,eval (.Call (.Name "range" p2) [a] [] pos2) X.env)]):
    PE X (.Call (.Name "list" p) [.Call (.Name "range" p2) [a] [] pos2] [] pos) (Bh ta):=by
  intro pins s σ H Q I h
  refine Call_ (cJ I hgl ml PyProof.Rows.boot_list (PyProof.Rows.callWith_type1 ?_ hs2 rfl))
  rw[hs2]
  show wpAny _ _ (spliced ((false,eval (.Call (.Name "range" p2) [a] [] pos2) X.env)::backTo pos [])) _ _ s
  refine Calls.spliced_cons ?_
  refine Call_ (cJ I hgr mr boot_range (PyProof.Rows.callWith_type1 (thn (ha pos2 pins s σ H _ I h) fun us s1 ⟨vs,H1,I1,r1,q1⟩=>?_) hs rfl))
  obtain⟨j,rfl,hj1,hj2,hQ⟩:=q1
  obtain⟨u,rfl,ru⟩:=dC r1
  obtain⟨t,rfl⟩:=ru
  refine call_range_1 ?_
  refine Calls.spliced_nil ?_
  have I2:Inv X pins σ H1 { s1 with heap:=s1.heap.push { cls:=.type "range",data:=.fields #[.int 0 s1.toks,.int j t,.int 1 (s1.toks+1)] },toks:=s1.toks+1+1 }:=I1.kept fun b o e=>Heap.get?_push_of_some _ e
  have hsz:Builtin.Range.rangeSize 0 j 1=(j.toNat:Int):=by rw[rangeSize_one];split <;> omega
  refine call_list_range (I.ok.hd hc) (IsRange.new ..) (small_one (by omega) (by omega) (by omega) (by omega)) hsz (by omega) fun h' tk acc c hk hS hacc=>?_
  have fS:=kE I2
  have I3:Inv X pins σ H1 { s1 with heap:=h',toks:=tk }:=I2.kept (t':=tk) hk
  obtain⟨al,hal⟩:=hacc
  have hv : Vals ((List.range j.toNat).map fun k=>V.int (k:Nat)) acc.toList:=by
    have gen:∀ (l:List Value) (n m:Nat),l.length=m->(∀ i v,l[i]?=some v->∃ t,v=Value.int ((n+i:Nat):Int) t)->Vals ((List.range' n m).map fun k=>V.int (k:Nat)) l:=by
      intro l
      induction l with
      | nil=>intro n m hm _;subst hm;exact .nil
      | cons v r ih =>
        intro n m hm hh
        subst hm
        rw[List.length_cons,List.range'_succ,List.map_cons]
        refine .cons ?_ (ih (n+1) r.length rfl fun i v' hv'=>?_)
        · obtain⟨t,e⟩:=hh 0 v rfl
          exact⟨t,by simpa using e⟩
        · obtain⟨t,e⟩:=hh (i+1) v' (by simpa using hv')
          exact⟨t,by rw[e];congr 1;omega⟩
    rw[List.range_eq_range']
    refine gen acc.toList 0 j.toNat (by simp[al]) fun i v hv=>?_
    obtain⟨t,e⟩:=hal i v (by simpa using hv)
    exact⟨t,by rw[e];congr 1;omega⟩
  have I4:=kD (o:=.lst ((List.range j.toNat).map fun k=>V.int (k:Nat))) I3 fS ⟨by rw[List.length_map,List.length_range,sizeLine_eq];omega,acc.toList,c,hv,by simpa using hS⟩
  exact⟨.ref _,_,I4,rfl,hQ _ fS.1⟩
def j6:List D->Option D
  | [.int j]=>if -100000<=j/\j<=100000 then some (.lst ((List.range j.toNat).map fun k=>.int (k:Nat))) else none
  | _=>none
theorem Bj(ml:X.mg "list" = none)(mr:X.mg "range" = none)(ha:VA X [a] as es)(hc:X.calm=true:=by rfl)(hgl:Gl X "list":=by rfl)(hgr:Gl X "range":=by rfl)(hs:starEach [a] X.env=[(false,eval a X.env)]:=by rfl)(hs2:starEach [.Call (.Name "range" p2) [a] [] pos2] X.env=[(false,eval (.Call (.Name "range" p2) [a] [] pos2) X.env)]:=by rfl):
    VF X (.Call (.Name "list" p) [.Call (.Name "range" p2) [a] [] pos2] [] pos) (eA j6 as) [] :=
  aJ (Bi hc hgl ml hgr mr ha hs hs2) fun σ H Q ⟨ρ,d,hE,hf,hQ⟩=>by
    obtain⟨ds,h1,hf⟩:=bind_some hf
    refine⟨ρ,ds,hE,h1,fun vs H1 p=>?_⟩
    match ds,hf,p with
    | [.int j],hf,p =>
      obtain⟨hj,rfl⟩:=bW hf
      obtain⟨v,rfl,r⟩:=e9 p.rep
      cases r
      refine⟨j,rfl,hj.1,hj.2,fun l hl=>hQ _ _ (gZ p.same hl fun A hD hz=>?_)⟩
      have:=Reps.ints (K:=X.K) (H:=aj H1 A) ((List.range j.toNat).map fun (k:Nat)=>(k:Int))
      rw[List.map_map,List.map_map] at this
      exact this
end
end VL
namespace VL
open PySem PySem.Spec PyProof.Rows L2
structure JE (X:Cx) (e:Expr) (f:FE) (es:List Es):Prop where
  h:VE X e f es
structure JF (X:Cx) (e:Expr) (f:FE) (es:List Es):Prop where
  h:VF X e f es
structure JB (X:Cx) (e:Expr) (f:FE) (es:List Es):Prop where
  h:VB X e f es
structure JT (X:Cx) (e:Expr) (f:ad->Option Bool):Prop where
  h:VT X e f
structure JW (X:Cx) (e:Expr) (f:ad->Option Bool):Prop where
  h:VW X e f
structure JA (X:Cx) (e:List Expr) (f:FEs) (es:List Es):Prop where
  h:VA X e f es
structure JO (X:Cx) (e:Option Expr) (f:FO):Prop where
  h:VO X e f
structure JI (X:Cx) (tg iter:Expr) (f:FEs) (es:List Es):Prop where
  h:VI X tg iter f es
structure JS (X:Cx) (F:Fr0) (O:List Nat) (st:Stmt) (f:FS) (O' OL:List Nat) (fr:Bool):Prop where
  h:VS X F O st f O' OL fr
structure JSs (X:Cx) (F:Fr0) (O:List Nat) (st:List Stmt) (f:FS) (O' OL:List Nat) (fr:Bool):Prop where
  h:VSs X F O st f O' OL fr
structure JIL (X:Cx) (tg iter:Expr) (f:FEs) (es:List Es):Prop where
  h:VIL X tg iter f es
structure JD (X:Cx) (F:Fr0) (i:Nat) (al:Option Nat) (st:Stmt) (f:FS) (al':Option Nat) (fr:Bool):Prop where
  h:VD X F i al st f al' fr
structure JDs (X:Cx) (F:Fr0) (i:Nat) (al:Option Nat) (st:List Stmt) (f:FS) (al':Option Nat) (fr:Bool):Prop where
  h:VDs X F i al st f al' fr
structure JK (X:Cx) (F:Fr0) (i:Nat) (al:Option Nat) (st:Stmt) (f:FS) (al':Option Nat) (fr:Bool):Prop where
  h:VJ X F i al st f al' fr
structure JKs (X:Cx) (F:Fr0) (i:Nat) (al:Option Nat) (st:List Stmt) (f:FS) (al':Option Nat) (fr:Bool):Prop where
  h:VJs X F i al st f al' fr
structure JX (X:Cx) (F:Fr0) (i:Nat) (st:Stmt) (f:FS):Prop where
  h:VX X F i st f
structure JXs (X:Cx) (F:Fr0) (i:Nat) (st:List Stmt) (f:FS):Prop where
  h:VXs X F i st f
structure JRs (X:Cx) (F:Fr0) (O:List Nat) (st:List Stmt) (f:FS) (O':List Nat):Prop where
  h:VRs X F O st f O'
structure JG (X:Cx) (F:Fr0) (i n:Nat) (st:Stmt) (f:FS) (fr:Bool):Prop where
  h:VG X F i n st f fr
structure JGs (X:Cx) (F:Fr0) (i n:Nat) (st:List Stmt) (f:FS) (fr:Bool):Prop where
  h:VGs X F i n st f fr
structure JQs (X:Cx) (F:Fr0) (n:Nat) (O:List Nat) (st:List Stmt) (f:FS) (O':List Nat):Prop where
  h:VQs X F n O st f O'
structure JY (X:Cx) (e:Expr) (n:Nat) (fe:FE):Prop where
  h:VY X e n fe
section
variable {X:Cx} {a b c:Expr} {es ea eb ec:List Es} {fa fb fc:FE} {pos:Pos}
theorem bx{f:FE}(h:JF X a f es):JE X a f es:=⟨VF.ve h.h⟩
theorem ab(i:Nat){x:Str}{pos:Pos}(hN:X.N[i]?=some x:=by rfl)(hv:Vis X.env.scope x:=by first | exact Or.inl rfl | exact Or.inr (Or.inl rfl) | exact Or.inr (Or.inr rfl))(hd:(x == ("__debug__" : Str))=false:=by decide)(hcd:(x == ("__classdict__" : Str))=false:=by decide):JE X (.Name x pos) (aa i) [.full i]:=⟨yk i hN hv hd hcd⟩
theorem ah{i j pos}:JE X (.Constant (.int i) j pos) (eC (.int i)) []:=⟨yl ⟩
theorem eP{i j pos}:JE X (.Constant (.bool i) j pos) (eC (.bl i)) []:=⟨ym ⟩
theorem i4{j pos}:JE X (.Constant .none j pos) (eC .non) []:=⟨gP ⟩
theorem eQ{x:Str}{i:Int}{t:Tok}{pos:Pos}(hm:X.mg x=some (.int i t))(hg:Gl X x:=by rfl)(hd:(x == ("__debug__" : Str))=false:=by decide):JE X (.Name x pos) (eC (.int i)) []:=⟨yn hm hg hd⟩
theorem bz(ha:JE X a fa ea)(hb:JE X b fb eb):JE X (.BinOp a .Add b pos) (e2 aT fa fb) []:=⟨yu ha.h hb.h⟩
theorem cq(ha:JE X a fa ea)(hb:JE X b fb eb):JE X (.BinOp a .Sub b pos) (e2 bw fa fb) []:=⟨yv ha.h hb.h⟩
theorem bA(ha:JE X a fa ea)(hb:JE X b fb eb):JE X (.BinOp a .Mult b pos) (e2 bd fa fb) []:=⟨yw ha.h hb.h⟩
theorem mU(ha:JE X a fa ea)(hb:JE X b fb eb):JE X (.BinOp a .FloorDiv b pos) (e2 gR fa fb) []:=⟨yx ha.h hb.h⟩
theorem i5(ha:JE X a fa ea)(hb:JE X b fb eb):JE X (.BinOp a .Mod b pos) (e2 e7 fa fb) []:=⟨yy ha.h hb.h⟩
theorem mV(ha:JE X a fa ea)(hb:JE X b fb eb):JE X (.BinOp a .Pow b pos) (e2 gS fa fb) []:=⟨yz ha.h hb.h⟩
theorem fP(ha:JE X a fa ea):JE X (.UnaryOp .USub a pos) (e1 cL fa) []:=⟨yB ha.h⟩
theorem Bk(ha:JE X a fa ea)(hb:JE X b fb eb):JE X (.Compare a [.Lt] [b] pos) (e2 ltI fa fb) []:=⟨yC ha.h hb.h⟩
theorem rL(ha:JE X a fa ea)(hb:JE X b fb eb):JE X (.Compare a [.LtE] [b] pos) (e2 leI fa fb) []:=⟨yD ha.h hb.h⟩
theorem mW(ha:JE X a fa ea)(hb:JE X b fb eb):JE X (.Compare a [.Gt] [b] pos) (e2 gtI fa fb) []:=⟨yE ha.h hb.h⟩
theorem rM(ha:JE X a fa ea)(hb:JE X b fb eb):JE X (.Compare a [.GtE] [b] pos) (e2 geI fa fb) []:=⟨yF ha.h hb.h⟩
theorem rN(ha:JE X a fa ea)(hb:JE X b fb eb):JT X (.Compare a [.Gt] [b] pos) (eT (e2 gtI fa fb)):=⟨yG ha.h hb.h⟩
theorem rO(ha:JE X a fa ea)(hb:JE X b fb eb)(hc:JE X c fc ec)(hm:lastMarks [.LtE,.LtE] [b,c]=false:=by with_unfolding_all rfl):JE X (.Compare a [.LtE,.LtE] [b,c] pos) (e3c leI leI fa fb fc) []:=⟨yJ ha.h hb.h hc.h hm⟩
theorem eR{f:FE}(h:JE X a f es)(he:∀ whole,isTrue a X.env whole=(do let v <- whole;standAt a.pos;holding [v] (truthy v)):=by intro _;rfl):JT X a (cX f):=⟨yK h.h he⟩
variable {ta tb:ad->Option Bool} {ar:List Expr}
theorem Bl(ha:JT X a ta):JW X (.BoolOp .And [a] pos) ta:=⟨yL ha.h⟩
theorem mX(ha:JT X a ta):JW X (.BoolOp .Or [a] pos) ta:=⟨yM ha.h⟩
theorem Bm(ha:JT X a ta)(hb:JW X (.BoolOp .And (b::ar) pos) tb):JW X (.BoolOp .And (a::b::ar) pos) (gW ta tb):=⟨yN ha.h hb.h⟩
theorem kH(ha:JT X a ta)(hb:JW X (.BoolOp .Or (b::ar) pos) tb):JW X (.BoolOp .Or (a::b::ar) pos) (bOr ta tb):=⟨yO ha.h hb.h⟩
theorem kI(h:JW X a ta):JT X a ta:=⟨yP h.h⟩
theorem fQ(ha:JT X a ta):JT X (.UnaryOp .Not a pos) (cY ta):=⟨yQ ha.h⟩
theorem di{op}{f:FE}(h:JE X a f es):JE X (.BoolOp op [a] pos) f es:=⟨yR h.h⟩
theorem cC(ha:JE X a fa ea)(hb:JE X (.BoolOp .And (b::ar) pos) fb eb):JE X (.BoolOp .And (a::b::ar) pos) (bR fa fb) eb:=⟨yS ha.h hb.h⟩
theorem rP(ha:JE X a fa ea):JE X (.UnaryOp .Not a pos) (gX fa) []:=⟨yT ha.h⟩
theorem aq: JA X [] ak []:=⟨yU ⟩
theorem ag{xs:List Expr}{fs:FEs}(ha:JE X a fa ea)(hr:JA X xs fs eb)(hs:starEach (a::xs) X.env=(false,eval a X.env)::starEach xs X.env:=by rfl):JA X (a::xs) (ae fa fs) (ea++eb):=⟨yV ha.h hr.h hs⟩
theorem cD{xs:List Expr}{fs:FEs}(h:JA X xs fs es):JF X (.List xs pos) (bD fs) es:=⟨yW h.h⟩
theorem rQ{xs:List Expr}{fs:FEs}{x1}(h:JA X xs fs es):JE X (.Tuple xs x1 pos) (gY fs) es:=⟨yX h.h⟩
end
section
variable {X:Cx} {a b c:Expr} {es ea eb ec:List Es} {fa fb fc:FE} {pos p2:Pos}
theorem cG(h:JE X a fa es):JB X a fa es:=⟨VE.vb h.h⟩
theorem aA(i:Nat){x:Str}{pos:Pos}(hN:X.N[i]?=some x:=by rfl)(hv:Vis X.env.scope x:=by first | exact Or.inl rfl | exact Or.inr (Or.inl rfl) | exact Or.inr (Or.inr rfl))(hd:(x == ("__debug__" : Str))=false:=by decide)(hcd:(x == ("__classdict__" : Str))=false:=by decide):JB X (.Name x pos) (aa i) [.el i]:=⟨yY i hN hv hd hcd⟩
theorem aL(ha:JB X a fa ea)(hb:JE X b fb eb)(hs:iJ b):JE X (.Subscript a b pos) (e2 ixD fa fb) ea:=⟨yZ ha.h hb.h hs⟩
theorem Bn: JO X none km:=⟨za ⟩
theorem mY(h:JE X a fa ea):JO X (some a) (fE fa):=⟨zb h.h⟩
theorem Bo{lo hi:Option Expr}{flo fhi:FO}(ha:JB X a fa ea)(hl:JO X lo flo)(hh:JO X hi fhi):JF X (.Subscript a (.Slice lo hi none p2) pos) (eSl fa flo fhi) ea:=⟨zc ha.h hl.h hh.h⟩
theorem i6(ha:JB X a fa ea)(hb:JB X b fb eb):JF X (.BinOp a .Add b pos) (e2 dE fa fb) (ea++eb):=⟨zf ha.h hb.h⟩
theorem cN{p:Pos}{as:FEs}(ml:X.mg "len" = none)(ha:JA X [a] as es)(hg:Gl X "len":=by rfl)(he:starEach [a] X.env=(false,eval a X.env)::starEach [] X.env:=by rfl)(hpl:(backTo pos (starEach [] X.env)).any (·.1)=false:=by rfl):JE X (.Call (.Name "len" p) [a] [] pos) (eA (aI br) as) []:=⟨zg ml ha.h hg he hpl⟩
theorem mZ{p:Pos}(ml:X.mg "list" = none)(ha:JB X a fa ea)(hg:Gl X "list":=by rfl)(he:starEach [a] X.env=(false,eval a X.env)::starEach [] X.env:=by rfl)(hpl:(backTo pos (starEach [] X.env)).any (·.1)=false:=by rfl):JF X (.Call (.Name "list" p) [a] [] pos) (e1 hG fa) ea:=⟨zh ml ha.h hg he hpl⟩
theorem j7{p:Pos}{as:FEs}(hc:X.calm=true)(ml:X.mg "sum" = none)(ha:JA X [a] as es)(hg:Gl X "sum":=by rfl)(he:starEach [a] X.env=(false,eval a X.env)::starEach [] X.env:=by rfl)(hpl:(backTo pos (starEach [] X.env)).any (·.1)=false:=by rfl):JE X (.Call (.Name "sum" p) [a] [] pos) (eA (aI cy) as) []:=⟨zi hc ml ha.h hg he hpl⟩
theorem kJ{p:Pos}{as:FEs}(hc:X.calm=true)(ml:X.mg "max" = none)(ha:JA X [a,b] as es)(hg:Gl X "max":=by rfl)(he:starEach [a,b] X.env=(false,eval a X.env)::starEach [b] X.env:=by rfl)(hpl:(backTo pos (starEach [b] X.env)).any (·.1)=false:=by rfl):JE X (.Call (.Name "max" p) [a,b] [] pos) (eA (cx ef) as) []:=⟨zl hc ml ha.h hg he hpl⟩
theorem rR{p:Pos}{as:FEs}(hc:X.calm=true)(ml:X.mg "min" = none)(ha:JA X [a,b] as es)(hg:Gl X "min":=by rfl)(he:starEach [a,b] X.env=(false,eval a X.env)::starEach [b] X.env:=by rfl)(hpl:(backTo pos (starEach [b] X.env)).any (·.1)=false:=by rfl):JE X (.Call (.Name "min" p) [a,b] [] pos) (eA (cx fH) as) []:=⟨zm hc ml ha.h hg he hpl⟩
end
section
variable {K:PySem.W.Frag} {F:Fr0} {held:List Hd} {O O':List Nat} {σ:St} {ρ:ad} {H H':Hp}
end
section
variable {X:Cx} {F:Fr0} {O O1 O2 O' OL:List Nat} {fr:Bool} {f g:FS} {st:Stmt} {ar:List Stmt} {pos:Pos} {e:Expr} {fe:FE} {es:List Es}
theorem j8: JSs X F O [] eJ O OL fr:=⟨zo ⟩
theorem aS(h1:JS X F O st f O1 OL fr)(h2:JSs X F O1 ar g O2 OL fr):JSs X F O (st::ar) (aE f g) O2 OL fr:=⟨zp h1.h h2.h⟩
theorem aP(h1:JS X F O st f O1 OL fr):JSs X F O [st] f O1 OL fr:=⟨zq h1.h⟩
theorem j9{c:Expr}{tc:ad->Option Bool}{a b:List Stmt}(hc:JT X c tc)(ha:JSs X F O a f O1 OL fr)(hb:JSs X F O b g O2 OL fr)(h1:∀ i ∈ O',i ∈ O1:=by decide)(h2:∀ i ∈ O',i ∈ O2:=by decide):JS X F O (.If c a b pos) (sIf tc f g) O' OL fr:=⟨zr hc.h ha.h hb.h h1 h2⟩
theorem bn(he:JE X e fe es):JS X F O (.Return (some e) pos) (aO fe) O' OL false:=⟨zt he.h⟩
theorem kK(he:JF X e fe es):JS X F O (.Return (some e) pos) (aO fe) O' OL fr:=⟨zu he.h⟩
theorem n0(i:Nat){x:Str}{p2:Pos}(hi:i ∈ O:=by decide)(hN:X.N[i]?=some x:=by rfl)(hv:Vis X.env.scope x:=by first | exact Or.inl rfl | exact Or.inr (Or.inl rfl) | exact Or.inr (Or.inr rfl))(hd:(x == ("__debug__" : Str))=false:=by decide)(hcd:(x == ("__classdict__" : Str))=false:=by decide):JS X F O (.Return (some (.Name x p2)) pos) (aO (eL (aa i))) O' OL fr:=⟨zw i hi hN hv hd hcd⟩
theorem cb(i:Nat){x:Str}{p2:Pos}(hN:X.N.Nodup)(he:JE X e fe es)(hi:X.N[i]?=some x:=by rfl)(hx:Loc X.env.scope x:=by first | exact Or.inl rfl | exact Or.inr rfl)(hs:swapsWith e (some (.Name x p2)) pos.line X.env=pure false:=by rfl)(hfn:X.fn x=true\/X.env.scope.names.lookup x=some .local:=by first | exact .inl rfl | exact .inr rfl):JS X F O (.Assign [.Name x p2] e pos) (aR i fe) (hU (aW O es) i) OL fr:=⟨zx i hN he.h hi hx hs hfn⟩
theorem cO(i:Nat){x:Str}{p2:Pos}(hN:X.N.Nodup)(he:JF X e fe es)(hn:i < F.n)(hi:X.N[i]?=some x:=by rfl)(hx:Loc X.env.scope x:=by first | exact Or.inl rfl | exact Or.inr rfl)(hs:swapsWith e (some (.Name x p2)) pos.line X.env=pure false:=by rfl)(hfn:X.fn x=true\/X.env.scope.names.lookup x=some .local:=by first | exact .inl rfl | exact .inr rfl):JS X F O (.Assign [.Name x p2] e pos) (aR i fe) (i::hU (aW O es) i) OL fr:=⟨zy i hN he.h hn hi hx hs hfn⟩
end
section
variable {X:Cx} {F:Fr0} {O O1 O2 O' OL:List Nat} {fr:Bool} {f g:FS} {st:Stmt} {ar:List Stmt} {pos p2 p3:Pos} {e a b:Expr} {fe fa fb:FE} {es ea eb:List Es}
theorem rS(i:Nat){x:Str}{ap cp:Pos}(he:JE X e fe es)(hi:i ∈ aW O es:=by decide)(hN:X.N[i]?=some x:=by rfl)(hv:Vis X.env.scope x:=by first | exact Or.inl rfl | exact Or.inr (Or.inl rfl) | exact Or.inr (Or.inr rfl))(hd:(x == ("__debug__" : Str))=false:=by decide)(hcd:(x == ("__classdict__" : Str))=false:=by decide)(hbase:attributeBase (.Name x p2) "append" X.env (eval (.Name x p2) X.env)=eval (.Name x p2) X.env:=by rfl)(hfew:((backTo cp (starEach [e] X.env)).all (fun x=>!x.1) && (backToKw cp (keywordEach [] X.env)).all (fun x=>x.1.isSome)
      && decide (([e]:List Expr).length+([]:List Keyword).length+(if ([]:List Keyword).isEmpty then 0 else 1) < 30))=true:=by rfl)(hline:(ap.endLine == cp.line)=true:=by rfl)(hs:starEach [e] X.env=(false,eval e X.env)::starEach [] X.env:=by rfl)(hplain:(backTo cp (starEach [] X.env)).any (·.1)=false:=by rfl)(hsw:swapsWith (.Call (.Attribute (.Name x p2) "append" ap) [e] [] cp) none pos.line X.env=pure false:=by rfl):JS X F O (.Expr (.Call (.Attribute (.Name x p2) "append" ap) [e] [] cp) pos) (hV i fe) (aW O es) OL fr:=⟨zz i he.h hi hN hv hd hcd hbase hfew hline hs hplain hsw⟩
theorem Bp(i:Nat){x:Str}(he:JE X e fe es)(hb:JE X b fb eb)(hi:i ∈ aW O es:=by decide)(hN:X.N[i]?=some x:=by rfl)(hv:Vis X.env.scope x:=by first | exact Or.inl rfl | exact Or.inr (Or.inl rfl) | exact Or.inr (Or.inr rfl))(hd:(x == ("__debug__" : Str))=false:=by decide)(hcd:(x == ("__classdict__" : Str))=false:=by decide)(ha:∀ v,assign (.Subscript (.Name x p2) b p3) X.env v=(do
      let ov <- holding [v] (eval (.Name x p2) X.env)
      let iv <- holding [v,ov] (eval b X.env)
      standAt p3
      holding [v,ov,iv] (setItem ov iv v)
      release [v,ov,iv] []):=by intro _;rfl)(hs:swapsWithSole [.Subscript (.Name x p2) b p3] e pos.line X.env=pure false:=by rfl)(hw:swappedStores [.Subscript (.Name x p2) b p3] e X.env=pure none:=by rfl)(h1:(assignEach [.Subscript (.Name x p2) b p3] X.env).map (·.2)=[assign (.Subscript (.Name x p2) b p3) X.env]:=by rfl):JS X F O (.Assign [.Subscript (.Name x p2) b p3] e pos) (iT i fb fe) (aW O es) OL fr:=⟨zA i he.h hb.h hi hN hv hd hcd ha hs hw h1⟩
theorem rT(is:List Nat){ts:List Expr}{k:Nat}(hc:X.calm=true)(hN:X.N.Nodup)(he:JE X e fe es)(ht:Tgs X ts is)(hO:∀ i ∈ is,i ∉ O')(hO2:∀ i ∈ O',i ∈ aW O es)(hn:(assignEach ts X.env).length=is.length:=by rfl)(hst:(assignEach ts X.env).findIdx? (·.1)=none:=by rfl)(hs:swapsWithSole [.Tuple ts k p2] e pos.line X.env=pure false:=by rfl)(hw:swappedStores [.Tuple ts k p2] e X.env=pure none:=by rfl)(h1:(assignEach [.Tuple ts k p2] X.env).map (·.2)=[assign (.Tuple ts k p2) X.env]:=by rfl):JS X F O (.Assign [.Tuple ts k p2] e pos) (hW is fe) O' OL fr:=⟨zB is hc hN he.h ht hO hO2 hn hst hs hw h1⟩
theorem Bq(t:Nat){x:Str}{iter:Expr}{body:List Stmt}{fi:FE}{ei:List Es}{tb:FS}(Ol:List Nat)(hN:X.N.Nodup)(hc:X.calm=true)(hi:JE X iter fi ei)(hb:JSs X F Ol body tb O2 Ol fr)(h1:∀ i ∈ Ol,i ∈ aW O ei:=by decide)(h2:∀ i ∈ Ol,i ∈ O2:=by decide)(h3:t ∉ Ol:=by decide)(hp:PassesOwn (model X.prog X.w) X.A X.env X.xe:=by exact PassesOwn.never)(hxN:X.N[t]?=some x:=by rfl)(hx:Loc X.env.scope x:=by first | exact Or.inl rfl | exact Or.inr rfl)(hfn:X.fn x=true\/X.env.scope.names.lookup x=some .local:=by first | exact .inl rfl | exact .inr rfl)(hs:∀ x,foldedSetIterable iter X.env x=pure x:=by intro _;rfl):JS X F O (.For (.Name x p2) iter body [] pos) (iW t fi tb) Ol OL fr:=⟨zC t Ol hN hc hi.h hb.h h1 h2 h3 hp hxN hx hfn hs⟩
theorem ja(t:Nat){x:Str}{a:Expr}{body:List Stmt}{as:FEs}{ei:List Es}{tb:FS}{pr pn:Pos}(Ol:List Nat)(hN:X.N.Nodup)(hc:X.calm=true)(mr:X.mg "range" = none)(hi:JA X [a] as ei)(hb:JSs X F Ol body tb O2 Ol fr)(h1:∀ i ∈ Ol,i ∈ O:=by decide)(h2:∀ i ∈ Ol,i ∈ O2:=by decide)(h3:t ∉ Ol:=by decide)(hp:PassesOwn (model X.prog X.w) X.A X.env X.xe:=by exact PassesOwn.never)(hg:Gl X "range":=by rfl)(hst:starEach [a] X.env=[(false,eval a X.env)]:=by rfl)(hxN:X.N[t]?=some x:=by rfl)(hx:Loc X.env.scope x:=by first | exact Or.inl rfl | exact Or.inr rfl)(hfn:X.fn x=true\/X.env.scope.names.lookup x=some .local:=by first | exact .inl rfl | exact .inr rfl)(hs:∀ x,foldedSetIterable (.Call (.Name "range" pn) [a] [] pr) X.env x=pure x:=by intro _;rfl):JS X F O (.For (.Name x p2) (.Call (.Name "range" pn) [a] [] pr) body [] pos) (eo t as tb) Ol OL fr:=⟨zF t Ol hN hc mr hi.h hb.h h1 h2 h3 hp hg hst hxN hx hfn hs⟩
end
section
variable {X:Cx} {k:Nat} {f:Addr} {fd:FuncData} {ps:List Str} {G:List D->Option D} {fr:Bool} {x:Str} {p pos:Pos} {e:Expr} {es':List Expr} {as:FEs} {es:List Es}
end
section
variable {prog:Program} {w:World} {A:Around} {R:Result->Shared->Prop} {s:Shared}
end
section
variable {X:Cx} {pins:List (Addr × Obj)} {σ:St} {H:Hp} {s:Shared} {scope:Scope} {own cn:List Str} {caps:List Nat} {cl:List (Str × Addr)} {ex:List Addr}
end
section
variable {X:Cx} {elt tg iter:Expr} {ifs:List Expr} {scope:Scope} {own cn:List Str} {caps:List Nat} {wi:TI} {g:TG} {tt:TT} {te:TE} {pos:Pos}
end
section
variable {X:Cx} {tg iter a b:Expr} {fa fi:FE} {as:FEs} {es ea ei:List Es} {pr pn:Pos}
theorem i7(h:JB X iter fi ei):JI X tg iter (dF fi) ei:=⟨zM h.h⟩
theorem kL(mr:X.mg "range" = none)(hi:JA X [a] as ei)(hg:Gl X "range":=by rfl)(hst:starEach [a] X.env=[(false,eval a X.env)]:=by rfl):JI X tg (.Call (.Name "range" pn) [a] [] pr) (iR1 as) []:=⟨zO mr hi.h hg hst⟩
end
section
variable {X:Cx} {a b c:Expr} {es ea eb:List Es} {fa fb:FE} {pos p p2:Pos} {k:Nat}
theorem rV(hr:Room k X.A)(ha:JE X a fa ea)(hb:JE X b fb eb):JE X (.Compare a [.Eq] [b] pos) (e2 eqD fa fb) []:=⟨zT hr ha.h hb.h⟩
theorem kM(hr:Room k X.A)(ha:JE X a fa ea)(hb:JE X b fb eb):JT X (.Compare a [.Eq] [b] pos) (eT (e2 eqD fa fb)):=⟨zU hr ha.h hb.h⟩
theorem kN(hr:Room k X.A)(ha:JE X a fa ea)(hb:JE X b fb eb):JT X (.Compare a [.NotEq] [b] pos) (eT (e2 neD fa fb)):=⟨zV hr ha.h hb.h⟩
theorem jb{T:Str}{TS:String}(hk:∀ K d,PySem.W.kitOne K (.type (tyD d)) (.type TS)=some (eg TS (tyD d)))(hT:bootBuiltins T=some (.type TS))(mi:X.mg "isinstance" = none)(mt:X.mg T=none)(ha:JE X a fa ea)(hg:Gl X "isinstance":=by rfl)(hgT:Gl X T:=by rfl)(hn:T ≠ "__name__":=by decide)(hd:(T == ("__debug__" : Str))=false:=by decide)(hs:starEach [a,.Name T p2] X.env=(false,eval a X.env)::starEach [.Name T p2] X.env:=by rfl)(hs2:starEach [.Name T p2] X.env=(false,eval (.Name T p2) X.env)::starEach [] X.env:=by rfl)(hpl:(backTo pos (starEach [.Name T p2] X.env)).any (·.1)=false:=by rfl):JE X (.Call (.Name "isinstance" p) [a,.Name T p2] [] pos) (e1 (da TS) fa) []:=⟨zY hk hT mi mt ha.h hg hgT hn hd hs hs2 hpl⟩
theorem n3{as:FEs}(hc:X.calm=true)(ml:X.mg "all" = none)(ha:JA X [a] as es)(hg:Gl X "all":=by rfl)(he:starEach [a] X.env=(false,eval a X.env)::starEach [] X.env:=by rfl)(hpl:(backTo pos (starEach [] X.env)).any (·.1)=false:=by rfl):JE X (.Call (.Name "all" p) [a] [] pos) (eA (aI (eK fun bs=>bs.all id)) as) []:=⟨A3 hc ml ha.h hg he hpl⟩
end
section
variable {X:Cx} {elt tg iter:Expr} {ifs:List Expr} {scope:Scope} {own cn:List Str} {caps is:List Nat} {g:TG} {un:D->Option (List D)} {fi:FEs} {ei ee:List Es} {c:ad->Option Bool} {fe:FE} {pos spos p2:Pos}
theorem cP(B:BlkOk X scope own caps cn)(hc:X.calm=true)(hi:JI X tg iter fi ei)(hg:∀ s H cl ex,PG (blk X (own++cn) s H scope cl ex) tg g)(hgv:TgV X.K g is un)(his:∀ i ∈ is,i < own.length)(ht:∀ s H cl ex,PTs (blk X (own++cn) s H scope cl ex) ifs (tvT X.K c))(he:∀ s H cl ex,JE (blk X (own++cn) s H scope cl ex) elt fe ee)(hs:∀ x,foldedSetIterable iter X.env x=pure x:=by intro _;rfl):JF X (.ListComp elt [⟨tg,iter,ifs,0⟩] scope pos) (bM own.length caps is un fi c fe) (esC own.length caps ei ee):=⟨A4 B hc hi.h hg hgv his ht (fun s H cl ex=>(he s H cl ex).h) hs⟩
end
section
variable {P:Program} {w:World} {K:PySem.W.Frag} {mg:Str->Option Value} {base:Heap} {x:Str} {j k:Nat} {ps:List Str} {G:List D->Option D} {fr:Bool}
end
section
variable {X:Cx} {k:Nat} {ps:List Str} {G:List D->Option D} {fr:Bool} {x:Str} {p pos:Pos} {e:Expr} {es':List Expr} {as:FEs} {es:List Es}
theorem Br(d:Def X.prog X.w X.K X.mg X.base x k ps G fr)(hr:Room k X.A)(ha:JA X (e::es') as es)(hg:Gl X x:=by rfl)(hdb:(x == ("__debug__" : Str))=false:=by decide)(he:starEach (e::es') X.env=(false,eval e X.env)::starEach es' X.env:=by rfl)(hpl:(backTo pos (starEach es' X.env)).any (·.1)=false:=by rfl):JE X (.Call (.Name x p) (e::es') [] pos) (eA G as) es:=⟨rp d hr ha.h hg hdb he hpl⟩
theorem fR(d:Def X.prog X.w X.K X.mg X.base x k ps G true)(hr:Room k X.A)(ha:JA X (e::es') as es)(hg:Gl X x:=by rfl)(hdb:(x == ("__debug__" : Str))=false:=by decide)(he:starEach (e::es') X.env=(false,eval e X.env)::starEach es' X.env:=by rfl)(hpl:(backTo pos (starEach es' X.env)).any (·.1)=false:=by rfl):JF X (.Call (.Name x p) (e::es') [] pos) (eA G as) es:=⟨A6 d hr ha.h hg hdb he hpl⟩
theorem ba(d:Def X.prog X.w X.K X.mg X.base x k ps (scF G) fr)(hr:Room k X.A)(ha:JA X (e::es') as es)(hg:Gl X x:=by rfl)(hdb:(x == ("__debug__" : Str))=false:=by decide)(he:starEach (e::es') X.env=(false,eval e X.env)::starEach es' X.env:=by rfl)(hpl:(backTo pos (starEach es' X.env)).any (·.1)=false:=by rfl):JE X (.Call (.Name x p) (e::es') [] pos) (eA (scF G) as) []:=⟨A7 d hr ha.h hg hdb he hpl⟩
end
section
variable {X:Cx} {a b:Expr} {fa fb:FE} {ea eb:List Es} {pos p2:Pos}
theorem Bs{j}(ha:JE X a fa ea):JE X (.Compare a [.Is] [.Constant .none j p2] pos) (e1 cz fa) []:=⟨Aa ha.h⟩
theorem Bt{j}(ha:JE X a fa ea):JT X (.Compare a [.Is] [.Constant .none j p2] pos) (eT (e1 cz fa)):=⟨Ab ha.h⟩
theorem rW{j}(ha:JE X a fa ea):JE X (.Compare a [.IsNot] [.Constant .none j p2] pos) (e1 db fa) []:=⟨Ac ha.h⟩
theorem rX{j}(ha:JE X a fa ea):JT X (.Compare a [.IsNot] [.Constant .none j p2] pos) (eT (e1 db fa)):=⟨Ad ha.h⟩
theorem Bu{lo hi:Option Expr}{flo fhi:FO}(ha:JB X a fa ea)(hl:JO X lo flo)(hh:JO X hi fhi):JE X (.Subscript a (.Slice lo hi none p2) pos) (iY fa flo fhi) ea:=⟨Ag ha.h hl.h hh.h⟩
end
section
variable {X:Cx} {tg a b:Expr} {elts:List Expr} {ek:Nat} {ep pn pr:Pos} {ta:TA}
end
section
variable {X:Cx} {tg a b:Expr} {elts:List Expr} {ek:Nat} {ep pn pr:Pos} {fa fb:FE} {ea eb:List Es}
theorem Bv(mr:X.mg "enumerate" = none)(h:JB X a fa ea)(hg:Gl X "enumerate":=by rfl)(hst:starEach [a] X.env=[(false,eval a X.env)]:=by rfl):JI X (.Tuple elts ek ep) (.Call (.Name "enumerate" pn) [a] [] pr) (iZ fa) ea:=⟨Ao mr h.h hg hst⟩
theorem rY(mr:X.mg "zip" = none)(ha:JB X a fa ea)(hb:JB X b fb eb)(hg:Gl X "zip":=by rfl)(hst:starEach [a,b] X.env=[(false,eval a X.env),(false,eval b X.env)]:=by rfl)(hst2:starEach [b] X.env=[(false,eval b X.env)]:=by rfl):JI X (.Tuple elts ek ep) (.Call (.Name "zip" pn) [a,b] [] pr) (hZ fa fb) (ea++eb):=⟨Ap mr ha.h hb.h hg hst hst2⟩
end
section
variable {X:Cx} {F:Fr0} {O O2 OL:List Nat} {fr:Bool} {a b:Expr} {body:List Stmt} {fa fb:FE} {ea eb:List Es} {tb:FS} {p2 pos pn pr:Pos}
theorem rZ(t:Nat){x:Str}(Ol:List Nat)(hN:X.N.Nodup)(hc:X.calm=true)(mr:X.mg "reversed" = none)(hi:JE X a fa ea)(hb:JSs X F Ol body tb O2 Ol fr)(h1:∀ i ∈ Ol,i ∈ aW O ea:=by decide)(h2:∀ i ∈ Ol,i ∈ O2:=by decide)(h3:t ∉ Ol:=by decide)(hp:PassesOwn (model X.prog X.w) X.A X.env X.xe:=by exact PassesOwn.never)(hg:Gl X "reversed":=by rfl)(hst:starEach [a] X.env=[(false,eval a X.env)]:=by rfl)(hxN:X.N[t]?=some x:=by rfl)(hx:Loc X.env.scope x:=by first | exact Or.inl rfl | exact Or.inr rfl)(hfn:X.fn x=true\/X.env.scope.names.lookup x=some .local:=by first | exact .inl rfl | exact .inr rfl)(hs:∀ x,foldedSetIterable (.Call (.Name "reversed" pn) [a] [] pr) X.env x=pure x:=by intro _;rfl):JS X F O (.For (.Name x p2) (.Call (.Name "reversed" pn) [a] [] pr) body [] pos) (hX t fa tb) Ol OL fr:=⟨At t Ol hN hc mr hi.h hb.h h1 h2 h3 hp hg hst hxN hx hfn hs⟩
theorem Bw(t u:Nat){tes:List Expr}{k:Nat}(Ol:List Nat)(hN:X.N.Nodup)(hc:X.calm=true)(mr:X.mg "enumerate" = none)(hi:JE X a fa ea)(hb:JSs X F Ol body tb O2 Ol fr)(htg:Tgs X tes [t,u])(h1:∀ i ∈ Ol,i ∈ aW O ea:=by decide)(h2:∀ i ∈ Ol,i ∈ O2:=by decide)(h3:t ∉ Ol:=by decide)(h3':u ∉ Ol:=by decide)(hp:PassesOwn (model X.prog X.w) X.A X.env X.xe:=by exact PassesOwn.never)(hg:Gl X "enumerate":=by rfl)(hst:starEach [a] X.env=[(false,eval a X.env)]:=by rfl)(hn:(assignEach tes X.env).length=2:=by rfl)(hsx:(assignEach tes X.env).findIdx? (·.1)=none:=by rfl)(hs:∀ x,foldedSetIterable (.Call (.Name "enumerate" pn) [a] [] pr) X.env x=pure x:=by intro _;rfl):JS X F O (.For (.Tuple tes k p2) (.Call (.Name "enumerate" pn) [a] [] pr) body [] pos) (j1 t u fa tb) Ol OL fr:=⟨Au t u Ol hN hc mr hi.h hb.h htg h1 h2 h3 h3' hp hg hst hn hsx hs⟩
theorem Bx(t u:Nat){tes:List Expr}{k:Nat}(Ol:List Nat)(hN:X.N.Nodup)(hc:X.calm=true)(mr:X.mg "zip" = none)(hi:JE X a fa ea)(hi2:JE X b fb eb)(hb:JSs X F Ol body tb O2 Ol fr)(htg:Tgs X tes [t,u])(h1:∀ i ∈ Ol,i ∈ aW (aW O ea) eb:=by decide)(h2:∀ i ∈ Ol,i ∈ O2:=by decide)(h3:t ∉ Ol:=by decide)(h3':u ∉ Ol:=by decide)(hp:PassesOwn (model X.prog X.w) X.A X.env X.xe:=by exact PassesOwn.never)(hg:Gl X "zip":=by rfl)(hst:starEach [a,b] X.env=[(false,eval a X.env),(false,eval b X.env)]:=by rfl)(hst2:starEach [b] X.env=[(false,eval b X.env)]:=by rfl)(hn:(assignEach tes X.env).length=2:=by rfl)(hsx:(assignEach tes X.env).findIdx? (·.1)=none:=by rfl)(hs:∀ x,foldedSetIterable (.Call (.Name "zip" pn) [a,b] [] pr) X.env x=pure x:=by intro _;rfl):JS X F O (.For (.Tuple tes k p2) (.Call (.Name "zip" pn) [a,b] [] pr) body [] pos) (j2 t u fa fb tb) Ol OL fr:=⟨Aw t u Ol hN hc mr hi.h hi2.h hb.h htg h1 h2 h3 h3' hp hg hst hst2 hn hsx hs⟩
end
section
variable {prog:Program} {w:World} {A:Around} {s:Shared} {R:Result->Shared->Prop}
variable {I:Addr} {fp wr:List Addr} {G:Array GenState->Array GenState->Prop} {n:Nat} {P:Nat->Value->Prop} {St:Nat->Shared->Prop}
end
section
variable {prog:Program} {w:World} {A:Around} {E:Value->Shared->Prop} {s:Shared}
end
section
variable {X:Cx} {a b e ix:Expr} {fa fb fe fx:FE} {ea eb es ei:List Es} {pos pos2 p p2:Pos} {ta:TA}
theorem By(ml:X.mg "list" = none)(mr:X.mg "reversed" = none)(ha:JB X a fa ea)(hc:X.calm=true:=by rfl)(hgl:Gl X "list":=by rfl)(hgr:Gl X "reversed":=by rfl)(hs:starEach [a] X.env=[(false,eval a X.env)]:=by rfl)(hs2:starEach [.Call (.Name "reversed" p2) [a] [] pos2] X.env=[(false,eval (.Call (.Name "reversed" p2) [a] [] pos2) X.env)]:=by rfl):JF X (.Call (.Name "list" p) [.Call (.Name "reversed" p2) [a] [] pos2] [] pos) (e1 kC fa) ea:=⟨AE ml mr ha.h hc hgl hgr hs hs2⟩
end
section
variable {X:Cx} {F:Fr0} {O OL:List Nat} {fr:Bool} {e ix:Expr} {fe fx:FE} {es ei:List Es} {pos p2:Pos}
theorem n4(i:Nat){x:Str}{ap cp:Pos}(hx:JE X ix fx ei)(he:JE X e fe es)(hi:i ∈ aW O es:=by decide)(hN:X.N[i]?=some x:=by rfl)(hv:Vis X.env.scope x:=by first | exact Or.inl rfl | exact Or.inr (Or.inl rfl) | exact Or.inr (Or.inr rfl))(hd:(x == ("__debug__" : Str))=false:=by decide)(hcd:(x == ("__classdict__" : Str))=false:=by decide)(hbase:attributeBase (.Name x p2) "insert" X.env (eval (.Name x p2) X.env)=eval (.Name x p2) X.env:=by rfl)(hfew:((backTo cp (starEach [ix,e] X.env)).all (fun x=>!x.1) && (backToKw cp (keywordEach [] X.env)).all (fun x=>x.1.isSome)
      && decide (([ix,e]:List Expr).length+([]:List Keyword).length+(if ([]:List Keyword).isEmpty then 0 else 1) < 30))=true:=by rfl)(hline:(ap.endLine == cp.line)=true:=by rfl)(hs:starEach [ix,e] X.env=(false,eval ix X.env)::starEach [e] X.env:=by rfl)(hs2:starEach [e] X.env=(false,eval e X.env)::starEach [] X.env:=by rfl)(hplain:(backTo cp (starEach [e] X.env)).any (·.1)=false:=by rfl)(hsw:swapsWith (.Call (.Attribute (.Name x p2) "insert" ap) [ix,e] [] cp) none pos.line X.env=pure false:=by rfl):JS X F O (.Expr (.Call (.Attribute (.Name x p2) "insert" ap) [ix,e] [] cp) pos) (fO i fx fe) (aW O es) OL fr:=⟨AI i hx.h he.h hi hN hv hd hcd hbase hfew hline hs hs2 hplain hsw⟩
end
section
variable {X:Cx} {a b e:Expr} {te:TE} {fa fb:FE} {ea eb:List Es} {pos p p2:Pos} {lo hi:Option Expr} {ke:Expr} {tl th tk:TO} {flo fhi fst:FO}
end
section
variable {X:Cx} {tg:Expr}
end
section
variable {X:Cx} {F:Fr0} {O O2 OL:List Nat} {fr:Bool} {a b c:Expr} {body:List Stmt} {as:FEs} {ei:List Es} {tb:FS} {p2 pos pn pr:Pos}
end
section
variable {X:Cx} {a b:Expr} {fa fb:FE} {ea eb es:List Es} {as:FEs} {pos p kp cp:Pos}
theorem Bz(mi:X.mg "int" = none)(ha:JA X [a] as es)(hg:Gl X "int":=by rfl)(he:starEach [a] X.env=(false,eval a X.env)::starEach [] X.env:=by rfl)(hpl:(backTo pos (starEach [] X.env)).any (·.1)=false:=by rfl):JE X (.Call (.Name "int" p) [a] [] pos) (eA (aI kF) as) []:=⟨AT mi ha.h hg he hpl⟩
end
section
variable {X:Cx} {a b c:Expr} {as:FEs} {es:List Es} {pos p:Pos}
end
section
variable {X:Cx}
end
section
variable {X:Cx} {F:Fr0} {O OL:List Nat} {fr:Bool} {e:Expr} {fe:FE} {es:List Es} {pos p2:Pos}
end
section
variable {X:Cx} {F:Fr0} {i:Nat} {al al1 al2:Option Nat} {fr:Bool} {f g:FS} {st:Stmt} {ar:List Stmt} {pos p2 p3 p4:Pos} {e b1 b2:Expr} {fe f1 f2:FE} {es e1 e2:List Es}
end
section
variable {X:Cx} {elt tg iter:Expr} {ifs:List Expr} {scope:Scope} {own cn:List Str} {caps is:List Nat} {g:TG} {un:D->Option (List D)} {fi:FEs} {ei ee:List Es} {c:ad->Option Bool} {fe:FE} {pos spos p2:Pos}
end
section
variable {prog:Program} {w:World} {A:Around} {E:Value->Shared->Prop} {s:Shared}
end
section
variable {X:Cx} {tg a:Expr} {ta:TA} {p p2 pos pos2:Pos}
end
section
variable {X:Cx} {F:Fr0} {O O2 OL:List Nat} {fr:Bool} {a:Expr} {body:List Stmt} {as:FEs} {ei:List Es} {tb:FS} {p2 pos pn pr pm pq:Pos}
end
section
variable {X:Cx} {a b c:Expr} {fa fb fc:FE} {ea eb ec:List Es} {pos:Pos}
end
section
variable {K:PySem.W.Frag} {F:Fr0} {held:List Hd} {i r:Nat} {al:Option Nat} {a:Addr} {bs:List Addr} {dss:List (List D)} {σ:St} {ρ:ad} {H H':Hp}
end
section
variable {X:Cx} {F:Fr0} {i r:Nat} {al al1 al2:Option Nat} {fr:Bool} {f g:FS} {st:Stmt} {ar:List Stmt} {pos p2 p3 p4:Pos} {e b1 b2:Expr} {fe f1 f2:FE} {es e1 e2:List Es}
end
section
variable {K:PySem.W.Frag} {F:Fr0} {held:List Hd} {i:Nat} {a:Addr} {bs:List Addr} {dss:List (List D)} {σ:St} {ρ:ad} {H H':Hp}
end
section
variable {X:Cx} {F:Fr0} {O O1 O2 O' OL:List Nat} {i:Nat} {fr:Bool} {f g:FS} {st:Stmt} {ar:List Stmt} {pos p2 p3 p4:Pos} {e:Expr} {fe:FE} {es:List Es}
theorem BA(h1:JX X F i st f)(h2:JXs X F i ar g):JXs X F i (st::ar) (aE f g):=⟨B5 h1.h h2.h⟩
theorem sd(h1:JX X F i st f):JXs X F i [st] f:=⟨B6 h1.h⟩
theorem BB{x:Str}{ap cp:Pos}(he:JF X e fe es)(hN:X.N[i]?=some x:=by rfl)(hv:Vis X.env.scope x:=by first | exact Or.inl rfl | exact Or.inr (Or.inl rfl) | exact Or.inr (Or.inr rfl))(hd:(x == ("__debug__" : Str))=false:=by decide)(hcd:(x == ("__classdict__" : Str))=false:=by decide)(hbase:attributeBase (.Name x p2) "append" X.env (eval (.Name x p2) X.env)=eval (.Name x p2) X.env:=by rfl)(hfew:((backTo cp (starEach [e] X.env)).all (fun x=>!x.1) && (backToKw cp (keywordEach [] X.env)).all (fun x=>x.1.isSome)
      && decide (([e]:List Expr).length+([]:List Keyword).length+(if ([]:List Keyword).isEmpty then 0 else 1) < 30))=true:=by rfl)(hline:(ap.endLine == cp.line)=true:=by rfl)(hs:starEach [e] X.env=(false,eval e X.env)::starEach [] X.env:=by rfl)(hplain:(backTo cp (starEach [] X.env)).any (·.1)=false:=by rfl)(hsw:swapsWith (.Call (.Attribute (.Name x p2) "append" ap) [e] [] cp) none pos.line X.env=pure false:=by rfl):JX X F i (.Expr (.Call (.Attribute (.Name x p2) "append" ap) [e] [] cp) pos) (j5 i fe):=⟨B7 he.h hN hv hd hcd hbase hfew hline hs hplain hsw⟩
theorem BC(t:Nat){x:Str}{a b c:Expr}{body:List Stmt}{as:FEs}{ei:List Es}{tb:FS}{pr pn:Pos}(hN:X.N.Nodup)(hc:X.calm=true)(mr:X.mg "range" = none)(hi:JA X [a,b,c] as ei)(hb:JXs X F i body tb)(h3:t ≠ i:=by decide)(hp:PassesOwn (model X.prog X.w) X.A X.env X.xe:=by exact PassesOwn.never)(hg:Gl X "range":=by rfl)(hst:starEach [a,b,c] X.env=(false,eval a X.env)::starEach [b,c] X.env:=by rfl)(hpl:(backTo pr (starEach [b,c] X.env)).any (·.1)=false:=by rfl)(hxN:X.N[t]?=some x:=by rfl)(hx:Loc X.env.scope x:=by first | exact Or.inl rfl | exact Or.inr rfl)(hfn:X.fn x=true\/X.env.scope.names.lookup x=some .local:=by first | exact .inl rfl | exact .inr rfl)(hs:∀ x,foldedSetIterable (.Call (.Name "range" pn) [a,b,c] [] pr) X.env x=pure x:=by intro _;rfl):JX X F i (.For (.Name x p2) (.Call (.Name "range" pn) [a,b,c] [] pr) body [] pos) (j3 t as tb):=⟨B8 t hN hc mr hi.h hb.h h3 hp hg hst hpl hxN hx hfn hs⟩
theorem BD{x:Str}{pl pr pos2 pos3:Pos}(hc:X.calm=true)(ml:X.mg "list" = none)(mr:X.mg "reversed" = none)(hN:X.N[i]?=some x:=by rfl)(hv:Vis X.env.scope x:=by first | exact Or.inl rfl | exact Or.inr (Or.inl rfl) | exact Or.inr (Or.inr rfl))(hd:(x == ("__debug__" : Str))=false:=by decide)(hcd:(x == ("__classdict__" : Str))=false:=by decide)(hgl:Gl X "list":=by rfl)(hgr:Gl X "reversed":=by rfl)(hs1:starEach [.Name x p2] X.env=(false,eval (.Name x p2) X.env)::starEach [] X.env:=by rfl)(hs:starEach [.Name x p2] X.env=[(false,eval (.Name x p2) X.env)]:=by rfl)(hs2:starEach [.Call (.Name "reversed" pr) [.Name x p2] [] pos2] X.env=[(false,eval (.Call (.Name "reversed" pr) [.Name x p2] [] pos2) X.env)]:=by rfl):JX X F i (.Return (some (.Call (.Name "list" pl) [.Call (.Name "reversed" pr) [.Name x p2] [] pos2] [] pos3)) pos) (i3 i):=⟨B9 hc ml mr hN hv hd hcd hgl hgr hs1 hs hs2⟩
theorem BE(h1:JS X F O st f O1 OL fr)(hn:mT f)(h2:JRs X F O1 ar g O2):JRs X F O (st::ar) (aE f g) O2:=⟨Bb h1.h hn h2.h⟩
theorem BF(i:Nat){x:Str}{lp:Pos}(hN:X.N.Nodup)(he:JF X e fe es)(hn:i < F.n)(hrest:JXs X F i ar g)(hret:j4 g)(hi:X.N[i]?=some x:=by rfl)(hx:Loc X.env.scope x:=by first | exact Or.inl rfl | exact Or.inr rfl)(hs:swapsWith (.List [e] lp) (some (.Name x p2)) pos.line X.env=pure false:=by rfl)(hfn:X.fn x=true\/X.env.scope.names.lookup x=some .local:=by first | exact .inl rfl | exact .inr rfl)(hs1:starEach [e] X.env=(false,eval e X.env)::starEach [] X.env:=by rfl):JRs X F O (.Assign [.Name x p2] (.List [e] lp) pos::ar) (aE (aR i (bD (ae fe ak))) g) O':=⟨Bc i hN he.h hn hrest.h hret hi hx hs hfn hs1⟩
end
section
variable {P:Program} {w:World} {K:PySem.W.Frag} {mg:Str->Option Value} {base:Heap} {x:Str} {j k:Nat} {ps:List Str} {G:List D->Option D}
end
section
variable {X:Cx} {k:Nat} {ps:List Str} {G:List D->Option D} {F:Fr0} {O O' OL:List Nat} {fr:Bool} {x y:Str} {p p2 pos spos:Pos} {e:Expr} {es':List Expr} {as:FEs} {es:List Es} {ar:List Stmt} {fs:FS} {al':Option Nat}
end
section
variable {X:Cx} {elt tg iter:Expr} {ifs:List Expr} {scope:Scope} {own cn:List Str} {caps is:List Nat} {g:TG} {un:D->Option (List D)} {fi:FEs} {ei ee:List Es} {c:ad->Option Bool} {fe:FE} {pos spos p2:Pos} {F:Fr0} {i:Nat} {fr:Bool}
end
section
variable {X:Cx} {elt tg iter:Expr} {ifs:List Expr} {scope:Scope} {own cn:List Str} {n:Nat} {caps is:List Nat} {g:TG} {un:D->Option (List D)} {fi:FEs} {ei:List Es} {c:ad->Option Bool} {fe:FE} {pos:Pos}
end
section
variable {X:Cx} {F:Fr0} {n:Nat} {O O1 O2 O' OL:List Nat} {fr:Bool} {f g:FS} {st:Stmt} {ar:List Stmt} {pos:Pos} {e:Expr} {fe:FE}
end
section
variable {P:Program} {w:World} {K:PySem.W.Frag} {mg:Str->Option Value} {base:Heap} {x:Str} {j k n:Nat} {ps:List Str} {G:List D->Option D}
end
section
variable {X:Cx} {k n:Nat} {ps:List Str} {G:List D->Option D} {x:Str} {p pos:Pos} {e:Expr} {es':List Expr} {as:FEs} {es:List Es}
end
section
variable {K:PySem.W.Frag} {F:Fr0} {held:List Hd} {i n:Nat} {S:List Addr} {v0:V} {d0:D} {σ:St} {ρ:ad} {H H':Hp}
end
section
variable {X:Cx} {F:Fr0} {i n:Nat} {fr:Bool} {f g:FS} {st:Stmt} {ar:List Stmt} {pos p2 p3 p4:Pos} {e:Expr} {fe:FE} {es:List Es}
end
section
variable {X:Cx} {r:Nat} {y:Str} {e:Expr} {d:D} {es:List Es} {pos p2 ap cp:Pos}
end
section
variable {X:Cx} {r1 r2:Nat} {y1 y2:Str} {d:D} {body:List Stmt} {pos p1 p2:Pos}
end
section
variable {X:Cx} {F:Fr0} {i r1 r2:Nat} {x y1 y2:Str} {d:D} {e:Expr} {fe:FE} {es:List Es} {fr:Bool} {ar:List Stmt} {g:FS} {O' OL:List Nat} {pos px py1 py1' py2 pm pl pe2 ap cp:Pos}
end
section
variable {X:Cx} {k n:Nat} {ps:List Str} {G:List D->Option D} {F:Fr0} {O O' OL:List Nat} {fr:Bool} {x y:Str} {p p2 pos spos:Pos} {e:Expr} {es':List Expr} {as:FEs} {es:List Es} {ar:List Stmt} {fs:FS}
end
section
variable {X:Cx} {F:Fr0} {O O':List Nat} {elt tg iter e:Expr} {ifs:List Expr} {scope:Scope} {own cn:List Str} {n k:Nat} {caps is:List Nat} {g:TG} {un:D->Option (List D)} {fi:FEs} {ei es:List Es} {c:ad->Option Bool} {fe:FE} {pos p:Pos} {ps:List Str} {G:List D->Option D} {x:Str} {es':List Expr} {as:FEs}
end
section
variable {X:Cx} {a b c:Expr} {es ea eb ec:List Es} {fa fb fc:FE} {pos p2:Pos} {k:Nat}
end
section
variable {K:PySem.W.Frag} {F:Fr0} {held:List Hd} {O O':List Nat} {σ:St} {ρ:ad} {H H':Hp}
end
section
variable {X:Cx} {F:Fr0} {O O1 O2 O' OL:List Nat} {fr:Bool} {f g:FS} {st:Stmt} {pos p2 p3:Pos} {e b:Expr} {fe fb:FE} {es eb:List Es} {k:Nat}
end
section
variable {X:Cx} {a:Expr} {as:FEs} {es:List Es} {pos pos2 p p2:Pos} {ta:TA}
theorem BG(ml:X.mg "list" = none)(mr:X.mg "range" = none)(ha:JA X [a] as es)(hc:X.calm=true:=by rfl)(hgl:Gl X "list":=by rfl)(hgr:Gl X "range":=by rfl)(hs:starEach [a] X.env=[(false,eval a X.env)]:=by rfl)(hs2:starEach [.Call (.Name "range" p2) [a] [] pos2] X.env=[(false,eval (.Call (.Name "range" p2) [a] [] pos2) X.env)]:=by rfl):JF X (.Call (.Name "list" p) [.Call (.Name "range" p2) [a] [] pos2] [] pos) (eA j6 as) []:=⟨Bj ml mr ha.h hc hgl hgr hs hs2⟩
end
section
variable {P:Program} {w:World} {K:PySem.W.Frag} {mg:Str->Option Value} {base:Heap} {x:Str} {j k:Nat} {ps:List Str} {G:List D->Option D} {fr:Bool}
theorem bh{np n:Nat}{qual:Str}{st:Stmt}{f:Addr}{fd:FuncData}{N:List Str}{body:FS}(O' OL:List Nat)(h1:ps.length=np)(h2:N.length=n)(h3:G=mkF fr np n body)(Fn:Fun K x qual st f fd)(S:FnScope N ps (ai st))(h:∀ (cdv:Value) (A:Around) (outer:List PySem.Env) (s:Shared) (H:Hp) (E:XK) (F:Fr0),F.n=n->Room k (A.deeper (envOfC qual (ai st) s.heap.objs.size f cdv)) ->
      JSs (cK CX0 P w K mg base N qual (ai st) f cdv A outer s H E).nox F [] (aD st) body O' OL fr):
    FnOk P w K mg base CX0 (k+1) f fd ps (spF K G fr):=A5 O' OL h1 h2 h3 Fn S fun cdv A outer s H E F hn hr=>(h cdv A outer s H E F hn hr).h
theorem BH{np n:Nat}{qual:Str}{st:Stmt}{f:Addr}{fd:FuncData}{N:List Str}{body:FS}(O':List Nat)(h1:ps.length=np)(h2:N.length=n)(h3:G=mkF true np n body)(Fn:Fun K x qual st f fd)(S:FnScope N ps (ai st))(h:∀ (cdv:Value) (A:Around) (outer:List PySem.Env) (s:Shared) (H:Hp) (E:XK) (F:Fr0),F.n=n->Room k (A.deeper (envOfC qual (ai st) s.heap.objs.size f cdv)) ->
      JRs (cK CX0 P w K mg base N qual (ai st) f cdv A outer s H E).nox F [] (aD st) body O'):
    FnOk P w K mg base CX0 (k+1) f fd ps (spX K G):=Be O' h1 h2 h3 Fn S fun cdv A outer s H E F hn hr=>(h cdv A outer s H E F hn hr).h
end
end VL
namespace VL
open PySem (Str)
open L2 (atI ixN)
theorem kO{d:D}{ds:List D}(h:bt d=some ds):ck d=false/\items d=some ds:=by
  unfold bt at h
  cases e:ck d <;> rw[e] at h
  · exact⟨rfl,by simpa using h⟩
  · cases h
def WE(e:FE)(ρ:ad)(K:D->Prop):Prop:=∃ d,e ρ=some d/\K d
def WB(e:ad->Option Bool)(ρ:ad)(K:Bool->Prop):Prop:=∃ d,e ρ=some d/\K d
def WA(e:FEs)(ρ:ad)(K:List D->Prop):Prop:=∃ d,e ρ=some d/\K d
def WO(e:FO)(ρ:ad)(K:Option Int->Prop):Prop:=∃ d,e ρ=some d/\K d
def WS(e:FS)(ρ:ad)(K:Out->Prop):Prop:=∃ d,e ρ=some d/\K d
def W2(g:D->D->Option D)(x y:D)(K:D->Prop):Prop:=∃ d,g x y=some d/\K d
def W1(g:D->Option D)(x:D)(K:D->Prop):Prop:=∃ d,g x=some d/\K d
def WF(F:List D->Option D)(ds:List D)(K:D->Prop):Prop:=∃ d,F ds=some d/\K d
def kT(K:Bool->Prop):D->Prop
  | .bl b=>K b
  | _=>False
def n5(g:FS)(Q:Out->Prop):Out->Prop
  | .nx ρ=>WS g ρ Q
  | o=>Q o
def se(K:D->Prop):Out->Prop
  | .rt d=>K d
  | _=>False
def kIf(b:Bool)(A B:Prop):Prop:=(b=true->A)/\(b=false->B)
section
variable {ρ:ad} {K:D->Prop} {KB:Bool->Prop} {KL:List D->Prop} {KO:Option Int->Prop} {Q:Out->Prop} {a b c:FE} {f g:FS} {t t':ad->Option Bool}
theorem BI{Q':Out->Prop}(h:WS f ρ Q)(i:∀ d,Q d->Q' d):WS f ρ Q':=let ⟨d,e,k⟩:=h;⟨d,e,i d k⟩
theorem jc{F:List D->Option D}{ds:List D}{K':D->Prop}(h:WF F ds K)(i:∀ d,K d->K' d):WF F ds K':=let ⟨d,e,k⟩:=h;⟨d,e,i d k⟩
theorem bb{F:List D->Option D}{ds:List D}{d:D}(h:F ds=some d)(k:K d):WF F ds K:=⟨d,h,k⟩
theorem bu{F:List D->Option D}{ds:List D}{d:D}(h:WF F ds (fun x=>x=d)):F ds=some d:=by obtain⟨_,e,rfl⟩:=h;exact e
theorem BJ{i:Nat}{d:D}(h:aa i ρ=some d)(k:K d):WE (aa i) ρ K:=⟨d,h,k⟩
theorem BK{d:D}(k:K d):WE (eC d) ρ K:=⟨d,rfl,k⟩
theorem BL{g:D->D->Option D}(h:WE a ρ fun x=>WE b ρ fun y=>W2 g x y K):WE (e2 g a b) ρ K:=by
  obtain⟨x,e1,y,e2,d,e3,k⟩:=h
  exact⟨d,by simp only[VL.e2,e1,e2,Option.bind_some,e3],k⟩
theorem BM{g:D->Option D}(h:WE a ρ fun x=>W1 g x K):WE (e1 g a) ρ K:=by
  obtain⟨x,e1,d,e3,k⟩:=h
  exact⟨d,by simp only[VL.e1,e1,Option.bind_some,e3],k⟩
theorem dH{C:Int->Int->Prop}[∀ i j,Decidable (C i j)]{k:Int->Int->D}{i j:Int}(hc:C i j)(h:K (k i j)):W2 (gI C k) (.int i) (.int j) K:=⟨_,by simp only[gI,if_pos hc],h⟩
theorem BN{i j:Int}(h:K (.int (i+j))):W2 aT (.int i) (.int j) K:=dH trivial h
theorem BO{i j:Int}(h:K (.int (i - j))):W2 bw (.int i) (.int j) K:=dH trivial h
theorem sf{i j:Int}(hc:okMul i j)(h:K (.int (i * j))):W2 bd (.int i) (.int j) K:=dH hc h
theorem BP{i j:Int}(hc:iO i j)(h:K (.int (i / j))):W2 gR (.int i) (.int j) K:=dH hc h
theorem BQ{i j:Int}(hc:ki i j)(h:K (.int (i % j))):W2 e7 (.int i) (.int j) K:=dH hc h
theorem BR{i j:Int}(hc:iP i j)(h:∀ v,v=i ^ j.toNat->K (.int v)):W2 gS (.int i) (.int j) K:=dH hc (h _ rfl)
theorem BS{i j:Int}(h:K (.bl (decide (i < j)))):W2 ltI (.int i) (.int j) K:=dH trivial h
theorem BT{i j:Int}(h:K (.bl (decide (i<=j)))):W2 leI (.int i) (.int j) K:=dH trivial h
theorem BU{i j:Int}(h:K (.bl (decide (j < i)))):W2 gtI (.int i) (.int j) K:=dH trivial h
theorem BV{i j:Int}(h:K (.bl (decide (j<=i)))):W2 geI (.int i) (.int j) K:=dH trivial h
theorem BW{i:Int}(h:K (.int (-i))):W1 cL (.int i) K:=⟨_,rfl,h⟩
theorem BX{i j:Int}(h:K (.bl (decide (i=j)))):W2 eqD (.int i) (.int j) K:=⟨_,rfl,h⟩
theorem BY{i j:Int}(h:K (.bl (!decide (i=j)))):W2 neD (.int i) (.int j) K:=⟨_,rfl,h⟩
theorem BZ{i j:Bool}(h:K (.bl (decide (i=j)))):W2 eqD (.bl i) (.bl j) K:=⟨_,rfl,h⟩
theorem n6{x d:D}{i:Int}(e:ixD x (.int i)=some d)(h:K d):W2 ixD x (.int i) K:=⟨_,e,h⟩
theorem C0(h:WE a ρ (kT KB)):WB (eT a) ρ KB:=by
  obtain⟨d,e,k⟩:=h
  cases d <;> first | exact k.elim | exact⟨_,by simp only[eT,e,Option.bind_some],k⟩
theorem C1(h:WE a ρ (kT KB)):WB (cX a) ρ KB:=by
  obtain⟨d,e,k⟩:=h
  cases d <;> first | exact k.elim | exact⟨_,by simp only[cX,e,Option.bind_some,tru],k⟩
theorem C2{b:Bool}(h:KB b):kT KB (.bl b):=h
theorem sg(h:WS g ρ Q):n5 g Q (.nx ρ):=h
theorem C3{d:D}(h:Q (.rt d)):n5 g Q (.rt d):=h
theorem sh{d:D}(h:K d):se K (.rt d):=h
theorem C4(h:WB t ρ fun b=>kIf b (WB t' ρ KB) (KB false)):WB (gW t t') ρ KB:=by
  obtain⟨b,e,k1,k2⟩:=h
  cases b with
  | false=>exact⟨false,by simp only[gW,e,Option.bind_some];rfl,k2 rfl⟩
  | true=>obtain⟨b',e',k'⟩:=k1 rfl;exact⟨b',by simp only[gW,e,Option.bind_some,if_pos,e'],k'⟩
theorem C5(h:WB t ρ fun b=>kIf b (KB true) (WB t' ρ KB)):WB (bOr t t') ρ KB:=by
  obtain⟨b,e,k1,k2⟩:=h
  cases b with
  | true=>exact⟨true,by simp only[bOr,e,Option.bind_some,if_pos],k1 rfl⟩
  | false=>obtain⟨b',e',k'⟩:=k2 rfl;exact⟨b',by simp[bOr,e,e'],k'⟩
theorem C6(h:WB t ρ fun b=>KB (!b)):WB (cY t) ρ KB:=by
  obtain⟨b,e,k⟩:=h
  exact⟨!b,by simp only[cY,e,Option.map_some],k⟩
theorem C7(h:WE a ρ (kT fun x=>kIf x (WE b ρ K) (K (.bl false)))):WE (bR a b) ρ K:=by
  obtain⟨d,e,k⟩:=h
  cases d with
  | bl x =>
    cases x with
    | true=>obtain⟨y,e',k'⟩:=k.1 rfl;exact⟨y,by simp only[bR,e,Option.bind_some,e'],k'⟩
    | false=>exact⟨.bl false,by simp only[bR,e,Option.bind_some],k.2 rfl⟩
  | _=>exact k.elim
theorem C8(h:WE a ρ (kT fun x=>K (.bl (!x)))):WE (gX a) ρ K:=by
  obtain⟨d,e,k⟩:=h
  cases d <;> first | exact k.elim | exact⟨_,by simp only[gX,e,Option.bind_some],k⟩
theorem bp{P:Prop}[Decidable P]{A B:Prop}(h1:P->A)(h2:¬ P->B):kIf (decide P) A B:=⟨fun e=>h1 (of_decide_eq_true e),fun e=>h2 (of_decide_eq_false e)⟩
theorem n8{P:Prop}[Decidable P]{A B:Prop}(h1:¬ P->A)(h2:P->B):kIf (!decide P) A B:=⟨fun e=>h1 (by simpa using e),fun e=>h2 (by simpa using e)⟩
theorem sj{A B:Prop}(h:A):kIf true A B:=⟨fun _=>h,fun e=>nomatch e⟩
theorem sk{A B:Prop}(h:B):kIf false A B:=⟨fun e=>(nomatch e),fun _=>h⟩
theorem C9{A B:Prop}(h:A):kIf (!false) A B:=sj h
theorem Ca{A B:Prop}(h:B):kIf (!true) A B:=sk h
theorem Cb(h:KL []):WA ak ρ KL:=⟨[],rfl,h⟩
theorem Cc{r:FEs}(h:WE a ρ fun d=>WA r ρ fun ds=>KL (d::ds)):WA (ae a r) ρ KL:=by
  obtain⟨d,e,ds,e',k⟩:=h
  exact⟨_,by simp only[ae,e,e',Option.bind_some],k⟩
theorem Cd{r:FEs}(h:WA r ρ fun ds=>ds.length<=1000/\K (.lst ds)):WE (bD r) ρ K:=by
  obtain⟨ds,e,l,k⟩:=h
  exact⟨_,by simp only[bD,e,Option.bind_some,if_pos l],k⟩
theorem Ce{r:FEs}(h:WA r ρ fun ds=>ds.length<=1000/\K (.tup ds)):WE (gY r) ρ K:=by
  obtain⟨ds,e,l,k⟩:=h
  exact⟨_,by simp only[gY,e,Option.bind_some,if_pos l],k⟩
theorem Cf{F:List D->Option D}{r:FEs}(h:WA r ρ fun ds=>WF F ds K):WE (eA F r) ρ K:=by
  obtain⟨ds,e,d,e',k⟩:=h
  exact⟨d,by simp only[eA,e,Option.bind_some,e'],k⟩
theorem Cg{g g':D->D->Option D}(h:WE a ρ fun x=>WE b ρ fun y=>W2 g x y (kT fun z=>kIf z (WE c ρ fun w=>W2 g' y w K) (K (.bl false)))):WE (e3c g g' a b c) ρ K:=by
  obtain⟨x,e1,y,e2,d,e3,k⟩:=h
  cases d with
  | bl z =>
    cases z with
    | true=>obtain⟨w,e4,d,e5,k⟩:=k.1 rfl;exact⟨d,by simp only[e3c,e1,e2,e3,e4,e5,Option.bind_some],k⟩
    | false=>exact⟨.bl false,by simp only[e3c,e1,e2,e3,Option.bind_some],k.2 rfl⟩
  | _=>exact k.elim
theorem Ch(h:Q (.nx ρ)):WS eJ ρ Q:=⟨_,rfl,h⟩
theorem Ci(h:WS f ρ (n5 g Q)):WS (aE f g) ρ Q:=by
  obtain⟨o,e,k⟩:=h
  cases o with
  | nx ρ'=>obtain⟨o',e',k'⟩:=k;exact⟨o',by simp only[aE,e,Option.bind_some,e'],k'⟩
  | rt d=>exact⟨_,by simp only[aE,e,Option.bind_some],k⟩
  | bk d=>exact⟨_,by simp only[aE,e,Option.bind_some],k⟩
  | ct d=>exact⟨_,by simp only[aE,e,Option.bind_some],k⟩
theorem Cj(h:WB t ρ fun x=>kIf x (WS f ρ Q) (WS g ρ Q)):WS (sIf t f g) ρ Q:=by
  obtain⟨x,e,k1,k2⟩:=h
  cases x with
  | true=>obtain⟨d,e',k⟩:=k1 rfl;exact⟨d,by simp only[sIf,e,Option.bind_some,if_pos,e'],k⟩
  | false=>obtain⟨d,e',k⟩:=k2 rfl;exact⟨d,by simp[sIf,e,e'],k⟩
theorem Ck(h:WE a ρ fun d=>Q (.rt d)):WS (aO a) ρ Q:=by
  obtain⟨d,e,k⟩:=h
  exact⟨_,by simp only[aO,e,Option.map_some],k⟩
theorem Cl{i:Nat}(h:WE a ρ fun d=>Q (.nx (ρ.set i (some d)))):WS (aR i a) ρ Q:=by
  obtain⟨d,e,k⟩:=h
  exact⟨_,by simp only[aR,e,Option.map_some],k⟩
theorem Cm{is:List Nat}(h:WE a ρ fun d=>∃ ds,d=.tup ds/\ds.length=is.length/\Q (.nx ((is.zip ds).foldl (fun r p=>r.set p.1 (some p.2)) ρ))):WS (hW is a) ρ Q:=by
  obtain⟨d,e,ds,rfl,l,k⟩:=h
  exact⟨_,by simp only[hW,e,Option.bind_some,if_pos l],k⟩
theorem sm{i:Nat}{ds:List D}(hv:aa i ρ=some (.lst ds))(hl:ds.length < 100000)(h:WE a ρ fun d=>Q (.nx (ρ.set i (some (.lst (ds++[d])))))):WS (hV i a) ρ Q:=by
  obtain⟨d,e,k⟩:=h
  exact⟨_,by simp only[hV,hv,e,Option.bind_some,if_pos hl],k⟩
theorem Cn{i:Nat}{ix:FE}{ds:List D}{k:Int}{j:Nat}(hv:aa i ρ=some (.lst ds))(h:WE a ρ fun d=>WE ix ρ fun x=>∃ k j,x=.int k/\ixN ds.length k=some j/\Q (.nx (ρ.set i (some (.lst (ds.set j d)))))):WS (iT i ix a) ρ Q:=by
  obtain⟨d,e,x,e',k,j,rfl,hj,q⟩:=h
  exact⟨_,by simp only[iT,hv,e,e',hj,Option.bind_some],q⟩
theorem Co(h:KO none):WO km ρ KO:=⟨_,rfl,h⟩
theorem Cp(h:WE a ρ fun d=>∃ i,d=.int i/\KO (some i)):WO (fE a) ρ KO:=by
  obtain⟨d,e,i,rfl,k⟩:=h
  exact⟨_,by simp only[fE,e,Option.bind_some],k⟩
theorem Cq{lo hi:FO}(h:WE a ρ fun x=>WO lo ρ fun l=>WO hi ρ fun u=>∃ ds,bt x=some ds/\K (.lst (cZ ds l u))):WE (eSl a lo hi) ρ K:=by
  obtain⟨x,e,l,e1,u,e2,ds,h1,k⟩:=h
  obtain⟨h1,h2⟩:=kO h1
  exact⟨_,by simp[eSl,e,e1,e2,h1,h2],k⟩
theorem Cr{lo hi:FO}(h:WE a ρ fun x=>WO lo ρ fun l=>WO hi ρ fun u=>∃ ds,x=.tup ds/\¬ (HT.sIx ds.length 0 l=0/\HT.sIx ds.length ds.length u=ds.length)/\K (.tup (cZ ds l u))):WE (iY a lo hi) ρ K:=by
  obtain⟨x,e,l,e1,u,e2,ds,rfl,hn,k⟩:=h
  exact⟨_,by simp only[iY,e,e1,e2,Option.bind_some,if_neg hn],k⟩
theorem bf{fr:Bool}{np n:Nat}{body:FS}{ds:List D}(hl:ds.length=np)(h:WS body (ds.map some++List.replicate (n - np) none) (se K)):WF (mkF fr np n body) ds K:=by
  obtain⟨o,e,k⟩:=h
  cases o with
  | rt d=>exact⟨d,by simp only[mkF,if_pos hl,e,Option.bind_some],k⟩
  | _=>exact k.elim
theorem bO{F:List D->Option D}{ds:List D}(h:WF F ds fun d=>b6 d=true/\K d):WF (scF F) ds K:=by
  obtain⟨d,e,s,k⟩:=h
  exact⟨d,by simp only[scF,e,Option.bind_some,if_pos s],k⟩
end
def i8(go:ad->Prop)(Q:Out->Prop):Out->Prop
  | .nx ρ=>go ρ
  | .ct ρ=>go ρ
  | .bk ρ=>Q (.nx ρ)
  | .rt d=>Q (.rt d)
theorem n9{body:D->FS}{Q:Out->Prop}(I:List D->ad->Prop)(he:∀ ρ,I [] ρ->Q (.nx ρ))(hs:∀ x r ρ,I (x::r) ρ->WS (body x) ρ (i8 (I r) Q)):
    ∀ (ds:List D) (ρ:ad),I ds ρ->WS (aZ body ds) ρ Q
  | [],ρ,h=>⟨_,rfl,he ρ h⟩
  | x::r,ρ,h=>by
    obtain⟨o,e,k⟩:=hs x r ρ h
    cases o with
    | nx ρ'=>obtain⟨o',e',k'⟩:=n9 I he hs r ρ' k;exact⟨o',by simp only[aZ,e,Option.bind_some,e'],k'⟩
    | ct ρ'=>obtain⟨o',e',k'⟩:=n9 I he hs r ρ' k;exact⟨o',by simp only[aZ,e,Option.bind_some,e'],k'⟩
    | bk ρ'=>exact⟨_,by simp only[aZ,e,Option.bind_some],k⟩
    | rt d=>exact⟨_,by simp only[aZ,e,Option.bind_some],k⟩
theorem na{α:Type}{body:D->FS}{Q:Out->Prop}{ρ:ad}(enc:α->D)(xs:List α)(I:Nat->ad->Prop)(h0:I 0 ρ)(he:∀ ρ,I xs.length ρ->Q (.nx ρ))(hs:∀ (k:Nat) (h:k < xs.length) (ρ:ad),I k ρ->WS (body (enc xs[k])) ρ (i8 (I (k+1)) Q)):WS (aZ body (xs.map enc)) ρ Q:=by
  refine n9 (fun r ρ=>∃ k,k<=xs.length/\r=(xs.drop k).map enc/\I k ρ) ?_ ?_ _ ρ ⟨0,Nat.zero_le _,by simp,h0⟩
  · rintro ρ ⟨k,hk,e,i⟩
    have:k=xs.length:=by
      have:=congrArg List.length e
      simp at this;omega
    subst this
    exact he ρ i
  · rintro x r ρ ⟨k,hk,e,i⟩
    have hk':k < xs.length:=by
      have:=congrArg List.length e
      simp at this;omega
    rw[List.drop_eq_getElem_cons hk',List.map_cons] at e
    injection e with e1 e2
    subst e1
    refine BI (hs k hk' ρ i) fun o=>?_
    cases o with
    | nx ρ'=>exact fun h=>⟨k+1,hk',e2,h⟩
    | ct ρ'=>exact fun h=>⟨k+1,hk',e2,h⟩
    | bk ρ'=>exact fun h=>h
    | rt d=>exact fun h=>h
theorem eS{α:Type}{t:Nat}{tb:FS}{Q:Out->Prop}{ρ:ad}(enc:α->D)(xs:List α)(I:Nat->ad->Prop)(h0:I 0 ρ)(he:∀ ρ,I xs.length ρ->Q (.nx ρ))(hs:∀ (k:Nat) (h:k < xs.length) (ρ:ad),I k ρ->WS tb (ρ.set t (some (enc xs[k]))) (i8 (I (k+1)) Q)):WS (aZ (fun x ρ=>tb (ρ.set t (some x))) (xs.map enc)) ρ Q :=
  na enc xs I h0 he hs
theorem so{go:ad->Prop}{Q:Out->Prop}{ρ:ad}(h:go ρ):i8 go Q (.nx ρ):=h
theorem Cs{t:Nat}{it:FE}{tb:FS}{ρ:ad}{Q:Out->Prop}(h:WE it ρ fun d=>∃ ds,bt d=some ds/\WS (aZ (fun x ρ=>tb (ρ.set t (some x))) ds) ρ Q):WS (iW t it tb) ρ Q:=by
  obtain⟨d,e,ds,h1,o,e',k⟩:=h
  obtain⟨h1,h2⟩:=kO h1
  exact⟨o,by simp[iW,e,h1,h2,e'],k⟩
def sr(n:Nat):List D:=(List.range n).map fun k=>.int (k:Nat)
theorem ss(n:Nat):cg 0 n=sr n:=by
  unfold cg sr
  congr 1;funext k;rw[Int.zero_add]
theorem Ct{t:Nat}{as:FEs}{tb:FS}{ρ:ad}{Q:Out->Prop}(h:WA as ρ fun ds=>∃ j,ds=[.int j]/\okR j/\WS (aZ (fun x ρ=>tb (ρ.set t (some x))) ((List.range j.toNat).map fun k=>.int (k:Nat))) ρ Q):WS (eo t as tb) ρ Q:=by
  obtain⟨ds,e,j,rfl,h1,o,e',k⟩:=h
  exact⟨o,by simp only[eo,e,Option.bind_some,if_pos h1,ss];exact e',k⟩
theorem Cu{t:Nat}{it:FE}{tb:FS}{ρ:ad}{Q:Out->Prop}(h:WE it ρ fun d=>∃ ds,bt d=some ds/\WS (aZ (fun x ρ=>tb (ρ.set t (some x))) ds.reverse) ρ Q):WS (hX t it tb) ρ Q:=by
  obtain⟨d,e,ds,h1,o,e',k⟩:=h
  exact⟨o,by simp[hX,e,h1,e'],k⟩
theorem Cv{t u:Nat}{it:FE}{tb:FS}{ρ:ad}{Q:Out->Prop}(h:WE it ρ fun d=>∃ ds,bt d=some ds/\WS (aZ (eM t u tb) (cA ds)) ρ Q):WS (j1 t u it tb) ρ Q:=by
  obtain⟨d,e,ds,h1,o,e',k⟩:=h
  exact⟨o,by simp[j1,e,h1,e'],k⟩
theorem Cw{t u:Nat}{it it':FE}{tb:FS}{ρ:ad}{Q:Out->Prop}(h:WE it ρ fun d=>WE it' ρ fun d'=>∃ ds,bt d=some ds/\∃ es,bt d'=some es/\WS (aZ (eM t u tb) (cB ds es)) ρ Q):WS (j2 t u it it' tb) ρ Q:=by
  obtain⟨d,e,d',e1,ds,h1,es,h2,o,e',k⟩:=h
  exact⟨o,by simp[j2,e,e1,h1,h2,e'],k⟩
def WI(f:FEs)(ρ:ad)(K:List D->Prop):Prop:=∃ d,f ρ=some d/\K d
theorem Cy{a:FE}{ρ:ad}{K:List D->Prop}(h:WE a ρ fun d=>∃ ds,bt d=some ds/\K ds):WI (dF a) ρ K:=by
  obtain⟨d,e,ds,h1,k⟩:=h
  obtain⟨h1,h2⟩:=kO h1
  exact⟨ds,by simp[dF,e,h1,h2],k⟩
theorem Cz{as:FEs}{ρ:ad}{K:List D->Prop}(h:WA as ρ fun ds=>∃ j,ds=[.int j]/\okR j/\K ((List.range j.toNat).map fun k=>.int (k:Nat))):WI (iR1 as) ρ K:=by
  obtain⟨ds,e,j,rfl,h1,k⟩:=h
  exact⟨_,by simp only[iR1,e,Option.bind_some,if_pos h1,ss];rfl,k⟩
theorem CA{a:FE}{ρ:ad}{K:List D->Prop}(h:WE a ρ fun d=>∃ ds,bt d=some ds/\K (cA ds)):WI (iZ a) ρ K:=by
  obtain⟨d,e,ds,h1,k⟩:=h
  exact⟨_,by simp only[iZ,e,h1,Option.bind_some],k⟩
theorem CB{a b:FE}{ρ:ad}{K:List D->Prop}(h:WE a ρ fun d=>WE b ρ fun e=>∃ ds,bt d=some ds/\∃ es,bt e=some es/\K (cB ds es)):WI (hZ a b) ρ K:=by
  obtain⟨d,e,d',e',ds,h1,es,h2,k⟩:=h
  exact⟨_,by simp only[hZ,e,e',h1,h2,Option.bind_some],k⟩
theorem su{α:Type}{g:D->Option (Option D)}(enc:α->D)(f:α->D):∀ (xs:List α),(∀ x ∈ xs,g (enc x)=some (some (f x)))->er g (xs.map enc)=some (xs.map f)
  | [],_=>rfl
  | x::r,h=>by
    have h1:=h x (List.mem_cons_self ..)
    have h2:=su enc f r fun y hy=>h y (List.mem_cons_of_mem _ hy)
    simp only[List.map_cons,er,h1,h2,Option.bind_some]
theorem i9{α:Type}{nown:Nat}{caps is:List Nat}{un:D->Option (List D)}{fi:FEs}{fe:FE}{ρ:ad}{K:D->Prop}(h:WI fi ρ fun ds=>∃ (enc:α->D) (f:α->D) (xs:List α),ds=xs.map enc/\xs.length < 100000/\(∀ x ∈ xs,∃ us,un (enc x)=some us/\WE fe (b8 (be nown caps ρ) is us) fun d=>d=f x)/\K (.lst (xs.map f))):
    WE (bM nown caps is un fi bN fe) ρ K:=by
  obtain⟨ds,e,enc,f,xs,rfl,hl,ht,k⟩:=h
  refine⟨_,?_,k⟩
  have:er (fL is un bN fe (be nown caps ρ)) (xs.map enc)=some (xs.map f):=su enc f xs fun x hx=>by
    obtain⟨us,h1,d,h2,rfl⟩:=ht x hx
    simp[fL,h1,bN,h2]
  simp only[bM,e,Option.bind_some,List.length_map,if_pos hl,this,Option.map_some]
theorem jd{i:Int}(h1:-(2 ^ 1000:Int) < i)(h2:i < 2 ^ 1000):mid i:=by
  unfold mid
  have:i.natAbs < 2 ^ 1000:=by omega
  by_cases z:i.natAbs=0
  · rw[z];decide
  · exact Nat.lt_trans ((Nat.log2_lt z).mpr this) (by decide)
theorem nc{i j:Int}(h1:-18446744073709551616 < i)(h2:i < 18446744073709551616):okMul i j:=.inl ⟨h1,h2⟩
theorem CC{i j:Int}(h1:-18446744073709551616 < j)(h2:j < 18446744073709551616):okMul i j:=.inr (.inl ⟨h1,h2⟩)
theorem sv{i j:Int}(h1:mid i)(h2:mid j):okMul i j:=.inr (.inr ⟨h1,h2⟩)
theorem CD{i j:Int}(h1:0 < j)(h2:mid j):iO i j:=⟨h1,h2⟩
theorem CF{i j:Int}(h1:0 < j):ki i j:=h1
theorem CG{i j:Int}(h1:0<=j)(h2:j<=1000000)(h3:-18446744073709551616 < i)(h4:i < 18446744073709551616):iP i j:=⟨⟨h1,h2⟩,h3,h4⟩
section
variable {ρ:ad} {K:D->Prop} {Q:Out->Prop}
theorem ng{xs:List D}{i:Int}(h0:0<=i)(h1:i < xs.length):ixD (.lst xs) (.int i)=some (xs[i.toNat]'(by omega)):=by
  simp only[ixD,items,Option.bind_some,atI,ixN,if_pos h0,if_pos h1]
  exact List.getElem?_eq_getElem (by omega)
theorem CH{xs:List D}{i:Int}{P:D->Prop}(h0:0<=i)(h1:i < xs.length)(hP:∀ v ∈ xs,P v)(h:∀ v,P v->K v):W2 ixD (.lst xs) (.int i) K :=
  ⟨_,ng h0 h1,h _ (hP _ (List.getElem_mem _))⟩
def AllI(lo hi:Int):List D->Prop
  | []=>True
  | .int i::r=>(lo<=i/\i<=hi)/\AllI lo hi r
  | _::_=>False
theorem AllI.mem{lo hi:Int}:∀ {xs:List D},AllI lo hi xs->∀ v ∈ xs,∃ i,v=.int i/\lo<=i/\i<=hi
  | [],_,_,h=>nomatch h
  | x::r,h,v,hv=>by
    cases x <;> first | exact h.elim | skip
    rename_i i
    rcases List.mem_cons.mp hv with rfl | hv
    · exact⟨i,rfl,h.1⟩
    · exact AllI.mem h.2 v hv
theorem CI(lo hi:Int){xs:List D}{i:Int}(h0:0<=i)(h1:i < xs.length)(hP:AllI lo hi xs)(h:∀ v:Int,lo<=v->v<=hi->K (.int v)):W2 ixD (.lst xs) (.int i) K :=
  CH (P:=fun v=>∃ i,v=.int i/\lo<=i/\i<=hi) h0 h1 hP.mem fun v ⟨i,e,a,b⟩=>e ▸ h i a b
def AllZ:List D->Prop
  | []=>True
  | .int _::r=>AllZ r
  | _::_=>False
theorem AllZ.mem:∀ {xs:List D},AllZ xs->∀ v ∈ xs,∃ i,v=.int i
  | [],_,_,h=>nomatch h
  | x::r,h,v,hv=>by
    cases x <;> first | exact h.elim | skip
    rename_i i
    rcases List.mem_cons.mp hv with rfl | hv
    · exact⟨i,rfl⟩
    · exact AllZ.mem (show AllZ r from h) v hv
theorem CJ{xs ys:List D}(hl:xs.length+ys.length<=100000)(h:K (.lst (xs++ys))):W2 dE (.lst xs) (.lst ys) K:=⟨_,by simp only[dE,if_pos hl],h⟩
theorem CK{i:Int}(h:K (.bl true)):W1 (da "int") (.int i) K:=⟨_,rfl,h⟩
theorem CL{i:Int}(h:K (.bl false)):W1 (da "bool") (.int i) K:=⟨_,rfl,h⟩
theorem cE{α:Type}(xs:List α)(n:Nat)(d:α)(h:n < xs.length):xs.getD n d=xs[n]:=by
  rw[List.getD_eq_getElem?_getD,List.getElem?_eq_getElem h];rfl
abbrev DI(xs:List Int):D:=.lst (xs.map .int)
abbrev DII(xs:List (List Int)):D:=.lst (xs.map DI)
theorem CM(ns:List Int):fG (ns.map D.int)=some ns:=by
  induction ns with
  | nil=>rfl
  | cons n r ih=>simp only[List.map_cons,fG,ih,Option.map_some]
theorem CN{xs:List Int}(h:K (.int xs.sum)):WF (aI cy) [DI xs] K:=⟨_,by simp[aI,cy,ck,items,CM],h⟩
theorem CO{xs:List D}(h:K (.int (xs.length:Nat))):WF (aI br) [.lst xs] K:=⟨_,rfl,h⟩
theorem CP{xs:List Int}(h:K (.int (xs.length:Nat))):WF (aI br) [.scr xs] K:=⟨_,by simp[aI,br,items],h⟩
theorem CQ{i j:Int}(h:K (.int (max i j))):WF (cx ef) [.int i,.int j] K:=by
  refine⟨_,rfl,?_⟩
  have:(if j > i then j else i)=max i j:=by omega
  rw[this];exact h
theorem CS{i j:Int}(h:K (.int (min i j))):WF (cx fH) [.int i,.int j] K:=by
  refine⟨_,rfl,?_⟩
  have:(if j < i then j else i)=min i j:=by omega
  rw[this];exact h
theorem CT{xs:List D}(h:K (.lst xs)):W1 hG (.lst xs) K:=⟨_,rfl,h⟩
theorem CU{xs:List D}(h:K (.lst xs.reverse)):W1 kC (.lst xs) K:=⟨_,rfl,h⟩
theorem bv{xs:List Int}{i:Int}(h0:0<=i)(h1:i < xs.length)(h:K (.int (xs.getD i.toNat 0))):W2 ixD (DI xs) (.int i) K:=by
  refine⟨_,ng h0 (by simpa using h1),?_⟩
  rw[cE _ _ _ (by omega)] at h
  simpa using h
theorem ia{xs:List (List Int)}{i:Int}(h0:0<=i)(h1:i < xs.length)(h:K (DI (xs.getD i.toNat []))):W2 ixD (DII xs) (.int i) K:=by
  refine⟨_,ng h0 (by simpa using h1),?_⟩
  rw[cE _ _ _ (by omega)] at h
  simpa using h
theorem sw{xs:List D}{k:Nat}(h0:0 < k)(h1:k<=xs.length):ixD (.lst xs) (.int (-(k:Int)))=some (xs[xs.length - k]'(by omega)):=by
  simp only[ixD,items,Option.bind_some,atI,ixN,if_neg (show ¬ (0:Int)<=-(k:Int) by omega),if_pos (show -(xs.length:Int)<=-(k:Int) by omega)]
  rw[show (-(k:Int)+xs.length).toNat=xs.length - k by omega]
  exact List.getElem?_eq_getElem (by omega)
theorem sx{xs:List Int}(h1:xs ≠ [])(h:K (.int (xs.getLast h1))):W2 ixD (DI xs) (.int (-1)) K:=by
  have hl:1<=(xs.map D.int).length:=by cases xs <;> simp at h1 ⊢
  refine⟨_,sw (k:=1) (by omega) hl,?_⟩
  rw[List.getLast_eq_getElem] at h
  simpa using h
end
theorem je:∀ {l:List Int},(∀ x ∈ l,0<=x)->0<=l.sum
  | [],_=>by simp
  | x::l,h=>by
    have h1:=h x (List.mem_cons_self ..)
    have h2:=je fun y hy=>h y (List.mem_cons_of_mem x hy)
    rw[List.sum_cons];omega
theorem nh{b:Int}:∀ {l:List Int},(∀ x ∈ l,x<=b)->l.sum<=l.length * b
  | [],_=>by simp
  | x::l,h=>by
    have h1:=h x (List.mem_cons_self ..)
    have h2:=nh fun y hy=>h y (List.mem_cons_of_mem x hy)
    rw[List.sum_cons,List.length_cons]
    have:((l.length+1:Nat):Int) * b=l.length * b+b:=by rw[Int.natCast_add,Int.add_mul];omega
    omega
theorem sy(xs:List Int)(x:Int):D.lst (xs.map .int++[.int x])=DI (xs++[x]):=by simp[DI]
theorem sA{α:Type}(enc:α->D)(xs:List α):cA (xs.map enc)=xs.zipIdx.map fun p=>.tup [.int (p.2:Nat),enc p.1]:=by
  unfold cA
  rw[List.zipIdx_map,List.map_map]
  rfl
theorem ni{α β:Type}(enc:α->D)(enc':β->D)(xs:List α)(ys:List β):cB (xs.map enc) (ys.map enc')=(xs.zip ys).map fun p=>.tup [enc p.1,enc' p.2]:=by
  unfold cB
  rw[List.zip_map,List.map_map]
  rfl
theorem CV{α:Type}{t u:Nat}{tb:FS}{Q:Out->Prop}{ρ:ad}(enc:α->D)(xs:List α)(I:Nat->ad->Prop)(h0:I 0 ρ)(he:∀ ρ,I xs.length ρ->Q (.nx ρ))(hs:∀ (k:Nat) (h:k < xs.length) (ρ:ad),I k ρ->WS tb ((ρ.set t (some (.int (k:Nat)))).set u (some (enc xs[k]))) (i8 (I (k+1)) Q)):WS (aZ (eM t u tb) (cA (xs.map enc))) ρ Q:=by
  rw[sA]
  refine na _ _ I h0 (by simpa using he) fun k h ρ i=>?_
  have h':k < xs.length:=by simpa using h
  have:=hs k h' ρ i
  simp only[List.getElem_zipIdx,Nat.zero_add]
  exact this
theorem CW{α β:Type}{t u:Nat}{tb:FS}{Q:Out->Prop}{ρ:ad}(enc:α->D)(enc':β->D)(xs:List α)(ys:List β)(I:Nat->ad->Prop)(h0:I 0 ρ)(he:∀ ρ,I (min xs.length ys.length) ρ->Q (.nx ρ))(hs:∀ (k:Nat) (h:k < xs.length) (h':k < ys.length) (ρ:ad),I k ρ->WS tb ((ρ.set t (some (enc xs[k]))).set u (some (enc' ys[k]))) (i8 (I (k+1)) Q)):WS (aZ (eM t u tb) (cB (xs.map enc) (ys.map enc'))) ρ Q:=by
  rw[ni]
  refine na _ _ I h0 (by simpa using he) fun k h ρ i=>?_
  have h':k < xs.length/\k < ys.length:=by simp at h;omega
  have:=hs k h'.1 h'.2 ρ i
  simp only[List.getElem_zip]
  exact this
theorem jf{x:Int}(h:0<=x)(n:Nat):0<=x ^ n:=by
  induction n with
  | zero=>rw[Int.pow_zero];omega
  | succ n ih=>rw[Int.pow_succ];exact Int.mul_nonneg ih h
theorem eU{x B:Int}{n:Nat}(N:Nat)(h0:0<=x)(h1:x<=B)(hB:1<=B)(hn:n<=N):x ^ n<=B ^ N:=by
  induction N generalizing n with
  | zero => have:n=0:=by omega
            subst this;rw[Int.pow_zero,Int.pow_zero];omega
  | succ N ih =>
    have hp:=jf (x:=B) (by omega) N
    cases n with
    | zero =>
      have:=ih (n:=0) (by omega)
      rw[Int.pow_zero] at this ⊢
      rw[Int.pow_succ]
      calc (1:Int)<=B ^ N:=this
        _=B ^ N * 1:=by omega
        _<=B ^ N * B:=Int.mul_le_mul_of_nonneg_left hB hp
    | succ n =>
      rw[Int.pow_succ,Int.pow_succ]
      exact Int.mul_le_mul (ih (by omega)) h1 h0 hp
theorem jh{α:Type}{nown:Nat}{caps is:List Nat}{un:D->Option (List D)}{fi:FEs}{fe:FE}{ρ:ad}{K:D->Prop}(h:WI fi ρ fun ds=>∃ (enc:α->D) (f:α->Int) (xs:List α),ds=xs.map enc/\xs.length < 100000/\(∀ x ∈ xs,∃ us,un (enc x)=some us/\WE fe (b8 (be nown caps ρ) is us) fun d=>d=.int (f x))/\K (DI (xs.map f))):
    WE (bM nown caps is un fi bN fe) ρ K:=by
  obtain⟨ds,e,enc,f,xs,h1,h2,h3,k⟩:=h
  refine i9 (α:=α) ⟨ds,e,enc,fun x=>.int (f x),xs,h1,h2,h3,?_⟩
  rwa [DI,List.map_map] at k
theorem sB{α:Type}{g:D->Option (Option D)}(enc:α->D)(P:α->Prop):∀ (xs:List α),(∀ x ∈ xs,∃ b,g (enc x)=some (some (.bl b))/\(b=true ↔ P x))->∃ bs:List Bool,er g (xs.map enc)=some (bs.map .bl)/\(bs.all id=true ↔ ∀ x ∈ xs,P x)
  | [],_=>⟨[],rfl,by simp⟩
  | x::r,h=>by
    obtain⟨b,h1,h3⟩:=h x (List.mem_cons_self ..)
    obtain⟨bs,h2,hb⟩:=sB enc P r fun y hy=>h y (List.mem_cons_of_mem _ hy)
    refine⟨b::bs,by simp only[List.map_cons,er,h1,h2,Option.bind_some],?_⟩
    rw[List.all_cons,Bool.and_eq_true,hb,List.forall_mem_cons]
    exact and_congr h3 Iff.rfl
theorem CY(bs:List Bool):fN (bs.map D.bl)=some bs:=by
  induction bs with
  | nil=>rfl
  | cons n r ih=>simp only[List.map_cons,fN,ih,Option.map_some]
theorem nj{α:Type}(P:α->Prop){nown:Nat}{caps is:List Nat}{un:D->Option (List D)}{fi:FEs}{fe:FE}{ρ:ad}{K:D->Prop}(h:WI fi ρ fun ds=>∃ (enc:α->D) (xs:List α),ds=xs.map enc/\xs.length < 100000/\(∀ x ∈ xs,∃ us,un (enc x)=some us/\WE fe (b8 (be nown caps ρ) is us) fun d=>∃ b,d=.bl b/\(b=true ↔ P x))/\∀ bs:List Bool,(bs.all id=true ↔ ∀ x ∈ xs,P x)->K (.lst (bs.map .bl))):
    WE (bM nown caps is un fi bN fe) ρ K:=by
  obtain⟨ds,e,enc,xs,rfl,hl,ht,k⟩:=h
  obtain⟨bs,h1,h2⟩:=sB (g:=fL is un bN fe (be nown caps ρ)) enc P xs fun x hx=>by
    obtain⟨us,h1,d,h2,b,rfl,h3⟩:=ht x hx
    exact⟨b,by simp[fL,h1,bN,h2],h3⟩
  exact⟨_,by simp only[bM,e,Option.bind_some,List.length_map,if_pos hl,h1,Option.map_some],k bs h2⟩
theorem CZ{bs:List Bool}{K:D->Prop}(h:K (.bl (bs.all id))):WF (aI (eK fun bs=>bs.all id)) [.lst (bs.map .bl)] K:=⟨_,by simp only[aI,eK,CY,Option.bind_some],h⟩
theorem D0{α:Type}(a:α)(n:Nat):(List.replicate n [a]).flatten=List.replicate n a:=by
  induction n with
  | zero=>rfl
  | succ n ih=>rw[List.replicate_succ,List.flatten_cons,ih,List.replicate_succ];rfl
theorem D1{a n:Int}{K:D->Prop}(h0:0<=n)(h1:n < 100000)(h:K (DI (List.replicate n.toNat a))):W2 kn (.lst [.int a]) (.int n) K:=by
  refine⟨_,by simp only[kn];rw[if_pos ⟨by simp;omega,by omega,by omega⟩],?_⟩
  rw[D0]
  rwa [DI,List.map_replicate] at h
theorem nk{i:Nat}{ix a:FE}{ρ:ad}{Q:Out->Prop}{ds:List D}(hv:aa i ρ=some (.lst ds))(hl:ds.length < 100000)(h:WE ix ρ fun x=>∃ k,x=.int k/\WE a ρ fun d=>0<=k/\k < 100000/\Q (.nx (ρ.set i (some (.lst (ds.insertIdx (min k.toNat ds.length) d)))))):WS (fO i ix a) ρ Q:=by
  obtain⟨x,e,k,rfl,d,e',h0,h1,q⟩:=h
  exact⟨_,by simp only[fO,hv,e,e',Option.bind_some,if_pos (And.intro hl (And.intro h0 h1))],q⟩
theorem sC{P:Prop}{b:Bool}(e:b=true ↔ P){A B:Prop}(h1:P->A)(h2:¬ P->B):kIf b A B:=⟨fun h=>h1 (e.mp h),fun h=>h2 fun p=>by rw[e.mpr p] at h;cases h⟩
theorem sD(xs:List Int)(x:Int):xs.map D.int++[.int x]=(xs++[x]).map D.int:=by simp
section
variable {ρ:ad} {K:D->Prop} {a:FE}
end
theorem D2{t:Nat}{as:FEs}{tb:FS}{ρ:ad}{Q:Out->Prop}(h:WA as ρ fun ds=>∃ i j,ds=[.int i,.int j,.int (-1)]/\okR i/\okR j/\WS (aZ (fun x ρ=>tb (ρ.set t (some x))) ((List.range (i - j).toNat).map fun k=>.int (i - (k:Nat)))) ρ Q):WS (j3 t as tb) ρ Q:=by
  obtain⟨ds,e,i,j,rfl,h1,h2,o,e',k⟩:=h
  refine⟨o,?_,k⟩
  unfold j3
  rw[e]
  show (if okR i/\okR j/\(-1:Int) = -1 then _ else none)=_
  rw[if_pos ⟨h1,h2,rfl⟩]
  exact e'
theorem D3{xs:List (List Int)}{K:D->Prop}(h1:xs ≠ [])(h:K (DI (xs.getLast h1))):W2 ixD (DII xs) (.int (-1)) K:=by
  have hl:1<=(xs.map DI).length:=by cases xs <;> simp at h1 ⊢
  refine⟨_,sw (k:=1) (by omega) hl,?_⟩
  rw[List.getLast_eq_getElem] at h
  simpa using h
theorem D4{b:Bool}{K:D->Prop}(h:K (.int (if b then 1 else 0))):WF (aI kF) [.bl b] K:=⟨_,rfl,h⟩
theorem no(k:Nat):∀ xs:List D,(∀ x ∈ xs,aX k x x=true)->((xs.zip xs).all fun p=>aX k p.1 p.2)=true
  | [],_=>rfl
  | x::xs,h=>by
    rw[List.zip_cons_cons,List.all_cons,h x List.mem_cons_self,no k xs fun y hy=>h y (List.mem_cons_of_mem _ hy)];rfl
theorem kP:∀ (k:Nat) (d:D),aY k d=true->aX k d d=true
  | k,.non,_=>by cases k <;> rfl
  | k,.bl b,_=>by cases k <;> cases b <;> rfl
  | k,.int i,_=>by cases k <;> simp[aX,fM]
  | k,.str x,_=>by cases k <;> simp[aX,fM]
  | 0,.lst _,h=>by simp[aY] at h
  | 0,.tup _,h=>by simp[aY] at h
  | k,.scr _,h=>by cases k <;> simp[aY] at h
  | k,.dct _ _,h=>by cases k <;> simp[aY] at h
  | k,.ptr _,h=>by cases k <;> simp[aY] at h
  | k+1,.lst xs,h=>by
    rw[aY,List.all_eq_true] at h
    rw[aX,no k xs fun x hx=>kP k x (h x hx)];simp
  | k+1,.tup xs,h=>by
    rw[aY,List.all_eq_true] at h
    rw[aX,no k xs fun x hx=>kP k x (h x hx)];simp
theorem nq{d:D}{K:D->Prop}(hf:aY 4 d=true)(h:K (.bl false)):W2 neD d d K:=⟨_,by rw[neD,if_pos ⟨hf,hf⟩,kP 4 d hf];rfl,h⟩
theorem nr{d:D}{K:D->Prop}(hf:aY 4 d=true)(h:K (.bl true)):W2 eqD d d K:=⟨_,by rw[eqD,if_pos ⟨hf,hf⟩,kP 4 d hf],h⟩
theorem sE(xs:List Int):(xs.map D.int).all b6=true:=by rw[List.all_map,List.all_eq_true];intro _ _;rfl
theorem D5(xs:List (List Int)):(xs.map DI).all mS=true:=by rw[List.all_map,List.all_eq_true];intro x _;exact sE x
theorem D6{i:Nat}{f:FE}{ρ:ad}{Q:Out->Prop}{ds:List D}(hv:aa i ρ=some (.lst ds))(hl:ds.length < 100000)(h:WE f ρ fun d=>∃ xs:List Int,d=DI xs/\Q (.nx (ρ.set i (some (.lst (ds++[DI xs])))))):WS (j5 i f) ρ Q:=by
  obtain⟨d,e1,xs,rfl,q⟩:=h
  exact⟨_,by simp only[j5,hv,e1,Option.bind_some,if_pos (And.intro (sE xs) hl)],q⟩
theorem D7{i:Nat}{ρ:ad}{Q:Out->Prop}{xs:List (List Int)}(hv:aa i ρ=some (DII xs))(h:Q (.rt (DII xs.reverse))):WS (i3 i) ρ Q:=by
  refine⟨.rt (.lst (xs.map DI).reverse),by simp only[i3,hv,Option.bind_some,if_pos (D5 xs)],?_⟩
  rw[<- List.map_reverse];exact h
section
variable {ρ:ad} {K:D->Prop} {KL:List D->Prop} {Q:Out->Prop} {a b c:FE}
theorem D8{ds:List D}(h:a ρ=some (.lst ds))(k:K (.lst ds)):WE (eL a) ρ K:=⟨_,by simp only[eL,h,Option.bind_some],k⟩
theorem D9{i:Nat}{ds:List D}(h:aa i ρ=some (.lst ds))(k:K (.lst ds)):WE (eL (aa i)) ρ K:=D8 h k
end
end VL
namespace VL
open PySem (Str)
open L2 (atI ixN)
inductive Cell where
  | lst (ds:List D)
  | dic (ns:List Str) (ds:List D)
  | ins (C:Nat) (ns:List Str) (ds:List D)
  | dcT (fz:Bool) (ps:List ((Int × Int) × Int))
abbrev Sto:=Nat->Option Cell
def aN(M:Sto)(a:Nat)(c:Cell):Sto:=fun b=>if b=a then some c else M b
def dc(M:Sto)(a:Nat):Sto:=fun b=>if b=a then none else M b
theorem aU{M:Sto}{a:Nat}{c:Cell}:aN M a c a=some c:=by simp[aN]
theorem cF{M:Sto}{a b:Nat}{c:Cell}(h:b ≠ a):aN M a c b=M b:=by simp[aN,h]
theorem cQ{M:Sto}{a:Nat}{c c':Cell}:aN (aN M a c) a c'=aN M a c':=by funext b;unfold aN;split <;> rfl
theorem Da{M:Sto}{a:Nat}{c:Cell}(h:M a=some c):aN M a c=M:=by
  funext b
  by_cases e:b=a
  · subst e;rw[aU,h]
  · rw[cF e]
theorem nt{M:Sto}{a:Nat}:dc M a a=none:=by simp[dc]
theorem nu{M:Sto}{a b:Nat}(h:b ≠ a):dc M a b=M b:=by simp[dc,h]
abbrev QE:=D->Sto->Prop
abbrev NTE:=ad->Sto->QE->Prop
abbrev NTB:=ad->Sto->(Bool->Sto->Prop)->Prop
abbrev NTA:=ad->Sto->(List D->Sto->Prop)->Prop
abbrev NTF:=List D->Sto->QE->Prop
structure EndN where
  nx:ad->Sto->Prop
  rt:D->Sto->Prop
  bk:ad->Sto->Prop:=fun _ _=>False
  ct:ad->Sto->Prop:=fun _ _=>False
abbrev NTS:=EndN->ad->Sto->Prop
def nP(f:FE):NTE:=fun ρ M Q=>WE f ρ fun d=>Q d M
def nPB(f:ad->Option Bool):NTB:=fun ρ M Q=>WB f ρ fun b=>Q b M
def n2(g:D->D->Option D)(ta tb:NTE):NTE:=fun ρ M Q=>ta ρ M fun x M1=>tb ρ M1 fun y M2=>W2 g x y fun d=>Q d M2
def n1(g:D->Option D)(ta:NTE):NTE:=fun ρ M Q=>ta ρ M fun x M1=>W1 g x fun d=>Q d M1
def dI(ta:NTE):NTB:=fun ρ M Q=>ta ρ M fun x M1=>kT (fun b=>Q b M1) x
def eV(ta:NTE):NTB:=fun ρ M Q=>ta ρ M fun x M1=>∃ b,tru x=some b/\Q b M1
def kQ(ta tb:NTB):NTB:=fun ρ M Q=>ta ρ M fun b M1=>kIf b (tb ρ M1 Q) (Q false M1)
def fU(ta:NTB):NTB:=fun ρ M Q=>ta ρ M fun b M1=>Q (!b) M1
def ib(ta tb:NTE):NTE:=fun ρ M Q=>ta ρ M fun x M1=>kT (fun b=>kIf b (tb ρ M1 Q) (Q (.bl false) M1)) x
def aB:NTA:=fun _ M Q=>Q [] M
def am(ta:NTE)(tr:NTA):NTA:=fun ρ M Q=>ta ρ M fun x M1=>tr ρ M1 fun xs M2=>Q (x::xs) M2
def ji(ta:NTA):NTE:=fun ρ M Q=>ta ρ M fun ds M1=>ds.length<=1000/\Q (.lst ds) M1
def ic(ta:NTA):NTE:=fun ρ M Q=>ta ρ M fun ds M1=>ds.length<=1000/\Q (.tup ds) M1
def ie(f:FE):NTE:=fun ρ M Q=>WE f ρ fun d=>∃ ds,d=.lst ds/\∀ a,M a=none->Q (.ptr a) (aN M a (.lst ds))
def kR(ns:List Str)(as:FEs):NTE:=fun ρ M Q=>WA as ρ fun ds=>ds.length=ns.length/\∀ a,M a=none->Q (.ptr a) (aN M a (.dic ns ds))
def nDg(ns:List Str)(i:Nat)(ta:NTE):NTE:=fun ρ M Q=>ta ρ M fun x M1=>∃ a ds d,x=.ptr a/\M1 a=some (.dic ns ds)/\ds[i]?=some d/\Q d M1
def bE(C:Nat)(ns:List Str)(i:Nat)(ta:NTE):NTE:=fun ρ M Q=>ta ρ M fun x M1=>∃ a ds d,x=.ptr a/\M1 a=some (.ins C ns ds)/\ds[i]?=some d/\Q d M1
def bo(T:NTF)(ta:NTA):NTE:=fun ρ M Q=>ta ρ M fun ds M1=>T ds M1 Q
def vw1(M:Sto):D->D
  | .ptr a=>match M a with
    | some (.lst ds)=>.lst ds
    | _=>.ptr a
  | d=>d
def dJ(G:List D->Option D)(ta:NTA):NTE:=fun ρ M Q=>ta ρ M fun ds M1=>WF G (ds.map (vw1 M1)) fun d=>b6 d=true/\Q d M1
def ig(G:List D->Option D)(ta:NTA):NTE:=fun ρ M Q=>ta ρ M fun ds M1=>WF G ds fun d=>Q d M1
def bS(C:Nat)(ns:List Str)(T:NTF)(ta:NTE)(tas:NTA):NTE:=fun ρ M Q=>ta ρ M fun x M1=>∃ a ds0,x=.ptr a/\M1 a=some (.ins C ns ds0)/\tas ρ M1 fun ds M2=>T (x::ds) M2 Q
def kS(C:Nat)(T:NTF)(tas:NTA):NTE:=fun ρ M Q=>tas ρ M fun ds M1=>∀ a,M1 a=none->T (.ptr a::ds) (aN M1 a (.ins C [] [])) fun d M2=>d=.non/\Q (.ptr a) M2
def sN:NTS:=fun E ρ M=>E.nx ρ M
def au(t u:NTS):NTS:=fun E ρ M=>t { E with nx:=fun ρ M=>u E ρ M } ρ M
def bF(tc:NTB)(t u:NTS):NTS:=fun E ρ M=>tc ρ M fun b M1=>kIf b (t E ρ M1) (u E ρ M1)
def fV:NTS:=fun _ _ _=>False
def bi(ta:NTE):NTS:=fun E ρ M=>ta ρ M E.rt
def kU(i:Nat):NTS:=fun E ρ M=>∃ a ds,aa i ρ=some (.ptr a)/\M a=some (.lst ds)/\E.rt (.lst ds) (dc M a)
def b0(i:Nat)(ta:NTE):NTS:=fun E ρ M=>ta ρ M fun d M1=>E.nx (ρ.set i (some d)) M1
def jj(is:List Nat)(ta:NTE):NTS:=fun E ρ M=>ta ρ M fun d M1=>∃ ds,d=.tup ds/\ds.length=is.length/\E.nx ((is.zip ds).foldl (fun r p=>r.set p.1 (some p.2)) ρ) M1
def ij(ns:List Str)(i:Nat)(ta tv:NTE):NTS:=fun E ρ M=>tv ρ M fun v M1=>ta ρ M1 fun x M2=>∃ a ds,x=.ptr a/\M2 a=some (.dic ns ds)/\E.nx ρ (aN M2 a (.dic ns (ds.set i v)))
def fW(C:Nat)(ns:List Str)(i:Nat)(ta tv:NTE):NTS:=fun E ρ M=>tv ρ M fun v M1=>ta ρ M1 fun x M2=>∃ a ds,x=.ptr a/\M2 a=some (.ins C ns ds)/\E.nx ρ (aN M2 a (.ins C ns (ds.set i v)))
def cR(C:Nat)(ns:List Str)(f:Str)(ta tv:NTE):NTS:=fun E ρ M=>tv ρ M fun v M1=>ta ρ M1 fun x M2=>∃ a ds,x=.ptr a/\M2 a=some (.ins C ns ds)/\E.nx ρ (aN M2 a (.ins C (ns++[f]) (ds++[v])))
def jk(ta tv:NTE):NTS:=fun E ρ M=>ta ρ M fun x M1=>∃ a ds0,x=.ptr a/\M1 a=some (.lst ds0)/\tv ρ M1 fun v M2=>∃ ds,M2 a=some (.lst ds)/\ds.length < 100000/\E.nx ρ (aN M2 a (.lst (ds++[v])))
def ik(ta ti tv:NTE):NTS:=fun E ρ M=>tv ρ M fun v M1=>ta ρ M1 fun x M2=>ti ρ M2 fun y M3=>∃ a ds k j,x=.ptr a/\M3 a=some (.lst ds)/\y=.int k/\ixN ds.length k=some j/\E.nx ρ (aN M3 a (.lst (ds.set j v)))
def cS(body:D->NTS):List D->NTS
  | [],E,ρ,M=>E.nx ρ M
  | x::r,E,ρ,M=>body x { E with nx:=fun ρ M=>cS body r E ρ M,ct:=fun ρ M=>cS body r E ρ M,bk:=E.nx } ρ M
def kW(t:Nat)(ta:NTA)(tb:NTS):NTS:=fun E ρ M=>ta ρ M fun ds M1=>∃ j,ds=[.int j]/\okR j/\cS (fun x E ρ M=>tb E (ρ.set t (some x)) M) ((List.range j.toNat).map fun k=>.int (k:Nat)) E ρ M1
def kX(t:Nat)(ta:NTA)(tb:NTS):NTS:=fun E ρ M=>ta ρ M fun ds M1=>∃ i j,ds=[.int i,.int j]/\okR i/\okR j/\cS (fun x E ρ M=>tb E (ρ.set t (some x)) M) ((List.range (j - i).toNat).map fun k=>.int (i+(k:Nat))) E ρ M1
def mkN(np n:Nat)(t:NTS):NTF:=fun ds M Q=>ds.length=np/\t { nx:=fun _ M'=>Q .non M',rt:=Q } (ds.map some++List.replicate (n - np) none) M
def dL(nown:Nat)(te:NTE)(ρb:ad):List D->List D->Sto->(List D->Sto->Prop)->Prop
  | [],done,M,Q=>Q done M
  | x::r,done,M,Q=>te (ρb.set 0 (some x)) M fun d M1=>dL nown te ρb r (done++[d]) M1 Q
def il(caps:List Nat)(ti:NTA)(te:NTE):NTE:=fun ρ M Q=>ti ρ M fun ds M1=>∃ j,ds=[.int j]/\okR j/\j < 1000/\dL 1 te (be 1 caps ρ) ((List.range j.toNat).map fun k=>.int (k:Nat)) [] M1 fun ds M2=>Q (.lst ds) M2
def vw2(M:Sto):D->D
  | .ptr a=>match M a with
    | some (.lst ds)=>.lst (ds.map (vw1 M))
    | _=>.ptr a
  | d=>d
def kY(G:List D->Option D)(ta:NTA):NTE:=fun ρ M Q=>ta ρ M fun ds M1=>WF G (ds.map (vw2 M1)) fun d=>b6 d=true/\Q d M1
def kZ(G:List D->Option D)(ta:NTA):NTE:=fun ρ M Q=>ta ρ M fun ds M1=>WF G (ds.map (vw2 M1)) fun d=>(∃ xs:List Int,d=.lst (xs.map .int))/\Q d M1
def l0(G:List D->Option D)(ta:NTA):NTE:=fun ρ M Q=>ta ρ M fun ds M1=>WF G (ds.map (vw2 M1)) fun d=>Q d M1
def la(ta:NTE):NTE:=fun ρ M Q=>ta ρ M fun x M1=>∃ ds,vw1 M1 x=.lst ds/\Q (.lst ds) M1
def lc(fa:FE)(tb:NTE):NTE:=fun ρ M Q=>WE fa ρ fun x=>tb ρ M fun y M1=>W2 kn x y fun d=>Q d M1
def ld(caps:List Nat)(ti te:NTE):NTE:=fun ρ M Q=>ti ρ M fun d M1=>∃ ds,bt d=some ds/\ds.length<=1000/\dL 1 te (be 1 caps ρ) ds [] M1 fun ds M2=>∀ a,M2 a=none->Q (.ptr a) (aN M2 a (.lst ds))
def jl(ta:NTE):NTS:=fun E ρ M=>ta ρ M fun x M1=>∃ a ds,x=.ptr a/\M1 a=some (.lst ds)/\E.nx ρ (aN M1 a (.lst ds.reverse))
def dj(body:D->NTS)(a:Nat)(all:List D):List D->NTS
  | [],E,ρ,M=>M a=some (.lst all)/\E.nx ρ M
  | x::r,E,ρ,M=>M a=some (.lst all)/\body x { E with nx:=fun ρ M=>dj body a all r E ρ M,ct:=fun ρ M=>dj body a all r E ρ M,bk:=E.nx } ρ M
def lf(t:Nat)(ta:NTE)(tb:NTS):NTS:=fun E ρ M=>ta ρ M fun x M1=>∃ a,∃ bs:List Nat,x=.ptr a/\dj (fun x E ρ M=>tb E (ρ.set t (some x)) M) a (bs.map .ptr) (bs.map .ptr) E ρ M1
end VL
namespace VL
open PySem PySem.Spec PyProof.Rows L2
def sF:Option Cell->Bool
  | some (.dcT true _)=>true
  | _=>false
def inM(M:Sto):Addr->Prop:=fun a=>M a ≠ none/\sF (M a)=false
theorem lg{M M':Sto}{b:Addr}(e:M' b=M b):inM M' b ↔ inM M b:=by unfold inM;rw[e]
noncomputable abbrev PH(H:Hp)(M:Sto):Hp:=aj H (inM M)
def aV(ns:List Str)(vs:List V):List (Key × V):=(ns.zip vs).map fun p=>(Sum.inr p.1,p.2)
def sG(ps:List ((Int × Int) × Int)):List (List Key × V):=ps.map fun p=>([Sum.inl p.1.1,Sum.inl p.1.2],V.int p.2)
def CellOk(K:PySem.W.Frag)(H:Hp):HO->Cell->Prop
  | .lst xs,.lst ds=>Reps K H xs ds
  | .dK kvs,.dic ns ds=>∃ vs,kvs=aV ns vs/\vs.length=ns.length/\Reps K H vs ds
  | .ins C dx fs,.ins C' ns ds=>C=C'/\∃ vs,fs=ns.zip vs/\vs.length=ns.length/\Reps K H vs ds
  | o,.dcT fz ps=>(fz=false/\o=.dT (sG ps))\/(fz=true/\∃ ob,o=.frz ob (.dT (sG ps)))
  | _,_=>False
theorem CellOk.mono{K:PySem.W.Frag}{H H':Hp}(e:Same H H'):∀ {o:HO} {c:Cell},CellOk K H o c->CellOk K H' o c:=fun {o c} h=>by
  unfold CellOk at h ⊢
  split at h
  · exact aH e h
  · obtain⟨vs,h1,h2,h3⟩:=h;exact⟨vs,h1,h2,aH e h3⟩
  · obtain⟨h0,vs,h1,h2,h3⟩:=h;exact⟨h0,vs,h1,h2,aH e h3⟩
  · exact h
  · exact h.elim
def MOk(K:PySem.W.Frag)(H:Hp)(M:Sto):Prop:=∀ a c,M a=some c->∃ o,H a=some o/\CellOk K (PH H M) o c
theorem MOk.dom{K:PySem.W.Frag}{H:Hp}{M:Sto}(h:MOk K H M):Dom H (inM M):=fun b hb n=>by
  cases e:M b with
  | none=>exact hb.1 e
  | some c=>obtain⟨o,h1,_⟩:=h b c e;rw[n] at h1;cases h1
theorem MOk.fresh{K:PySem.W.Frag}{H:Hp}{M:Sto}(h:MOk K H M){p:Addr}(hp:H p=none):M p=none:=by
  cases e:M p with
  | none=>rfl
  | some c=>obtain⟨o,h1,_⟩:=h p c e;rw[hp] at h1;cases h1
theorem PH.up{H H':Hp}{M:Sto}(e:Same H H'):Same (PH H M) (PH H' M):=bm e
theorem MOk.up{K:PySem.W.Frag}{H H':Hp}{M:Sto}(h:MOk K H M)(e:Same H H'):MOk K H' M:=fun a c hc=>by
  obtain⟨o,h1,h2⟩:=h a c hc
  exact⟨o,e _ _ h1,h2.mono (PH.up e)⟩
theorem PH.at{H:Hp}{M:Sto}{b:Addr}{o:HO}(h:PH H M b=some o):¬ inM M b/\H b=some o:=cw h
theorem PH.of{H:Hp}{M:Sto}{b:Addr}(h:M b=none):PH H M b=H b:=bc fun n=>n.1 h
theorem PH.out{H:Hp}{M:Sto}{b:Addr}(h:¬ inM M b):PH H M b=H b:=bc h
theorem lh{K:PySem.W.Frag}{H H':Hp}{M:Sto}{p:Addr}{o:HO}{c:Cell}(h:MOk K H M)(hp:H p=none)(hs:Same H H')(ho:H' p=some o)(hc:CellOk K (aj H' fun b=>inM M b\/b=p) o c):
    Same (PH H M) (PH H' (aN M p c))/\MOk K H' (aN M p c):=by
  have e:Same (PH H M) (PH H' (aN M p c)):=fun b u q=>by
    obtain⟨h1,h2⟩:=PH.at q
    have ne:b ≠ p:=bP h2 hp
    rw[PH.out (mt (lg (cF ne)).mp h1)]
    exact hs _ _ h2
  refine⟨e,fun a c' hc'=>?_⟩
  by_cases q:a=p
  · subst q
    rw[aU] at hc';cases hc'
    refine⟨o,ho,hc.mono (bC (fun _ _ z=>z) fun b z=>?_)⟩
    by_cases hb:b=a
    · exact .inr hb
    · exact .inl ((lg (cF hb)).mp z)
  · rw[cF q] at hc'
    obtain⟨o',h1,h2⟩:=h a c' hc'
    exact⟨o',hs _ _ h1,h2.mono e⟩
theorem im{K:PySem.W.Frag}{H:Hp}{M:Sto}{a:Addr}{o:HO}{c c0:Cell}(h:MOk K H M)(ha:M a=some c0)(hc:CellOk K (PH H M) o c)(hf:sF (some c0)=false:=by rfl):
    Same (PH H M) (PH (upd H a o) (aN M a c))/\MOk K (upd H a o) (aN M a c):=by
  have e:Same (PH H M) (PH (upd H a o) (aN M a c)):=fun b u q=>by
    obtain⟨h1,h2⟩:=PH.at q
    have ne:b ≠ a:=fun z=>h1 (by subst z;refine⟨fun n=>?_,?_⟩ <;> rw[ha] at *;cases n;exact hf)
    rw[PH.out (mt (lg (cF ne)).mp h1),aC ne]
    exact h2
  refine⟨e,fun b c' hc'=>?_⟩
  by_cases q:b=a
  · subst q
    rw[aU] at hc';cases hc'
    exact⟨o,b5,hc.mono e⟩
  · rw[cF q] at hc'
    obtain⟨o',h1,h2⟩:=h b c' hc'
    exact⟨o',by rw[aC q];exact h1,h2.mono e⟩
theorem Db{K:PySem.W.Frag}{H:Hp}{M:Sto}{a:Addr}(h:MOk K H M):Same (PH H M) (PH H (dc M a))/\MOk K H (dc M a):=by
  have e:Same (PH H M) (PH H (dc M a)):=bC (fun _ _ z=>z) fun b z=>by
    by_cases hb:b=a
    · subst hb;exact absurd nt z.1
    · exact (lg (nu hb)).mp z
  refine⟨e,fun b c hc=>?_⟩
  by_cases q:b=a
  · subst q;rw[nt] at hc;cases hc
  · rw[nu q] at hc
    obtain⟨o,h1,h2⟩:=h b c hc
    exact⟨o,h1,h2.mono e⟩
structure EnvQ (K:PySem.W.Frag) (σ:St) (ρ:ad) (H:Hp) (M:Sto):Prop where
  env:EnvR K (PH H M) σ ρ
  ok:MOk K H M
structure PostT (K:PySem.W.Frag) (H:Hp) (M:Sto) (H':Hp) (M':Sto):Prop where
  same:Same (PH H M) (PH H' M')
  ok:MOk K H' M'
structure PostW (K:PySem.W.Frag) (H:Hp) (M:Sto) (d:D) (v:V) (H':Hp) (M':Sto):Prop extends PostT K H M H' M' where
  rep:Rep K (PH H' M') v d
structure PostWs (K:PySem.W.Frag) (H:Hp) (M:Sto) (ds:List D) (vs:List V) (H':Hp) (M':Sto):Prop extends PostT K H M H' M' where
  rep:Reps K (PH H' M') vs ds
theorem EnvQ.next{K:PySem.W.Frag}{σ:St}{ρ:ad}{H H':Hp}{M M':Sto}(h:EnvQ K σ ρ H M)(p:PostT K H M H' M'):EnvQ K σ ρ H' M':=⟨h.env.mono p.same,p.ok⟩
theorem PostT.refl{K:PySem.W.Frag}{H:Hp}{M:Sto}(h:MOk K H M):PostT K H M H M:=⟨Same.refl _,h⟩
theorem PostT.trans{K:PySem.W.Frag}{H H1 H2:Hp}{M M1 M2:Sto}(a:PostT K H M H1 M1)(b:PostT K H1 M1 H2 M2):PostT K H M H2 M2:=⟨a.same.trans b.same,b.ok⟩
theorem PostT.of{K:PySem.W.Frag}{H H':Hp}{M:Sto}(h:MOk K H M)(e:Same H H'):PostT K H M H' M:=⟨PH.up e,h.up e⟩
def tw(K:PySem.W.Frag)(t:NTE):TE:=fun σ H Q=>∃ ρ M QW,EnvQ K σ ρ H M/\t ρ M QW/\∀ d M',QW d M'->∀ v H',PostW K H M d v H' M'->Q v H'
def twT(K:PySem.W.Frag)(t:NTB):TT:=fun σ H Q=>∃ ρ M QW,EnvQ K σ ρ H M/\t ρ M QW/\∀ b M',QW b M'->∀ H',PostT K H M H' M'->Q b H'
def twA(K:PySem.W.Frag)(t:NTA):TA:=fun σ H Q=>∃ ρ M QW,EnvQ K σ ρ H M/\t ρ M QW/\∀ ds M',QW ds M'->∀ vs H',PostWs K H M ds vs H' M'->Q vs H'
abbrev NE(X:Cx)(e:Expr)(t:NTE):Prop:=PE X e (tw X.K t)
abbrev NT(X:Cx)(e:Expr)(t:NTB):Prop:=PT X e (twT X.K t)
abbrev NW(X:Cx)(e:Expr)(t:NTB):Prop:=PW X e (twT X.K t)
abbrev NA(X:Cx)(es:List Expr)(t:NTA):Prop:=PA X es (twA X.K t)
section
variable {X:Cx} {a b c:Expr} {ta tb tc:NTE} {pos p2:Pos} {es:List Es} {fa fb:FE}
theorem nv{K:PySem.W.Frag}{σ:St}{ρ:ad}{H:Hp}{M:Sto}(h:EnvQ K σ ρ H M)(e:Es):Av K H σ ρ (inM M) e:=by
  have full:∀ (j:Nat) (v:V) (d:D),σ[j]?=some (some v)->ρ[j]?=some (some d)->Rep K (aj H (inM M)) v d:=fun j v d h1 h2=>by
    obtain⟨v',h3,h4⟩:=h.env j d h2
    rw[h1] at h3;cases h3
    exact h4
  cases e with
  | full j=>exact full j
  | el j=>exact fun v d h1 h2=>(full j v d h1 h2).el
theorem EnvQ.envR{K:PySem.W.Frag}{σ:St}{ρ:ad}{H:Hp}{M:Sto}(h:EnvQ K σ ρ H M):EnvR K H σ ρ:=h.env.mono (aQ _ _)
theorem sH(h:VE X a fa es):NE X a (nP fa):=aJ h fun σ H Q ⟨ρ,M,QW,hE,⟨d,hf,hq⟩,hQ⟩ =>
  ⟨ρ,d,hE.envR,hf,fun v H' p=>hQ d M hq v H' ⟨PostT.of hE.ok p.same,p.av (inM M) hE.ok.dom fun e _=>nv hE e⟩⟩
theorem Dc{f:ad->Option Bool}(h:VT X a f):NT X a (nPB f):=fB h fun σ H Q ⟨ρ,M,QW,hE,⟨d,hf,hq⟩,hQ⟩ =>
  ⟨ρ,d,hE.envR,hf,fun H' e=>hQ d M hq H' (PostT.of hE.ok e)⟩
theorem nw{K:PySem.W.Frag}{r:R2}{g:D->D->Option D}(hr:OpV K r g){σ:St}{H:Hp}{Q:VK}(h:tw K (n2 g ta tb) σ H Q):tOp r (tw K ta) (tw K tb) σ H Q:=by
  obtain⟨ρ,M,QW,hE,ht,hQ⟩:=h
  refine⟨ρ,M,_,hE,ht,fun x M1 h1 vx H1 p1=>⟨ρ,M1,_,hE.next p1.toPostT,h1,fun y M2 h2 vy H2 p2=>?_⟩⟩
  obtain⟨d,hg,hq⟩:=h2
  have rx:=aw p2.same p1.rep
  refine hr vx vy H2 x y d Q (aw (aQ _ _) rx) (aw (aQ _ _) p2.rep) hg fun v H' e r' av=>hQ d M2 hq v H' ⟨(p1.toPostT.trans p2.toPostT).trans (PostT.of p2.ok e),av _ p2.ok.dom rx p2.rep⟩
theorem ny{op:Operator}{r:R2}{g:D->D->Option D}(ho:OpR X (binaryOp op) r)(hr:OpV X.K r g)(ha:NE X a ta)(hb:NE X b tb):NE X (.BinOp a op b pos) (n2 g ta tb):=aJ (jT ho ha hb) fun _ _ _ h=>nw hr h
theorem Dd(ha:NE X a ta)(hb:NE X b tb):NE X (.BinOp a .Add b pos) (n2 aT ta tb):=ny pG (iN X.K fun _ _ _=>.int _) ha hb
theorem Df(ha:NE X a ta)(hb:NE X b tb):NE X (.BinOp a .Sub b pos) (n2 bw ta tb):=ny pH (iN X.K fun _ _ _=>.int _) ha hb
theorem Dg(ha:NE X a ta)(hb:NE X b tb):NE X (.BinOp a .Mult b pos) (n2 bd ta tb):=ny qE (iM X.K (fun _ _ h=>h) fun _ _ _=>.int _) ha hb
theorem Dh{op:CmpOp}{r:R2}{g:D->D->Option D}(ho:OpR X (compareOp op) r)(hr:OpV X.K r g)(ha:NE X a ta)(hb:NE X b tb)(hm:behindInMarks op b=false):NE X (.Compare a [op] [b] pos) (n2 g ta tb) :=
  aJ (pL ho ha hb hm) fun _ _ _ h=>nw hr h
theorem sI{op:CmpOp}{r:R2}{g:D->D->Option D}(ho:OpR X (compareOp op) r)(hr:OpV X.K r g)(ha:NE X a ta)(hb:NE X b tb)(hm:behindInMarks op b=false):NT X (.Compare a [op] [b] pos) (dI (n2 g ta tb)) :=
  fB (pM ho ha hb hm) fun σ H Q ⟨ρ,M,QW,hE,ht,hQ⟩=>nw hr ⟨ρ,M,_,hE,ht,fun d M' hd v H' p=>by
    cases d with
    | bl k=>cases p.rep;exact⟨k,rfl,hQ k M' hd H' p.toPostT⟩
    | _=>exact hd.elim⟩
theorem ne_eq{k:Nat}(hr:Room k X.A)(ha:NE X a ta)(hb:NE X b tb):NE X (.Compare a [.Eq] [b] pos) (n2 eqD ta tb):=Dh (kz hr) (kA X.K) ha hb (cv _)
theorem Di{k:Nat}(hr:Room k X.A)(ha:NE X a ta)(hb:NE X b tb):NT X (.Compare a [.Eq] [b] pos) (dI (n2 eqD ta tb)):=sI (kz hr) (kA X.K) ha hb (cv _)
theorem Dj:n2 kB ta (nP (eC .non))=n1 cz ta:=by
  funext ρ M Q
  unfold n2 n1 nP
  congr 1
  funext x M1
  unfold WE W2 W1 eC
  exact propext ⟨fun⟨d,e,h⟩=>by cases e;exact h,fun h=>⟨_,rfl,h⟩⟩
theorem Dk{j}(ha:NE X a ta):NT X (.Compare a [.Is] [.Constant .none j p2] pos) (dI (n1 cz ta)):=by rw[<- Dj];exact sI lT (mO X.K) ha (sH gP) (cv _)
variable {ka kb:NTB} {ar:List Expr}
theorem Dl(h:NE X a ta)(he:∀ whole,isTrue a X.env whole=(do let v <- whole;standAt a.pos;holding [v] (truthy v)):=by intro _;rfl):NT X a (eV ta) :=
  fB (pP h he) fun σ H Q ⟨ρ,M,QW,hE,ht,hQ⟩=>⟨ρ,M,_,hE,ht,fun d M' ⟨b,hb,hq⟩ v H' p=>⟨b,qF (aw (aQ _ _) p.rep) hb,hQ b M' hq H' p.toPostT⟩⟩
theorem Dm(ha:NT X a ka):NW X (.BoolOp .And [a] pos) ka:=p9 ha
theorem Dn(ha:NT X a ka)(hb:NW X (.BoolOp .And (b::ar) pos) kb):NW X (.BoolOp .And (a::b::ar) pos) (kQ ka kb) :=
  mj (pb ha hb) fun σ H Q ⟨ρ,M,QW,hE,ht,hQ⟩=>⟨ρ,M,_,hE,ht,fun k M1 hk H1 p1=>by
    cases k with
    | true=>exact dX ⟨ρ,M1,_,hE.next p1,hk.1 rfl,fun k' M2 h2 H2 p2=>hQ k' M2 h2 H2 (p1.trans p2)⟩
    | false=>exact dW (hQ _ M1 (hk.2 rfl) H1 p1)⟩
theorem Do(h:NW X a ka):NT X a ka:=h.pt
theorem Dp(ha:NT X a ka):NT X (.UnaryOp .Not a pos) (fU ka):=fB (pc ha) fun σ H Q ⟨ρ,M,QW,hE,ht,hQ⟩=>⟨ρ,M,_,hE,ht,fun k M1 hk H1 p1=>hQ _ M1 hk H1 p1⟩
theorem Dq{op}(h:NE X a ta):NE X (.BoolOp op [a] pos) ta:=pe h
theorem Dr(ha:NE X a ta)(hb:NE X (.BoolOp .And (b::ar) pos) tb):NE X (.BoolOp .And (a::b::ar) pos) (ib ta tb) :=
  aJ (pf ha hb) fun σ H Q ⟨ρ,M,QW,hE,ht,hQ⟩=>⟨ρ,M,_,hE,ht,fun x M1 hk vx H1 p1=>by
    cases x with
    | bl k =>
      cases p1.rep
      refine⟨k,rfl,?_⟩
      cases k with
      | true=>exact dX ⟨ρ,M1,_,hE.next p1.toPostT,hk.1 rfl,fun d M2 h2 v H2 p2=>hQ d M2 h2 v H2 ⟨p1.toPostT.trans p2.toPostT,p2.rep⟩⟩
      | false=>exact dW (hQ _ M1 (hk.2 rfl) _ H1 ⟨p1.toPostT,.bl _⟩)
    | _=>exact hk.elim⟩
variable {xs:List Expr} {tas:NTA}
theorem Ds:NA X [] aB:=kf ce fun σ H Q ⟨ρ,M,QW,hE,ht,hQ⟩=>hQ [] M ht [] H ⟨PostT.refl hE.ok,.nil⟩
theorem Dt(ha:NE X a ta)(hr:NA X xs tas)(hs:starEach (a::xs) X.env=(false,eval a X.env)::starEach xs X.env:=by rfl):NA X (a::xs) (am ta tas) :=
  kf (bK ha hr hs) fun σ H Q ⟨ρ,M,QW,hE,ht,hQ⟩=>⟨ρ,M,_,hE,ht,fun d M1 h1 v H1 p1=>⟨ρ,M1,_,hE.next p1.toPostT,h1,fun ds M2 h2 vs H2 p2=>hQ _ M2 h2 _ H2 ⟨p1.toPostT.trans p2.toPostT,.cons (aw p2.same p1.rep) p2.rep⟩⟩⟩
theorem Du{x1}(h:NA X xs tas):NE X (.Tuple xs x1 pos) (ic tas) :=
  aJ (pW h) fun σ H Q ⟨ρ,M,QW,hE,ht,hQ⟩=>⟨ρ,M,_,hE,ht,fun ds M1 ⟨hl,hq⟩ vs H1 p=>⟨by rw[p.rep.length];exact kj hl,fun l hl1=>by
    have hn:=p.ok.fresh hl1
    refine hQ _ M1 hq _ _ ⟨p.toPostT.trans (PostT.of p.ok (bg hl1 _)),.tup (.inl ?_) (aH (PH.up (bg hl1 _)) p.rep)⟩
    rw[PH.of hn];exact b5⟩⟩
theorem Dv(h:NA X xs tas):NE X (.List xs pos) (ji tas) :=
  aJ (lY h) fun σ H Q ⟨ρ,M,QW,hE,ht,hQ⟩=>⟨ρ,M,_,hE,ht,fun ds M1 ⟨hl,hq⟩ vs H1 p=>⟨by rw[p.rep.length];exact kj hl,fun l hl1=>by
    have hn:=p.ok.fresh hl1
    refine hQ _ M1 hq _ _ ⟨p.toPostT.trans (PostT.of p.ok (bg hl1 _)),.lst (.inl ?_) (aH (PH.up (bg hl1 _)) p.rep)⟩
    rw[PH.of hn];exact b5⟩⟩
theorem sJ{H:Hp}{A:Addr->Prop}{p:Addr}{o:HO}(hp:H p=none):Same (aj H A) (aj (upd H p o) fun b=>A b\/b=p):=fun b u q=>by
  obtain⟨n,q⟩:=cw q
  have ne:b ≠ p:=bP q hp
  rw[bc (fun z=>z.elim n ne),aC ne]
  exact q
theorem Dw(h:VF X a fa es):NE X a (ie fa):=aJ h fun σ H Q ⟨ρ,M,QW,hE,⟨d,hf,ds,e,hq⟩,hQ⟩=>⟨ρ,d,hE.envR,hf,fun v H' p=>by
  obtain⟨l,xs,ds',rfl,rfl,hl,hl',hr⟩:=p.new
  cases e
  obtain⟨e1,e2⟩:=lh (c:=.lst ds) hE.ok hl p.same hl' (hr (inM M) hE.ok.dom fun e _=>nv hE e)
  exact hQ _ _ (hq l (hE.ok.fresh hl)) _ _ ⟨⟨e1,e2⟩,.ptr l⟩⟩
theorem Dx(ha:NE X a ta)(hb:NE X b tb)(hs:iJ b):NE X (.Subscript a b pos) (n2 ixD ta tb) :=
  aJ (qh (ix_list.or qi) ha hb hs) fun σ H Q ⟨ρ,M,QW,hE,ht,hQ⟩=>⟨ρ,M,_,hE,ht,fun x M1 h1 vx H1 p1=>⟨ρ,M1,_,hE.next p1.toPostT,h1,fun y M2 ⟨d,hd,hq⟩ vy H2 p2=>by
    cases y with
    | int i =>
      cases p2.rep
      obtain⟨ds,h3,h4⟩:=bind_some hd
      have rx:=aw p2.same p1.rep
      have hel:ElR X.K H2 (inM M2) _ _:=rx.el
      obtain⟨p,xs,rfl,hp,_,hA⟩:=kl (aw (aQ _ _) rx) h3
      have hx:=hA _ hel
      obtain⟨v,h5,h6⟩:=mn hx h4
      have fin:Q v H2:=hQ d M2 hq v H2 ⟨p1.toPostT.trans p2.toPostT,h6⟩
      rcases hp with hp | hp
      · exact .inl ⟨p,xs,i,v,rfl,rfl,hp,h5,fin⟩
      · exact .inr ⟨p,xs,i,v,rfl,rfl,hp,h5,fin⟩
    | _=>cases hd⟩⟩
theorem eu{K:PySem.W.Frag}{H:Hp}{M:Sto}{a:Addr}{ds:List D}(h:MOk K H M)(ha:M a=some (.lst ds)):∃ xs,H a=some (.lst xs)/\Reps K (PH H M) xs ds:=by
  obtain⟨o,h1,h2⟩:=h a _ ha
  cases o with
  | lst xs=>exact⟨xs,h1,h2⟩
  | _=>exact h2.elim
theorem sK{K:PySem.W.Frag}{H:Hp}{M:Sto}{a:Addr}{ns:List Str}{ds:List D}(h:MOk K H M)(ha:M a=some (.dic ns ds)):∃ vs,H a=some (.dK (aV ns vs))/\vs.length=ns.length/\Reps K (PH H M) vs ds:=by
  obtain⟨o,h1,h2⟩:=h a _ ha
  cases o with
  | dK kvs=>obtain⟨vs,rfl,h3,h4⟩:=h2;exact⟨vs,h1,h3,h4⟩
  | _=>exact h2.elim
theorem jm{K:PySem.W.Frag}{H:Hp}{M:Sto}{a:Addr}{C:Nat}{ns:List Str}{ds:List D}(h:MOk K H M)(ha:M a=some (.ins C ns ds)):∃ dx vs,H a=some (.ins C dx (ns.zip vs))/\vs.length=ns.length/\Reps K (PH H M) vs ds:=by
  obtain⟨o,h1,h2⟩:=h a _ ha
  cases o with
  | ins C' dx fs=>obtain⟨rfl,vs,rfl,h3,h4⟩:=h2;exact⟨dx,vs,h1,h3,h4⟩
  | _=>exact h2.elim
theorem sL:∀ {ns:List Str} {vs:List V} {i:Nat} {x:Str} {v:V},ns.Nodup->ns[i]?=some x->vs[i]?=some v->(ns.zip vs).lookup x=some v
  | [],_,_,_,_,_,h,_=>by simp at h
  | _::_,[],i,_,_,_,_,h=>by simp at h
  | n::ns,w::vs,0,x,v,_,h1,h2=>by simp at h1 h2;subst h1 h2;simp
  | n::ns,w::vs,i+1,x,v,hn,h1,h2=>by
    have h1':ns[i]?=some x:=by simpa using h1
    have hm:x ∈ ns:=List.mem_of_getElem? h1'
    have ne:¬ (x=n):=fun e=>(List.nodup_cons.mp hn).1 (e ▸ hm)
    have ih:=sL (List.nodup_cons.mp hn).2 h1' (by simpa using h2)
    rw[List.zip_cons_cons,List.lookup_cons,show (x == n)=false from beq_eq_false_iff_ne.mpr ne]
    exact ih
theorem sM:∀ {ns:List Str} {vs:List V} {i:Nat} {x:Str} {v:V},ns.Nodup->ns[i]?=some x->vs[i]?=some v->bV (aV ns vs) (.inr x)=some v
  | [],_,_,_,_,_,h,_=>by simp at h
  | _::_,[],i,_,_,_,_,h=>by simp at h
  | n::ns,w::vs,0,x,v,_,h1,h2=>by simp at h1 h2;subst h1 h2;exact jW (p:=((Sum.inr n:Key),w)) rfl
  | n::ns,w::vs,i+1,x,v,hn,h1,h2=>by
    have h1':ns[i]?=some x:=by simpa using h1
    have hm:x ∈ ns:=List.mem_of_getElem? h1'
    have ne:¬ (n=x):=fun e=>(List.nodup_cons.mp hn).1 (e ▸ hm)
    have ih:=sM (List.nodup_cons.mp hn).2 h1' (by simpa using h2)
    have e2:bV (aV (n::ns) (w::vs)) (.inr x)=bV (aV ns vs) (.inr x):=jX (p:=((Sum.inr n:Key),w)) fun q=>ne (Sum.inr.inj q)
    rw[e2];exact ih
theorem Dy{k i:Nat}{ns:List Str}{x:Str}{j}(hr:Room k X.A)(ha:NE X a ta)(hs:k0 (.Constant (.str x) j p2))(hn:ns.Nodup:=by decide +kernel)(hi:ns[i]?=some x:=by rfl):NE X (.Subscript a (.Constant (.str x) j p2) pos) (nDg ns i ta) :=
  aJ (yb (by have:=hr.un;omega) ha lN hs) fun σ H Q ⟨ρ,M,QW,hE,ht,hQ⟩=>⟨ρ,M,_,hE,ht,fun y M1 ⟨q,ds,d,ex,hm,hd,hq⟩ vy H1 p1=>by
    subst ex
    cases p1.rep
    obtain⟨vs,g1,gl,g2⟩:=sK p1.ok hm
    obtain⟨v,h5,h6⟩:=g2.get hd
    exact⟨q,v,rfl,.inl ⟨_,.inr x,.inl g1,rfl,(sM hn hi h5).symm⟩,hQ d M1 hq v H1 ⟨p1.toPostT,h6⟩⟩⟩
theorem Dz{i:Nat}{C:Addr}{ns:List Str}{f:Str}(c:Cls X.K C)(n:NoAttr X.K C f)(ha:NE X a ta)(hb:attributeBase a f X.env (eval a X.env)=eval a X.env:=by rfl)(hn:ns.Nodup:=by decide +kernel)(hi:ns[i]?=some f:=by rfl):NE X (.Attribute a f pos) (bE C ns i ta) :=
  aJ (wT ha hb) fun σ H Q ⟨ρ,M,QW,hE,ht,hQ⟩=>⟨ρ,M,_,hE,ht,fun y M1 ⟨q,ds,d,ex,hm,hd,hq⟩ vy H1 p1=>by
    subst ex
    cases p1.rep
    obtain⟨dx,vs,g1,gl,g2⟩:=jm p1.ok hm
    obtain⟨v,h5,h6⟩:=g2.get hd
    exact⟨q,C,dx,_,v,rfl,g1,c,n,sL hn hi h5,hQ d M1 hq v H1 ⟨p1.toPostT,h6⟩⟩⟩
end
end VL
namespace VL
open PySem PySem.Spec PyProof.Rows L2
def spN(K:PySem.W.Frag)(T:NTF):Sp:=fun vs H Q _=>∃ ds M QW,Reps K (PH H M) vs ds/\MOk K H M/\T ds M QW/\∀ d M',QW d M'->∀ v H',PostW K H M d v H' M'->Q v H'
def DefN(P:Program)(w:World)(K:PySem.W.Frag)(mg:Str->Option Value)(base:Heap)(x:Str)(k:Nat)(ps:List Str)(T:NTF):Prop :=
  ∃ f fd,FnOk P w K mg base CX0 k f fd ps (spN K T)/\mg x=some (.ref f)/\PySem.W.keepIn K (.ref f)=true/\Binds K fd ps []
theorem DefN.mono{P:Program}{w:World}{K:PySem.W.Frag}{mg:Str->Option Value}{base:Heap}{x:Str}{j k:Nat}{ps:List Str}{T:NTF}(h:DefN P w K mg base x j ps T)(hk:j<=k:=by decide):DefN P w K mg base x k ps T :=
  let ⟨f,fd,F,m,kp,b⟩:=h
  ⟨f,fd,F.mono hk,m,kp,b⟩
def MetN(P:Program)(w:World)(K:PySem.W.Frag)(mg:Str->Option Value)(base:Heap)(C:Addr)(m:Str)(k:Nat)(ps:List Str)(T:NTF):Prop :=
  ∃ f fd,FnOk P w K mg base CX0 k f fd ps (spN K T)/\Meth K C m f/\Binds K fd ps []
theorem MetN.mono{P:Program}{w:World}{K:PySem.W.Frag}{mg:Str->Option Value}{base:Heap}{C:Addr}{x:Str}{j k:Nat}{ps:List Str}{T:NTF}(h:MetN P w K mg base C x j ps T)(hk:j<=k:=by decide):MetN P w K mg base C x k ps T :=
  let ⟨f,fd,F,m,b⟩:=h
  ⟨f,fd,F.mono hk,m,b⟩
def MakN(P:Program)(w:World)(K:PySem.W.Frag)(mg:Str->Option Value)(base:Heap)(x:Str)(C:Addr)(k:Nat)(ps:List Str)(T:NTF):Prop :=
  ∃ f fd,FnOk P w K mg base CX0 k f fd ps (spN K T)/\Mk K C f/\mg x=some (.ref C)/\Binds K fd ps []
theorem MakN.mono{P:Program}{w:World}{K:PySem.W.Frag}{mg:Str->Option Value}{base:Heap}{C:Addr}{x:Str}{j k:Nat}{ps:List Str}{T:NTF}(h:MakN P w K mg base x C j ps T)(hk:j<=k:=by decide):MakN P w K mg base x C k ps T :=
  let ⟨f,fd,F,m,g,b⟩:=h
  ⟨f,fd,F.mono hk,m,g,b⟩
theorem DA{K:PySem.W.Frag}{H:Hp}{M:Sto}{v:V}{d:D}(h:MOk K H M)(r:Rep K (PH H M) v d):Rep K H v (vw1 M d):=by
  cases r with
  | ptr a =>
    show Rep K H (.ref a) (match M a with | some (.lst ds)=>.lst ds | _=>.ptr a)
    split
    · rename_i ds hm
      obtain⟨xs,g1,g2⟩:=eu h hm
      exact .lst (.inl g1) (aH (aQ _ _) g2)
    · exact .ptr a
  | non=>exact .non
  | bl b=>exact .bl b
  | int b=>exact .int b
  | str b=>exact .str b
  | lst h1 h2=>exact aw (aQ _ _) (.lst h1 h2)
  | tup h1 h2=>exact aw (aQ _ _) (.tup h1 h2)
  | scr h1=>exact aw (aQ _ _) (.scr h1)
  | dct h1=>exact aw (aQ _ _) (.dct h1)
theorem nz{K:PySem.W.Frag}{H:Hp}{M:Sto}(h:MOk K H M):∀ {vs:List V} {ds:List D},Reps K (PH H M) vs ds->Reps K H vs (ds.map (vw1 M))
  | [],_,r=>by cases r;exact .nil
  | _::_,_,r=>by cases r with | cons a t=>exact .cons (DA h a) (nz h t)
section
variable {X:Cx} {a b c:Expr} {ta tb tc:NTE} {tas:NTA} {pos p p2 ap:Pos} {k:Nat} {ps:List Str} {x m:Str} {es:List Expr} {T:NTF} {G:List D->Option D} {fr:Bool} {C:Addr} {ns:List Str}
theorem DB(d:DefN X.prog X.w X.K X.mg X.base x k ps T)(hr:Room k X.A)(ha:NA X (a::es) tas)(hg:Gl X x:=by rfl)(hdb:(x == ("__debug__" : Str))=false:=by decide)(he:starEach (a::es) X.env=(false,eval a X.env)::starEach es X.env:=by rfl)(hpl:(backTo pos (starEach es X.env)).any (·.1)=false:=by rfl):
    NE X (.Call (.Name x p) (a::es) [] pos) (bo T tas) :=
  let ⟨_,_,F,hm,hk,hb⟩:=d
  aJ (fA F hr hg hm hk hb .nil dD ha hdb he hpl) fun σ H Q ⟨ρ,M,QW,hE,ht,hQ⟩=>⟨ρ,M,_,hE,ht,fun ds M1 h1 vs H1 p=>by
    show spN X.K T (vs++[]) H1 Q E0
    rw[List.append_nil]
    exact⟨ds,M1,QW,p.rep,p.ok,h1,fun d M' hd v H' p'=>hQ d M' hd v H' ⟨p.toPostT.trans p'.toPostT,p'.rep⟩⟩⟩
theorem DC(d:Def X.prog X.w X.K X.mg X.base x k ps G fr)(hr:Room k X.A)(ha:NA X (a::es) tas)(hg:Gl X x:=by rfl)(hdb:(x == ("__debug__" : Str))=false:=by decide)(he:starEach (a::es) X.env=(false,eval a X.env)::starEach es X.env:=by rfl)(hpl:(backTo pos (starEach es X.env)).any (·.1)=false:=by rfl):
    NE X (.Call (.Name x p) (a::es) [] pos) (ig G tas) :=
  let ⟨_,_,F,hm,hk,hb⟩:=d
  aJ (fA F hr hg hm hk hb .nil dD ha hdb he hpl) fun σ H Q ⟨ρ,M,QW,hE,ht,hQ⟩=>⟨ρ,M,_,hE,ht,fun ds M1 ⟨d,hf,hq⟩ vs H1 p=>by
    show spF X.K G fr (vs++[]) H1 Q E0
    rw[List.append_nil]
    exact⟨ds,d,aH (aQ _ _) p.rep,hf,fun v H' r=>hQ d M1 hq v H' ⟨p.toPostT.trans (PostT.of p.ok r.same),r.rep _ p.ok.dom p.rep⟩⟩⟩
theorem sO{id:String}{r:List V->Hp->VK->Prop}{g:List D->Option D}(hc:CallR X (.builtin id) r)(hv:fF X.K r g)(hm:X.mg x=none)(hb:bootBuiltins x=some (.builtin id))(ha:NA X (a::es) tas)(hs:∀ ds d,g ds=some d->b6 d=true)(hg:Gl X x:=by rfl)(hn:x ≠ "__name__":=by decide)(hdb:(x == ("__debug__" : Str))=false:=by decide)(he:starEach (a::es) X.env=(false,eval a X.env)::starEach es X.env:=by rfl)(hpl:(backTo pos (starEach es X.env)).any (·.1)=false:=by rfl):
    NE X (.Call (.Name x p) (a::es) [] pos) (dJ g tas) :=
  aJ (m6 hc hg hm hb ha hn hdb he hpl) fun σ H Q ⟨ρ,M,QW,hE,ht,hQ⟩=>⟨ρ,M,_,hE,ht,fun ds M1 ⟨d,hf,_,hq⟩ vs H1 p =>
    hv vs H1 _ d Q (nz p.ok p.rep) hf fun v hr=>hQ d M1 hq v H1 ⟨p.toPostT,hr _⟩⟩
theorem nA:∀ {ns:List Str} {vs:List V} {x:Str},¬ x ∈ ns->(ns.zip vs).lookup x=none
  | [],_,_,_=>rfl
  | _::_,[],_,_=>rfl
  | n::ns,v::vs,x,h=>by
    rw[List.zip_cons_cons,List.lookup_cons,show (x == n)=false from beq_eq_false_iff_ne.mpr fun e=>h (e ▸ List.mem_cons_self)]
    exact nA fun z=>h (List.mem_cons_of_mem _ z)
theorem DD{pl:Sem Bool}(cl:Cls X.K C)(d:MetN X.prog X.w X.K X.mg X.base C m k ps T)(hr:Room k X.A)(ho:NE X b tb)(ha:NA X (a::es) tas)(hno:¬ m ∈ ns:=by decide +kernel)(hst:starEach (a::es) X.env=(false,eval a X.env)::starEach es X.env:=by rfl)(hpl:(backTo pos (starEach es X.env)).any (·.1)=false:=by rfl)(ht:eval (.Call (.Attribute b m ap) (a::es) [] pos) X.env=(do
      let ov <- eval b X.env
      standAt ap.atName
      let (f,first) <- holding [ov] (getMethod ov m pl)
      callWith pos f first (backTo pos (starEach (a::es) X.env)) (backToKw pos (keywordEach [] X.env))):=by rfl):
    NE X (.Call (.Attribute b m ap) (a::es) [] pos) (bS C ns T tb tas) :=
  let ⟨_,_,F,hm,hb⟩:=d
  aJ (xb ho cl hm F hr hb .nil dD ha hst hpl ht) fun σ H Q ⟨ρ,M,QW,hE,hw,hQ⟩=>⟨ρ,M,_,hE,hw,fun x M1 ⟨q,ds0,ex,hm1,h1⟩ vx H1 p1=>by
    subst ex
    cases p1.rep
    obtain⟨dx,vs0,g1,gl,g2⟩:=jm p1.ok hm1
    refine⟨q,dx,_,rfl,g1,nA hno,ρ,M1,_,hE.next p1.toPostT,h1,fun ds M2 h2 vs H2 p2=>?_⟩
    show spN X.K T (V.ref q::(vs++[])) H2 Q E0
    rw[List.append_nil]
    exact⟨.ptr q::ds,M2,QW,.cons (.ptr q) p2.rep,p2.ok,h2,fun d M' hd v H' p'=>hQ d M' hd v H' ⟨(p1.toPostT.trans p2.toPostT).trans p'.toPostT,p'.rep⟩⟩⟩
theorem DE{pl:Sem Bool}(cl:Cls X.K C)(d:MetN X.prog X.w X.K X.mg X.base C m k ps T)(hr:Room k X.A)(ho:NE X b tb)(hno:¬ m ∈ ns:=by decide +kernel)(ht:eval (.Call (.Attribute b m ap) [] [] pos) X.env=(do
      let ov <- eval b X.env
      standAt ap.atName
      let (f,first) <- holding [ov] (getMethod ov m pl)
      callWith pos f first (backTo pos (starEach [] X.env)) (backToKw pos (keywordEach [] X.env))):=by rfl):
    NE X (.Call (.Attribute b m ap) [] [] pos) (bS C ns T tb aB) :=
  let ⟨_,_,F,hm,hb⟩:=d
  aJ (xc ho cl hm F hr hb .nil dD ht) fun σ H Q ⟨ρ,M,QW,hE,hw,hQ⟩=>⟨ρ,M,_,hE,hw,fun x M1 ⟨q,ds0,ex,hm1,h1⟩ vx H1 p1=>by
    subst ex
    cases p1.rep
    obtain⟨dx,vs0,g1,gl,g2⟩:=jm p1.ok hm1
    refine⟨q,dx,_,rfl,g1,nA hno,?_⟩
    exact⟨[.ptr q],M1,QW,.cons (.ptr q) .nil,p1.ok,h1,fun d M' hd v H' p'=>hQ d M' hd v H' ⟨p1.toPostT.trans p'.toPostT,p'.rep⟩⟩⟩
theorem DF(d:MakN X.prog X.w X.K X.mg X.base x C k ps T)(hr:Room (k+1) X.A)(ha:NA X (a::es) tas)(hg:Gl X x:=by rfl)(hdb:(x == ("__debug__" : Str))=false:=by decide)(he:starEach (a::es) X.env=(false,eval a X.env)::starEach es X.env:=by rfl)(hpl:(backTo pos (starEach es X.env)).any (·.1)=false:=by rfl):
    NE X (.Call (.Name x p) (a::es) [] pos) (kS C T tas) :=
  let ⟨_,_,F,M,hm,hb⟩:=d
  aJ (xg M F hr hg hm hb .nil dD ha hdb he hpl) fun σ H Q ⟨ρ,M,QW,hE,ht,hQ⟩=>⟨ρ,M,_,hE,ht,fun ds M1 h1 vs H1 p q dx hq hdx ne=>by
    show spN X.K T (V.ref q::(vs++[])) _ _ E0
    rw[List.append_nil]
    have hqd:upd H1 dx (.own q) q=none:=by rw[aC (Ne.symm ne)];exact hq
    have s1:=bg hdx (.own q)
    have s2:=bg hqd (.ins C dx [])
    obtain⟨e1,e2⟩:=lh (c:=.ins C [] []) (p.ok.up s1) hqd s2 b5 ⟨rfl,[],rfl,rfl,.nil⟩
    have pt:PostT X.K H1 M1 _ _:=(PostT.of p.ok s1).trans ⟨e1,e2⟩
    exact⟨.ptr q::ds,_,_,.cons (.ptr q) (aH pt.same p.rep),e2,h1 q (p.ok.fresh hq),fun d M' ⟨hd,hq'⟩ v H' p'=>by
      subst hd
      cases p'.rep
      exact⟨rfl,hQ _ M' hq' _ H' ⟨(p.toPostT.trans pt).trans p'.toPostT,.ptr q⟩⟩⟩⟩
end
structure EnvN (K:PySem.W.Frag) (P:Hp) (n:Nat) (σ:St) (ρ:ad) (H:Hp) (M:Sto):Prop where
  q:EnvQ K σ ρ H M
  same:Same P (PH H M)
  lσ:σ.length=n
  lρ:ρ.length=n
def io(K:PySem.W.Frag)(P:Hp)(n:Nat)(De:Ends):EndN where
  nx:=fun ρ M=>∀ σ H,EnvN K P n σ ρ H M->De.nx σ H
  bk:=fun ρ M=>∀ σ H,EnvN K P n σ ρ H M->De.bk σ H
  ct:=fun ρ M=>∀ σ H,EnvN K P n σ ρ H M->De.ct σ H
  rt:=fun d M=>∀ v H,Same P (PH H M)->MOk K H M->Rep K (PH H M) v d->De.rt v H
structure LeE (A B:EndN):Prop where
  nx:∀ ρ M,A.nx ρ M->B.nx ρ M
  bk:∀ ρ M,A.bk ρ M->B.bk ρ M
  ct:∀ ρ M,A.ct ρ M->B.ct ρ M
  rt:∀ d M,A.rt d M->B.rt d M
def twS(K:PySem.W.Frag)(P:Hp)(n:Nat)(t:NTS):TS:=fun De σ H=>∃ ρ M Ew,EnvN K P n σ ρ H M/\t Ew ρ M/\LeE Ew (io K P n De)
abbrev NS(X:Cx)(st:Stmt)(t:NTS):Prop:=∀ P n,PS X st (twS X.K P n t)
abbrev NSs(X:Cx)(st:List Stmt)(t:NTS):Prop:=∀ P n,PSs X st (twS X.K P n t)
theorem EnvN.next{K:PySem.W.Frag}{P:Hp}{n:Nat}{σ:St}{ρ:ad}{H H':Hp}{M M':Sto}(h:EnvN K P n σ ρ H M)(p:PostT K H M H' M'):EnvN K P n σ ρ H' M':=⟨h.q.next p,h.same.trans p.same,h.lσ,h.lρ⟩
theorem EnvN.set{K:PySem.W.Frag}{P:Hp}{n:Nat}{σ:St}{ρ:ad}{H:Hp}{M:Sto}(h:EnvN K P n σ ρ H M){i:Nat}{v:V}{d:D}(r:Rep K (PH H M) v d):EnvN K P n (σ.set i (some v)) (ρ.set i (some d)) H M :=
  ⟨⟨fun j e q=>by
    by_cases e1:j=i
    · subst e1
      have hl:j < ρ.length:=by have:=(List.getElem?_eq_some_iff.mp q).1;simpa using this
      rw[List.getElem?_set_self hl] at q
      cases q
      exact⟨v,List.getElem?_set_self (by rw[h.lσ,<- h.lρ];exact hl),r⟩
    · rw[List.getElem?_set_ne (Ne.symm e1)] at q
      obtain⟨v',h1,h2⟩:=h.q.env j e q
      exact⟨v',by rw[List.getElem?_set_ne (Ne.symm e1)];exact h1,h2⟩,h.q.ok⟩,h.same,by rw[List.length_set];exact h.lσ,by rw[List.length_set];exact h.lρ⟩
section
variable {X:Cx} {a b c:Expr} {ta tb tc tv:NTE} {tas:NTA} {ka:NTB} {pos p p2 p3 ap cp:Pos} {k:Nat} {st:Stmt} {ar body bs:List Stmt} {t u:NTS} {C:Addr} {ns:List Str} {x f:Str} {i:Nat}
theorem DG:NSs X [] sN:=fun P n=>d9 ph fun De σ H ⟨ρ,M,Ew,hE,ht,hl⟩=>hl.nx ρ M ht σ H hE
theorem DH(h1:NS X st t)(h2:NSs X ar u):NSs X (st::ar) (au t u):=fun P n=>d9 (iE (h1 P n) (h2 P n)) fun De σ H ⟨ρ,M,Ew,hE,ht,hl⟩ =>
  ⟨ρ,M,_,hE,ht,fun ρ' M' h' σ' H' hE'=>⟨ρ',M',Ew,hE',h',hl⟩,hl.bk,hl.ct,hl.rt⟩
theorem DJ(h1:NS X st t):NSs X [st] t:=fun P n=>d9 (lP (h1 P n)) fun De σ H h=>h
theorem DK:NSs X ar fV:=fun P n=>d9 wj fun De σ H ⟨ρ,M,Ew,hE,ht,hl⟩=>ht.elim
theorem DL(hc:NT X c ka)(ha:NSs X body t)(hb:NSs X bs u):NS X (.If c body bs pos) (bF ka t u):=fun P n=>b7 (pj hc (ha P n) (hb P n)) fun De σ H ⟨ρ,M,Ew,hE,ht,hl⟩=>⟨ρ,M,_,hE.q,ht,fun k M1 hk H1 p1=>by
  cases k with
  | true=>exact dX ⟨ρ,M1,Ew,hE.next p1,hk.1 rfl,hl⟩
  | false=>exact dW ⟨ρ,M1,Ew,hE.next p1,hk.2 rfl,hl⟩⟩
theorem DM(he:NE X a ta):NS X (.Return (some a) pos) (bi ta):=fun P n=>b7 (gM he) fun De σ H ⟨ρ,M,Ew,hE,ht,hl⟩=>⟨ρ,M,_,hE.q,ht,fun d M1 h1 v H1 p1=>hl.rt d M1 h1 v H1 (hE.same.trans p1.same) p1.ok p1.rep⟩
theorem DN(i:Nat)(hN:X.N[i]?=some x:=by rfl)(hv:Vis X.env.scope x:=by first | exact Or.inl rfl | exact Or.inr (Or.inl rfl) | exact Or.inr (Or.inr rfl))(hd:(x == ("__debug__" : Str))=false:=by decide)(hcd:(x == ("__classdict__" : Str))=false:=by decide):NS X (.Return (some (.Name x p2)) pos) (kU i):=fun P n=>b7 (gM (dR hN hv hd hcd)) fun De σ H ⟨ρ,M,Ew,hE,⟨q,ds,h1,h2,h3⟩,hl⟩=>by
  obtain⟨v,hv,r⟩:=hE.q.env i _ (dZ h1)
  cases r
  obtain⟨e1,e2⟩:=Db (a:=q) hE.q.ok
  obtain⟨xs,g1,g2⟩:=eu hE.q.ok h2
  refine⟨_,hv,hl.rt _ _ h3 _ H (hE.same.trans e1) e2 (.lst (.inl ?_) (aH e1 g2))⟩
  rw[PH.of nt];exact g1
theorem DO(i:Nat)(hN:X.N.Nodup)(he:NE X a ta)(hi:X.N[i]?=some x:=by rfl)(hx:Loc X.env.scope x:=by first | exact Or.inl rfl | exact Or.inr rfl)(hs:swapsWith a (some (.Name x p2)) pos.line X.env=pure false:=by rfl)(hfn:X.fn x=true\/X.env.scope.names.lookup x=some .local:=by first | exact .inl rfl | exact .inr rfl):NS X (.Assign [.Name x p2] a pos) (b0 i ta):=fun P n =>
  b7 (jO hN hi hx he hs hfn) fun De σ H ⟨ρ,M,Ew,hE,ht,hl⟩=>⟨ρ,M,_,hE.q,ht,fun d M1 h1 v H1 p1=>hl.nx _ M1 h1 _ H1 ((hE.next p1.toPostT).set p1.rep)⟩
theorem sP{K:PySem.W.Frag}{P:Hp}{n:Nat}{Q:St->Hp->Prop}{H:Hp}{M:Sto}:∀ {is:List Nat} {ds:List D} {xs:List V} {σ:St} {ρ:ad},EnvN K P n σ ρ H M->is.length=ds.length->Reps K (PH H M) xs ds ->
    (∀ σ',EnvN K P n σ' ((is.zip ds).foldl (fun r p=>r.set p.1 (some p.2)) ρ) H M->Q σ' H)->eh is xs σ H Q
  | [],[],_,σ,ρ,hE,_,r,hQ=>by cases r;exact⟨rfl,hQ σ hE⟩
  | [],_::_,_,_,_,_,h,_,_=>by cases h
  | _::_,[],_,_,_,_,h,_,_=>by cases h
  | i::is,d::ds,_,σ,ρ,hE,h,r,hQ=>by
    cases r with
    | cons r1 r2=>exact⟨_,_,rfl,sP (hE.set r1) (by simpa using h) r2 hQ⟩
theorem DP(is:List Nat){ts:List Expr}{k:Nat}(hc:X.calm=true)(hN:X.N.Nodup)(he:NE X a ta)(ht:Tgs X ts is)(hn:(assignEach ts X.env).length=is.length:=by rfl)(hst:(assignEach ts X.env).findIdx? (·.1)=none:=by rfl)(hs:swapsWithSole [.Tuple ts k p2] a pos.line X.env=pure false:=by rfl)(hw:swappedStores [.Tuple ts k p2] a X.env=pure none:=by rfl)(h1:(assignEach [.Tuple ts k p2] X.env).map (·.2)=[assign (.Tuple ts k p2) X.env]:=by rfl):NS X (.Assign [.Tuple ts k p2] a pos) (jj is ta):=fun P n =>
  b7 (jN he (fw hc (Tgs.ok hN ht) hn hst) hs hw h1) fun De σ H ⟨ρ,M,Ew,hE,hw',hl⟩=>⟨ρ,M,_,hE.q,hw',fun d M1 ⟨ds,e1,e2,h2⟩ v H1 p1=>by
    subst e1
    obtain⟨q,xs,rfl,hq,hx⟩:=mC p1.rep
    have hE1:=hE.next p1.toPostT
    exact⟨q,xs,rfl,.inl (cW (aQ _ _) hq),by rw[hx.length];exact e2,sP hE1 e2.symm hx fun σ' hE'=>hl.nx _ M1 h2 σ' H1 hE'⟩⟩
theorem sQ:∀ {ns:List Str} {vs:List V} {i:Nat} {f:Str} (y:V),vs.length=ns.length->ns.Nodup->ns[i]?=some f->bJ f y (ns.zip vs)=ns.zip (vs.set i y)
  | [],_,_,_,_,_,_,h=>by simp at h
  | _::_,[],_,_,_,h,_,_=>by simp at h
  | n::ns,w::vs,0,f,y,_,_,h=>by simp at h;subst h;simp[bJ]
  | n::ns,w::vs,i+1,f,y,hl,hn,h=>by
    have h1':ns[i]?=some f:=by simpa using h
    have ne:¬ (n=f):=fun e=>(List.nodup_cons.mp hn).1 (e ▸ List.mem_of_getElem? h1')
    rw[List.zip_cons_cons,List.set_cons_succ,List.zip_cons_cons,bJ,if_neg ne,sQ y (by simpa using hl) (List.nodup_cons.mp hn).2 h1']
theorem sR:∀ {ns:List Str} {vs:List V} {f:Str} (y:V),vs.length=ns.length->¬ f ∈ ns->bJ f y (ns.zip vs)=(ns++[f]).zip (vs++[y])
  | [],[],f,y,_,_=>rfl
  | [],_::_,_,_,h,_=>by simp at h
  | _::_,[],_,_,h,_=>by simp at h
  | n::ns,w::vs,f,y,hl,hn=>by
    have ne:¬ (n=f):=fun e=>hn (e ▸ List.mem_cons_self)
    rw[List.zip_cons_cons,List.cons_append,List.cons_append,List.zip_cons_cons,bJ,if_neg ne,sR y (by simpa using hl) fun z=>hn (List.mem_cons_of_mem _ z)]
theorem DQ(cl:Cls X.K C)(nat:NoAttr X.K C f)(ha:NE X a ta)(hv:NE X b tv)(hn:ns.Nodup:=by decide +kernel)(hi:ns[i]?=some f:=by rfl)(hlt:ns.length < 1000:=by decide)(hs:swapsWith b (some (.Attribute a f p2)) pos.line X.env=pure false:=by rfl):
    NS X (.Assign [.Attribute a f p2] b pos) (fW C ns i ta tv):=fun P n =>
  b7 (pU ha hv hs) fun De σ H ⟨ρ,M,Ew,hE,ht,hl⟩=>⟨ρ,M,_,hE.q,ht,fun d M1 h1 v H1 p1=>⟨ρ,M1,_,hE.q.next p1.toPostT,h1,fun x M2 ⟨q,ds,ex,hm,h2⟩ vx H2 p2=>by
    subst ex
    cases p2.rep
    obtain⟨dx,vs,g1,gl,g2⟩:=jm p2.ok hm
    have rv:=aw p2.same p1.rep
    refine⟨q,C,dx,_,rfl,g1,cl,nat,by rw[List.length_zip,gl,Nat.min_self];exact hlt,?_⟩
    rw[sQ _ gl hn hi]
    obtain⟨e1,e2⟩:=im (o:=.ins C dx (ns.zip (vs.set i v))) (c:=.ins C ns (ds.set i d)) p2.ok hm ⟨rfl,_,rfl,by rw[List.length_set];exact gl,g2.set rv i⟩
    exact hl.nx _ _ h2 σ _ ((hE.next (p1.toPostT.trans p2.toPostT)).next ⟨e1,e2⟩)⟩⟩
theorem DR(cl:Cls X.K C)(nat:NoAttr X.K C f)(ha:NE X a ta)(hv:NE X b tv)(hi:¬ f ∈ ns:=by decide +kernel)(hlt:ns.length < 1000:=by decide)(hs:swapsWith b (some (.Attribute a f p2)) pos.line X.env=pure false:=by rfl):
    NS X (.Assign [.Attribute a f p2] b pos) (cR C ns f ta tv):=fun P n =>
  b7 (pU ha hv hs) fun De σ H ⟨ρ,M,Ew,hE,ht,hl⟩=>⟨ρ,M,_,hE.q,ht,fun d M1 h1 v H1 p1=>⟨ρ,M1,_,hE.q.next p1.toPostT,h1,fun x M2 ⟨q,ds,ex,hm,h2⟩ vx H2 p2=>by
    subst ex
    cases p2.rep
    obtain⟨dx,vs,g1,gl,g2⟩:=jm p2.ok hm
    have rv:=aw p2.same p1.rep
    refine⟨q,C,dx,_,rfl,g1,cl,nat,by rw[List.length_zip,gl,Nat.min_self];exact hlt,?_⟩
    rw[sR _ gl hi]
    obtain⟨e1,e2⟩:=im (o:=.ins C dx ((ns++[f]).zip (vs++[v]))) (c:=.ins C (ns++[f]) (ds++[d])) p2.ok hm ⟨rfl,_,rfl,by simp[gl],g2.append (.cons rv .nil)⟩
    exact hl.nx _ _ h2 σ _ ((hE.next (p1.toPostT.trans p2.toPostT)).next ⟨e1,e2⟩)⟩⟩
theorem sS:∀ {ns:List Str} {vs:List V} {i:Nat} {f:Str},vs.length=ns.length->ns[i]?=some f->((aV ns vs).any fun kv=>decide (kv.1=(Sum.inr f:Key)))=true
  | [],_,_,_,_,h=>by simp at h
  | _::_,[],_,_,h,_=>by simp at h
  | n::ns,w::vs,0,f,_,h=>by simp at h;subst h;simp[aV]
  | n::ns,w::vs,i+1,f,hl,h=>by
    have ih:=sS (ns:=ns) (vs:=vs) (i:=i) (f:=f) (by simpa using hl) (by simpa using h)
    have e:aV (n::ns) (w::vs)=(Sum.inr n,w)::aV ns vs:=rfl
    rw[e,List.any_cons,ih,Bool.or_true]
theorem sT:∀ {ns:List Str} {vs:List V} {f:Str} (y:V),¬ f ∈ ns->(aV ns vs).map (fun kv=>if kv.1=(Sum.inr f:Key) then (kv.1,y) else kv)=aV ns vs
  | [],_,_,_,_=>rfl
  | _::_,[],_,_,_=>rfl
  | n::ns,w::vs,f,y,h=>by
    have e:aV (n::ns) (w::vs)=(Sum.inr n,w)::aV ns vs:=rfl
    have ne:¬ ((Sum.inr n:Key)=Sum.inr f):=fun q=>h (Sum.inr.inj q ▸ List.mem_cons_self)
    rw[e,List.map_cons,if_neg ne,sT y fun z=>h (List.mem_cons_of_mem _ z)]
theorem sU:∀ {ns:List Str} {vs:List V} {i:Nat} {f:Str} (y:V),vs.length=ns.length->ns.Nodup->ns[i]?=some f->(aV ns vs).map (fun kv=>if kv.1=(Sum.inr f:Key) then (kv.1,y) else kv)=aV ns (vs.set i y)
  | [],_,_,_,_,_,_,h=>by simp at h
  | _::_,[],_,_,_,h,_,_=>by simp at h
  | n::ns,w::vs,0,f,y,_,hn,h=>by
    simp at h;subst h
    have e:aV (n::ns) (w::vs)=(Sum.inr n,w)::aV ns vs:=rfl
    rw[e,List.map_cons,if_pos rfl,sT y (List.nodup_cons.mp hn).1]
    rfl
  | n::ns,w::vs,i+1,f,y,hl,hn,h=>by
    have h1':ns[i]?=some f:=by simpa using h
    have e:aV (n::ns) (w::vs)=(Sum.inr n,w)::aV ns vs:=rfl
    have ne:¬ ((Sum.inr n:Key)=Sum.inr f):=fun q=>(List.nodup_cons.mp hn).1 (Sum.inr.inj q ▸ List.mem_of_getElem? h1')
    rw[e,List.map_cons,if_neg ne,sU y (by simpa using hl) (List.nodup_cons.mp hn).2 h1']
    rfl
theorem DS{vs:List V}(y:V)(hl:vs.length=ns.length)(hn:ns.Nodup)(hi:ns[i]?=some f):bL (aV ns vs) (.inr f) y=aV ns (vs.set i y):=by
  unfold bL
  rw[if_pos (sS hl hi),sU y hl hn hi]
theorem DT{j}(hr:Room k X.A)(ha:NE X a ta)(hv:NE X b tv)(hn:ns.Nodup:=by decide +kernel)(hi:ns[i]?=some f:=by rfl)(hlt:ns.length < 1000:=by decide)(hs:swapsWith b (some (.Subscript a (.Constant (.str f) j p3) p2)) pos.line X.env=pure false:=by rfl):
    NS X (.Assign [.Subscript a (.Constant (.str f) j p3) p2] b pos) (ij ns i ta tv):=fun P n =>
  b7 (yc (by have:=hr.un;omega) ha lN hv hs) fun De σ H ⟨ρ,M,Ew,hE,ht,hl⟩=>⟨ρ,M,_,hE.q,ht,fun d M1 h1 v H1 p1=>⟨ρ,M1,_,hE.q.next p1.toPostT,h1,fun x M2 ⟨q,ds,ex,hm,h2⟩ vx H2 p2=>by
    subst ex
    cases p2.rep
    obtain⟨vs,g1,gl,g2⟩:=sK p2.ok hm
    have rv:=aw p2.same p1.rep
    have hz:(aV ns vs).length < sizeLine:=by
      have:(aV ns vs).length=ns.length:=by simp[aV,gl]
      rw[this,sizeLine_eq];omega
    refine⟨q,_,rfl,.inl ⟨_,.inr f,g1,rfl,hz,rfl⟩,?_⟩
    rw[DS _ gl hn hi]
    obtain⟨e1,e2⟩:=im (o:=.dK (aV ns (vs.set i v))) (c:=.dic ns (ds.set i d)) p2.ok hm ⟨_,rfl,by rw[List.length_set];exact gl,g2.set rv i⟩
    exact hl.nx _ _ h2 σ _ ((hE.next (p1.toPostT.trans p2.toPostT)).next ⟨e1,e2⟩)⟩⟩
end
end VL
namespace VL
open PySem PySem.Spec PyProof.Rows L2
section
variable {X:Cx} {a b c e:Expr} {ta tb tc tv ti:NTE} {tas:NTA} {ka:NTB} {pos p p2 p3 ap cp pr pn:Pos} {k:Nat} {st:Stmt} {ar body bs:List Stmt} {t u tbd:NTS} {C:Addr} {ns:List Str} {x f:Str} {i:Nat}
theorem DU(ha:NE X a ta)(he:NE X e tv)(hbase:attributeBase a "append" X.env (eval a X.env)=eval a X.env:=by rfl)(hfew:((backTo cp (starEach [e] X.env)).all (fun x=>!x.1) && (backToKw cp (keywordEach [] X.env)).all (fun x=>x.1.isSome)
      && decide (([e]:List Expr).length+([]:List Keyword).length+(if ([]:List Keyword).isEmpty then 0 else 1) < 30))=true:=by rfl)(hline:(ap.endLine == cp.line)=true:=by rfl)(hs:starEach [e] X.env=(false,eval e X.env)::starEach [] X.env:=by rfl)(hplain:(backTo cp (starEach [] X.env)).any (·.1)=false:=by rfl)(hsw:swapsWith (.Call (.Attribute a "append" ap) [e] [] cp) none pos.line X.env=pure false:=by rfl):
    NS X (.Expr (.Call (.Attribute a "append" ap) [e] [] cp) pos) (jk ta tv):=fun P n =>
  b7 (iF (jV PySem.F.plainAttrs_list PySem.F.slot_list_append PySem.F.type_list_append m8 ha (bK he ce hs) hbase hfew hline hs hplain) hsw) fun De σ H ⟨ρ,M,Ew,hE,ht,hl⟩=>⟨ρ,M,_,hE.q,ht,fun x M1 ⟨q,ds0,ex,hm0,h1⟩ vx H1 p1=>by
    subst ex
    cases p1.rep
    obtain⟨xs0,g0,_⟩:=eu p1.ok hm0
    refine⟨.inl ⟨rfl,xs0,.inl (.inl g0)⟩,ρ,M1,_,hE.q.next p1.toPostT,h1,fun v M2 ⟨ds,hm,hz,h2⟩ vv H2 p2=>?_⟩
    obtain⟨xs,g1,g2⟩:=eu p2.ok hm
    have len:=g2.length
    refine⟨q,xs,vv,rfl,rfl,g1,Nat.lt_of_lt_of_le (show xs.length < 100000 by omega) (by decide),?_⟩
    obtain⟨e1,e2⟩:=im (o:=.lst (xs++[vv])) (c:=.lst (ds++[v])) p2.ok hm (g2.append (.cons p2.rep .nil))
    exact hl.nx _ _ h2 σ _ ((hE.next (p1.toPostT.trans p2.toPostT)).next ⟨e1,e2⟩)⟩
theorem DV(ha':NE X a ta)(hb:NE X b ti)(he:NE X e tv)(ha:∀ v,assign (.Subscript a b p3) X.env v=(do
      let ov <- holding [v] (eval a X.env)
      let iv <- holding [v,ov] (eval b X.env)
      standAt p3
      holding [v,ov,iv] (setItem ov iv v)
      release [v,ov,iv] []):=by intro _;rfl)(hs:swapsWithSole [.Subscript a b p3] e pos.line X.env=pure false:=by rfl)(hw:swappedStores [.Subscript a b p3] e X.env=pure none:=by rfl)(h1:(assignEach [.Subscript a b p3] X.env).map (·.2)=[assign (.Subscript a b p3) X.env]:=by rfl):
    NS X (.Assign [.Subscript a b p3] e pos) (ik ta ti tv):=fun P n =>
  b7 (jN he (pw ha' hb qj ha) hs hw h1) fun De σ H ⟨ρ,M,Ew,hE,ht,hl⟩=>⟨ρ,M,_,hE.q,ht,fun d M1 h1 v H1 p1=>⟨ρ,M1,_,hE.q.next p1.toPostT,h1,fun x M2 h2 vx H2 p2=>⟨ρ,M2,_,(hE.q.next p1.toPostT).next p2.toPostT,h2,fun y M3 ⟨q,ds,m,j,ex,hm,ey,hj,h3⟩ vy H3 p3=>by
    subst ex ey
    cases p2.rep
    cases p3.rep
    obtain⟨xs,g1,g2⟩:=eu p3.ok hm
    have rv:=aw (p2.same.trans p3.same) p1.rep
    have len:=g2.length
    obtain⟨e1,e2⟩:=im (o:=.lst (xs.set j v)) (c:=.lst (ds.set j d)) p3.ok hm (g2.set rv j)
    exact⟨q,xs,m,j,rfl,rfl,g1,by rw[len];exact hj,hl.nx _ _ h3 σ _ ((hE.next ((p1.toPostT.trans p2.toPostT).trans p3.toPostT)).next ⟨e1,e2⟩)⟩⟩⟩⟩
theorem DW{K:PySem.W.Frag}{P P1:Hp}{n:Nat}{De:Ends}{Ew:EndN}{N:St->Hp->Prop}{body:D->NTS}{r:List D}(hs:Same P P1)(hl:LeE Ew (io K P n De))(hN:∀ ρ M σ H,EnvN K P1 n σ ρ H M->cS body r Ew ρ M->N σ H):
    LeE { Ew with nx:=fun ρ M=>cS body r Ew ρ M,ct:=fun ρ M=>cS body r Ew ρ M,bk:=Ew.nx } (io K P1 n { De with nx:=N,ct:=N,bk:=De.nx }) where
  nx:=fun ρ M h σ H hE=>hN ρ M σ H hE h
  ct:=fun ρ M h σ H hE=>hN ρ M σ H hE h
  bk:=fun ρ M h σ H hE=>hl.nx ρ M h σ H ⟨hE.q,hs.trans hE.same,hE.lσ,hE.lρ⟩
  rt:=fun d M h v H h1 h2 h3=>hl.rt d M h v H (hs.trans h1) h2 h3
theorem sV{K:PySem.W.Frag}{P:Hp}{n m t:Nat}{lo:Int}{De:Ends}{Ew:EndN}{σ:St}{ρ:ad}{H:Hp}{M:Sto}(hE:EnvN K P n σ ρ H M)(hl:LeE Ew (io K P n De))(h:cS (fun x E ρ M=>tbd E (ρ.set t (some x)) M) ((List.range m).map fun k=>.int (lo+(k:Nat))) Ew ρ M):
    ∃ W:Nat->Nat->St->Hp->Prop,(∃ m,W 0 m σ H)/\∀ i m' σ H,W i m' σ H ->
      ((Itr lo m).stop i H/\De.nx σ H)\/((Itr lo m).go i H/\∃ N:St->Hp->Prop,(∀ σ' H',N σ' H'->∃ m'',m'' < m'/\W (i+1) m'' σ' H')/\∀ x H',(Itr lo m).yld i H x H'->bQ t x σ H' fun σ2 H2=>twS K P n tbd { De with nx:=N,ct:=N,bk:=De.nx } σ2 H2):=by
  refine pE (lo:=lo) (n:=m) (g:=bQ t) (tb:=twS K P n tbd) (D:=De) (fun i σ' H'=>∃ ρ' M',EnvN K P n σ' ρ' H' M'/\cS (fun x E ρ M=>tbd E (ρ.set t (some x)) M) (((List.range m).map fun k=>D.int (lo+(k:Nat))).drop i) Ew ρ' M') ⟨ρ,M,hE,by simpa using h⟩ ?_ ?_
  · rintro i σ' H' hi ⟨ρ',M',hE',hf'⟩
    have ed:((List.range m).map fun k=>D.int (lo+(k:Nat))).drop i=.int (lo+i)::((List.range m).map fun k=>D.int (lo+(k:Nat))).drop (i+1):=by
      rw[List.drop_eq_getElem_cons (by simpa using hi)]
      simp
    rw[ed] at hf'
    exact⟨_,M',_,hE'.set (.int _),hf',DW (Same.refl _) hl fun ρ M σ H hE h=>⟨ρ,M,hE,h⟩⟩
  · rintro σ' H' ⟨ρ',M',hE',hf'⟩
    rw[List.drop_eq_nil_of_le (by simp)] at hf'
    exact hl.nx _ _ hf' σ' H' hE'
theorem DX(t:Nat)(hN:X.N.Nodup)(hc:X.calm=true)(mr:X.mg "range" = none)(hi:NA X [a] tas)(hb:NSs X body tbd)(hp:PassesOwn (model X.prog X.w) X.A X.env X.xe:=by exact PassesOwn.never)(hg:Gl X "range":=by rfl)(hst:starEach [a] X.env=[(false,eval a X.env)]:=by rfl)(hxN:X.N[t]?=some x:=by rfl)(hx:Loc X.env.scope x:=by first | exact Or.inl rfl | exact Or.inr rfl)(hfn:X.fn x=true\/X.env.scope.names.lookup x=some .local:=by first | exact .inl rfl | exact .inr rfl)(hs:∀ x,foldedSetIterable (.Call (.Name "range" pn) [a] [] pr) X.env x=pure x:=by intro _;rfl):NS X (.For (.Name x p2) (.Call (.Name "range" pn) [a] [] pr) body [] pos) (kW t tas tbd):=fun P n =>
  b7 (dS hp hc (jR hg mr hi hst) (bH hN hxN hx hfn) (hb P n) hs) fun De σ H ⟨ρ,M,Ew,hE,ht,hl⟩=>⟨ρ,M,_,hE.q,ht,fun ds M1 ⟨j,e1,hj,h1⟩ vs H1 p1=>by
    subst e1
    obtain⟨v,rfl,r⟩:=e9 p1.rep
    cases r
    exact⟨j,rfl,hj.1,hj.2,sV (hE.next p1.toPostT) hl (by simpa using h1)⟩⟩
theorem DY(t:Nat)(hN:X.N.Nodup)(hc:X.calm=true)(mr:X.mg "range" = none)(hi:NA X [a,b] tas)(hb:NSs X body tbd)(hp:PassesOwn (model X.prog X.w) X.A X.env X.xe:=by exact PassesOwn.never)(hg:Gl X "range":=by rfl)(hst:starEach [a,b] X.env=[(false,eval a X.env),(false,eval b X.env)]:=by rfl)(hst2:starEach [b] X.env=[(false,eval b X.env)]:=by rfl)(hxN:X.N[t]?=some x:=by rfl)(hx:Loc X.env.scope x:=by first | exact Or.inl rfl | exact Or.inr rfl)(hfn:X.fn x=true\/X.env.scope.names.lookup x=some .local:=by first | exact .inl rfl | exact .inr rfl)(hs:∀ x,foldedSetIterable (.Call (.Name "range" pn) [a,b] [] pr) X.env x=pure x:=by intro _;rfl):NS X (.For (.Name x p2) (.Call (.Name "range" pn) [a,b] [] pr) body [] pos) (kX t tas tbd):=fun P n =>
  b7 (dS hp hc (wq hg mr hi hst hst2) (bH hN hxN hx hfn) (hb P n) hs) fun De σ H ⟨ρ,M,Ew,hE,ht,hl⟩=>⟨ρ,M,_,hE.q,ht,fun ds M1 ⟨i,j,e1,hi',hj,h1⟩ vs H1 p1=>by
    subst e1
    obtain⟨v,w,rfl,r1,r2⟩:=mq p1.rep
    cases r1
    cases r2
    exact⟨i,j,rfl,⟨hi'.1,hi'.2,hj.1,hj.2⟩,sV (hE.next p1.toPostT) hl h1⟩⟩
end
theorem DZ{P:Program}{w:World}{K:PySem.W.Frag}{mg:Str->Option Value}{base:Heap}{x qual:Str}{st:Stmt}{f:Addr}{fd:FuncData}{N ps:List Str}{k np n:Nat}{body:NTS}{T:NTF}(h1:ps.length=np)(h2:N.length=n)(h3:T=mkN np n body)(Fn:Fun K x qual st f fd)(S:FnScope N ps (ai st))(h:∀ (cdv:Value) (A:Around) (outer:List PySem.Env) (s:Shared) (H:Hp) (E:XK),Room k (A.deeper (envOfC qual (ai st) s.heap.objs.size f cdv)) ->
      NSs (cK CX0 P w K mg base N qual (ai st) f cdv A outer s H E).nox (aD st) body):
    FnOk P w K mg base CX0 (k+1) f fd ps (spN K T):=by
  subst h1 h2 h3
  have hpl:ps.length<=N.length:=by have:=congrArg List.length S.pre;rw[List.length_take] at this;omega
  refine Fn.ok S (fun vs H Q E h=>?_) (fun cdv A outer s H vs Q E hr h'=>?_)
  · obtain⟨ds,M,QW,r,_,hg,_⟩:=h
    rw[r.length,hg.1]
  · obtain⟨ds,M,QW,r,hok,⟨hl,ht⟩,hQ⟩:=h'
    have lv:=r.length
    refine⟨_,h cdv A outer s H E hr (PH H M) N.length,ds.map some++List.replicate (N.length - ps.length) none,M,_,⟨⟨fun i d q=>?_,hok⟩,Same.refl _,?_,?_⟩,ht,fun ρ M' hn σ' H' hE=>?_,fun ρ M' hn=>hn.elim,fun ρ M' hn=>hn.elim,fun d M' hd v H' e1 e2 e3=>?_⟩
    · have get:ds[i]?=some d:=by
        by_cases hi:i < ds.length
        · rw[List.getElem?_append_left (by simpa using hi),List.getElem?_map] at q
          cases e:ds[i]? with
          | none=>rw[e] at q;cases q
          | some z=>rw[e] at q;simpa using q
        · rw[List.getElem?_append_right (by simpa using hi),List.getElem?_replicate] at q
          split at q <;> cases q
      obtain⟨v,h2,h3⟩:=r.get get
      refine⟨v,?_,h3⟩
      unfold L2.start
      have hi:i < vs.length:=(List.getElem?_eq_some_iff.mp h2).1
      rw[List.getElem?_append_left (by simpa using hi),List.getElem?_map,h2]
      rfl
    · show (L2.start N vs).length=N.length
      unfold L2.start
      rw[List.length_append,List.length_map,List.length_replicate]
      omega
    · rw[List.length_append,List.length_map,List.length_replicate]
      omega
    · exact hQ _ M' hn _ H' ⟨⟨hE.same,hE.q.ok⟩,.non⟩
    · exact hQ d M' hd v H' ⟨⟨e1,e2⟩,e3⟩
theorem E1{K:PySem.W.Frag}{T:NTF}{H:Hp}{a:Addr}{ns:List Int}{E:XK}(hS:SqL K H a (ns.map V.int))(h:T [.scr ns] (fun _=>none) fun d _=>d=.bl true):spN K T [.ref a] H (fun v _=>v=.bl true) E:=by
  have e:Same H (PH H fun _=>none):=qB (fun _ _ q=>q) fun b hb=>absurd rfl hb.1
  have ok:MOk K H (fun _=>none):=fun a c hc=>by cases hc
  refine⟨[.scr ns],fun _=>none,_,.cons (.scr (e.seq hS)) .nil,ok,h,fun d M' hd v H' p=>?_⟩
  subst hd
  cases p.rep
  rfl
def PPV(X:Cx)(pos:Pos)(keys:List (Option Expr))(vals:List Expr)(ns:List Str)(as:FEs)(es:List Es):Prop :=
  ∃ trs,PPs X pos keys vals trs/\keys.length=ns.length/\∀ σ H Q,(∃ ρ ds,EnvR X.K H σ ρ/\as ρ=some ds/\∀ vs H',Posts X.K σ ρ H es ds vs H'->Q ((ns.zip vs).map fun p=>(V.str p.1,p.2)) H')->kc trs σ H Q
section
variable {X:Cx} {a:Expr} {pos p2:Pos} {keys:List (Option Expr)} {vals:List Expr} {ns:List Str} {as:FEs} {ea eb:List Es} {fa:FE} {x:Str}
theorem E2:PPV X pos [] [] [] ak []:=⟨[],ye,rfl,fun σ H Q ⟨ρ,ds,hE,hf,hQ⟩=>by cases hf;exact hQ [] H ⟨Same.refl H,.nil,fun _ _ _=>.nil⟩⟩
theorem E3{j}(ha:VE X a fa ea)(hr:PPV X pos keys vals ns as eb):PPV X pos (some (.Constant (.str x) j p2)::keys) (a::vals) (x::ns) (ae fa as) (ea++eb):=by
  obtain⟨trs,h1,hl,h2⟩:=hr
  refine⟨_,yf lN ha h1,by simp[hl],fun σ H Q ⟨ρ,ds,hE,hf,hQ⟩=>?_⟩
  obtain⟨d,h3,hf⟩:=bind_some hf
  obtain⟨dr,h4,hf⟩:=bind_some hf
  cases hf
  refine⟨ρ,d,hE,h3,fun v H1 p1=>h2 σ H1 _ ⟨ρ,dr,hE.mono p1.same,h4,fun vs H2 p2=>hQ (v::vs) H2 ⟨p1.same.trans p2.same,.cons (aw p2.same p1.rep) p2.rep,fun A hA hz=>?_⟩⟩⟩
  exact .cons (aw (bm p2.same) (p1.av A hA fun z q=>hz z (List.mem_append_left _ q))) (p2.av A (hA.mono p1.same) fun z q=>(hz z (List.mem_append_right _ q)).mono p1.same)
theorem sW:∀ {ns:List Str} {vs:List V} {acc:List (Key × V)},vs.length=ns.length->ns.Nodup->(∀ x ∈ ns,bV acc (.inr x)=none)->dY acc (aV ns vs)=acc++aV ns vs
  | [],_,acc,_,_,_=>by simp[aV,dY]
  | _::_,[],_,h,_,_=>by simp at h
  | n :: ns,v::vs,acc,hl,hn,ha=>by
    have e:aV (n::ns) (v::vs)=(Sum.inr n,v)::aV ns vs:=rfl
    rw[e]
    show dY (bL acc (.inr n) v) (aV ns vs)=_
    rw[xT v (ha n List.mem_cons_self),sW (by simpa using hl) (List.nodup_cons.mp hn).2 fun x hx=>?_,List.append_assoc]
    · rfl
    · have ne:n ≠ x:=fun q=>(List.nodup_cons.mp hn).1 (q ▸ hx)
      have h0:=ha x (List.mem_cons_of_mem _ hx)
      unfold bV at h0 ⊢
      rw[List.find?_append]
      cases hf:List.find? (fun kv=>decide (kv.1=(Sum.inr x:Key))) acc with
      | some z=>rw[hf] at h0;cases h0
      | none=>simp[ne]
theorem E4(h:PPV X pos keys vals ns as ea)(hn:ns.Nodup:=by decide +kernel)(hall:keys.all (·.isSome)=true:=by rfl)(hl:keys.length=vals.length:=by rfl)(h0:keys ≠ []:=by simp)(h15:keys.length<=15:=by decide):NE X (.Dict keys vals pos) (kR ns as):=by
  obtain⟨trs,h1,hk,h2⟩:=h
  refine aJ (yh h1 hall hl h0 h15) fun σ H Q ⟨ρ,M,QW,hE,⟨ds,hf,hlen,hq⟩,hQ⟩ p hp=>h2 σ _ _ ⟨ρ,ds,hE.envR.mono (bg hp _),hf,fun vs H2 p2=>?_⟩
  have lv:=p2.rep.length
  have hpp:=p2.same _ _ b5
  refine⟨hpp,aV ns vs,by simp[aV,kV,Function.comp_def],by simp[aV];omega,?_⟩
  have em:dY [] (aV ns vs)=aV ns vs:=by rw[sW (by omega) hn fun x hx=>xS];rfl
  rw[em]
  have s0:Same H (upd H2 p (.dK (aV ns vs))):=fun b u q=>by
    rw[aC (bP q hp)]
    exact p2.same _ _ (bg hp _ _ _ q)
  have hd:Dom (upd H p (.dK [])) (fun b=>inM M b\/b=p):=fun b hb=>by
    rcases hb with hb | rfl
    · exact fun z=>hE.ok.dom b hb ((bg hp _).free z)
    · rw[b5];exact fun z=>nomatch z
  have hav:∀ e ∈ ea,Av X.K (upd H p (.dK [])) σ ρ (fun b=>inM M b\/b=p) e:=fun e _=>by
    have up:Same (PH H M) (aj (upd H p (.dK [])) fun b=>inM M b\/b=p):=sJ hp
    have full:∀ (j:Nat) (v:V) (d:D),σ[j]?=some (some v)->ρ[j]?=some (some d)->Rep X.K (aj (upd H p (.dK [])) fun b=>inM M b\/b=p) v d:=fun j v d h1 h2=>by
      obtain⟨v',h3,h4⟩:=hE.env j d h2
      rw[h1] at h3;cases h3
      exact aw up h4
    cases e with
    | full j=>exact full j
    | el j=>exact fun v d h1 h2=>(full j v d h1 h2).el
  have rr:=p2.av _ hd hav
  have up2:Same (aj H2 fun b=>inM M b\/b=p) (aj (upd H2 p (.dK (aV ns vs))) fun b=>inM M b\/b=p):=fun b u q=>by
    obtain⟨n,q⟩:=cw q
    rw[bc n,aC fun z=>n (.inr z)]
    exact q
  obtain⟨e1,e2⟩:=lh (c:=.dic ns ds) hE.ok hp s0 b5 ⟨vs,rfl,by omega,aH up2 rr⟩
  exact hQ _ _ (hq p (hE.ok.fresh hp)) _ _ ⟨⟨e1,e2⟩,.ptr p⟩
end
end VL
namespace VL
open PySem PySem.Spec PyProof.Rows L2
section
variable {X:Cx} {elt tg iter a:Expr} {ifs:List Expr} {scope:Scope} {own cn:List Str} {caps:List Nat} {wi:TI} {g:TG} {tt:TT} {te:TE} {pos spos p2 pr pn:Pos} {tas:NTA} {tel:NTE} {x y:Str}
theorem sX(B:BlkOk X scope own caps cn)(hc:X.calm=true)(hi:PI X tg iter wi)(hg:∀ s H cl ex,PG (blk X (own++cn) s H scope cl ex) tg g)(ht:∀ s H cl ex,PTs (blk X (own++cn) s H scope cl ex) ifs tt)(he:∀ s H cl ex,PE (blk X (own++cn) s H scope cl ex) elt te)(hs:∀ x,foldedSetIterable iter X.env x=pure x:=by intro _;rfl):
    PE X (.ListComp elt [⟨tg,iter,ifs,0⟩] scope pos) (iX own.length caps wi g tt te):=by
  intro pins s σ H Q I h
  obtain⟨cl,hclos,hcl,hha⟩:=qS (scope:=scope) (env:=X.env) fun x hx hf=>I.ok.has x.1 (B.free x hx hf)
  rw[eval_ListComp]
  refine wpAny_comprehension_free (use:=none) rfl hs hclos B.kind B.locals (qU B hc hi hg ht he I h hcl hha (RR:=fun acc C=>compPost (model X.prog X.w) X.A X.xe none (EP X pins σ Q) acc C) fun d c ys H' s' af q=>?_)
  obtain⟨m,hm⟩:=af.ns
  obtain⟨f0,f1,_,f3,f4,f5⟩:=af.cf
  refine⟨m,hm,fun h' sb=>⟨.ref d,_,af.inv.turned (t':=s'.toks) (it:=c) (fun b o hb e=>(sb.2 b hb).trans e) f0 f1 f3 f4 f5,rfl,q⟩⟩
theorem sY{K:PySem.W.Frag}{P:Hp}{σ σb:St}{ρ:ad}{caps:List Nat}{v:V}{d:D}(hE:EnvR K P σ ρ)(hlen:σb.length=1+caps.length)(hcap:∀ k,1<=k->σb[k]?=(ci σ caps)[k - 1]?)(r:Rep K P v d):
    EnvR K P (σb.set 0 (some v)) ((be 1 caps ρ).set 0 (some d)):=fun j d' q=>by
  cases j with
  | zero =>
    rw[List.getElem?_set_self (by simp[be])] at q
    cases q
    exact⟨v,List.getElem?_set_self (by omega),r⟩
  | succ j =>
    rw[List.getElem?_set_ne (by omega)] at q
    unfold be at q
    rw[List.getElem?_append_right (by simp)] at q
    simp only[List.length_replicate,Nat.add_sub_cancel,List.getElem?_map] at q
    cases hk:caps[j]? with
    | none=>rw[hk] at q;cases q
    | some k =>
      rw[hk] at q
      simp only[Option.map_some,Option.some.injEq] at q
      cases e:ρ[k]? with
      | none=>rw[e] at q;cases q
      | some o' =>
        rw[e] at q
        simp only[Option.getD_some] at q
        subst q
        obtain⟨w,h1,h2⟩:=hE k d' e
        refine⟨w,?_,h2⟩
        rw[List.getElem?_set_ne (by omega),hcap (j+1) (by omega)]
        simp[ci,hk,h1]
theorem E5{K:PySem.W.Frag}{caps:List Nat}{σ:St}{H:Hp}{Q:VK}(h:tw K (il caps tas tel) σ H Q):iX 1 caps (pB (twA K tas)) (bQ 0) (fun _ H Q=>Q true H) (tw K tel) σ H Q:=by
  obtain⟨ρ,M,QW,hE,ht,hQ⟩:=h
  refine⟨ρ,M,_,hE,ht,fun ds M1 ⟨j,e1,hj,hj2,h1⟩ vs H1 p1=>?_⟩
  subst e1
  obtain⟨v,rfl,r⟩:=e9 p1.rep
  cases r
  refine⟨j,rfl,hj.1,hj.2,?_⟩
  have hE1:=hE.next p1.toPostT
  let L:List D:=(List.range j.toNat).map fun k=>.int (k:Nat)
  have lL:L.length=j.toNat:=by simp[L]
  refine⟨fun i m ys σb H2=>m=j.toNat - i/\i<=j.toNat/\(σb.length=1+caps.length/\∀ k,1<=k->σb[k]?=(ci σ caps)[k - 1]?) /\
    ∃ M2 done,PostT K H1 M1 H2 M2/\Reps K (PH H2 M2) ys done/\done.length=i/\dL 1 tel (be 1 caps ρ) (L.drop i) done M2 fun ds M2=>QW (.lst ds) M2,?_,?_⟩
  · refine⟨j.toNat,by simp,Nat.zero_le _,⟨by simp[ci];omega,fun k hk=>?_⟩,M1,[],PostT.refl p1.ok,.nil,rfl,by simpa using h1⟩
    rw[List.getElem?_append_right (by simpa using hk)]
    simp
  · rintro i m ys σb H2 ⟨rfl,hi,⟨hlen,hcap⟩,M2,done,pt,hr,hdl,hgo⟩
    have lys:=hr.length
    refine⟨by rw[sizeLine_eq];omega,?_⟩
    by_cases hlt:i < j.toNat
    · have ed:L.drop i=.int (i:Nat)::L.drop (i+1):=by
        rw[List.drop_eq_getElem_cons (by omega)]
        simp[L]
      rw[ed] at hgo
      refine .inr ⟨hlt,fun x H3 hy=>?_⟩
      obtain⟨e3,e4⟩:=hy
      subst e3 e4
      rw[Int.zero_add]
      unfold bQ
      dsimp only
      rw[if_pos rfl]
      refine⟨_,M2,_,⟨sY (hE1.env.mono pt.same) hlen hcap (.int _),pt.ok⟩,hgo,fun d M3 h3 w H4 p4=>?_⟩
      refine⟨j.toNat - (i+1),by omega,rfl,hlt,⟨by rw[List.length_set];exact hlen,fun k hk=>by rw[List.getElem?_set_ne (by omega)];exact hcap k hk⟩,M3,done++[d],pt.trans p4.toPostT,(aH p4.same hr).append (.cons p4.rep .nil),by simp[hdl],h3⟩
    · have e:i=j.toNat:=by omega
      subst e
      rw[List.drop_eq_nil_of_le (by omega)] at hgo
      refine .inl ⟨Nat.le_refl _,fun l hl=>?_⟩
      have hn:=pt.ok.fresh hl
      refine hQ _ M2 hgo _ _ ⟨(p1.toPostT.trans pt).trans (PostT.of pt.ok (bg hl _)),.lst (.inl ?_) (aH (PH.up (bg hl _)) hr)⟩
      rw[PH.of hn];exact b5
theorem E6(B:BlkOk X scope [y] caps cn)(hc:X.calm=true)(mr:X.mg "range" = none)(hi:NA X [a] tas)(hg:∀ s H cl ex,PG (blk X ([y]++cn) s H scope cl ex) tg (bQ 0))(he:∀ s H cl ex,NE (blk X ([y]++cn) s H scope cl ex) elt tel)(hgr:Gl X "range":=by rfl)(hst:starEach [a] X.env=[(false,eval a X.env)]:=by rfl)(hs:∀ x,foldedSetIterable (.Call (.Name "range" pn) [a] [] pr) X.env x=pure x:=by intro _;rfl):
    NE X (.ListComp elt [⟨tg,.Call (.Name "range" pn) [a] [] pr,[],0⟩] scope pos) (il caps tas tel) :=
  aJ (sX B hc (jR hgr mr hi hst) hg (fun _ _ _ _=>mF) he hs) fun _ _ _ h=>E5 h
end
section
variable {X:Cx} {a b:Expr} {tas:NTA} {pos p:Pos}
theorem sZ{g:D->Option D}(h:∀ x d,g x=some d->b6 d=true)(ds:List D)(d:D)(e:aI g ds=some d):b6 d=true:=by
  obtain⟨x,_,h2⟩:=iS e
  exact h x d h2
theorem E7(ml:X.mg "len" = none)(ha:NA X [a] tas)(hg:Gl X "len":=by rfl)(he:starEach [a] X.env=(false,eval a X.env)::starEach [] X.env:=by rfl)(hpl:(backTo pos (starEach [] X.env)).any (·.1)=false:=by rfl):
    NE X (.Call (.Name "len" p) [a] [] pos) (dJ (aI br) tas):=sO qk qK ml PySem.boot_len ha (sZ fun x d h=>by obtain⟨_,_,h⟩:=bind_some h;cases h;rfl) hg (by decide) (by decide) he hpl
theorem E8(hc:X.calm=true)(ml:X.mg "sum" = none)(ha:NA X [a] tas)(hg:Gl X "sum":=by rfl)(he:starEach [a] X.env=(false,eval a X.env)::starEach [] X.env:=by rfl)(hpl:(backTo pos (starEach [] X.env)).any (·.1)=false:=by rfl):
    NE X (.Call (.Name "sum" p) [a] [] pos) (dJ (aI cy) tas):=sO (qN hc) qO ml PyProof.Rows.boot_sum ha (sZ fun x d h=>by
      unfold cy at h
      split at h
      · cases h
      · obtain⟨_,_,h⟩:=bind_some h
        obtain⟨_,_,h⟩:=bind_some h
        cases h;rfl) hg (by decide) (by decide) he hpl
end
end VL
namespace VL
open PySem PySem.Spec PyProof.Rows L2
theorem E9{K:PySem.W.Frag}{H:Hp}{M:Sto}{v:V}{d:D}(h:MOk K H M)(r:Rep K (PH H M) v d):Rep K H v (vw2 M d):=by
  cases r with
  | ptr a =>
    show Rep K H (.ref a) (match M a with | some (.lst ds)=>.lst (ds.map (vw1 M)) | _=>.ptr a)
    split
    · rename_i ds hm
      obtain⟨xs,g1,g2⟩:=eu h hm
      exact .lst (.inl g1) (nz h g2)
    · exact .ptr a
  | non=>exact .non
  | bl b=>exact .bl b
  | int b=>exact .int b
  | str b=>exact .str b
  | lst h1 h2=>exact aw (aQ _ _) (.lst h1 h2)
  | tup h1 h2=>exact aw (aQ _ _) (.tup h1 h2)
  | scr h1=>exact aw (aQ _ _) (.scr h1)
  | dct h1=>exact aw (aQ _ _) (.dct h1)
theorem li{K:PySem.W.Frag}{H:Hp}{M:Sto}(h:MOk K H M):∀ {vs:List V} {ds:List D},Reps K (PH H M) vs ds->Reps K H vs (ds.map (vw2 M))
  | [],_,r=>by cases r;exact .nil
  | _::_,_,r=>by cases r with | cons a t=>exact .cons (E9 h a) (li h t)
theorem t0{K:PySem.W.Frag}{H H':Hp}:∀ {xs:List Int} {vs:List V},Reps K H vs (xs.map D.int)->Reps K H' vs (xs.map D.int)
  | [],_,r=>by cases r;exact .nil
  | _::_,_,r=>by cases r with | cons a t=>cases a;exact .cons (.int _) (t0 t)
section
variable {X:Cx} {a b c:Expr} {ta tb tc:NTE} {tas:NTA} {pos p p2 ap cp:Pos} {k:Nat} {ps:List Str} {x m:Str} {es:List Expr} {T:NTF} {G:List D->Option D} {fr:Bool} {C:Addr} {ns:List Str} {fa:FE} {ea:List Es}
theorem Ea(d:Def X.prog X.w X.K X.mg X.base x k ps G fr)(hr:Room k X.A)(ha:NA X (a::es) tas)(hg:Gl X x:=by rfl)(hdb:(x == ("__debug__" : Str))=false:=by decide)(he:starEach (a::es) X.env=(false,eval a X.env)::starEach es X.env:=by rfl)(hpl:(backTo pos (starEach es X.env)).any (·.1)=false:=by rfl):
    NE X (.Call (.Name x p) (a::es) [] pos) (kY G tas) :=
  let ⟨_,_,F,hm,hk,hb⟩:=d
  aJ (fA F hr hg hm hk hb .nil dD ha hdb he hpl) fun σ H Q ⟨ρ,M,QW,hE,ht,hQ⟩=>⟨ρ,M,_,hE,ht,fun ds M1 ⟨d,hf,hs,hq⟩ vs H1 p=>by
    show spF X.K G fr (vs++[]) H1 Q E0
    rw[List.append_nil]
    have rv:=li p.ok p.rep
    exact⟨_,d,rv,hf,fun v H' r=>hQ d M1 hq v H' ⟨p.toPostT.trans (PostT.of p.ok r.same),kd hs (r.rep dh (Dom.none _) (aH (gO _) rv))⟩⟩⟩
theorem Eb(d:Def X.prog X.w X.K X.mg X.base x k ps G true)(hr:Room k X.A)(ha:NA X (a::es) tas)(hg:Gl X x:=by rfl)(hdb:(x == ("__debug__" : Str))=false:=by decide)(he:starEach (a::es) X.env=(false,eval a X.env)::starEach es X.env:=by rfl)(hpl:(backTo pos (starEach es X.env)).any (·.1)=false:=by rfl):
    NE X (.Call (.Name x p) (a::es) [] pos) (kZ G tas) :=
  let ⟨_,_,F,hm,hk,hb⟩:=d
  aJ (fA F hr hg hm hk hb .nil dD ha hdb he hpl) fun σ H Q ⟨ρ,M,QW,hE,ht,hQ⟩=>⟨ρ,M,_,hE,ht,fun ds M1 ⟨d,hf,⟨xs,ex⟩,hq⟩ vs H1 p=>by
    show spF X.K G true (vs++[]) H1 Q E0
    rw[List.append_nil]
    have rv:=li p.ok p.rep
    subst ex
    refine⟨_,_,rv,hf,fun v H' r=>hQ _ M1 hq v H' ⟨p.toPostT.trans (PostT.of p.ok r.same),?_⟩⟩
    obtain⟨l,ys,es,rfl,e2,hl0,hl1,hA⟩:=r.new rfl
    cases e2
    refine .lst (.inl ?_) (t0 (hA dh (Dom.none _) (aH (gO _) rv)))
    rw[PH.of (p.ok.fresh hl0)];exact hl1⟩
theorem Ec(d:DefX X.prog X.w X.K X.mg X.base x k ps G)(hr:Room k X.A)(ha:NA X (a::es) tas)(hg:Gl X x:=by rfl)(hdb:(x == ("__debug__" : Str))=false:=by decide)(he:starEach (a::es) X.env=(false,eval a X.env)::starEach es X.env:=by rfl)(hpl:(backTo pos (starEach es X.env)).any (·.1)=false:=by rfl):
    NE X (.Call (.Name x p) (a::es) [] pos) (l0 G tas) :=
  let ⟨_,_,F,hm,hk,hb⟩:=d
  aJ (fA F hr hg hm hk hb .nil dD ha hdb he hpl) fun σ H Q ⟨ρ,M,QW,hE,ht,hQ⟩=>⟨ρ,M,_,hE,ht,fun ds M1 ⟨d,hf,hq⟩ vs H1 p=>by
    show spX X.K G (vs++[]) H1 Q E0
    rw[List.append_nil]
    have rv:=li p.ok p.rep
    refine⟨_,_,rv,hf,fun v H' r=>hQ _ M1 hq v H' ⟨p.toPostT.trans (PostT.of p.ok r.same),?_⟩⟩
    obtain⟨l,bs,dss,rfl,rfl,hnd,hnew,hl,hin⟩:=r.new
    have out:∀ b,b=l\/b ∈ bs->¬ inM M1 b:=fun b hb q=>p.ok.dom b q (hnew b hb)
    refine .lst (.inl ?_) ((hin (inM M1)).reps (fun _ q=>q) fun b hb=>out b (.inr hb))
    show aj H' (inM M1) l=_
    rw[bc (out l (.inl rfl))];exact hl⟩
theorem Ed(ml:X.mg "list" = none)(ha:NE X a ta)(hg:Gl X "list":=by rfl)(he:starEach [a] X.env=(false,eval a X.env)::starEach [] X.env:=by rfl)(hpl:(backTo pos (starEach [] X.env)).any (·.1)=false:=by rfl):
    NE X (.Call (.Name "list" p) [a] [] pos) (la ta) :=
  aJ (m7 ql hg ml (by decide +kernel) (bK ha ce he) (by decide) (by decide) he hpl) fun σ H Q ⟨ρ,M,QW,hE,ht,hQ⟩=>by
    refine⟨ρ,M,_,hE,ht,fun d M1 ⟨ds,hd,hq⟩ v H1 p1=>?_⟩
    have key:∃ q xs,v=.ref q/\SqL X.K H1 q xs/\Reps X.K (PH H1 M1) xs ds:=by
      cases d with
      | ptr b =>
        cases p1.rep
        cases hm:M1 b with
        | none=>simp[vw1,hm] at hd
        | some c =>
          cases c with
          | lst es =>
            simp only[vw1,hm] at hd
            cases hd
            obtain⟨xs,g1,g2⟩:=eu p1.ok hm
            exact⟨b,xs,rfl,SqL.of g1,g2⟩
          | dic _ _=>simp[vw1,hm] at hd
          | ins _ _ _=>simp[vw1,hm] at hd
          | dcT _ _=>simp[vw1,hm] at hd
      | lst es =>
        cases hd
        obtain⟨q,xs,rfl,hq,hx,_⟩:=e8 p1.rep rfl rfl
        exact⟨q,xs,rfl,(aQ _ _).seq hq,hx⟩
      | _=>cases hd
    obtain⟨q,xs,rfl,hq',hx⟩:=key
    exact⟨q,xs,rfl,.inl hq',fun l hl=>by
      have hn:=p1.ok.fresh hl
      refine hQ _ M1 hq _ _ ⟨p1.toPostT.trans (PostT.of p1.ok (bg hl _)),.lst (.inl ?_) (aH (PH.up (bg hl _)) hx)⟩
      rw[PH.of hn];exact b5⟩
theorem Ee(ha:VF X a fa ea)(hb:NE X b tb):NE X (.BinOp a .Mult b pos) (lc fa tb) :=
  aJ (jT xM ha hb) fun σ H Q ⟨ρ,M,QW,hE,⟨dx,hf,hq⟩,hQ⟩=>by
    refine⟨ρ,dx,hE.envR,hf,fun x H1 p1=>?_⟩
    obtain⟨l,xs,ds,rfl,rfl,hl0,hl1,hA⟩:=p1.new
    have pt:=PostT.of hE.ok p1.same
    refine⟨ρ,M,_,hE.next pt,hq,fun dy M1 ⟨d,hd,hq1⟩ y H2 p2=>?_⟩
    have hln:M l=none:=hE.ok.fresh hl0
    have hx:Reps X.K (PH H1 M) xs ds:=aH (bC (fun _ _ z=>z) fun _ z=>.inl z) (hA (inM M) hE.ok.dom fun e _=>nv hE e)
    have hll:PH H2 M1 l=some (.lst xs):=p2.same _ _ (by rw[PH.of hln];exact hl1)
    cases dy with
    | int k =>
      cases p2.rep
      obtain⟨⟨hl,hk1,hk2⟩,rfl⟩:=bW hd
      refine⟨l,k,xs,rfl,rfl,(PH.at hll).2,by omega,by omega,by rw[hx.length];exact qI hl,fun r hr=>?_⟩
      have hn:=p2.ok.fresh hr
      refine hQ _ M1 hq1 _ _ ⟨(pt.trans p2.toPostT).trans (PostT.of p2.ok (bg hr _)),.lst (.inl ?_) ((aH (p2.same.trans (PH.up (bg hr _))) hx).rep k.toNat)⟩
      rw[PH.of hn];exact b5
    | _=>cases hd
end
section
variable {X:Cx} {elt tg iter a:Expr} {scope:Scope} {cn:List Str} {caps:List Nat} {pos spos p2 pr pn:Pos} {tit tel:NTE} {x y:Str}
theorem Ef{K:PySem.W.Frag}{σ:St}{H:Hp}{Q:VK}{fin:List D->Sto->QE->Prop}(hfin:∀ {ds:List D} {M2:Sto} {QW:QE} {H2:Hp} {ys:List V} {l:Addr} {H0:Hp} {M0:Sto},fin ds M2 QW->PostT K H0 M0 H2 M2->Reps K (PH H2 M2) ys ds->H2 l=none->∃ d M3,QW d M3/\PostW K H0 M0 d (.ref l) (upd H2 l (.lst ys)) M3)(h:tw K (fun ρ M Q=>tit ρ M fun d M1=>∃ ds,bt d=some ds/\ds.length<=1000/\dL 1 tel (be 1 caps ρ) ds [] M1 fun ds M2=>fin ds M2 Q) σ H Q):iX 1 caps (pz K (tw K tit)) (bQ 0) (fun _ H Q=>Q true H) (tw K tel) σ H Q:=by
  obtain⟨ρ,M,QW,hE,ht,hQ⟩:=h
  refine⟨ρ,M,_,hE,ht,fun d M1 ⟨L,hds,hll,h1⟩ v H1 p1=>?_⟩
  have hsd:=kO hds
  obtain⟨q,xs,rfl,hq,hx',hA⟩:=e8 p1.rep hsd.2 hsd.1
  have len:=hx'.length
  refine⟨q,rfl,⟨xs,(aQ _ _).seq hq⟩,?_⟩
  have hE1:=hE.next p1.toPostT
  refine⟨fun i m ys σb H2=>m=xs.length - i/\i<=xs.length/\(σb.length=1+caps.length/\∀ k,1<=k->σb[k]?=(ci σ caps)[k - 1]?) /\
    ∃ M2 done,PostT K H1 M1 H2 M2/\Reps K (PH H2 M2) ys done/\done.length=i/\dL 1 tel (be 1 caps ρ) (L.drop i) done M2 fun ds M2=>fin ds M2 QW,?_,?_⟩
  · refine⟨xs.length,by simp,Nat.zero_le _,⟨by simp[ci];omega,fun k hk=>?_⟩,M1,[],PostT.refl p1.ok,.nil,rfl,by simpa using h1⟩
    rw[List.getElem?_append_right (by simpa using hk)]
    simp
  · rintro i m ys σb H2 ⟨rfl,hi,⟨hlen,hcap⟩,M2,done,pt,hr,hdl,hgo⟩
    have lys:=hr.length
    have sq:SqL K H2 q xs:=(aQ _ _).seq (pt.same.seq hq)
    refine⟨by rw[sizeLine_eq];omega,?_⟩
    by_cases hlt:i < xs.length
    · obtain⟨dy,h4,h5⟩:=hx'.getV (List.getElem?_eq_getElem hlt)
      have ed:L.drop i=dy::L.drop (i+1):=by
        rw[List.drop_eq_getElem_cons (by omega)]
        have e2:L[i]'(by omega)=dy:=(List.getElem?_eq_some_iff.mp h4).2
        rw[e2]
      rw[ed] at hgo
      refine .inr ⟨⟨xs,xs[i],sq,List.getElem?_eq_getElem hlt⟩,fun x H3 hy=>?_⟩
      obtain⟨e4,e5⟩:=hy
      subst e4
      have e6:=e5 xs sq
      rw[List.getElem?_eq_getElem hlt] at e6
      cases e6
      unfold bQ
      dsimp only
      rw[if_pos rfl]
      refine⟨_,M2,_,⟨sY (hE1.env.mono pt.same) hlen hcap (aw pt.same h5),pt.ok⟩,hgo,fun d M3 h3 w H4 p4=>?_⟩
      refine⟨xs.length - (i+1),by omega,rfl,hlt,⟨by rw[List.length_set];exact hlen,fun k hk=>by rw[List.getElem?_set_ne (by omega)];exact hcap k hk⟩,M3,done++[d],pt.trans p4.toPostT,(aH p4.same hr).append (.cons p4.rep .nil),by simp[hdl],h3⟩
    · have e:i=xs.length:=by omega
      subst e
      rw[List.drop_eq_nil_of_le (by omega)] at hgo
      refine .inl ⟨⟨xs,sq,Nat.le_refl _⟩,fun l hl=>?_⟩
      obtain⟨d,M3,g1,g2⟩:=hfin hgo (p1.toPostT.trans pt) hr hl
      exact hQ d M3 g1 _ _ g2
theorem Eg{K:PySem.W.Frag}{ds:List D}{M2:Sto}{QW:QE}{H2:Hp}{ys:List V}{l:Addr}{H0:Hp}{M0:Sto}(hgo:∀ a,M2 a=none->QW (.ptr a) (aN M2 a (.lst ds)))(pt:PostT K H0 M0 H2 M2)(hr:Reps K (PH H2 M2) ys ds)(hl:H2 l=none):∃ d M3,QW d M3/\PostW K H0 M0 d (.ref l) (upd H2 l (.lst ys)) M3:=by
  have hn:=pt.ok.fresh hl
  obtain⟨e1,e2⟩:=lh (c:=.lst ds) pt.ok hl (bg hl (.lst ys)) b5 (aH (sJ hl) hr)
  exact⟨_,_,hgo l hn,pt.trans ⟨e1,e2⟩,.ptr l⟩
theorem Eh(B:BlkOk X scope [y] caps cn)(hc:X.calm=true)(hi:NE X iter tit)(hg:∀ s H cl ex,PG (blk X ([y]++cn) s H scope cl ex) tg (bQ 0))(he:∀ s H cl ex,NE (blk X ([y]++cn) s H scope cl ex) elt tel)(hs:∀ x,foldedSetIterable iter X.env x=pure x:=by intro _;rfl):
    NE X (.ListComp elt [⟨tg,iter,[],0⟩] scope pos) (ld caps tit tel) :=
  aJ (sX B hc (jQ hi) hg (fun _ _ _ _=>mF) he hs) fun _ _ _ h=>Ef (fin:=fun ds M2 Q=>∀ a,M2 a=none->Q (.ptr a) (aN M2 a (.lst ds))) Eg h
end
section
variable {X:Cx} {a b c e:Expr} {ta tb tc tv ti:NTE} {tas:NTA} {pos p p2 p3 ap cp pr pn:Pos} {st:Stmt} {ar body bs:List Stmt} {t u tbd:NTS} {x f:Str} {i:Nat}
theorem Ei(ha:NE X a ta)(hbase:attributeBase a "reverse" X.env (eval a X.env)=eval a X.env:=by rfl)(hline:(ap.endLine == cp.line)=true:=by rfl)(hsw:swapsWith (.Call (.Attribute a "reverse" ap) [] [] cp) none pos.line X.env=pure false:=by rfl):
    NS X (.Expr (.Call (.Attribute a "reverse" ap) [] [] cp) pos) (jl ta):=fun P n =>
  b7 (iF (xF PySem.F.plainAttrs_list PySem.F.slot_list_reverse PySem.F.type_list_reverse xJ ha hbase hline) hsw) fun De σ H ⟨ρ,M,Ew,hE,ht,hl⟩=>⟨ρ,M,_,hE.q,ht,fun x M1 ⟨q,ds,ex,hm,h1⟩ vx H1 p1=>by
    subst ex
    cases p1.rep
    obtain⟨xs,g1,g2⟩:=eu p1.ok hm
    refine⟨.inl ⟨rfl,xs,.inl (.inl g1)⟩,q,xs,rfl,rfl,g1,?_⟩
    obtain⟨e1,e2⟩:=im (o:=.lst xs.reverse) (c:=.lst ds.reverse) p1.ok hm g2.reverse
    exact hl.nx _ _ h1 σ _ ((hE.next p1.toPostT).next ⟨e1,e2⟩)⟩
theorem t3{K:PySem.W.Frag}{H:Hp}:∀ {bs:List Nat} {vs:List V},Reps K H vs (bs.map D.ptr)->vs=bs.map V.ref
  | [],_,r=>by cases r;rfl
  | _::_,_,r=>by cases r with | cons a t=>cases a;rw[t3 t];rfl
theorem Ej{K:PySem.W.Frag}{P P1:Hp}{n:Nat}{De:Ends}{Ew:EndN}{N:St->Hp->Prop}{body:D->NTS}{r all:List D}{q:Nat}(hs:Same P P1)(hl:LeE Ew (io K P n De))(hN:∀ ρ M σ H,EnvN K P1 n σ ρ H M->dj body q all r Ew ρ M->N σ H):
    LeE { Ew with nx:=fun ρ M=>dj body q all r Ew ρ M,ct:=fun ρ M=>dj body q all r Ew ρ M,bk:=Ew.nx } (io K P1 n { De with nx:=N,ct:=N,bk:=De.nx }) where
  nx:=fun ρ M h σ H hE=>hN ρ M σ H hE h
  ct:=fun ρ M h σ H hE=>hN ρ M σ H hE h
  bk:=fun ρ M h σ H hE=>hl.nx ρ M h σ H ⟨hE.q,hs.trans hE.same,hE.lσ,hE.lρ⟩
  rt:=fun d M h v H h1 h2 h3=>hl.rt d M h v H (hs.trans h1) h2 h3
theorem t4{body:D->NTS}{q:Nat}{all:List D}:∀ {r:List D} {E:EndN} {ρ:ad} {M:Sto},dj body q all r E ρ M->M q=some (.lst all)
  | [],_,_,_,h=>h.1
  | _::_,_,_,_,h=>h.1
theorem Ek(t:Nat)(hN:X.N.Nodup)(hc:X.calm=true)(hi:NE X a ta)(hb:NSs X body tbd)(hp:PassesOwn (model X.prog X.w) X.A X.env X.xe:=by exact PassesOwn.never)(hxN:X.N[t]?=some x:=by rfl)(hx:Loc X.env.scope x:=by first | exact Or.inl rfl | exact Or.inr rfl)(hfn:X.fn x=true\/X.env.scope.names.lookup x=some .local:=by first | exact .inl rfl | exact .inr rfl)(hs:∀ x,foldedSetIterable a X.env x=pure x:=by intro _;rfl):NS X (.For (.Name x p2) a body [] pos) (lf t ta tbd):=fun P n=>by
  have hb':PSs X body (fun De σ H=>∃ P1,twS X.K P1 n tbd De σ H):=fun pins s σ H De I ⟨P1,h⟩=>hb P1 n pins s σ H De I h
  refine b7 (dS hp hc (jQ hi) (bH hN hxN hx hfn) hb' hs) fun De σ H ⟨ρ,M,Ew,hE,ht,hl⟩=>⟨ρ,M,_,hE.q,ht,fun d M1 ⟨q,bs,ex,h1⟩ v H1 p1=>?_⟩
  subst ex
  have hE1:=hE.next p1.toPostT
  cases p1.rep
  have see:∀ {M':Sto} {H':Hp},MOk X.K H' M'->M' q=some (.lst (bs.map .ptr))->SqL X.K H' q (bs.map V.ref):=fun {M' H'} ok hm=>by
    obtain⟨xs,g1,g2⟩:=eu ok hm
    rw[t3 g2] at g1
    exact SqL.of g1
  refine⟨q,rfl,⟨_,see p1.ok (t4 h1)⟩,?_⟩
  refine pC (K:=X.K) (a:=q) (xs:=bs.map V.ref) (g:=bQ t) (tb:=fun De σ H=>∃ P1,twS X.K P1 n tbd De σ H) (D:=De) (fun i σ' H'=>∃ ρ' M',EnvN X.K (PH H1 M1) n σ' ρ' H' M'/\dj (fun x E ρ M=>tbd E (ρ.set t (some x)) M) q (bs.map .ptr) ((bs.map .ptr).drop i) Ew ρ' M')
    ⟨ρ,M1,⟨hE1.q,Same.refl _,hE1.lσ,hE1.lρ⟩,by simpa using h1⟩ ?_ ?_ ?_
  · rintro i σ' H' _ ⟨ρ',M',hE',hf'⟩
    exact see hE'.q.ok (t4 hf')
  · rintro i y σ' H' hy ⟨ρ',M',hE',hf'⟩
    have hi':i < bs.length:=by have:=(List.getElem?_eq_some_iff.mp hy).1;simpa using this
    have ey:y=.ref bs[i]:=by
      have:=(List.getElem?_eq_some_iff.mp hy).2
      simpa using this.symm
    subst ey
    have ed:(bs.map D.ptr).drop i=.ptr bs[i]::(bs.map D.ptr).drop (i+1):=by
      rw[List.drop_eq_getElem_cons (by simpa using hi')]
      simp
    rw[ed] at hf'
    exact⟨PH H1 M1,_,M',_,hE'.set (.ptr _),hf'.2,Ej hE1.same hl fun ρ M σ H hE h=>⟨ρ,M,hE,h⟩⟩
  · rintro σ' H' ⟨ρ',M',hE',hf'⟩
    rw[List.drop_eq_nil_of_le (by simp)] at hf'
    exact hl.nx _ _ hf'.2 σ' H' ⟨hE'.q,hE1.same.trans hE'.same,hE'.lσ,hE'.lρ⟩
end
section
variable {X:Cx} {a b c e:Expr} {ta tb tit tel:NTE} {pos p p2 p3 spos:Pos} {x y:Str} {i k:Nat} {scope:Scope} {cn:List Str} {caps:List Nat} {elt tg iter:Expr}
end
end VL
namespace VL
open PySem PySem.Spec PyProof.Rows L2
def RawD(h:Heap)(d:Addr)(es:Array DictEntry)(ep:Nat):Prop:=∃ o,h.get? d=some o/\o.ExactDict/\o.data=.dict es ep
section
variable {prog:Program} {w:World} {A:Around} {E:Value->Shared->Prop} {s:Shared} {d it:Addr} {es:Array DictEntry} {ep i:Nat}
theorem RawD.ty(h:RawD s.heap d es ep):s.TypeIs (.ref d) "dict":=let ⟨o,h1,h2,_⟩:=h;⟨o,h1,h2.1⟩
end
section
variable {prog:Program} {w:World} {K:Type} [DecidableEq K] {knd:HeapKind prog w K} {A:Around} {E:Value->Shared->Prop} {s:Shared} {d a:Addr} {k:K} {xs:List (K × Addr × Value)} {v:Value}
end
section
variable {X:Cx} {pins:List (Addr × Obj)} {σ:St} {H:Hp} {s:Shared} {a b:Addr} {y d:V} {u r:Value} {v:V} {A:Around} {E:Value->Shared->Prop} {kvs:List (List Key × V)} {k:List Key}
end
end VL
namespace VL
open PySem PySem.Spec PyProof.Rows L2
section
variable {X:Cx} {o e f a:Expr} {apos cpos pos tp p2:Pos} {td ty tx:TE} {ta tv:NTE} {tas:NTA} {x1:Nat} {es:List Expr} {k:Nat} {ar:List Stmt} {t:NTS} {body:List Stmt} {tbd:NTS}
end
end VL
namespace VL
open PySem PySem.Spec PyProof.Rows L2
structure YE (X:Cx) (e:Expr) (t:NTE):Prop where
  h:NE X e t
structure YT (X:Cx) (e:Expr) (t:NTB):Prop where
  h:NT X e t
structure YW (X:Cx) (e:Expr) (t:NTB):Prop where
  h:NW X e t
structure YA (X:Cx) (e:List Expr) (t:NTA):Prop where
  h:NA X e t
structure YS (X:Cx) (st:Stmt) (t:NTS):Prop where
  h:NS X st t
structure YSs (X:Cx) (st:List Stmt) (t:NTS):Prop where
  h:NSs X st t
structure YP (X:Cx) (pos:Pos) (keys:List (Option Expr)) (vals:List Expr) (ns:List Str) (as:FEs) (es:List Es):Prop where
  h:PPV X pos keys vals ns as es
section
variable {X:Cx} {a b c:Expr} {ta tb tc:NTE} {pos p2:Pos} {es:List Es} {fa fb:FE}
theorem ac(h:JE X a fa es):YE X a (nP fa):=⟨sH h.h⟩
theorem dm{f:ad->Option Bool}(h:JT X a f):YT X a (nPB f):=⟨Dc h.h⟩
theorem dq(ha:YE X a ta)(hb:YE X b tb):YE X (.BinOp a .Add b pos) (n2 aT ta tb):=⟨Dd ha.h hb.h⟩
theorem nB(ha:YE X a ta)(hb:YE X b tb):YE X (.BinOp a .Sub b pos) (n2 bw ta tb):=⟨Df ha.h hb.h⟩
theorem El(ha:YE X a ta)(hb:YE X b tb):YE X (.BinOp a .Mult b pos) (n2 bd ta tb):=⟨Dg ha.h hb.h⟩
theorem nC{k:Nat}(hr:Room k X.A)(ha:YE X a ta)(hb:YE X b tb):YE X (.Compare a [.Eq] [b] pos) (n2 eqD ta tb):=⟨ne_eq hr ha.h hb.h⟩
theorem nD{k:Nat}(hr:Room k X.A)(ha:YE X a ta)(hb:YE X b tb):YT X (.Compare a [.Eq] [b] pos) (dI (n2 eqD ta tb)):=⟨Di hr ha.h hb.h⟩
theorem Em{j}(ha:YE X a ta):YT X (.Compare a [.Is] [.Constant .none j p2] pos) (dI (n1 cz ta)):=⟨Dk ha.h⟩
variable {ka kb:NTB} {ar:List Expr}
theorem jn(h:YE X a ta)(he:∀ whole,isTrue a X.env whole=(do let v <- whole;standAt a.pos;holding [v] (truthy v)):=by intro _;rfl):YT X a (eV ta):=⟨Dl h.h he⟩
theorem En(ha:YT X a ka):YW X (.BoolOp .And [a] pos) ka:=⟨Dm ha.h⟩
theorem Eo(ha:YT X a ka)(hb:YW X (.BoolOp .And (b::ar) pos) kb):YW X (.BoolOp .And (a::b::ar) pos) (kQ ka kb):=⟨Dn ha.h hb.h⟩
theorem Ep(h:YW X a ka):YT X a ka:=⟨Do h.h⟩
theorem lj(ha:YT X a ka):YT X (.UnaryOp .Not a pos) (fU ka):=⟨Dp ha.h⟩
theorem t5{op}(h:YE X a ta):YE X (.BoolOp op [a] pos) ta:=⟨Dq h.h⟩
theorem nE(ha:YE X a ta)(hb:YE X (.BoolOp .And (b::ar) pos) tb):YE X (.BoolOp .And (a::b::ar) pos) (ib ta tb):=⟨Dr ha.h hb.h⟩
variable {xs:List Expr} {tas:NTA}
theorem aM: YA X [] aB:=⟨Ds ⟩
theorem ao(ha:YE X a ta)(hr:YA X xs tas)(hs:starEach (a::xs) X.env=(false,eval a X.env)::starEach xs X.env:=by rfl):YA X (a::xs) (am ta tas):=⟨Dt ha.h hr.h hs⟩
theorem nF{x1}(h:YA X xs tas):YE X (.Tuple xs x1 pos) (ic tas):=⟨Du h.h⟩
theorem t6(h:YA X xs tas):YE X (.List xs pos) (ji tas):=⟨Dv h.h⟩
theorem nG(h:JF X a fa es):YE X a (ie fa):=⟨Dw h.h⟩
theorem cH(ha:YE X a ta)(hb:YE X b tb)(hs:iJ b):YE X (.Subscript a b pos) (n2 ixD ta tb):=⟨Dx ha.h hb.h hs⟩
theorem ll{k i:Nat}{ns:List Str}{x:Str}{j}(hr:Room k X.A)(ha:YE X a ta)(hs:k0 (.Constant (.str x) j p2))(hn:ns.Nodup:=by decide +kernel)(hi:ns[i]?=some x:=by rfl):YE X (.Subscript a (.Constant (.str x) j p2) pos) (nDg ns i ta):=⟨Dy hr ha.h hs hn hi⟩
theorem bX{i:Nat}{C:Addr}{ns:List Str}{f:Str}(c:Cls X.K C)(n:NoAttr X.K C f)(ha:YE X a ta)(hb:attributeBase a f X.env (eval a X.env)=eval a X.env:=by rfl)(hn:ns.Nodup:=by decide +kernel)(hi:ns[i]?=some f:=by rfl):YE X (.Attribute a f pos) (bE C ns i ta):=⟨Dz c n ha.h hb hn hi⟩
end
section
variable {X:Cx} {a b c:Expr} {ta tb tc:NTE} {tas:NTA} {pos p p2 ap:Pos} {k:Nat} {ps:List Str} {x m:Str} {es:List Expr} {T:NTF} {G:List D->Option D} {fr:Bool} {C:Addr} {ns:List Str}
theorem bB(d:DefN X.prog X.w X.K X.mg X.base x k ps T)(hr:Room k X.A)(ha:YA X (a::es) tas)(hg:Gl X x:=by rfl)(hdb:(x == ("__debug__" : Str))=false:=by decide)(he:starEach (a::es) X.env=(false,eval a X.env)::starEach es X.env:=by rfl)(hpl:(backTo pos (starEach es X.env)).any (·.1)=false:=by rfl):YE X (.Call (.Name x p) (a::es) [] pos) (bo T tas):=⟨DB d hr ha.h hg hdb he hpl⟩
theorem nH(d:Def X.prog X.w X.K X.mg X.base x k ps G fr)(hr:Room k X.A)(ha:YA X (a::es) tas)(hg:Gl X x:=by rfl)(hdb:(x == ("__debug__" : Str))=false:=by decide)(he:starEach (a::es) X.env=(false,eval a X.env)::starEach es X.env:=by rfl)(hpl:(backTo pos (starEach es X.env)).any (·.1)=false:=by rfl):YE X (.Call (.Name x p) (a::es) [] pos) (ig G tas):=⟨DC d hr ha.h hg hdb he hpl⟩
theorem nI{pl:Sem Bool}(cl:Cls X.K C)(d:MetN X.prog X.w X.K X.mg X.base C m k ps T)(hr:Room k X.A)(ho:YE X b tb)(ha:YA X (a::es) tas)(hno:¬ m ∈ ns:=by decide +kernel)(hst:starEach (a::es) X.env=(false,eval a X.env)::starEach es X.env:=by rfl)(hpl:(backTo pos (starEach es X.env)).any (·.1)=false:=by rfl)(ht:eval (.Call (.Attribute b m ap) (a::es) [] pos) X.env=(do
      let ov <- eval b X.env
      standAt ap.atName
      let (f,first) <- holding [ov] (getMethod ov m pl)
      callWith pos f first (backTo pos (starEach (a::es) X.env)) (backToKw pos (keywordEach [] X.env))):=by rfl):YE X (.Call (.Attribute b m ap) (a::es) [] pos) (bS C ns T tb tas):=⟨DD cl d hr ho.h ha.h hno hst hpl ht⟩
theorem de{pl:Sem Bool}(cl:Cls X.K C)(d:MetN X.prog X.w X.K X.mg X.base C m k ps T)(hr:Room k X.A)(ho:YE X b tb)(hno:¬ m ∈ ns:=by decide +kernel)(ht:eval (.Call (.Attribute b m ap) [] [] pos) X.env=(do
      let ov <- eval b X.env
      standAt ap.atName
      let (f,first) <- holding [ov] (getMethod ov m pl)
      callWith pos f first (backTo pos (starEach [] X.env)) (backToKw pos (keywordEach [] X.env))):=by rfl):YE X (.Call (.Attribute b m ap) [] [] pos) (bS C ns T tb aB):=⟨DE cl d hr ho.h hno ht⟩
theorem Er(d:MakN X.prog X.w X.K X.mg X.base x C k ps T)(hr:Room (k+1) X.A)(ha:YA X (a::es) tas)(hg:Gl X x:=by rfl)(hdb:(x == ("__debug__" : Str))=false:=by decide)(he:starEach (a::es) X.env=(false,eval a X.env)::starEach es X.env:=by rfl)(hpl:(backTo pos (starEach es X.env)).any (·.1)=false:=by rfl):YE X (.Call (.Name x p) (a::es) [] pos) (kS C T tas):=⟨DF d hr ha.h hg hdb he hpl⟩
end
section
variable {X:Cx} {a b c:Expr} {ta tb tc tv:NTE} {tas:NTA} {ka:NTB} {pos p p2 p3 ap cp:Pos} {k:Nat} {st:Stmt} {ar body bs:List Stmt} {t u:NTS} {C:Addr} {ns:List Str} {x f:Str} {i:Nat}
theorem bY: YSs X [] sN:=⟨DG ⟩
theorem ay(h1:YS X st t)(h2:YSs X ar u):YSs X (st::ar) (au t u):=⟨DH h1.h h2.h⟩
theorem b4(h1:YS X st t):YSs X [st] t:=⟨DJ h1.h⟩
theorem jo: YSs X ar fV:=⟨DK ⟩
theorem bZ(hc:YT X c ka)(ha:YSs X body t)(hb:YSs X bs u):YS X (.If c body bs pos) (bF ka t u):=⟨DL hc.h ha.h hb.h⟩
theorem bq(he:YE X a ta):YS X (.Return (some a) pos) (bi ta):=⟨DM he.h⟩
theorem Et(i:Nat)(hN:X.N[i]?=some x:=by rfl)(hv:Vis X.env.scope x:=by first | exact Or.inl rfl | exact Or.inr (Or.inl rfl) | exact Or.inr (Or.inr rfl))(hd:(x == ("__debug__" : Str))=false:=by decide)(hcd:(x == ("__classdict__" : Str))=false:=by decide):YS X (.Return (some (.Name x p2)) pos) (kU i):=⟨DN i hN hv hd hcd⟩
theorem b9(i:Nat)(hN:X.N.Nodup)(he:YE X a ta)(hi:X.N[i]?=some x:=by rfl)(hx:Loc X.env.scope x:=by first | exact Or.inl rfl | exact Or.inr rfl)(hs:swapsWith a (some (.Name x p2)) pos.line X.env=pure false:=by rfl)(hfn:X.fn x=true\/X.env.scope.names.lookup x=some .local:=by first | exact .inl rfl | exact .inr rfl):YS X (.Assign [.Name x p2] a pos) (b0 i ta):=⟨DO i hN he.h hi hx hs hfn⟩
theorem t7(is:List Nat){ts:List Expr}{k:Nat}(hc:X.calm=true)(hN:X.N.Nodup)(he:YE X a ta)(ht:Tgs X ts is)(hn:(assignEach ts X.env).length=is.length:=by rfl)(hst:(assignEach ts X.env).findIdx? (·.1)=none:=by rfl)(hs:swapsWithSole [.Tuple ts k p2] a pos.line X.env=pure false:=by rfl)(hw:swappedStores [.Tuple ts k p2] a X.env=pure none:=by rfl)(h1:(assignEach [.Tuple ts k p2] X.env).map (·.2)=[assign (.Tuple ts k p2) X.env]:=by rfl):YS X (.Assign [.Tuple ts k p2] a pos) (jj is ta):=⟨DP is hc hN he.h ht hn hst hs hw h1⟩
theorem lm(cl:Cls X.K C)(nat:NoAttr X.K C f)(ha:YE X a ta)(hv:YE X b tv)(hn:ns.Nodup:=by decide +kernel)(hi:ns[i]?=some f:=by rfl)(hlt:ns.length < 1000:=by decide)(hs:swapsWith b (some (.Attribute a f p2)) pos.line X.env=pure false:=by rfl):YS X (.Assign [.Attribute a f p2] b pos) (fW C ns i ta tv):=⟨DQ cl nat ha.h hv.h hn hi hlt hs⟩
theorem dM(cl:Cls X.K C)(nat:NoAttr X.K C f)(ha:YE X a ta)(hv:YE X b tv)(hi:¬ f ∈ ns:=by decide +kernel)(hlt:ns.length < 1000:=by decide)(hs:swapsWith b (some (.Attribute a f p2)) pos.line X.env=pure false:=by rfl):YS X (.Assign [.Attribute a f p2] b pos) (cR C ns f ta tv):=⟨DR cl nat ha.h hv.h hi hlt hs⟩
theorem nJ{j}(hr:Room k X.A)(ha:YE X a ta)(hv:YE X b tv)(hn:ns.Nodup:=by decide +kernel)(hi:ns[i]?=some f:=by rfl)(hlt:ns.length < 1000:=by decide)(hs:swapsWith b (some (.Subscript a (.Constant (.str f) j p3) p2)) pos.line X.env=pure false:=by rfl):YS X (.Assign [.Subscript a (.Constant (.str f) j p3) p2] b pos) (ij ns i ta tv):=⟨DT hr ha.h hv.h hn hi hlt hs⟩
end
section
variable {X:Cx} {a b c e:Expr} {ta tb tc tv ti:NTE} {tas:NTA} {ka:NTB} {pos p p2 p3 ap cp pr pn:Pos} {k:Nat} {st:Stmt} {ar body bs:List Stmt} {t u tbd:NTS} {C:Addr} {ns:List Str} {x f:Str} {i:Nat}
theorem t8(ha:YE X a ta)(he:YE X e tv)(hbase:attributeBase a "append" X.env (eval a X.env)=eval a X.env:=by rfl)(hfew:((backTo cp (starEach [e] X.env)).all (fun x=>!x.1) && (backToKw cp (keywordEach [] X.env)).all (fun x=>x.1.isSome)
      && decide (([e]:List Expr).length+([]:List Keyword).length+(if ([]:List Keyword).isEmpty then 0 else 1) < 30))=true:=by rfl)(hline:(ap.endLine == cp.line)=true:=by rfl)(hs:starEach [e] X.env=(false,eval e X.env)::starEach [] X.env:=by rfl)(hplain:(backTo cp (starEach [] X.env)).any (·.1)=false:=by rfl)(hsw:swapsWith (.Call (.Attribute a "append" ap) [e] [] cp) none pos.line X.env=pure false:=by rfl):YS X (.Expr (.Call (.Attribute a "append" ap) [e] [] cp) pos) (jk ta tv):=⟨DU ha.h he.h hbase hfew hline hs hplain hsw⟩
theorem nK(ha':YE X a ta)(hb:YE X b ti)(he:YE X e tv)(ha:∀ v,assign (.Subscript a b p3) X.env v=(do
      let ov <- holding [v] (eval a X.env)
      let iv <- holding [v,ov] (eval b X.env)
      standAt p3
      holding [v,ov,iv] (setItem ov iv v)
      release [v,ov,iv] []):=by intro _;rfl)(hs:swapsWithSole [.Subscript a b p3] e pos.line X.env=pure false:=by rfl)(hw:swappedStores [.Subscript a b p3] e X.env=pure none:=by rfl)(h1:(assignEach [.Subscript a b p3] X.env).map (·.2)=[assign (.Subscript a b p3) X.env]:=by rfl):YS X (.Assign [.Subscript a b p3] e pos) (ik ta ti tv):=⟨DV ha'.h hb.h he.h ha hs hw h1⟩
theorem Eu(t:Nat)(hN:X.N.Nodup)(hc:X.calm=true)(mr:X.mg "range" = none)(hi:YA X [a] tas)(hb:YSs X body tbd)(hp:PassesOwn (model X.prog X.w) X.A X.env X.xe:=by exact PassesOwn.never)(hg:Gl X "range":=by rfl)(hst:starEach [a] X.env=[(false,eval a X.env)]:=by rfl)(hxN:X.N[t]?=some x:=by rfl)(hx:Loc X.env.scope x:=by first | exact Or.inl rfl | exact Or.inr rfl)(hfn:X.fn x=true\/X.env.scope.names.lookup x=some .local:=by first | exact .inl rfl | exact .inr rfl)(hs:∀ x,foldedSetIterable (.Call (.Name "range" pn) [a] [] pr) X.env x=pure x:=by intro _;rfl):YS X (.For (.Name x p2) (.Call (.Name "range" pn) [a] [] pr) body [] pos) (kW t tas tbd):=⟨DX t hN hc mr hi.h hb.h hp hg hst hxN hx hfn hs⟩
theorem Ev(t:Nat)(hN:X.N.Nodup)(hc:X.calm=true)(mr:X.mg "range" = none)(hi:YA X [a,b] tas)(hb:YSs X body tbd)(hp:PassesOwn (model X.prog X.w) X.A X.env X.xe:=by exact PassesOwn.never)(hg:Gl X "range":=by rfl)(hst:starEach [a,b] X.env=[(false,eval a X.env),(false,eval b X.env)]:=by rfl)(hst2:starEach [b] X.env=[(false,eval b X.env)]:=by rfl)(hxN:X.N[t]?=some x:=by rfl)(hx:Loc X.env.scope x:=by first | exact Or.inl rfl | exact Or.inr rfl)(hfn:X.fn x=true\/X.env.scope.names.lookup x=some .local:=by first | exact .inl rfl | exact .inr rfl)(hs:∀ x,foldedSetIterable (.Call (.Name "range" pn) [a,b] [] pr) X.env x=pure x:=by intro _;rfl):YS X (.For (.Name x p2) (.Call (.Name "range" pn) [a,b] [] pr) body [] pos) (kX t tas tbd):=⟨DY t hN hc mr hi.h hb.h hp hg hst hst2 hxN hx hfn hs⟩
end
section
variable {X:Cx} {a:Expr} {pos p2:Pos} {keys:List (Option Expr)} {vals:List Expr} {ns:List Str} {as:FEs} {ea eb:List Es} {fa:FE} {x:Str}
theorem Ex: YP X pos [] [] [] ak []:=⟨E2 ⟩
theorem nL{j}(ha:JE X a fa ea)(hr:YP X pos keys vals ns as eb):YP X pos (some (.Constant (.str x) j p2)::keys) (a::vals) (x::ns) (ae fa as) (ea++eb):=⟨E3 ha.h hr.h⟩
theorem Ey(h:YP X pos keys vals ns as ea)(hn:ns.Nodup:=by decide +kernel)(hall:keys.all (·.isSome)=true:=by rfl)(hl:keys.length=vals.length:=by rfl)(h0:keys ≠ []:=by simp)(h15:keys.length<=15:=by decide):YE X (.Dict keys vals pos) (kR ns as):=⟨E4 h.h hn hall hl h0 h15⟩
end
section
variable {X:Cx} {elt tg iter a:Expr} {ifs:List Expr} {scope:Scope} {own cn:List Str} {caps:List Nat} {wi:TI} {g:TG} {tt:TT} {te:TE} {pos spos p2 pr pn:Pos} {tas:NTA} {tel:NTE} {x y:Str}
theorem t9(B:BlkOk X scope [y] caps cn)(hc:X.calm=true)(mr:X.mg "range" = none)(hi:YA X [a] tas)(hg:∀ s H cl ex,PG (blk X ([y]++cn) s H scope cl ex) tg (bQ 0))(he:∀ s H cl ex,YE (blk X ([y]++cn) s H scope cl ex) elt tel)(hgr:Gl X "range":=by rfl)(hst:starEach [a] X.env=[(false,eval a X.env)]:=by rfl)(hs:∀ x,foldedSetIterable (.Call (.Name "range" pn) [a] [] pr) X.env x=pure x:=by intro _;rfl):YE X (.ListComp elt [⟨tg,.Call (.Name "range" pn) [a] [] pr,[],0⟩] scope pos) (il caps tas tel):=⟨E6 B hc mr hi.h hg (fun s H cl ex=>(he s H cl ex).h) hgr hst hs⟩
end
section
variable {X:Cx} {a b:Expr} {tas:NTA} {pos p:Pos}
theorem nM(ml:X.mg "len" = none)(ha:YA X [a] tas)(hg:Gl X "len":=by rfl)(he:starEach [a] X.env=(false,eval a X.env)::starEach [] X.env:=by rfl)(hpl:(backTo pos (starEach [] X.env)).any (·.1)=false:=by rfl):YE X (.Call (.Name "len" p) [a] [] pos) (dJ (aI br) tas):=⟨E7 ml ha.h hg he hpl⟩
theorem Ez(hc:X.calm=true)(ml:X.mg "sum" = none)(ha:YA X [a] tas)(hg:Gl X "sum":=by rfl)(he:starEach [a] X.env=(false,eval a X.env)::starEach [] X.env:=by rfl)(hpl:(backTo pos (starEach [] X.env)).any (·.1)=false:=by rfl):YE X (.Call (.Name "sum" p) [a] [] pos) (dJ (aI cy) tas):=⟨E8 hc ml ha.h hg he hpl⟩
end
section
variable {X:Cx} {a b c:Expr} {ta tb tc:NTE} {tas:NTA} {pos p p2 ap cp:Pos} {k:Nat} {ps:List Str} {x m:Str} {es:List Expr} {T:NTF} {G:List D->Option D} {fr:Bool} {C:Addr} {ns:List Str} {fa:FE} {ea:List Es}
theorem EA(d:Def X.prog X.w X.K X.mg X.base x k ps G fr)(hr:Room k X.A)(ha:YA X (a::es) tas)(hg:Gl X x:=by rfl)(hdb:(x == ("__debug__" : Str))=false:=by decide)(he:starEach (a::es) X.env=(false,eval a X.env)::starEach es X.env:=by rfl)(hpl:(backTo pos (starEach es X.env)).any (·.1)=false:=by rfl):YE X (.Call (.Name x p) (a::es) [] pos) (kY G tas):=⟨Ea d hr ha.h hg hdb he hpl⟩
theorem EB(d:Def X.prog X.w X.K X.mg X.base x k ps G true)(hr:Room k X.A)(ha:YA X (a::es) tas)(hg:Gl X x:=by rfl)(hdb:(x == ("__debug__" : Str))=false:=by decide)(he:starEach (a::es) X.env=(false,eval a X.env)::starEach es X.env:=by rfl)(hpl:(backTo pos (starEach es X.env)).any (·.1)=false:=by rfl):YE X (.Call (.Name x p) (a::es) [] pos) (kZ G tas):=⟨Eb d hr ha.h hg hdb he hpl⟩
theorem EC(d:DefX X.prog X.w X.K X.mg X.base x k ps G)(hr:Room k X.A)(ha:YA X (a::es) tas)(hg:Gl X x:=by rfl)(hdb:(x == ("__debug__" : Str))=false:=by decide)(he:starEach (a::es) X.env=(false,eval a X.env)::starEach es X.env:=by rfl)(hpl:(backTo pos (starEach es X.env)).any (·.1)=false:=by rfl):YE X (.Call (.Name x p) (a::es) [] pos) (l0 G tas):=⟨Ec d hr ha.h hg hdb he hpl⟩
theorem ED(ml:X.mg "list" = none)(ha:YE X a ta)(hg:Gl X "list":=by rfl)(he:starEach [a] X.env=(false,eval a X.env)::starEach [] X.env:=by rfl)(hpl:(backTo pos (starEach [] X.env)).any (·.1)=false:=by rfl):YE X (.Call (.Name "list" p) [a] [] pos) (la ta):=⟨Ed ml ha.h hg he hpl⟩
theorem EE(ha:JF X a fa ea)(hb:YE X b tb):YE X (.BinOp a .Mult b pos) (lc fa tb):=⟨Ee ha.h hb.h⟩
end
section
variable {X:Cx} {elt tg iter a:Expr} {scope:Scope} {cn:List Str} {caps:List Nat} {pos spos p2 pr pn:Pos} {tit tel:NTE} {x y:Str}
theorem EF(B:BlkOk X scope [y] caps cn)(hc:X.calm=true)(hi:YE X iter tit)(hg:∀ s H cl ex,PG (blk X ([y]++cn) s H scope cl ex) tg (bQ 0))(he:∀ s H cl ex,YE (blk X ([y]++cn) s H scope cl ex) elt tel)(hs:∀ x,foldedSetIterable iter X.env x=pure x:=by intro _;rfl):YE X (.ListComp elt [⟨tg,iter,[],0⟩] scope pos) (ld caps tit tel):=⟨Eh B hc hi.h hg (fun s H cl ex=>(he s H cl ex).h) hs⟩
end
section
variable {X:Cx} {a b c e:Expr} {ta tb tc tv ti:NTE} {tas:NTA} {pos p p2 p3 ap cp pr pn:Pos} {st:Stmt} {ar body bs:List Stmt} {t u tbd:NTS} {x f:Str} {i:Nat}
theorem tf(ha:YE X a ta)(hbase:attributeBase a "reverse" X.env (eval a X.env)=eval a X.env:=by rfl)(hline:(ap.endLine == cp.line)=true:=by rfl)(hsw:swapsWith (.Call (.Attribute a "reverse" ap) [] [] cp) none pos.line X.env=pure false:=by rfl):YS X (.Expr (.Call (.Attribute a "reverse" ap) [] [] cp) pos) (jl ta):=⟨Ei ha.h hbase hline hsw⟩
theorem EG(t:Nat)(hN:X.N.Nodup)(hc:X.calm=true)(hi:YE X a ta)(hb:YSs X body tbd)(hp:PassesOwn (model X.prog X.w) X.A X.env X.xe:=by exact PassesOwn.never)(hxN:X.N[t]?=some x:=by rfl)(hx:Loc X.env.scope x:=by first | exact Or.inl rfl | exact Or.inr rfl)(hfn:X.fn x=true\/X.env.scope.names.lookup x=some .local:=by first | exact .inl rfl | exact .inr rfl)(hs:∀ x,foldedSetIterable a X.env x=pure x:=by intro _;rfl):YS X (.For (.Name x p2) a body [] pos) (lf t ta tbd):=⟨Ek t hN hc hi.h hb.h hp hxN hx hfn hs⟩
end
section
variable {X:Cx} {a b c e:Expr} {ta tb tit tel:NTE} {pos p p2 p3 spos:Pos} {x y:Str} {i k:Nat} {scope:Scope} {cn:List Str} {caps:List Nat} {elt tg iter:Expr}
end
section
variable {X:Cx} {o e f a:Expr} {apos cpos pos tp p2:Pos} {td ty tx:TE} {ta tv:NTE} {tas:NTA} {x1:Nat} {es:List Expr} {k:Nat} {ar:List Stmt} {t:NTS} {body:List Stmt} {tbd:NTS}
end
section
variable {P:Program} {w:World} {K:PySem.W.Frag} {mg:Str->Option Value} {base:Heap} {x:Str} {k:Nat} {ps:List Str}
theorem cc{qual:Str}{st:Stmt}{f:Addr}{fd:FuncData}{N:List Str}{np n:Nat}{body:NTS}{T:NTF}(h1:ps.length=np)(h2:N.length=n)(h3:T=mkN np n body)(Fn:Fun K x qual st f fd)(S:FnScope N ps (ai st))(h:∀ (cdv:Value) (A:Around) (outer:List PySem.Env) (s:Shared) (H:Hp) (E:XK),Room k (A.deeper (envOfC qual (ai st) s.heap.objs.size f cdv)) ->
      YSs (cK CX0 P w K mg base N qual (ai st) f cdv A outer s H E).nox (aD st) body):
    FnOk P w K mg base CX0 (k+1) f fd ps (spN K T):=DZ h1 h2 h3 Fn S fun cdv A outer s H E hr=>(h cdv A outer s H E hr).h
end
end VL
namespace VL
open PySem (Str)
open L2 (atI ixN)
section
variable {ρ:ad} {M:Sto} {Q:QE} {QB:Bool->Sto->Prop} {QL:List D->Sto->Prop} {ta tb tv ti:NTE} {tas:NTA} {ka kb:NTB} {f:FE} {fb:ad->Option Bool} {as:FEs} {g:D->D->Option D} {g1:D->Option D} {G:List D->Option D} {T:NTF} {C i t:Nat} {ns:List Str} {E:EndN} {u v w:NTS} {is caps:List Nat}
theorem EH(h:WE f ρ fun d=>Q d M):nP f ρ M Q:=h
theorem EI(h:WB fb ρ fun b=>QB b M):nPB fb ρ M QB:=h
theorem EJ(h:ta ρ M fun x M1=>tb ρ M1 fun y M2=>W2 g x y fun d=>Q d M2):n2 g ta tb ρ M Q:=h
theorem EK(h:ta ρ M fun x M1=>W1 g1 x fun d=>Q d M1):n1 g1 ta ρ M Q:=h
theorem EL(h:ta ρ M fun x M1=>kT (fun b=>QB b M1) x):dI ta ρ M QB:=h
theorem EM(h:ta ρ M fun x M1=>∃ b,tru x=some b/\QB b M1):eV ta ρ M QB:=h
theorem EN(h:ka ρ M fun b M1=>kIf b (kb ρ M1 QB) (QB false M1)):kQ ka kb ρ M QB:=h
theorem EO(h:ka ρ M fun b M1=>QB (!b) M1):fU ka ρ M QB:=h
theorem EQ(h:ta ρ M fun x M1=>kT (fun b=>kIf b (tb ρ M1 Q) (Q (.bl false) M1)) x):ib ta tb ρ M Q:=h
theorem ER(h:QL [] M):aB ρ M QL:=h
theorem ES(h:ta ρ M fun x M1=>tas ρ M1 fun xs M2=>QL (x::xs) M2):am ta tas ρ M QL:=h
theorem ET(h:tas ρ M fun ds M1=>ds.length<=1000/\Q (.lst ds) M1):ji tas ρ M Q:=h
theorem EU(h:tas ρ M fun ds M1=>ds.length<=1000/\Q (.tup ds) M1):ic tas ρ M Q:=h
theorem nN(h:WE f ρ fun d=>∃ ds,d=.lst ds/\∀ a,M a=none->Q (.ptr a) (aN M a (.lst ds))):ie f ρ M Q:=h
theorem EV(h:WA as ρ fun ds=>ds.length=ns.length/\∀ a,M a=none->Q (.ptr a) (aN M a (.dic ns ds))):kR ns as ρ M Q:=h
theorem EW{a j:Nat}{ds:List D}{d:D}(hv:aa j ρ=some (.ptr a))(hm:M a=some (.dic ns ds))(hd:ds[i]?=some d)(h:Q d M):nDg ns i (nP (aa j)) ρ M Q:=⟨_,hv,a,ds,d,rfl,hm,hd,h⟩
theorem EX{a j:Nat}{ds:List D}{d:D}(hv:aa j ρ=some (.ptr a))(hm:M a=some (.ins C ns ds))(hd:ds[i]?=some d)(h:Q d M):bE C ns i (nP (aa j)) ρ M Q:=⟨_,hv,a,ds,d,rfl,hm,hd,h⟩
theorem EY(h:tas ρ M fun ds M1=>T ds M1 Q):bo T tas ρ M Q:=h
theorem EZ(h:tas ρ M fun ds M1=>WF G (ds.map (vw1 M1)) fun d=>b6 d=true/\Q d M1):dJ G tas ρ M Q:=h
theorem F0(h:tas ρ M fun ds M1=>WF G ds fun d=>Q d M1):ig G tas ρ M Q:=h
theorem F1{a j:Nat}{ds0:List D}(hv:aa j ρ=some (.ptr a))(hm:M a=some (.ins C ns ds0))(h:tas ρ M fun ds M2=>T (.ptr a::ds) M2 Q):bS C ns T (nP (aa j)) tas ρ M Q:=⟨_,hv,a,ds0,rfl,hm,h⟩
theorem F2(h:tas ρ M fun ds M1=>∀ a,M1 a=none->T (.ptr a::ds) (aN M1 a (.ins C [] [])) fun d M2=>d=.non/\Q (.ptr a) M2):kS C T tas ρ M Q:=h
theorem bG{np n:Nat}{ds:List D}(hl:ds.length=np)(h:u { nx:=fun _ M'=>Q .non M',rt:=Q } (ds.map some++List.replicate (n - np) none) M):mkN np n u ds M Q:=⟨hl,h⟩
theorem F3(h:E.nx ρ M):sN E ρ M:=h
theorem F4(h:u { E with nx:=fun ρ M=>v E ρ M } ρ M):au u v E ρ M:=h
theorem F5(h:ka ρ M fun b M1=>kIf b (u E ρ M1) (v E ρ M1)):bF ka u v E ρ M:=h
theorem F6(h:ta ρ M E.rt):bi ta E ρ M:=h
theorem tj{a:Nat}{ds:List D}(hv:aa i ρ=some (.ptr a))(hm:M a=some (.lst ds))(h:E.rt (.lst ds) (dc M a)):kU i E ρ M:=⟨a,ds,hv,hm,h⟩
theorem F7(h:ta ρ M fun d M1=>E.nx (ρ.set i (some d)) M1):b0 i ta E ρ M:=h
theorem F8(h:ta ρ M fun d M1=>∃ ds,d=.tup ds/\ds.length=is.length/\E.nx ((is.zip ds).foldl (fun r p=>r.set p.1 (some p.2)) ρ) M1):jj is ta E ρ M:=h
theorem F9(h:tv ρ M fun x M1=>ta ρ M1 fun y M2=>∃ a ds,y=.ptr a/\M2 a=some (.dic ns ds)/\E.nx ρ (aN M2 a (.dic ns (ds.set i x)))):ij ns i ta tv E ρ M:=h
theorem Fa(h:tv ρ M fun x M1=>ta ρ M1 fun y M2=>∃ a ds,y=.ptr a/\M2 a=some (.ins C ns ds)/\E.nx ρ (aN M2 a (.ins C ns (ds.set i x)))):fW C ns i ta tv E ρ M:=h
theorem fX{fl:Str}(h:tv ρ M fun x M1=>ta ρ M1 fun y M2=>∃ a ds,y=.ptr a/\M2 a=some (.ins C ns ds)/\E.nx ρ (aN M2 a (.ins C (ns++[fl]) (ds++[x])))):cR C ns fl ta tv E ρ M:=h
theorem Fb(h:ta ρ M fun x M1=>∃ a ds0,x=.ptr a/\M1 a=some (.lst ds0)/\tv ρ M1 fun y M2=>∃ ds,M2 a=some (.lst ds)/\ds.length < 100000/\E.nx ρ (aN M2 a (.lst (ds++[y])))):jk ta tv E ρ M:=h
theorem Fc(h:tv ρ M fun x M1=>ta ρ M1 fun y M2=>ti ρ M2 fun z M3=>∃ a ds k j,y=.ptr a/\M3 a=some (.lst ds)/\z=.int k/\ixN ds.length k=some j/\E.nx ρ (aN M3 a (.lst (ds.set j x)))):ik ta ti tv E ρ M:=h
theorem Fd(h:tas ρ M fun ds M1=>∃ j,ds=[.int j]/\okR j/\cS (fun x E ρ M=>u E (ρ.set t (some x)) M) ((List.range j.toNat).map fun k=>.int (k:Nat)) E ρ M1):kW t tas u E ρ M:=h
theorem Fe(h:tas ρ M fun ds M1=>∃ i j,ds=[.int i,.int j]/\okR i/\okR j/\cS (fun x E ρ M=>u E (ρ.set t (some x)) M) ((List.range (j - i).toNat).map fun k=>.int (i+(k:Nat))) E ρ M1):kX t tas u E ρ M:=h
theorem tm(h:tas ρ M fun ds M1=>∃ j,ds=[.int j]/\okR j/\j < 1000/\dL 1 ta (be 1 caps ρ) ((List.range j.toNat).map fun k=>.int (k:Nat)) [] M1 fun ds M2=>Q (.lst ds) M2):il caps tas ta ρ M Q:=h
theorem Ff(h:tas ρ M fun ds M1=>WF G (ds.map (vw2 M1)) fun d=>b6 d=true/\Q d M1):kY G tas ρ M Q:=h
theorem Fg(h:tas ρ M fun ds M1=>WF G (ds.map (vw2 M1)) fun d=>(∃ xs:List Int,d=.lst (xs.map .int))/\Q d M1):kZ G tas ρ M Q:=h
theorem Fh(h:tas ρ M fun ds M1=>WF G (ds.map (vw2 M1)) fun d=>Q d M1):l0 G tas ρ M Q:=h
theorem Fi(h:ta ρ M fun x M1=>∃ ds,vw1 M1 x=.lst ds/\Q (.lst ds) M1):la ta ρ M Q:=h
theorem Fj(h:WE f ρ fun x=>tb ρ M fun y M1=>W2 kn x y fun d=>Q d M1):lc f tb ρ M Q:=h
theorem Fk(h:ti ρ M fun d M1=>∃ ds,bt d=some ds/\ds.length<=1000/\dL 1 ta (be 1 caps ρ) ds [] M1 fun ds M2=>∀ a,M2 a=none->Q (.ptr a) (aN M2 a (.lst ds))):ld caps ti ta ρ M Q:=h
theorem Fl(h:ta ρ M fun x M1=>∃ a ds,x=.ptr a/\M1 a=some (.lst ds)/\E.nx ρ (aN M1 a (.lst ds.reverse))):jl ta E ρ M:=h
theorem Fo(h:ta ρ M fun x M1=>∃ a,∃ bs:List Nat,x=.ptr a/\dj (fun x E ρ M=>u E (ρ.set t (some x)) M) a (bs.map .ptr) (bs.map .ptr) E ρ M1):lf t ta u E ρ M:=h
theorem tq{a b c:ad->Sto->Prop}{d:D->Sto->Prop}(h:a ρ M):EndN.nx ⟨a,d,b,c⟩ ρ M:=h
theorem tu{a b c:ad->Sto->Prop}{d:D->Sto->Prop}{x:D}(h:d x M):EndN.rt ⟨a,d,b,c⟩ x M:=h
theorem tz{α:Type}{body:D->NTS}(enc:α->D)(xs:List α)(I:Nat->ad->Sto->Prop)(h0:I 0 ρ M)(he:∀ ρ M,I xs.length ρ M->E.nx ρ M)(hs:∀ k (hk:k < xs.length) ρ M,I k ρ M->∀ N:ad->Sto->Prop,(∀ ρ M,I (k+1) ρ M->N ρ M)->body (enc xs[k]) { E with nx:=N,ct:=N,bk:=E.nx } ρ M):cS body (xs.map enc) E ρ M:=by
  have gen:∀ (m k:Nat),m=xs.length - k->k<=xs.length->∀ ρ M,I k ρ M->cS body ((xs.drop k).map enc) E ρ M:=by
    intro m
    induction m with
    | zero =>
      intro k hm hk ρ M h
      have:k=xs.length:=by omega
      subst this
      rw[List.drop_length]
      exact he ρ M h
    | succ m ih =>
      intro k hm hk ρ M h
      have hlt:k < xs.length:=by omega
      rw[List.drop_eq_getElem_cons hlt,List.map_cons]
      exact hs k hlt ρ M h _ fun ρ M z=>ih (k+1) (by omega) hlt ρ M z
  simpa using gen xs.length 0 (by simp) (Nat.zero_le _) ρ M h0
theorem Fp{body:D->NTS}{a:Nat}(xs:List Nat)(I:Nat->ad->Sto->Prop)(hI:∀ k ρ M,I k ρ M->M a=some (.lst (xs.map .ptr)))(h0:I 0 ρ M)(he:∀ ρ M,I xs.length ρ M->E.nx ρ M)(hs:∀ k (hk:k < xs.length) ρ M,I k ρ M->∀ N:ad->Sto->Prop,(∀ ρ M,I (k+1) ρ M->N ρ M)->body (.ptr xs[k]) { E with nx:=N,ct:=N,bk:=E.nx } ρ M):dj body a (xs.map .ptr) (xs.map .ptr) E ρ M:=by
  have gen:∀ (m k:Nat),m=xs.length - k->k<=xs.length->∀ ρ M,I k ρ M->dj body a (xs.map .ptr) ((xs.drop k).map .ptr) E ρ M:=by
    intro m
    induction m with
    | zero =>
      intro k hm hk ρ M h
      have:k=xs.length:=by omega
      subst this
      rw[List.drop_length]
      exact⟨hI _ ρ M h,he ρ M h⟩
    | succ m ih =>
      intro k hm hk ρ M h
      have hlt:k < xs.length:=by omega
      rw[List.drop_eq_getElem_cons hlt,List.map_cons]
      exact⟨hI _ ρ M h,hs k hlt ρ M h _ fun ρ M z=>ih (k+1) (by omega) hlt ρ M z⟩
  simpa using gen xs.length 0 (by simp) (Nat.zero_le _) ρ M h0
theorem nO{α:Type}{ρb:ad}(enc:α->D)(xs:List α)(I:Nat->List D->Sto->Prop)(h0:I 0 [] M)(he:∀ ds M,I xs.length ds M->QL ds M)(hs:∀ k (hk:k < xs.length) ds M,I k ds M->∀ N:QE,(∀ d M1,I (k+1) (ds++[d]) M1->N d M1)->ta (ρb.set 0 (some (enc xs[k]))) M N):dL 1 ta ρb (xs.map enc) [] M QL:=by
  have gen:∀ (m k:Nat),m=xs.length - k->k<=xs.length->∀ ds M,I k ds M->dL 1 ta ρb ((xs.drop k).map enc) ds M QL:=by
    intro m
    induction m with
    | zero =>
      intro k hm hk ds M h
      have:k=xs.length:=by omega
      subst this
      rw[List.drop_length]
      exact he ds M h
    | succ m ih =>
      intro k hm hk ds M h
      have hlt:k < xs.length:=by omega
      rw[List.drop_eq_getElem_cons hlt,List.map_cons]
      exact hs k hlt ds M h _ fun d M1 z=>ih (k+1) (by omega) hlt (ds++[d]) M1 z
  simpa using gen xs.length 0 (by simp) (Nat.zero_le _) [] M h0
end
theorem Fq{K:D->Prop}{j:Int}(h1:-100000<=j)(h2:j<=100000)(h:K (.lst ((List.range j.toNat).map fun k=>.int (k:Nat)))):WF j6 [.int j] K:=⟨_,by simp only[j6,if_pos (And.intro h1 h2)],h⟩
theorem Fs{K:D->Prop}(h:K (.bl true)):W1 cz .non K:=⟨_,rfl,h⟩
theorem Ft{K:D->Prop}{i:Int}(h:K (.bl false)):W1 cz (.int i) K:=⟨_,rfl,h⟩
theorem Fu{K:D->Prop}{ds:List D}(h:K (.bl false)):W1 cz (.tup ds) K:=⟨_,rfl,h⟩
theorem Fv{K:D->Prop}(h:K (.bl false)):W1 db .non K:=⟨_,rfl,h⟩
theorem Fw{K:D->Prop}{i:Int}(h:K (.bl true)):W1 db (.int i) K:=⟨_,rfl,h⟩
def Kp(S:Nat->Prop)(M M':Sto):Prop:=∀ b c,M b=some c->¬ S b->M' b=some c
theorem Kp.refl{S:Nat->Prop}{M:Sto}:Kp S M M:=fun _ _ h _=>h
theorem Kp.trans{S S':Nat->Prop}{M M1 M2:Sto}(a:Kp S M M1)(b:Kp S' M1 M2)(h:∀ x,S' x->M x ≠ none->S x):Kp S M M2:=fun x c e n=>b x c (a x c e n) fun z=>n (h x z (by rw[e];exact fun q=>nomatch q))
theorem Kp.upd{S:Nat->Prop}{M:Sto}{a:Nat}{c:Cell}(h:S a\/M a=none):Kp S M (aN M a c):=fun b d e n=>by
  by_cases q:b=a
  · subst q;rcases h with h | h
    · exact absurd h n
    · rw[h] at e;cases e
  · rw[cF q];exact e
theorem Kp.del{S:Nat->Prop}{M:Sto}{a:Nat}(h:S a):Kp S M (dc M a):=fun b d e n=>by
  have ne:b ≠ a:=fun q=>n (by rw[q];exact h)
  rw[nu ne];exact e
end VL
namespace VL
namespace My
open PySem (Str)
open L2 (atI ixN)
local macro_rules | `(tactic| walk_at "env")=>`(tactic| (simp only[List.set_cons_zero,List.set_cons_succ,List.map_cons,List.map_nil,List.cons_append,List.nil_append,List.replicate_succ,List.replicate_zero,Nat.reduceSub,Nat.reduceAdd,List.zip_cons_cons,List.zip_nil_left,List.zip_nil_right,List.foldl_cons,List.foldl_nil,b8,be,List.getElem?_cons_zero,List.getElem?_cons_succ,Option.getD_some,Option.getD_none]))
local macro_rules | `(tactic| walk_at "side")=>`(tactic| first | assumption | exact nc (by omega) (by omega) | exact CC (by omega) (by omega) | exact sv (jd (by omega) (by omega)) (jd (by omega) (by omega)) | exact CF (by omega) | exact CD (by omega) (jd (by omega) (by omega)) | exact CG (by omega) (by omega) (by omega) (by omega) | omega)
local macro_rules | `(tactic| walk_at "run1")=>`(tactic| first
  | (with_reducible refine BL ?_) | (with_reducible refine BK ?_) | (with_reducible refine C2 ?_) | ((with_reducible refine' BJ ?h ?_);(case h=>exact rfl)) | (with_reducible refine BN ?_) | (with_reducible refine BO ?_)
  | ((with_reducible refine sf ?h ?_);(case h=>walk_at "side")) | ((with_reducible refine BP ?h ?_);(case h=>walk_at "side")) | ((with_reducible refine BQ ?h ?_);(case h=>walk_at "side")) | ((with_reducible refine BR ?h (fun v hv=>?_));(case h=>walk_at "side");(simp only[Int.reduceToNat,Int.reducePow] at hv);(subst hv))
  | (with_reducible exact rfl) | (with_reducible refine BS ?_) | (with_reducible refine BT ?_) | (with_reducible refine BU ?_) | (with_reducible refine BV ?_) | (with_reducible refine BX ?_) | (with_reducible refine BY ?_) | (with_reducible refine BZ ?_) | (with_reducible refine BM ?_) | (with_reducible refine BW ?_)
  | (with_reducible refine C0 ?_) | (with_reducible refine C1 ?_) | (with_reducible refine C4 ?_) | (with_reducible refine C5 ?_) | (with_reducible refine C6 ?_) | (with_reducible refine C7 ?_) | (with_reducible refine C8 ?_) | (with_reducible refine Cg ?_)
  | (with_reducible refine Cb ?_) | (with_reducible refine Cc ?_) | (with_reducible refine Cd ?_) | (with_reducible refine Ce ?_) | (with_reducible refine Cf ?_)
  | (with_reducible refine Ci ?_) | (with_reducible refine Ch ?_) | (with_reducible refine Cj ?_) | (with_reducible refine Ck ?_) | (with_reducible refine Cl ?_) | (with_reducible refine Cm ?_) | ((with_reducible refine sg ?_);(try walk_at "env")) | (with_reducible refine C3 ?_) | (with_reducible refine sh ?_) | (with_reducible refine so ?_)
  | (with_reducible refine Co ?_) | (with_reducible refine Cp ?_) | (with_reducible refine sj ?_) | (with_reducible refine sk ?_) | (with_reducible refine C9 ?_) | (with_reducible refine Ca ?_) | (with_reducible refine Cr ?_) | (with_reducible refine Cq ?_) | (with_reducible refine D2 ?_)
  | (with_reducible refine CK ?_) | (with_reducible refine CL ?_)
  | ((with_reducible refine CJ ?h ?_);(case h=>first | exact Nat.le_of_ble_eq_true rfl | decide | (simp;done) | (simp;omega)))
  | ((with_reducible refine And.intro ?h ?_);(case h=>first | exact Nat.le_of_ble_eq_true rfl | exact rfl | (with_reducible show ¬ (HT.sIx _ _ _=_/\_);simp[HT.sIx];done))) | ((with_reducible refine Exists.intro _ (And.intro rfl ?_))) | ((with_reducible refine Exists.intro _ (And.intro (seqD_lst _) ?_))) | ((with_reducible refine Exists.intro _ (And.intro (seqD_scr _) ?_))) | (with_reducible refine Cs ?_) | (with_reducible refine Ct ?_) | (with_reducible refine Cu ?_) | (with_reducible refine Cv ?_) | (with_reducible refine Cw ?_) | (with_reducible refine Cy ?_) | ((with_reducible refine' D9 ?h ?_);(case h=>exact rfl)) | (with_reducible refine Cz ?_) | (with_reducible refine CA ?_) | (with_reducible refine CB ?_) | (with_reducible refine CZ ?_) | (with_reducible refine CO ?_) | (with_reducible refine CP ?_) | (with_reducible refine CQ ?_) | (with_reducible refine CS ?_) | (with_reducible refine CN ?_) | (with_reducible refine CT ?_) | (with_reducible refine CU ?_)
  | ((with_reducible refine' n6 ?h ?_);(case h=>exact rfl)))
local macro_rules | `(tactic| walk_at "run")=>`(tactic| repeat (first | walk_at "run1" | walk_at "call"))
local macro_rules | `(tactic| walk_at "all")=>`(tactic| (walk_at "run";try ((with_reducible first | refine bp (fun h=>?_) (fun h=>?_) | refine n8 (fun h=>?_) (fun h=>?_)) <;> walk_at "all")))
local macro_rules | `(tactic| walk_at "leaf")=>`(tactic| first | omega | exact congrArg D.bl (decide_eq_decide.mpr (by omega)) | exact congrArg D.bl (decide_eq_false (by omega)).symm | exact congrArg D.bl (decide_eq_true (by omega)).symm)
local macro_rules | `(tactic| walk_at "n1")=>`(tactic| first
  | (with_reducible refine EH ?_) | (with_reducible refine EI ?_) | (with_reducible refine EJ ?_) | (with_reducible refine EK ?_) | (with_reducible refine EL ?_) | (with_reducible refine EM ?_)
  | (with_reducible refine EN ?_) | (with_reducible refine EO ?_) | (with_reducible refine EQ ?_)
  | (with_reducible refine ER ?_) | (with_reducible refine ES ?_) | (with_reducible refine ET ?_) | (with_reducible refine EU ?_) | (with_reducible refine EY ?_) | (with_reducible refine EZ ?_)
  | (with_reducible refine F0 ?_) | (with_reducible refine F3 ?_) | (with_reducible refine F4 ?_) | (with_reducible refine F5 ?_) | (with_reducible refine F6 ?_) | (with_reducible refine F7 ?_)
  | (with_reducible refine F8 ?_) | (with_reducible refine F9 ?_) | (with_reducible refine Fa ?_) | (with_reducible refine Fb ?_) | (with_reducible refine Fc ?_)
  | (with_reducible refine Fd ?_) | (with_reducible refine Fe ?_) | (with_reducible refine Ff ?_) | (with_reducible refine Fg ?_) | (with_reducible refine Fh ?_) | (with_reducible refine Fi ?_) | (with_reducible refine Fj ?_) | (with_reducible refine Fl ?_) | (with_reducible refine Fo ?_) | (with_reducible refine Fk ?_)
  | (with_reducible refine Fs ?_) | (with_reducible refine Ft ?_) | (with_reducible refine Fu ?_) | (with_reducible refine Fv ?_) | (with_reducible refine Fw ?_)
  | ((with_reducible refine tq ?_);(try walk_at "env")) | (with_reducible refine tu ?_))
local macro_rules | `(tactic| walk_at "call")=>`(tactic| walk_at "n1")
local macro_rules | `(tactic| walk_at "call")=>`(tactic| first
  | ((with_reducible refine' EX ?h1 ?h2 ?h3 ?_);(case h1=>exact rfl);(case h2=>first | assumption | exact aU);(case h3=>exact rfl))
  | ((with_reducible refine' EW ?h1 ?h2 ?h3 ?_);(case h1=>exact rfl);(case h2=>first | assumption | exact aU);(case h3=>exact rfl))
  | ((with_reducible refine' F1 ?h1 ?h2 ?_);(case h1=>exact rfl);(case h2=>first | assumption | exact aU)))
def nQ:FS:=aO (bR (e1 (da "int") (aa 0)) (bR (gX (e1 (da "bool") (aa 0))) (e3c leI leI (aa 1) (aa 0) (aa 2))))
def tB:List D->Option D:=mkF false 3 3 nQ
abbrev ca:List D->Option D:=scF tB
def nR:FS:=aE (aR 2 (eC (.int 1))) (aE (eo 3 (ae (aa 1) (ak)) (aR 2 (e2 bd (aa 2) (aa 0)))) (aO (aa 2)))
def tD:List D->Option D:=mkF false 2 4 nR
abbrev eW:List D->Option D:=scF tD
def nS:FS:=aO (bR (e3c leI leI (eC (.int 1)) (eA (aI br) (ae (aa 0) (ak))) (eC (.int 6))) (eA (aI (eK fun bs=>bs.all id)) (ae (bM 1 [] [0] un1 (dF (aa 0)) bN (eA ca (ae (aa 0) (ae (eC (.int 1)) (ae (eC (.int 1000000)) (ak)))))) (ak))))
def tE:List D->Option D:=mkF false 1 1 nS
abbrev jp:List D->Option D:=scF tE
def nT:FS:=aO (eA (aI cy) (ae (aa 0) (ak)))
def tF:List D->Option D:=mkF false 1 1 nT
abbrev eX:List D->Option D:=scF tF
def nU:FS:=aE (sIf (eT (e2 neD (eA (aI br) (ae (aa 0) (ak))) (e2 aT (aa 1) (eC (.int 1))))) (aO (eC (.bl false))) (eJ)) (aO (bR (eA (aI (eK fun bs=>bs.all id)) (ae (bM 1 [] [0] un1 (dF (aa 0)) bN (eA ca (ae (aa 0) (ae (eC (.int 0)) (ae (eC (.int 1000)) (ak)))))) (ak))) (e2 gtI (eA eX (ae (aa 0) (ak))) (eC (.int 0)))))
def tG:List D->Option D:=mkF false 2 2 nU
abbrev jq:List D->Option D:=scF tG
def nV:FS:=aO (bR (e2 leI (eA (aI br) (ae (aa 0) (ak))) (eC (.int 8))) (eA (aI (eK fun bs=>bs.all id)) (ae (bM 1 [1] [0] un1 (dF (aa 0)) bN (eA jq (ae (aa 0) (ae (aa 1) (ak))))) (ak))))
def tH:List D->Option D:=mkF false 2 2 nV
abbrev jr:List D->Option D:=scF tH
def nW:FS:=aO (bR (eA ca (ae (aa 0) (ae (eC (.int 0)) (ae (eC (.int 10)) (ak))))) (bR (eA jp (ae (aa 1) (ak))) (eA jr (ae (aa 2) (ae (eA (aI br) (ae (aa 1) (ak))) (ak))))))
def tI:List D->Option D:=mkF false 3 3 nW
abbrev ln:List D->Option D:=scF tI
def nX:FS:=aE (aR 2 (bD (ae (aa 1) (ak)))) (aE (hX 3 (aa 0) (hV 2 (e2 bd (e2 ixD (aa 2) (e1 cL (eC (.int 1)))) (eA eX (ae (aa 3) (ak)))))) (aO (e1 kC (aa 2))))
def tJ:List D->Option D:=mkF true 2 4 nX
abbrev fY:List D->Option D:=tJ
def nY:FS:=aO (eA (aI cy) (ae (bM 2 [] [0,1] (unT 2) (hZ (aa 0) (e2 dE (aa 1) (bD (ae (aa 2) (ak))))) bN (e2 bd (aa 0) (aa 1))) (ak)))
def tK:List D->Option D:=mkF false 3 3 nY
abbrev js:List D->Option D:=scF tK
def nZ:FS:=aO (e2 aT (e2 bd (aa 0) (aa 1)) (e2 ixD (aa 2) (e2 bw (aa 3) (eC (.int 1)))))
def tL:List D->Option D:=mkF false 4 4 nZ
abbrev eY:List D->Option D:=scF tL
def o0:FS:=aE (sIf (eT (e2 eqD (aa 3) (eC (.int 0)))) (aO (e2 ixD (aa 2) (aa 3))) (eJ)) (aO (eA (cx ef) (ae (e2 ixD (aa 2) (aa 3)) (ae (eA eY (ae (aa 0) (ae (aa 1) (ae (aa 2) (ae (aa 3) (ak)))))) (ak)))))
def tM:List D->Option D:=mkF false 4 4 o0
abbrev jt:List D->Option D:=scF tM
def o3:FS:=aO (eA js (ae (aa 1) (ae (bM 1 [2,3,4] [0] un1 (dF (aa 0)) bN (eA jt (ae (aa 0) (ae (aa 1) (ae (aa 2) (ae (aa 3) (ak))))))) (ae (e2 ixD (aa 3) (aa 4)) (ak)))))
def tN:List D->Option D:=mkF false 5 5 o3
abbrev ju:List D->Option D:=scF tN
def o7:FS:=aO (bM 1 [0,1,2,3] [0] un1 (iR1 (ae (eA (aI br) (ae (aa 3) (ak))) (ak))) bN (eA ju (ae (aa 1) (ae (aa 2) (ae (aa 3) (ae (aa 4) (ae (aa 0) (ak))))))))
def tO:List D->Option D:=mkF true 4 4 o7
abbrev jv:List D->Option D:=tO
def o8:FS:=aE (aR 4 (eA fY (ae (aa 1) (ae (aa 2) (ak))))) (aE (aR 5 (bD (ae (e1 hG (aa 3)) ak))) (aE (j3 6 (ae (e2 bw (eA (aI br) (ae (aa 1) (ak))) (eC (.int 1))) (ae (e1 cL (eC (.int 1))) (ae (e1 cL (eC (.int 1))) (ak)))) (j5 5 (eA jv (ae (aa 0) (ae (e2 ixD (aa 1) (aa 6)) (ae (e2 ixD (aa 4) (e2 aT (aa 6) (eC (.int 1)))) (ae (e2 ixD (aa 5) (e1 cL (eC (.int 1)))) (ak)))))))) (i3 5)))
def tP:List D->Option D:=mkF true 4 7 o8
abbrev lq:List D->Option D:=tP
def o9:FS:=aO (bR (e2 gtI (aa 3) (eC (.int 0))) (e2 geI (eA eY (ae (aa 0) (ae (aa 1) (ae (aa 2) (ae (aa 3) (ak)))))) (e2 ixD (aa 2) (aa 3))))
def tQ:List D->Option D:=mkF false 4 4 o9
abbrev lr:List D->Option D:=scF tQ
def oa:FS:=aO (e1 cL (e2 gR (e2 bw (e2 ixD (aa 1) (e2 bw (aa 2) (eC (.int 1)))) (e2 ixD (aa 1) (aa 2))) (aa 0)))
def tR:List D->Option D:=mkF false 3 3 oa
abbrev ls:List D->Option D:=scF tR
def oe:FS:=aE (aR 1 (e2 ixD (aa 0) (eC (.int 0)))) (aE (aR 2 (e2 ixD (aa 0) (eC (.int 1)))) (aE (aR 3 (e2 ixD (aa 0) (eC (.int 2)))) (aE (aR 4 (e2 ixD (aa 0) (eC (.int 3)))) (aE (aR 5 (bR (eA ca (ae (aa 3) (ae (eC (.int 1)) (ae (eC (.int 1000)) (ak))))) (eA ca (ae (aa 2) (ae (eC (.int 0)) (ae (aa 3) (ak))))))) (aO (bR (eA ca (ae (aa 1) (ae (eC (.int 0)) (ae (eC (.int 10)) (ak))))) (bR (aa 5) (eA ca (ae (aa 4) (ae (eC (.int 0)) (ae (eC (.int 1000000)) (ak))))))))))))
def tS:List D->Option D:=mkF false 1 6 oe
abbrev lu:List D->Option D:=scF tS
def og:FS:=aE (aR 3 (e2 dE (bM 1 [2] [0] un1 (dF (aa 0)) bN (e2 bd (aa 0) (aa 1))) (bD (ae (eC (.int 0)) (ak))))) (aE (aR 4 (e2 dE (bD (ae (eC (.int 0)) (ak))) (bM 1 [1] [0] un1 (dF (aa 0)) bN (e2 bd (aa 0) (aa 1))))) (aO (bM 2 [] [0,1] (unT 2) (hZ (aa 3) (aa 4)) bN (e2 aT (aa 0) (aa 1)))))
def tT:List D->Option D:=mkF true 3 5 og
abbrev jw:List D->Option D:=tT
def oh:FS:=aE (aR 3 (bD (ae (eC (.int 1)) (ak)))) (aE (eo 4 (ae (aa 0) (ak)) (aR 3 (eA jw (ae (aa 3) (ae (aa 1) (ae (e2 bw (aa 2) (aa 1)) (ak))))))) (aO (eL (aa 3))))
def tU:List D->Option D:=mkF true 3 5 oh
abbrev jx:List D->Option D:=tU
def oi:FS:=aE (aR 2 (e2 ixD (aa 1) (eC (.int 0)))) (aE (aR 3 (eA jx (ae (aa 0) (ae (e2 ixD (aa 1) (eC (.int 1))) (ae (e2 ixD (aa 1) (eC (.int 2))) (ak)))))) (aO (eA (aI cy) (ae (bM 2 [2] [0,1] (unT 2) (iZ (aa 3)) bN (e2 bd (aa 1) (eA (cx ef) (ae (e2 bw (aa 0) (aa 2)) (ae (eC (.int 0)) (ak)))))) (ak)))))
def tV:List D->Option D:=mkF false 2 4 oi
abbrev jz:List D->Option D:=scF tV
def oj:FS:=aE (aR 3 (e2 ixD (aa 2) (eC (.int 3)))) (aO (e2 bd (e2 bd (e1 cL (aa 3)) (eA jz (ae (aa 0) (ae (aa 2) (ak))))) (eA eW (ae (e2 ixD (aa 2) (eC (.int 2))) (ae (aa 1) (ak))))))
def tW:List D->Option D:=mkF false 3 4 oj
abbrev jA:List D->Option D:=scF tW
def ol:FS:=aO (bM 1 [0,1] [0] un1 (iR1 (ae (e2 aT (aa 0) (eC (.int 1))) (ak))) bN (eA jA (ae (e2 bw (aa 1) (aa 0)) (ae (aa 0) (ae (aa 2) (ak))))))
def tX:List D->Option D:=mkF true 2 2 ol
abbrev lw:List D->Option D:=tX
def om:FS:=aO (eA eW (ae (e2 ixD (aa 1) (eC (.int 2))) (ae (aa 0) (ak))))
def tY:List D->Option D:=mkF false 2 2 om
abbrev lz:List D->Option D:=scF tY
def on:FS:=aE (iW 2 (eSl (aa 0) (fE (aa 1)) (fE (e2 aT (aa 1) (eC (.int 1))))) (aO (aa 2))) (aO (eC (.int 0)))
def tZ:List D->Option D:=mkF false 2 3 on
abbrev jB:List D->Option D:=scF tZ
def oo:FS:=aE (hW [2,3,4,5] (aa 1)) (aE (aR 6 (bD (ak))) (aE (aR 7 (bD (ae (eC (.int 1)) (ak)))) (aE (aR 8 (eC (.int 1))) (aE (eo 9 (ae (e2 aT (aa 0) (eC (.int 1))) (ak)) (aE (aR 10 (eA (aI cy) (ae (bM 1 [2,7] [0] un1 (iR1 (ae (e2 aT (aa 9) (eC (.int 1))) (ak))) bN (e2 bd (e2 ixD (aa 2) (aa 0)) (eA (cx ef) (ae (eC (.int 0)) (ae (e2 bw (aa 0) (aa 1)) (ak)))))) (ak)))) (aE (fO 6 (eC (.int 0)) (e2 bw (eC (.int 0)) (e2 bd (aa 5) (aa 10)))) (aR 7 (bM 1 [3,4,7] [0] un1 (iR1 (ae (e2 aT (aa 9) (eC (.int 2))) (ak))) bN (e2 aT (e2 bd (e2 ixD (e2 dE (aa 3) (bD (ae (eC (.int 0)) (ak)))) (aa 0)) (e2 bw (aa 2) (aa 1))) (e2 bd (e2 ixD (e2 dE (bD (ae (eC (.int 0)) (ak))) (aa 3)) (aa 0)) (aa 1)))))))) (aE (eo 11 (ae (e2 aT (aa 0) (eC (.int 1))) (ak)) (aE (iT 6 (aa 11) (e2 bd (e2 ixD (aa 6) (aa 11)) (aa 8))) (aR 8 (e2 bd (aa 8) (aa 4))))) (aO (eL (aa 6))))))))
def u0:List D->Option D:=mkF true 2 12 oo
abbrev jC:List D->Option D:=u0
def oq:FS:=aE (aR 2 (eC (.int 1))) (aE (eo 3 (ae (aa 0) (ak)) (aR 2 (e2 bd (aa 2) (e2 ixD (aa 1) (eC (.int 2)))))) (aO (aa 2)))
def u1:List D->Option D:=mkF false 2 4 oq
abbrev jD:List D->Option D:=scF u1
def ot:FS:=aE (aR 4 (bD (ak))) (aE (j1 5 6 (aa 3) (aE (aR 7 (e2 bd (e2 ixD (aa 1) (e1 cL (eC (.int 1)))) (aa 6))) (aE (j2 8 9 (aa 0) (aa 1) (aE (aR 10 (aa 6)) (aE (sIf (eT (e2 gtI (aa 5) (eC (.int 0)))) (aR 10 (eA (cx ef) (ae (aa 6) (ae (e2 aT (e2 bd (aa 8) (aa 2)) (e2 ixD (aa 3) (e2 bw (aa 5) (eC (.int 1))))) (ak))))) (eJ)) (aR 7 (e2 aT (aa 7) (e2 bd (aa 9) (aa 10))))))) (hV 4 (aa 7))))) (aO (eL (aa 4))))
def u2:List D->Option D:=mkF true 4 11 ot
abbrev jE:List D->Option D:=u2
def ou:FS:=aE (hW [1,2,3,4] (aa 0)) (aE (aR 5 (bD (ae (eA jC (ae (aa 1) (ae (aa 4) (ak)))) (ak)))) (aE (aR 6 (bD (ae (eA jD (ae (aa 1) (ae (aa 4) (ak)))) (ak)))) (aE (hX 7 (aa 3) (aE (fO 5 (eC (.int 0)) (eA jE (ae (aa 2) (ae (aa 7) (ae (e2 ixD (aa 6) (eC (.int 0))) (ae (e2 ixD (aa 5) (eC (.int 0))) (ak))))))) (fO 6 (eC (.int 0)) (e2 bd (e2 ixD (aa 6) (eC (.int 0))) (eA (aI cy) (ae (aa 7) (ak))))))) (aO (gY (ae (aa 6) (ae (aa 5) (ak))))))))
def u3:List D->Option D:=mkF false 1 8 ou
abbrev lA:List D->Option D:=u3
def ow:FS:=aO (bR (e1 (da "int") (aa 0)) (gX (e1 (da "bool") (aa 0))))
def u4:List D->Option D:=mkF false 1 1 ow
abbrev ez:List D->Option D:=scF u4
def ox:FS:=aE (sIf (eT (e2 eqD (aa 2) (eC (.int 0)))) (aO (e1 cz (aa 3))) (eJ)) (aE (sIf (cY (cX (eA ez (ae (aa 3) (ak))))) (aO (eC (.bl false))) (eJ)) (aO (bR (e2 geI (e2 aT (e2 bd (aa 3) (aa 0)) (e2 ixD (aa 1) (e2 bw (aa 2) (eC (.int 1))))) (e2 ixD (aa 1) (aa 2))) (e2 ltI (e2 aT (e2 bd (e2 bw (aa 3) (eC (.int 1))) (aa 0)) (e2 ixD (aa 1) (e2 bw (aa 2) (eC (.int 1))))) (e2 ixD (aa 1) (aa 2))))))
def u5:List D->Option D:=mkF false 4 4 ox
abbrev lB:List D->Option D:=scF u5
abbrev NS_Office:List Str:=["seats","fares","rule","scales","table","told","sold","paid","dues","latest"]
def oy(C_Office:Nat):NTS:=au (bF (fU (eV (kY ln (am (nP (aa 1)) (am (nP (aa 2)) (am (nP (aa 3)) (aB))))))) (fV) (sN)) (au (bF (nPB (cY (cX (eA lu (ae (aa 4) (ak)))))) (fV) (sN)) (au (b0 5 (nP (eA lz (ae (aa 1) (ae (aa 4) (ak)))))) (au (cR C_Office (NS_Office.take 0) "seats" (nP (aa 0)) (nP (aa 1))) (au (cR C_Office (NS_Office.take 1) "fares" (nP (aa 0)) (la (nP (aa 2)))) (au (cR C_Office (NS_Office.take 2) "rule" (nP (aa 0)) (nP (aa 4))) (au (cR C_Office (NS_Office.take 3) "scales" (nP (aa 0)) (kZ fY (am (nP (aa 3)) (am (nP (aa 5)) (aB))))) (au (cR C_Office (NS_Office.take 4) "table" (nP (aa 0)) (l0 lq (am (nP (aa 2)) (am (nP (aa 3)) (am (nP (aa 5)) (am (nP (eA lw (ae (aa 1) (ae (aa 4) (ak))))) (aB))))))) (au (cR C_Office (NS_Office.take 5) "told" (nP (aa 0)) (nP (eC (.int 0)))) (au (cR C_Office (NS_Office.take 6) "sold" (nP (aa 0)) (nP (eC (.int 0)))) (au (cR C_Office (NS_Office.take 7) "paid" (nP (aa 0)) (nP (eC (.int 0)))) (au (cR C_Office (NS_Office.take 8) "dues" (nP (aa 0)) (nP (eC .non))) (cR C_Office (NS_Office.take 9) "latest" (nP (aa 0)) (nP (eC .non))))))))))))))
def jF(C_Office:Nat):NTF:=mkN 5 6 (oy C_Office)
def oz(C_Office:Nat):NTS:=au (b0 1 (ji (am (ie (e1 hG (e2 ixD (aa 0) (eC (.int 1))))) (am (ld [] (nP (e2 ixD (aa 0) (eC (.int 2)))) (ie (e1 hG (aa 0)))) (aB))))) (au (b0 2 (kS C_Office (jF C_Office) (am (nP (e2 ixD (aa 0) (eC (.int 0)))) (am (n2 ixD (nP (aa 1)) (nP (eC (.int 0)))) (am (n2 ixD (nP (aa 1)) (nP (eC (.int 1)))) (am (nP (e2 ixD (aa 0) (eC (.int 3)))) (aB))))))) (au (jl (n2 ixD (nP (aa 1)) (nP (eC (.int 0))))) (au (ik (n2 ixD (nP (aa 1)) (nP (eC (.int 0)))) (nP (eC (.int 0))) (nP (e2 gS (eC (.int 10)) (eC (.int 6))))) (au (lf 3 (n2 ixD (nP (aa 1)) (nP (eC (.int 1)))) (au (jl (nP (aa 3))) (ik (nP (aa 3)) (nP (eC (.int 0))) (nP (eC (.int 1000)))))) (au (jk (n2 ixD (nP (aa 1)) (nP (eC (.int 1)))) (lc (bD (ae (eC (.int 1000)) (ak))) (n2 aT (dJ (aI br) (am (n2 ixD (nP (aa 1)) (nP (eC (.int 0)))) (aB))) (nP (eC (.int 1)))))) (bi (nP (aa 2))))))))
def ip(C_Office:Nat):NTF:=mkN 1 4 (oz C_Office)
def oA(C_Office:Nat):NTS:=bi (kR ["rest","mixed","count"] (ae (eA jB (ae (aa 0) (ae (aa 1) (ak)))) (ae (e2 eqD (e2 e7 (eA jB (ae (aa 0) (ae (eC (.int 0)) (ak)))) (eC (.int 2))) (eC (.int 1))) (ae (e2 aT (eC (.int 1)) (aa 1)) (ak)))))
def eZ(C_Office:Nat):NTF:=mkN 2 2 (oA C_Office)
def oB(C_Office:Nat):NTS:=au (b0 2 (nDg ["rest","mixed","count"] 0 (nP (aa 0)))) (au (bF (fU (eV (nDg ["rest","mixed","count"] 1 (nP (aa 0))))) (au (ij ["rest","mixed","count"] 0 (nP (aa 0)) (nP (e2 gR (aa 2) (aa 1)))) (bi (nP (e2 e7 (aa 2) (aa 1))))) (sN)) (au (ij ["rest","mixed","count"] 2 (nP (aa 0)) (n2 aT (nDg ["rest","mixed","count"] 2 (nP (aa 0))) (nP (eC (.int 1))))) (au (b0 2 (n2 aT (nP (e2 e7 (aa 2) (eC (.int 1000000000039)))) (n2 bd (nP (eC (.int 60013))) (nDg ["rest","mixed","count"] 2 (nP (aa 0)))))) (au (b0 2 (nP (e2 e7 (e2 bd (aa 2) (e2 aT (aa 2) (eC (.int 17)))) (eC (.int 1000000000061))))) (au (b0 2 (nP (e2 e7 (e2 bd (aa 2) (aa 2)) (eC (.int 999999999989))))) (au (ij ["rest","mixed","count"] 0 (nP (aa 0)) (nP (aa 2))) (bi (nP (e2 e7 (e2 gR (aa 2) (eC (.int 5))) (aa 1))))))))))
def bT(C_Office:Nat):NTF:=mkN 2 3 (oB C_Office)
def oC(C_Office:Nat):NTS:=au (b0 2 (bo (bT C_Office) (am (nP (aa 0)) (am (nP (eC (.int 4))) (aB))))) (au (bF (nPB (eT (e2 eqD (aa 2) (eC (.int 0))))) (bi (bo (bT C_Office) (am (nP (aa 0)) (am (nP (eA (cx fH) (ae (eC (.int 10)) (ae (aa 1) (ak))))) (aB))))) (sN)) (au (bF (nPB (eT (e2 eqD (aa 2) (eC (.int 1))))) (bi (nP (e2 bw (aa 1) (eC (.int 1))))) (sN)) (bi (bo (bT C_Office) (am (nP (aa 0)) (am (nP (aa 1)) (aB)))))))
def ff(C_Office:Nat):NTF:=mkN 2 3 (oC C_Office)
def oE(C_Office:Nat):NTS:=au (b0 1 (n2 aT (nP (eC (.int 1))) (bo (ff C_Office) (am (nP (aa 0)) (am (nP (eC (.int 1000))) (aB)))))) (bi (ic (am (bo (bT C_Office) (am (nP (aa 0)) (am (nP (eC (.int 11))) (aB)))) (am (bo (bT C_Office) (am (nP (aa 0)) (am (nP (e2 aT (aa 1) (eC (.int 1)))) (aB)))) (am (nP (aa 1)) (am (bo (ff C_Office) (am (nP (aa 0)) (am (nP (e2 aT (e2 gS (eC (.int 10)) (eC (.int 6))) (eC (.int 1)))) (aB)))) (aB)))))))
def jG(C_Office:Nat):NTF:=mkN 1 2 (oE C_Office)
def oF(C_Office:Nat):NTS:=au (b0 2 (ie (bD (ak)))) (au (kW 3 (am (nP (e2 aT (aa 1) (eC (.int 1)))) (aB)) (jk (nP (aa 2)) (n2 ixD (ji (am (nP (eC (.int 0))) (am (bo (bT C_Office) (am (nP (aa 0)) (am (nP (eC (.int 10))) (aB)))) (am (bo (bT C_Office) (am (nP (aa 0)) (am (nP (eC (.int 1001))) (aB)))) (aB))))) (bo (bT C_Office) (am (nP (aa 0)) (am (nP (eC (.int 3))) (aB))))))) (au (bF (dI (n2 eqD (dJ (aI cy) (am (nP (aa 2)) (aB))) (nP (eC (.int 0))))) (ik (nP (aa 2)) (nP (aa 1)) (nP (eC (.int 1)))) (sN)) (kU 2)))
def jH(C_Office:Nat):NTF:=mkN 2 4 (oF C_Office)
def oG(C_Office:Nat):NTS:=au (b0 2 (bo (eZ C_Office) (am (nP (aa 0)) (am (nP (aa 1)) (aB))))) (au (b0 3 (bo (bT C_Office) (am (nP (aa 2)) (am (nP (eC (.int 11))) (aB))))) (au (b0 4 (il [2] (am (n2 aT (nP (eC (.int 1))) (bo (bT C_Office) (am (nP (aa 2)) (am (nP (eC (.int 6))) (aB))))) (aB)) (n2 aT (nP (eC (.int 1))) (bo (ff C_Office) (am (nP (aa 1)) (am (nP (e2 gS (eC (.int 10)) (eC (.int 6)))) (aB))))))) (au (b0 5 (bo (jG C_Office) (am (nP (aa 2)) (aB)))) (au (b0 6 (bo (bT C_Office) (am (nP (aa 2)) (am (nP (eC (.int 9))) (aB))))) (au (b0 2 (bo (eZ C_Office) (am (nP (aa 0)) (am (nP (e2 aT (aa 1) (eC (.int 1)))) (aB))))) (bi (ic (am (nP (aa 3)) (am (nP (aa 4)) (am (il [2,4] (am (nP (aa 6)) (aB)) (bo (jH C_Office) (am (nP (aa 1)) (am (nP (eA (aI br) (ae (aa 2) (ak)))) (aB))))) (am (nP (aa 5)) (aB))))))))))))
def jI(C_Office:Nat):NTF:=mkN 2 7 (oG C_Office)
def oH(C_Office:Nat):NTS:=bi (bE C_Office NS_Office 5 (nP (aa 0)))
def fZ(C_Office:Nat):NTF:=mkN 1 1 (oH C_Office)
def oI(C_Office:Nat):NTS:=bi (n2 bw (bE C_Office NS_Office 0 (nP (aa 0))) (bE C_Office NS_Office 6 (nP (aa 0))))
def cT(C_Office:Nat):NTF:=mkN 1 1 (oI C_Office)
def oJ(C_Office:Nat):NTS:=bi (n2 eqD (bE C_Office NS_Office 5 (nP (aa 0))) (n2 bw (dJ (aI br) (am (bE C_Office NS_Office 3 (nP (aa 0))) (aB))) (nP (eC (.int 1)))))
def jJ(C_Office:Nat):NTF:=mkN 1 1 (oJ C_Office)
def lC(C_Office:Nat):NTS:=au (bF (nPB (eT (e1 cz (aa 1)))) (bi (nP (eC .non))) (sN)) (au (bF (fU (eV (ig ca (am (nP (aa 1)) (am (nP (eC (.int 0))) (am (n2 bw (dJ (aI br) (am (bE C_Office NS_Office 1 (nP (aa 0))) (aB))) (nP (eC (.int 1)))) (aB))))))) (fV) (sN)) (bi (n2 ixD (bE C_Office NS_Office 1 (nP (aa 0))) (nP (aa 1)))))
def iq(C_Office:Nat):NTF:=mkN 2 2 (lC C_Office)
def lD(C_Office:Nat):NTS:=au (b0 2 (n2 aT (bE C_Office NS_Office 5 (nP (aa 0))) (nP (eC (.int 1))))) (bi (ib (nP (e1 db (aa 1))) (ig lr (am (nP (aa 1)) (am (n2 ixD (bE C_Office NS_Office 3 (nP (aa 0))) (nP (aa 2))) (am (n2 ixD (bE C_Office NS_Office 4 (nP (aa 0))) (nP (aa 2))) (am (bS C_Office NS_Office (cT C_Office) (nP (aa 0)) aB) (aB))))))))
def ir(C_Office:Nat):NTF:=mkN 2 3 (lD C_Office)
def oK(C_Office:Nat):NTS:=au (bF (dI (n2 eqD (bS C_Office NS_Office (cT C_Office) (nP (aa 0)) aB) (nP (eC (.int 0))))) (bi (nP (eC .non))) (sN)) (au (b0 1 (n2 aT (bE C_Office NS_Office 5 (nP (aa 0))) (nP (eC (.int 1))))) (bi (ig ls (am (n2 ixD (bE C_Office NS_Office 3 (nP (aa 0))) (nP (aa 1))) (am (n2 ixD (bE C_Office NS_Office 4 (nP (aa 0))) (nP (aa 1))) (am (bS C_Office NS_Office (cT C_Office) (nP (aa 0)) aB) (aB)))))))
def jK(C_Office:Nat):NTF:=mkN 1 2 (oK C_Office)
def lE(C_Office:Nat):NTS:=au (bF (eV (bS C_Office NS_Office (jJ C_Office) (nP (aa 0)) aB)) (fV) (sN)) (au (b0 2 (bS C_Office NS_Office (iq C_Office) (nP (aa 0)) (am (nP (aa 1)) (aB)))) (au (b0 3 (bS C_Office NS_Office (ir C_Office) (nP (aa 0)) (am (nP (aa 2)) (aB)))) (au (fW C_Office NS_Office 9 (nP (aa 0)) (ic (am (bE C_Office NS_Office 5 (nP (aa 0))) (am (bS C_Office NS_Office (cT C_Office) (nP (aa 0)) aB) (am (bS C_Office NS_Office (jK C_Office) (nP (aa 0)) aB) (am (nP (aa 2)) (aB))))))) (au (fW C_Office NS_Office 5 (nP (aa 0)) (n2 aT (bE C_Office NS_Office 5 (nP (aa 0))) (nP (eC (.int 1))))) (au (bF (nPB (cX (aa 3))) (au (fW C_Office NS_Office 6 (nP (aa 0)) (n2 aT (bE C_Office NS_Office 6 (nP (aa 0))) (nP (eC (.int 1))))) (fW C_Office NS_Office 7 (nP (aa 0)) (n2 aT (bE C_Office NS_Office 7 (nP (aa 0))) (nP (aa 2))))) (sN)) (bi (nP (aa 3))))))))
def iu(C_Office:Nat):NTF:=mkN 2 4 (lE C_Office)
def oM(C_Office:Nat):NTS:=au (bF (dI (n1 cz (bE C_Office NS_Office 9 (nP (aa 0))))) (fV) (sN)) (bi (bE C_Office NS_Office 9 (nP (aa 0))))
def iw(C_Office:Nat):NTF:=mkN 1 1 (oM C_Office)
def lF(C_Office:Nat):NTS:=au (b0 5 (bS C_Office NS_Office (fZ C_Office) (nP (aa 0)) aB)) (au (b0 6 (bS C_Office NS_Office (cT C_Office) (nP (aa 0)) aB)) (au (b0 7 (bS C_Office NS_Office (iu C_Office) (nP (aa 0)) (am (nP (aa 4)) (aB)))) (au (b0 8 (bS C_Office NS_Office (iw C_Office) (nP (aa 0)) aB)) (au (bF (nPB (bOr (cY (cX (e1 (da "tuple") (aa 8)))) (bOr (eT (e2 neD (eA (aI br) (ae (aa 8) (ak))) (eC (.int 4)))) (eT (e2 neD (iY (aa 8) (km) (fE (eC (.int 2)))) (gY (ae (aa 5) (ae (aa 6) (ak))))))))) (bi (nP (eC (.bl false)))) (sN)) (au (bF (nPB (bOr (cY (cX (eA ez (ae (e2 ixD (aa 8) (eC (.int 0))) (ak))))) (cY (cX (eA ez (ae (e2 ixD (aa 8) (eC (.int 1))) (ak))))))) (bi (nP (eC (.bl false)))) (sN)) (au (bF (nPB (cY (cX (eA lB (ae (e2 ixD (aa 2) (e2 aT (aa 5) (eC (.int 1)))) (ae (e2 ixD (aa 3) (e2 aT (aa 5) (eC (.int 1)))) (ae (aa 6) (ae (e2 ixD (aa 8) (eC (.int 2))) (ak))))))))) (bi (nP (eC (.bl false)))) (sN)) (au (b0 9 (nP (eC .non))) (au (bF (nPB (eT (e1 db (aa 4)))) (b0 9 (nP (e2 ixD (e2 ixD (aa 1) (eC (.int 1))) (aa 4)))) (sN)) (au (bF (nPB (bOr (eT (e2 neD (e2 ixD (aa 8) (eC (.int 3))) (aa 9))) (gW (eT (e1 db (aa 4))) (cY (cX (eA ez (ae (e2 ixD (aa 8) (eC (.int 3))) (ak)))))))) (bi (nP (eC (.bl false)))) (sN)) (au (b0 10 (nP (bR (e1 db (aa 9)) (bR (e2 gtI (aa 6) (eC (.int 0))) (e2 leI (e2 ixD (aa 8) (eC (.int 2))) (aa 9)))))) (bi (ib (nP (e2 eqD (aa 7) (aa 10))) (ib (n2 eqD (bS C_Office NS_Office (cT C_Office) (nP (aa 0)) aB) (nP (e2 bw (aa 6) (eA (aI kF) (ae (aa 10) (ak)))))) (n2 eqD (bS C_Office NS_Office (iw C_Office) (nP (aa 0)) aB) (nP (aa 8))))))))))))))))
def iy(C_Office:Nat):NTF:=mkN 5 11 (lF C_Office)
def oN(C_Office:Nat):NTS:=au (b0 1 (bo (jI C_Office) (am (nP (aa 0)) (am (nP (eC (.int 1))) (aB))))) (au (jj [2,3,4,5] (nP (aa 1))) (au (jj [6,7] (nP (eA lA (ae (aa 1) (ak))))) (au (b0 8 (bo (ip C_Office) (am (nP (aa 1)) (aB)))) (au (kX 9 (am (nP (eC (.int 3))) (am (nP (eA (cx fH) (ae (eC (.int 63)) (ae (eA (aI br) (ae (aa 0) (ak))) (ak))))) (aB))) (au (b0 10 (bo (eZ C_Office) (am (nP (aa 0)) (am (nP (aa 9)) (aB))))) (au (b0 11 (n2 ixD (nP (e2 dE (eA j6 (ae (eA (aI br) (ae (aa 3) (ak))) (ak))) (bD (ae (eC .non) (ak))))) (bo (bT C_Office) (am (nP (aa 10)) (am (nP (e2 aT (eA (aI br) (ae (aa 3) (ak))) (eC (.int 1)))) (aB)))))) (au (bF (dI (n2 eqD (bS C_Office NS_Office (fZ C_Office) (nP (aa 8)) aB) (nP (eA (aI br) (ae (aa 4) (ak)))))) (b0 8 (bo (ip C_Office) (am (nP (aa 1)) (aB)))) (sN)) (bF (kQ (nPB (eT (e2 gtI (eA (aI br) (ae (aa 4) (ak))) (eC (.int 0))))) (fU (eV (bo (iy C_Office) (am (nP (aa 8)) (am (nP (aa 1)) (am (nP (aa 6)) (am (nP (aa 7)) (am (nP (aa 11)) (aB)))))))))) (bi (nP (eC (.bl false)))) (sN)))))) (bi (nP (eC (.bl true))))))))
def oO(C_Office:Nat):NTF:=mkN 1 12 (oN C_Office)
def Pool(M:Sto)(a:Nat)(n:Nat):Prop:=∃ (r:Int) (m:Bool) (c:Int),M a=some (.dic ["rest","mixed","count"] [.int r,.bl m,.int c])/\0<=c/\c<=(n:Nat)
theorem Pool.keep{M M':Sto}{a n:Nat}{S:Nat->Prop}(h:Pool M a n)(k:Kp S M M')(hs:¬ S a):Pool M' a n:=by
  obtain⟨r,m,c,h1,h2⟩:=h
  exact⟨r,m,c,k _ _ h1 hs,h2⟩
theorem Pool.le{M:Sto}{a n n':Nat}(h:Pool M a n)(k:n<=n'):Pool M a n':=by
  obtain⟨r,m,c,h1,h2,h3⟩:=h
  exact⟨r,m,c,h1,h2,by omega⟩
theorem df{C a n:Nat}{M:Sto}{Q:QE}{many:Int}(hp:Pool M a n)(hn:n<=100000)(h0:0 < many)(h1:many<=10 ^ 41)(h:∀ r M',0<=r->r < many->Pool M' a (n+1)->Kp (· = a) M M'->Q (.int r) M'):bT C [.ptr a,.int many] M Q:=by
  obtain⟨r,m,c,hm,hc1,hc2⟩:=hp
  refine bG rfl ?_
  unfold oB
  walk_at "env"
  cases m with
  | false =>
    walk_at "run"
    refine⟨a,_,rfl,hm,?_⟩
    walk_at "run"
    refine h _ _ (Int.emod_nonneg _ (by omega)) (Int.emod_lt_of_pos _ h0) ⟨_,_,_,aU,hc1,by omega⟩ (Kp.upd (.inl rfl))
  | true =>
    walk_at "run"
    refine⟨a,_,rfl,hm,?_⟩
    walk_at "run"
    refine⟨a,_,rfl,aU,?_⟩
    walk_at "run"
    rw[cQ]
    refine h _ _ (Int.emod_nonneg _ (by omega)) (Int.emod_lt_of_pos _ h0) ⟨_,_,_,aU,by omega,by omega⟩ (Kp.upd (.inl rfl))
theorem u6{ns:List Int}{k:Int}(h0:0<=k):WF jB [.scr ns,.int k] fun d=>∃ x,d=.int x:=by
  refine bO (bf rfl ?_)
  unfold on
  walk_at "env"
  walk_at "run"
  have e:cZ (ns.map D.int) (some k) (some (k+1))=(cZ ns (some k) (some (k+1))).map D.int:=by simp[cZ,List.map_drop,List.map_take]
  rw[e]
  cases cZ ns (some k) (some (k+1)) with
  | nil=>exact⟨_,rfl,_,rfl,rfl,_,rfl⟩
  | cons x r=>exact⟨_,rfl,rfl,_,rfl⟩
theorem oP{C:Nat}{M:Sto}{Q:QE}{ns:List Int}{k:Int}(h0:0<=k)(h1:k<=1000)(h:∀ a M',M a=none->Pool M' a 2000->Kp (fun _=>False) M M'->Q (.ptr a) M'):eZ C [.scr ns,.int k] M Q:=by
  refine bG rfl ?_
  unfold oA
  walk_at "env"
  walk_at "run"
  refine EV ?_
  walk_at "run"
  refine jc (u6 h0) ?_
  rintro _ ⟨x,rfl⟩
  walk_at "run"
  refine jc (u6 (by omega)) ?_
  rintro _ ⟨y,rfl⟩
  walk_at "run"
  intro a ha
  refine tu ?_
  exact h a _ ha ⟨_,_,_,aU,by omega,by omega⟩ (Kp.upd (.inr ha))
theorem oQ{C a n:Nat}{M:Sto}{Q:QE}{most:Int}(hp:Pool M a n)(hn:n<=90000)(h0:0 < most)(h1:most<=10 ^ 41)(h:∀ r M',0<=r->r < most->Pool M' a (n+2)->Kp (· = a) M M'->Q (.int r) M'):ff C [.ptr a,.int most] M Q:=by
  refine bG rfl ?_
  unfold oC
  walk_at "env"
  walk_at "run"
  refine df hp (by omega) (by omega) (by omega) fun r M1 a1 a2 p1 k1=>?_
  walk_at "run"
  refine bp (fun e=>?_) fun e=>?_
  · walk_at "run"
    refine df p1 (by omega) (by omega) (by omega) fun r2 M2 b1 b2 p2 k2=>?_
    walk_at "run"
    exact h _ _ b1 (by omega) p2 (k1.trans k2 fun _ z _=>z)
  walk_at "run"
  refine bp (fun e=>?_) fun e=>?_
  · walk_at "run"
    exact h _ _ (by omega) (by omega) (p1.le (by omega)) k1
  walk_at "run"
  refine df p1 (by omega) (by omega) (by omega) fun r2 M2 b1 b2 p2 k2=>?_
  walk_at "run"
  exact h _ _ b1 b2 p2 (k1.trans k2 fun _ z _=>z)
theorem Fx{M:Sto}{a:Nat}{ds:List D}(h:M a=some (.lst ds)):vw1 M (.ptr a)=.lst ds:=by simp only[vw1,h]
def Fy(m:Nat)(r:List Int):Prop:=r.length=m+1/\(∀ x ∈ r,0<=x/\x<=1000)/\0 < r.sum
theorem Fz{C a n m:Nat}{M:Sto}{Q:QE}(hp:Pool M a n)(hn:n<=60000)(hm:m<=10)(h:∀ r M',Fy m r->Pool M' a (n+33)->Kp (· = a) M M'->Q (DI r) M'):jH C [.ptr a,.int (m:Nat)] M Q:=by
  refine bG rfl ?_
  unfold oF
  walk_at "env"
  walk_at "run"
  refine nN ?_
  walk_at "run"
  intro x hx
  have hxa:x ≠ a:=fun e=>by subst e;obtain⟨_,_,_,h1,_⟩:=hp;rw[hx] at h1;cases h1
  walk_at "run"
  refine⟨⟨by omega,by omega⟩,?_⟩
  rw[show ((m:Int)+1).toNat=m+1 by omega]
  refine tz _ _ (fun k ρ M'=>∃ b,ρ=[some (.ptr a),some (.int (m:Nat)),some (.ptr x),b]/\∃ r:List Int,M' x=some (.lst (r.map D.int))/\r.length=k/\(∀ z ∈ r,0<=z/\z<=1000)/\Pool M' a (n+3 * k)/\Kp (· = a) M M') ⟨_,rfl,[],aU,rfl,by simp,hp.keep (S:=fun _=>False) (Kp.upd (.inr hx)) id,Kp.upd (.inr hx)⟩ ?_ ?_
  · rintro ρ M1 ⟨b,rfl,r,h1,h2,h3,p1,k1⟩
    rw[List.length_range] at h2 p1
    walk_at "run"
    rw[show List.map (vw1 M1) [D.ptr x]=[DI r] by simp[Fx h1]]
    walk_at "run"
    have hnn:=je fun z hz=>(h3 z hz).1
    have hdel:∀ c,Kp (· = a) M (dc (aN M1 x c) x):=fun c=>(k1.trans (Kp.upd (S:=(· = x)) (.inl rfl)) fun b z n=>by subst z;exact absurd hx n).trans (Kp.del (S:=(· = x)) rfl) fun b z n=>by subst z;exact absurd hx n
    have hpd:∀ M2:Sto,Pool M2 a (n+3 * (m+1))->Pool (dc M2 x) a (n+33):=fun M2 p=>(p.keep (S:=(· = x)) (Kp.del rfl) (Ne.symm hxa)).le (by omega)
    refine bp (fun e=>?_) fun e=>?_
    · walk_at "run"
      refine⟨x,_,_,m,rfl,h1,rfl,?_,?_⟩
      · rw[List.length_map,h2];unfold ixN;rw[if_pos (by omega),if_pos (by omega)];congr 1
      walk_at "run"
      refine tj rfl aU ?_
      walk_at "run"
      have hs:(r.map D.int).set m (D.int 1)=(r.set m 1).map D.int:=by rw[List.map_set]
      rw[hs]
      refine h (r.set m 1) _ ⟨by rw[List.length_set,h2],fun z hz=>?_,?_⟩ ?_ ?_
      · rcases List.mem_or_eq_of_mem_set hz with hz | hz
        · exact h3 z hz
        · subst hz;omega
      · have hall:∀ z ∈ r.set m 1,0<=z:=fun z hz=>by
          rcases List.mem_or_eq_of_mem_set hz with hz | hz
          · exact (h3 z hz).1
          · subst hz;omega
        have hmem:(1:Int) ∈ r.set m 1:=List.mem_set (by omega) ..
        obtain⟨u,w,e⟩:=List.append_of_mem hmem
        rw[e] at hall ⊢
        rw[List.sum_append,List.sum_cons]
        have g1:=je fun y hy=>hall y (List.mem_append_left _ hy)
        have g2:=je fun y hy=>hall y (List.mem_append_right _ (List.mem_cons_of_mem _ hy))
        omega
      · exact hpd _ (p1.keep (S:=(· = x)) (Kp.upd (.inl rfl)) (Ne.symm hxa))
      · exact hdel _
    · walk_at "run"
      refine tj rfl h1 ?_
      walk_at "run"
      refine h r _ ⟨h2,h3,by omega⟩ (hpd _ p1) ?_
      have:=hdel (.lst (r.map D.int))
      rwa [Da h1] at this
  · rintro k hk ρ M1 ⟨b,rfl,r,h1,h2,h3,p1,k1⟩ N hN
    rw[List.length_range] at hk
    walk_at "env"
    walk_at "run"
    refine⟨x,_,rfl,h1,?_⟩
    walk_at "run"
    refine df p1 (by omega) (by omega) (by omega) fun v1 M2 a1 a2 p2 k2=>?_
    walk_at "run"
    refine df p2 (by omega) (by omega) (by omega) fun v2 M3 b1 b2 p3 k3=>?_
    walk_at "run"
    refine df p3 (by omega) (by omega) (by omega) fun v3 M4 c1 c2 p4 k4=>?_
    walk_at "run"
    refine CI 0 1000 c1 (by show _ < (3:Int);omega) (by simp only[AllI,and_true];omega) fun v e1 e2=>?_
    have x4:M4 x=some (.lst (r.map D.int)):=k4 _ _ (k3 _ _ (k2 _ _ h1 hxa) hxa) hxa
    refine⟨_,x4,by simp;omega,tq (hN _ _ ⟨_,rfl,r++[v],?_,by simp[h2],fun z hz=>?_,?_,?_⟩)⟩
    · rw[aU,List.map_append];rfl
    · rcases List.mem_append.mp hz with hz | hz
      · exact h3 z hz
      · rw[List.mem_singleton.mp hz];exact⟨e1,e2⟩
    · exact (p4.keep (S:=(· = x)) (Kp.upd (.inl rfl)) (Ne.symm hxa)).le (by omega)
    · exact (((k1.trans k2 fun _ z _=>z).trans k3 fun _ z _=>z).trans k4 fun _ z _=>z).trans (Kp.upd (S:=(· = x)) (.inl rfl)) fun b z n=>by subst z;exact absurd hx n
theorem FA{C a n:Nat}{M:Sto}{Q:QE}(hp:Pool M a n)(hn:n<=80000)(h:∀ r c o d M',0<=r->r<=10->0<=c->c<=o->1<=o->o<=1000->0<=d->d<=1000000->Pool M' a (n+6)->Kp (· = a) M M'->Q (.tup [.int r,.int c,.int o,.int d]) M'):jG C [.ptr a] M Q:=by
  refine bG rfl ?_
  unfold oE
  walk_at "env"
  walk_at "run"
  refine oQ hp (by omega) (by omega) (by omega) fun o M1 a1 a2 p1 k1=>?_
  walk_at "run"
  refine df p1 (by omega) (by omega) (by omega) fun r M2 b1 b2 p2 k2=>?_
  walk_at "run"
  refine df p2 (by omega) (by omega) (by omega) fun c M3 c1 c2 p3 k3=>?_
  walk_at "run"
  refine oQ p3 (by omega) (by omega) (by omega) fun d M4 d1 d2 p4 k4=>?_
  walk_at "run"
  exact h _ _ _ _ _ b1 (by omega) c1 (by omega) (by omega) (by omega) d1 (by omega) p4 (((k1.trans k2 fun _ z _=>z).trans k3 fun _ z _=>z).trans k4 fun _ z _=>z)
def RowsOk(n:Nat)(ts:List (List Int)):Prop:=∀ r ∈ ts,r.length=n+1/\(∀ x ∈ r,0<=x/\x<=1000)/\0 < r.sum
theorem RowsOk.sum{n:Nat}{ts:List (List Int)}(h:RowsOk n ts)(hn:n<=10):∀ r ∈ ts,0<=r.sum/\r.sum < 1000000:=fun r hr=>by
  obtain⟨h1,h2,h3⟩:=h r hr
  have h4:=nh (b:=1000) fun x hx=>(h2 x hx).2
  omega
theorem FB{C:Nat}{M:Sto}{Q:QE}{ns:List Int}{k:Int}(h0:0<=k)(h1:k<=900)(h:∀ (S:Nat) fares turns r c o d M',S<=10->1<=fares.length->fares.length<=6->(∀ x ∈ fares,1<=x/\x<=1000000)->turns.length<=8->RowsOk fares.length turns->0<=r->r<=10->0<=c->c<=o->1<=o->o<=1000->0<=d->d<=1000000->Kp (fun _=>False) M M' ->
      Q (.tup [.int (S:Nat),DI fares,DII turns,.tup [.int r,.int c,.int o,.int d]]) M'):jI C [.scr ns,.int k] M Q:=by
  refine bG rfl ?_
  unfold oG
  walk_at "env"
  walk_at "run"
  refine oP h0 (by omega) fun p M1 hp P1 K1=>?_
  walk_at "run"
  refine df P1 (by omega) (by omega) (by omega) fun s M2 a1 a2 P2 K2=>?_
  walk_at "run"
  refine tm ?_
  walk_at "run"
  refine df P2 (by omega) (by omega) (by omega) fun j M3 b1 b2 P3 K3=>?_
  walk_at "run"
  refine⟨⟨by omega,by omega⟩,by omega,?_⟩
  obtain⟨J,rfl⟩:∃ J:Nat,j=J:=⟨j.toNat,by omega⟩
  rw[show (1+(J:Int)).toNat=J+1 by omega]
  refine nO _ _ (fun k ds M'=>∃ fs:List Int,ds=fs.map D.int/\fs.length=k/\(∀ x ∈ fs,1<=x/\x<=1000000)/\Pool M' p (3000+2 * k)/\Kp (· = p) M3 M') ⟨[],rfl,rfl,by simp,P3.le (by omega),Kp.refl⟩ ?_ ?_
  · rintro _ M4 ⟨fares,rfl,c1,c2,P4,K4⟩
    rw[List.length_range] at c1 P4
    walk_at "run"
    refine FA P4 (by omega) fun r c o d M5 d1 d2 d3 d4 d5 d6 d7 d8 P5 K5=>?_
    walk_at "run"
    refine df P5 (by omega) (by omega) (by omega) fun m M6 e1 e2 P6 K6=>?_
    walk_at "run"
    refine oP (by omega) (by omega) fun q M7 hq P7 K7=>?_
    walk_at "run"
    refine tm ?_
    walk_at "run"
    refine⟨⟨by omega,by omega⟩,by omega,?_⟩
    obtain⟨T,rfl⟩:∃ T:Nat,m=T:=⟨m.toNat,by omega⟩
    obtain⟨S,rfl⟩:∃ S:Nat,s=S:=⟨s.toNat,by omega⟩
    rw[Int.toNat_natCast]
    have KK:Kp (fun _=>False) M M7:=by
      have z:Kp (· = p) M1 M6:=(((K2.trans K3 fun _ z _=>z).trans K4 fun _ z _=>z).trans K5 fun _ z _=>z).trans K6 fun _ z _=>z
      exact (K1.trans z fun x e n=>by subst e;exact absurd hp n).trans K7 fun _ z _=>z
    refine nO _ _ (fun k ds M'=>∃ ts:List (List Int),ds=ts.map DI/\ts.length=k/\RowsOk fares.length ts/\Pool M' q (2000+33 * k)/\Kp (· = q) M7 M') ⟨[],rfl,rfl,fun _ z=>by simp at z,P7,Kp.refl⟩ ?_ ?_
    · rintro _ M8 ⟨ts,rfl,f1,f2,P8,K8⟩
      rw[List.length_range] at f1
      walk_at "run"
      have hq':M q=none:=by
        cases e:M q with
        | none=>rfl
        | some c =>
          have z:Kp (· = p) M1 M6:=(((K2.trans K3 fun _ z _=>z).trans K4 fun _ z _=>z).trans K5 fun _ z _=>z).trans K6 fun _ z _=>z
          have:=z _ _ (K1 _ _ e id) (fun e'=>by subst e';rw[e] at hp;cases hp)
          rw[hq] at this;cases this
      exact h S fares ts r c o d M8 (by omega) (by omega) (by omega) c2 (by omega) f2 d1 d2 d3 d4 d5 d6 d7 d8 (KK.trans K8 fun x e n=>by subst e;exact absurd hq' n)
    · rintro k hk _ M8 ⟨ts,rfl,f1,f2,P8,K8⟩ N hN
      rw[List.length_range] at hk
      walk_at "env"
      walk_at "run"
      rw[List.length_map]
      refine Fz P8 (by omega) (by omega) fun row M9 g1 P9 K9=>?_
      refine hN _ _ ⟨ts++[row],by simp[DI],by simp[f1],fun r' hr'=>?_,P9.le (by omega),K8.trans K9 fun _ z _=>z⟩
      rcases List.mem_append.mp hr' with hr' | hr'
      · exact f2 r' hr'
      · rw[List.mem_singleton.mp hr'];exact g1
  · rintro k hk _ M4 ⟨fs,rfl,c1,c2,P4,K4⟩ N hN
    rw[List.length_range] at hk
    walk_at "env"
    walk_at "run"
    refine oQ P4 (by omega) (by omega) (by omega) fun v M5 d1 d2 P5 K5=>?_
    walk_at "run"
    refine hN _ _ ⟨fs++[1+v],by simp,by simp[c1],fun x hx=>?_,P5.le (by omega),K4.trans K5 fun _ z _=>z⟩
    rcases List.mem_append.mp hx with hx | hx
    · exact c2 x hx
    · rw[List.mem_singleton.mp hx];omega
theorem u7(n l m:Int):ca [.int n,.int l,.int m]=some (.bl (decide (l<=n/\n<=m))):=by
  refine bu (bO (bf rfl ?_))
  unfold nQ
  walk_at "env"
  walk_at "all" <;> walk_at "leaf"
local macro_rules | `(tactic| walk_at "call")=>`(tactic| (with_reducible refine bb (u7 _ _ _) ?_))
theorem u8{row:List Int}:eX [DI row]=some (.int row.sum):=by
  refine bu (bO (bf rfl ?_))
  unfold nT
  walk_at "env"
  walk_at "run"
structure SaleOk (seats:Int) (fares:List Int) (turns:List (List Int)):Prop where
  s0:0<=seats
  s1:seats<=10
  f0:1<=fares.length
  f1:fares.length<=6
  f:∀ x ∈ fares,1<=x/\x<=1000000
  t:turns.length<=8
  r:∀ r ∈ turns,r.length=fares.length+1/\(∀ x ∈ r,0<=x/\x<=1000)/\0 < r.sum
local macro_rules | `(tactic| walk_at "call")=>`(tactic| (with_reducible refine bb (u7 _ _ _) ?_))
def iz(n:Nat)(r:List Int):Prop:=r.length=n+1/\(∀ x ∈ r,0<=x/\x<=1000)/\0 < r.sum
theorem FC{n:Nat}{r:List Int}(hl:r.length<=1000):WF jq [DI r,.int (n:Nat)] fun d=>∃ b,d=.bl b/\(b=true ↔ iz n r):=by
  refine bO (bf rfl ?_)
  unfold nU
  walk_at "env"
  walk_at "run"
  rw[List.length_map]
  refine n8 (fun h=>?_) fun h=>?_
  · walk_at "run"
    unfold iz
    simp;omega
  · walk_at "run"
    refine nj (α:=Int) (fun x=>0<=x/\x<=1000) ?_
    walk_at "run"
    refine⟨.int,r,rfl,by omega,fun x hx=>⟨_,rfl,?_⟩,fun bs hb=>?_⟩
    · walk_at "env"
      walk_at "run"
      simp
    walk_at "run"
    refine sC hb (fun h1=>?_) fun h1=>?_
    · walk_at "run"
      refine bb u8 ?_
      walk_at "run"
      unfold iz
      rw[decide_eq_true_iff]
      exact⟨fun h2=>⟨by omega,h1,h2⟩,fun h2=>h2.2.2⟩
    · walk_at "run"
      unfold iz
      simp
      intro _ h2;exact absurd h2 h1
theorem FD{f:List Int}(hl:f.length<=1000):WF jp [DI f] fun d=>∃ b,d=.bl b/\(b=true ↔ 1<=f.length/\f.length<=6/\∀ x ∈ f,1<=x/\x<=1000000):=by
  refine bO (bf rfl ?_)
  unfold nS
  walk_at "env"
  walk_at "run"
  rw[List.length_map]
  refine bp (fun h=>?_) fun h=>?_
  · walk_at "run"
    refine bp (fun h2=>?_) fun h2=>?_
    · walk_at "run"
      refine nj (α:=Int) (fun x=>1<=x/\x<=1000000) ?_
      walk_at "run"
      refine⟨.int,f,rfl,by omega,fun x hx=>⟨_,rfl,?_⟩,fun bs hb=>?_⟩
      · walk_at "env"
        walk_at "run"
        simp
      walk_at "run"
      exact hb.trans ⟨fun h=>⟨by omega,by omega,h⟩,fun h=>h.2.2⟩
    · walk_at "run"
      simp;omega
  · walk_at "run"
    simp;omega
theorem FF{n:Nat}{t:List (List Int)}(hl:t.length<=1000)(hr:∀ r ∈ t,r.length<=1000):WF jr [DII t,.int (n:Nat)] fun d=>∃ b,d=.bl b/\(b=true ↔ t.length<=8/\∀ r ∈ t,iz n r):=by
  refine bO (bf rfl ?_)
  unfold nV
  walk_at "env"
  walk_at "run"
  rw[List.length_map]
  refine bp (fun h=>?_) fun h=>?_
  · walk_at "run"
    refine nj (α:=List Int) (iz n) ?_
    walk_at "run"
    refine⟨DI,t,rfl,by omega,fun x hx=>⟨_,rfl,?_⟩,fun bs hb=>?_⟩
    · walk_at "env"
      walk_at "run"
      exact FC (hr x hx)
    walk_at "run"
    exact hb.trans ⟨fun h=>⟨by omega,h⟩,fun h=>h.2⟩
  · walk_at "run"
    simp;omega
theorem FG{s:Int}{f:List Int}{t:List (List Int)}(hf:f.length<=1000)(hl:t.length<=1000)(hr:∀ r ∈ t,r.length<=1000):WF ln [.int s,DI f,DII t] fun d=>∃ b,d=.bl b/\(b=true ↔ SaleOk s f t):=by
  refine bO (bf rfl ?_)
  unfold nW
  walk_at "env"
  walk_at "run"
  refine bp (fun h=>?_) fun h=>?_
  · walk_at "run"
    refine jc (FD hf) ?_
    rintro _ ⟨b,rfl,hb⟩
    walk_at "run"
    refine sC hb (fun h1=>?_) fun h1=>?_
    · walk_at "run"
      rw[List.length_map]
      refine jc (FF hl hr) ?_
      rintro _ ⟨b,rfl,hb⟩
      walk_at "run"
      exact hb.trans ⟨fun h2=>⟨h.1,h.2,h1.1,h1.2.1,h1.2.2,h2.1,h2.2⟩,fun h2=>⟨h2.t,h2.r⟩⟩
    · walk_at "run"
      exact⟨fun h=>(nomatch h),fun h2=>absurd ⟨h2.f0,h2.f1,h2.f⟩ h1⟩
  · walk_at "run"
    exact⟨fun h=>(nomatch h),fun h2=>absurd ⟨h2.s0,h2.s1⟩ h⟩
def oR(r c o d:Int):Bool:=decide (0<=r/\r<=10/\1<=o/\o<=1000/\0<=c/\c<=o/\0<=d/\d<=1000000)
theorem FH(r c o d:Int):lu [.tup [.int r,.int c,.int o,.int d]]=some (.bl (oR r c o d)):=by
  refine bu (bO (bf rfl ?_))
  unfold oe oR
  walk_at "env"
  walk_at "all" <;> walk_at "leaf"
theorem u9{n:Nat}{x:Int}(hl:n<=1000)(hx:0<=x/\x<=1000000):eW [.int x,.int (n:Nat)]=some (.int (x ^ n)):=by
  refine bu (bO (bf rfl ?_))
  unfold nR
  walk_at "env"
  walk_at "run"
  refine⟨⟨by omega,by omega⟩,?_⟩
  rw[Int.toNat_natCast]
  refine eS _ _ (fun k ρ=>∃ a,ρ=[some (.int x),some (.int (n:Nat)),some (.int (x ^ k)),a]) ⟨_,by rw[Int.pow_zero]⟩ ?_ ?_
  · rintro ρ ⟨a,rfl⟩
    rw[List.length_range]
    walk_at "run"
  · rintro k hk ρ ⟨a,rfl⟩
    rw[List.length_range] at hk
    walk_at "env"
    walk_at "run"
    walk_at "env"
    rw[Int.pow_succ]
    exact⟨_,rfl⟩
def more(xs:List Int)(c s:Int):List Int:=List.zipWith (fun a b=>a+b) (xs.map (fun x=>x * s)++[0]) (0::xs.map fun x=>x * c)
theorem lG(xs:List Int)(c s:Int):(more xs c s).length=xs.length+1:=by simp[more]
theorem FI{xs:List Int}{c s:Int}(hl:xs.length<=1000)(hc:0<=c/\c<=1000000)(hs:0<=s/\s<=1000000):jw [DI xs,.int c,.int s]=some (DI (more xs c s)):=by
  refine bu (bf rfl ?_)
  unfold og
  walk_at "env"
  walk_at "run"
  refine i9 (α:=Int) ?_
  walk_at "run"
  refine⟨.int,fun x=>.int (x * s),xs,rfl,by omega,fun x hx=>⟨_,rfl,?_⟩,?_⟩
  · walk_at "env"
    walk_at "run"
  walk_at "run"
  refine i9 (α:=Int) ?_
  walk_at "run"
  refine⟨.int,fun x=>.int (x * c),xs,rfl,by omega,fun x hx=>⟨_,rfl,?_⟩,?_⟩
  · walk_at "env"
    walk_at "run"
  walk_at "run"
  refine i9 (α:=Int × Int) ?_
  walk_at "run"
  refine⟨fun p=>.tup [.int p.1,.int p.2],fun p=>.int (p.1+p.2),(xs.map (fun x=>x * s)++[0]).zip (0::xs.map fun x=>x * c),?_,by simp;omega,fun x hx=>⟨_,rfl,?_⟩,?_⟩
  · rw[<- ni];simp;rfl
  · walk_at "env"
    walk_at "run"
  · walk_at "run"
    congr 1
    rw[more,<- List.map_uncurry_zip_eq_zipWith,List.map_map]
    rfl
def bj:Nat->Int->Int->List Int
  | 0,_,_=>[1]
  | n+1,c,s=>more (bj n c s) c s
theorem g6(n:Nat)(c s:Int):(bj n c s).length=n+1:=by
  induction n with
  | zero=>rfl
  | succ n ih=>rw[bj,lG,ih]
theorem FJ{n:Nat}{c o:Int}(hl:n<=100)(hc:0<=c/\c<=o)(ho:o<=1000000):jx [.int (n:Nat),.int c,.int o]=some (DI (bj n c (o - c))):=by
  refine bu (bf rfl ?_)
  unfold oh
  walk_at "env"
  walk_at "run"
  refine⟨⟨by omega,by omega⟩,?_⟩
  rw[Int.toNat_natCast]
  refine eS _ _ (fun k ρ=>∃ a,ρ=[some (.int (n:Nat)),some (.int c),some (.int o),some (DI (bj k c (o - c))),a]) ⟨_,rfl⟩ ?_ ?_
  · rintro ρ ⟨a,rfl⟩
    rw[List.length_range]
    walk_at "run"
  · rintro k hk ρ ⟨a,rfl⟩
    rw[List.length_range] at hk
    walk_at "env"
    walk_at "run"
    refine bb (FI (by rw[g6];omega) (by omega) (by omega)) ?_
    walk_at "run"
    walk_at "env"
    exact⟨_,rfl⟩
theorem ua:∀ (xs ys:List Int),xs.length=ys.length->(List.zipWith (fun a b=>a+b) xs ys).sum=xs.sum+ys.sum
  | [],[],_=>by simp
  | x::xs,y::ys,h=>by
    have:=ua xs ys (by simpa using h)
    rw[List.zipWith_cons_cons,List.sum_cons,this,List.sum_cons,List.sum_cons];omega
theorem ub(xs:List Int)(c:Int):(xs.map fun x=>x * c).sum=xs.sum * c:=by
  induction xs with
  | nil=>simp
  | cons x r ih=>rw[List.map_cons,List.sum_cons,ih,List.sum_cons,Int.add_mul]
theorem FK(xs:List Int)(c s:Int):(more xs c s).sum=xs.sum * (c+s):=by
  rw[more,ua _ _ (by simp),List.sum_append,ub,List.sum_cons (a:=0) (l:=xs.map _),ub,Int.mul_add]
  simp;omega
theorem FL(n:Nat)(c s:Int):(bj n c s).sum=(c+s) ^ n:=by
  induction n with
  | zero=>simp[bj]
  | succ n ih=>rw[bj,FK,ih,Int.pow_succ]
theorem uc{xs:List Int}{c s:Int}{j:Nat}(h:j < (more xs c s).length):(more xs c s)[j]=xs.getD j 0 * s+(if j=0 then 0 else xs.getD (j - 1) 0 * c):=by
  have hl:=lG xs c s
  simp only[more,List.getElem_zipWith]
  congr 1
  · by_cases hj:j < xs.length
    · rw[List.getElem_append_left (by simpa using hj),List.getElem_map,cE _ _ _ hj]
    · have:j=xs.length:=by omega
      subst this
      rw[List.getElem_append_right (by simp)]
      simp[List.getD_eq_getElem?_getD]
  · cases j with
    | zero=>simp
    | succ j=>simp only[List.getElem_cons_succ,List.getElem_map,Nat.add_sub_cancel];rw[if_neg (by omega),cE _ _ _ (by omega)]
def wt(f:Nat->Int):Nat->List Int->Int
  | _,[]=>0
  | k,x::r=>x * f k+wt f (k+1) r
theorem FM{f g:Nat->Int}{xs:List Int}{k:Nat}(hx:∀ x ∈ xs,0<=x)(h:∀ j,k<=j->j < k+xs.length->f j<=g j):wt f k xs<=wt g k xs:=by
  induction xs generalizing k with
  | nil=>simp[wt]
  | cons x r ih =>
    have h1:=ih (k:=k+1) (fun y hy=>hx y (List.mem_cons_of_mem _ hy)) fun j h1 h2=>h j (by omega) (by rw[List.length_cons];omega)
    have h2:=Int.mul_le_mul_of_nonneg_left (h k (by omega) (by rw[List.length_cons];omega)) (hx x (List.mem_cons_self ..))
    simp only[wt];omega
theorem FN(a:Int)(xs:List Int)(k:Nat):wt (fun _=>a) k xs=a * xs.sum:=by
  induction xs generalizing k with
  | nil=>simp[wt]
  | cons x r ih=>simp only[wt];rw[ih,List.sum_cons];grind
theorem FP{f:Nat->Int}{xs:List Int}{k:Nat}(hx:∀ x ∈ xs,0<=x)(h:∀ j,0<=f j):0<=wt f k xs:=by
  induction xs generalizing k with
  | nil=>simp[wt]
  | cons x r ih =>
    have h1:=ih (k:=k+1) fun y hy=>hx y (List.mem_cons_of_mem _ hy)
    have h2:=Int.mul_nonneg (hx x (List.mem_cons_self ..)) (h k)
    simp only[wt];omega
theorem ud(F:Int->Nat->Int)(f:Nat->Int)(h:∀ x j,F x j=x * f j)(xs:List Int)(k:Nat):((xs.zipIdx k).map fun p=>F p.1 p.2).sum=wt f k xs:=by
  induction xs generalizing k with
  | nil=>rfl
  | cons x r ih=>rw[List.zipIdx_cons,List.map_cons,List.sum_cons,ih];simp only[wt];rw[h]
theorem FQ{xs:List Int}{c s:Int}(hc:0<=c)(hs:0<=s)(hx:∀ x ∈ xs,0<=x):∀ x ∈ more xs c s,0<=x:=by
  intro x hx'
  obtain⟨j,hj,rfl⟩:=List.getElem_of_mem hx'
  have hg:∀ i,0<=xs.getD i 0:=fun i=>by
    by_cases hi:i < xs.length
    · rw[cE _ _ _ hi];exact hx _ (List.getElem_mem _)
    · rw[List.getD_eq_getElem?_getD,List.getElem?_eq_none (by omega)];exact Int.le_refl 0
  rw[uc hj]
  have h1:=Int.mul_nonneg (hg j) hs
  have h2:=Int.mul_nonneg (hg (j - 1)) hc
  split <;> omega
theorem ue{c s:Int}(hc:0<=c)(hs:0<=s)(n:Nat):∀ x ∈ bj n c s,0<=x:=by
  induction n with
  | zero=>intro x hx;simp[bj] at hx;omega
  | succ n ih=>exact FQ hc hs ih
def dt(room:Int)(j:Nat):Int:=max ((j:Int) - room) 0
def cr(room c s:Int)(n:Nat):Int:=wt (dt room) 0 (bj n c s)
theorem FR{n:Nat}{r c o d:Int}(hl:n<=100)(hr:0<=r/\r<=1000)(hc:0<=c/\c<=o)(ho:o<=1000000):jz [.int (n:Nat),.tup [.int r,.int c,.int o,.int d]]=some (.int (cr r c (o - c) n)):=by
  refine bu (bO (bf rfl ?_))
  unfold oi
  walk_at "env"
  walk_at "run"
  refine bb (FJ hl hc ho) ?_
  have hlen:=g6 n c (o - c)
  walk_at "run"
  refine i9 (α:=Int × Nat) ?_
  walk_at "run"
  refine⟨fun p=>.tup [.int (p.2:Nat),.int p.1],fun p=>.int (p.1 * dt r p.2),(bj n c (o - c)).zipIdx,sA _ _,by simp;omega,fun p hp=>⟨_,rfl,?_⟩,?_⟩
  · have hp:=List.snd_lt_of_mem_zipIdx hp
    walk_at "env"
    walk_at "run"
    rfl
  rw[show ((bj n c (o - c)).zipIdx.map fun p=>D.int (p.1 * dt r p.2))=((bj n c (o - c)).zipIdx.map fun p=>p.1 * dt r p.2).map D.int by rw[List.map_map];rfl]
  walk_at "run"
  rw[ud (fun x j=>x * dt r j) (dt r) (fun _ _=>rfl)]
  rfl
def g7(r c o d:Int)(sold left:Nat):Int:=-d * cr r c (o - c) sold * o ^ left
theorem FT{n l:Nat}{r c o d:Int}(hn:n<=100)(hl:l<=100)(hr:0<=r/\r<=1000)(hc:0<=c/\c<=o)(ho:o<=1000000)(hd:0<=d/\d<=1000000)(hm:okMul (-d * cr r c (o - c) n) (o ^ l)):jA [.int (n:Nat),.int (l:Nat),.tup [.int r,.int c,.int o,.int d]]=some (.int (g7 r c o d n l)):=by
  refine bu (bO (bf rfl ?_))
  unfold oj
  walk_at "env"
  walk_at "run"
  refine bb (FR hn hr hc ho) ?_
  walk_at "run"
  refine bb (u9 (by omega) (by omega)) ?_
  walk_at "run"
  rfl
def ends(r c o d:Int)(S:Nat):List Int:=(List.range (S+1)).map fun l=>g7 r c o d (S - l) l
theorem iA(r c o d:Int)(S:Nat):(ends r c o d S).length=S+1:=by simp[ends]
theorem uf{r c s:Int}(hc:0<=c)(hs:0<=s)(n:Nat):0<=cr r c s n:=FP (ue hc hs n) fun j=>by unfold dt;omega
theorem ug{r c s:Int}(hr:0<=r)(hc:0<=c)(hs:0<=s)(n:Nat):cr r c s n<=n * (c+s) ^ n:=by
  have:=FM (f:=dt r) (g:=fun _=>(n:Int)) (xs:=bj n c s) (k:=0) (ue hc hs n) fun j _ h=>by
    rw[g6] at h;unfold dt;omega
  rwa [FN,FL] at this
theorem uh{r c o d:Int}{n l:Nat}(hn:n<=10)(hl:l<=10)(hr:0<=r/\r<=1000)(hc:0<=c/\c<=o)(ho:o<=1000)(h1:1<=o)(hd:0<=d/\d<=1000000):okMul (-d * cr r c (o - c) n) (o ^ l):=by
  have a1:=uf (r:=r) hc.1 (show 0<=o - c by omega) n
  have a2:=ug hr.1 hc.1 (show 0<=o - c by omega) n
  rw[show c+(o - c)=o by omega] at a2
  have a3:o ^ n<=1000 ^ 10:=eU 10 (by omega) ho (by omega) hn
  have a4:(n:Int) * o ^ n<=10 * 1000 ^ 10:=Int.mul_le_mul (by omega) a3 (jf (by omega) n) (by omega)
  have b1:=Int.mul_nonneg hd.1 a1
  have b2:d * cr r c (o - c) n<=1000000 * (10 * 1000 ^ 10):=Int.mul_le_mul hd.2 (by omega) a1 (by omega)
  have c1:=jf (show 0<=o by omega) l
  have c2:o ^ l<=1000 ^ 10:=eU 10 (by omega) ho (by omega) hl
  have e:-d * cr r c (o - c) n = -(d * cr r c (o - c) n):=Int.neg_mul ..
  exact sv (jd (by omega) (by omega)) (jd (by omega) (by omega))
theorem FU{S:Nat}{r c o d:Int}(hS:S<=10)(hr:0<=r/\r<=1000)(hc:0<=c/\c<=o)(ho:o<=1000)(h1:1<=o)(hd:0<=d/\d<=1000000):lw [.int (S:Nat),.tup [.int r,.int c,.int o,.int d]]=some (DI (ends r c o d S)):=by
  refine bu (bf rfl ?_)
  unfold ol
  walk_at "env"
  walk_at "run"
  refine i9 (α:=Nat) ?_
  walk_at "run"
  refine⟨⟨by omega,by omega⟩,fun l=>.int (l:Nat),fun l=>.int (g7 r c o d (S - l) l),List.range (S+1),by rw[show ((S:Int)+1).toNat=S+1 by omega],by simp;omega,fun l hl=>⟨_,rfl,?_⟩,?_⟩
  · have hl:=List.mem_range.mp hl
    walk_at "env"
    walk_at "run"
    rw[show (S:Int) - (l:Int)=((S - l:Nat):Int) by omega]
    refine bb (FT (by omega) (by omega) hr hc (by omega) hd (uh (by omega) (by omega) hr hc ho h1 hd)) ?_
    walk_at "run"
  walk_at "run"
  simp[ends]
def aK:List (List Int)->Int->List Int
  | [],l=>[l]
  | r::rs,l=>((aK rs l).headD 0 * r.sum)::aK rs l
theorem ui(rs:List (List Int))(l:Int):aK rs l ≠ []:=by cases rs <;> simp[aK]
theorem fg(rs:List (List Int))(l:Int):(aK rs l).length=rs.length+1:=by
  induction rs with
  | nil=>rfl
  | cons r rs ih=>simp[aK,ih]
theorem FV{xs:List Int}(h:xs ≠ [])(h':xs.reverse ≠ []):xs.reverse.getLast h'=xs.headD 0:=by
  cases xs with
  | nil=>exact absurd rfl h
  | cons x r=>simp
theorem uj{turns:List (List Int)}{last:Int}(hr:∀ r ∈ turns,0<=r.sum/\r.sum < 1000000)(hl:turns.length<=1000):fY [DII turns,.int last]=some (DI (aK turns last)):=by
  refine bu (bf rfl ?_)
  unfold nX
  walk_at "env"
  walk_at "run"
  rw[<- List.map_reverse]
  refine eS _ _ (fun k ρ=>∃ o,ρ=[some (DII turns),some (.int last),some (DI (aK ((turns.reverse.take k).reverse) last).reverse),o]) ⟨_,rfl⟩ ?_ ?_
  · rintro ρ ⟨o,rfl⟩
    walk_at "run"
    rw[List.length_reverse,List.take_of_length_le (by simp),List.reverse_reverse,<- List.map_reverse,List.reverse_reverse]
  · rintro k hk ρ ⟨o,rfl⟩
    rw[List.length_reverse] at hk
    walk_at "env"
    refine sm rfl (by simp[fg];omega) ?_
    walk_at "run"
    refine sx (by simp[ui]) ?_
    walk_at "run"
    refine bb u8 ?_
    have hm:=hr (turns.reverse[k]) (by rw[<- List.mem_reverse];exact List.getElem_mem _)
    walk_at "run"
    walk_at "env"
    rw[sy]
    have e:(aK (turns.reverse.take (k+1)).reverse last).reverse=(aK (turns.reverse.take k).reverse last).reverse++[(aK (turns.reverse.take k).reverse last).headD 0 * turns.reverse[k].sum]:=by
      rw[List.take_succ_eq_append_getElem (by simpa using hk),List.reverse_append,List.reverse_singleton,List.singleton_append,aK,List.reverse_cons]
    rw[e,FV (ui _ _)]
    exact⟨_,rfl⟩
theorem uk{bs:List Int}{f scale:Int}{s:Nat}(hm:okMul f scale)(hs:s < bs.length)(h0:0 < s):eY [.int f,.int scale,DI bs,.int (s:Nat)]=some (.int (f * scale+bs.getD (s - 1) 0)):=by
  refine bu (bO (bf rfl ?_))
  unfold nZ
  walk_at "env"
  walk_at "run"
  refine bv (by omega) (by omega) ?_
  walk_at "run"
  rw[show ((s:Int) - 1).toNat=s - 1 by omega]
def cI(f scale:Int)(bs:List Int)(s:Nat):Int:=if s=0 then bs.getD 0 0 else max (bs.getD s 0) (f * scale+bs.getD (s - 1) 0)
def iB(row cs:List Int)(kept:Int):Int:=(List.zipWith (fun a b=>a * b) row (cs++[kept])).sum
def du(fares row:List Int)(scale:Int)(bs:List Int)(s:Nat):Int:=iB row (fares.map fun f=>cI f scale bs s) (bs.getD s 0)
def eB(fares row:List Int)(scale:Int)(bs:List Int):List Int:=(List.range bs.length).map (du fares row scale bs)
def cU(xs:List Int):Prop:=∀ x ∈ xs,-1000000000000<=x/\x<=1000000000000
theorem FW{f scale:Int}{bs:List Int}{s:Nat}(hf:-1000000000000<=f/\f<=1000000000000)(hs:s < bs.length):jt [.int f,.int scale,DI bs,.int (s:Nat)]=some (.int (cI f scale bs s)):=by
  refine bu (bO (bf rfl ?_))
  unfold o0 cI
  walk_at "env"
  walk_at "run"
  refine bp (fun h=>?_) fun h=>?_
  · walk_at "run"
    refine bv (by omega) (by omega) ?_
    walk_at "run"
    have:s=0:=by omega
    subst this
    simp
  · walk_at "run"
    refine bv (by omega) (by omega) ?_
    walk_at "run"
    refine bb (uk (nc (by omega) (by omega)) hs (by omega)) ?_
    walk_at "run"
    rw[if_neg (by omega),Int.toNat_natCast]
theorem FX{row cs:List Int}{kept:Int}(hr:cU row)(hl:row.length<=1000)(hc:cs.length<=1000):js [DI row,DI cs,.int kept]=some (.int (iB row cs kept)):=by
  refine bu (bO (bf rfl ?_))
  unfold nY
  walk_at "env"
  walk_at "run"
  refine jh (α:=Int × Int) ?_
  walk_at "run"
  rw[sD]
  walk_at "run"
  refine⟨_,fun p=>p.1 * p.2,_,ni _ _ _ _,by simp;omega,fun p hp=>⟨_,rfl,?_⟩,?_⟩
  · have:=hr _ (List.of_mem_zip hp).1
    walk_at "env"
    walk_at "run"
  walk_at "run"
  rw[iB,<- List.map_uncurry_zip_eq_zipWith]
  rfl
theorem FY{fares row:List Int}{scale:Int}{bs:List Int}{s:Nat}(hf:cU fares)(hr:cU row)(hlf:fares.length<=1000)(hl:row.length<=1000)(hs:s < bs.length):ju [DI fares,DI row,.int scale,DI bs,.int (s:Nat)]=some (.int (du fares row scale bs s)):=by
  refine bu (bO (bf rfl ?_))
  unfold o3
  walk_at "env"
  walk_at "run"
  refine jh (α:=Int) ?_
  walk_at "run"
  refine⟨.int,fun f=>cI f scale bs s,fares,rfl,by omega,fun f hx=>⟨_,rfl,?_⟩,?_⟩
  · walk_at "env"
    walk_at "run"
    refine bb (FW (hf f hx) hs) ?_
    walk_at "run"
  walk_at "run"
  refine bv (by omega) (by omega) ?_
  walk_at "run"
  rw[Int.toNat_natCast]
  refine bb (FX hr hl (by simp;omega)) ?_
  walk_at "run"
  rfl
theorem FZ{fares row:List Int}{scale:Int}{bs:List Int}(hf:cU fares)(hr:cU row)(hlf:fares.length<=1000)(hl:row.length<=1000)(hs:bs.length<=1000):jv [DI fares,DI row,.int scale,DI bs]=some (DI (eB fares row scale bs)):=by
  refine bu (bf rfl ?_)
  unfold o7
  walk_at "env"
  walk_at "run"
  refine jh (α:=Nat) ?_
  walk_at "run"
  rw[List.length_map]
  refine⟨⟨by omega,by omega⟩,fun s=>.int (s:Nat),fun s=>du fares row scale bs s,List.range bs.length,by rw[Int.toNat_natCast],by simp;omega,fun s hx=>⟨_,rfl,?_⟩,?_⟩
  · have hx:=List.mem_range.mp hx
    walk_at "env"
    walk_at "run"
    refine bb (FY hf hr hlf hl hx) ?_
    walk_at "run"
  walk_at "run"
  rfl
theorem G0(fares row:List Int)(scale:Int)(bs:List Int):(eB fares row scale bs).length=bs.length:=by simp[eB]
def iC(row cs:List Int)(k:Nat):Int:=((List.range k).map fun j=>row.getD j 0 * cs.getD j 0).sum
theorem G1(r c:Int)(row cs:List Int)(k:Nat):iC (r::row) (c::cs) (k+1)=r * c+iC row cs k:=by
  unfold iC
  rw[List.range_succ_eq_map,List.map_cons,List.sum_cons,List.map_map]
  rfl
theorem ul:∀ (row cs:List Int) (kept:Int),row.length=cs.length+1->iB row cs kept=iC row cs cs.length+row.getD cs.length 0 * kept
  | [r],[],kept,_=>by simp[iB,iC]
  | r::r'::row,[],kept,h=>by simp at h
  | r::row,c::cs,kept,h=>by
    have ih:=ul row cs kept (by simpa using h)
    unfold iB at ih ⊢
    rw[List.cons_append,List.zipWith_cons_cons,List.sum_cons,ih,List.length_cons,G1,List.getD_cons_succ]
    omega
def aF(fares:List Int):List (List Int)->Int->List Int->List (List Int)
  | [],_,ends=>[ends]
  | r::rs,last,ends=>eB fares r ((aK rs last).headD 0) ((aF fares rs last ends).headD [])::aF fares rs last ends
theorem lH(fares:List Int)(rs:List (List Int))(last:Int)(ends:List Int):aF fares rs last ends ≠ []:=by cases rs <;> simp[aF]
theorem iD(fares:List Int)(rs:List (List Int))(last:Int)(ends:List Int):(aF fares rs last ends).length=rs.length+1:=by
  induction rs with
  | nil=>rfl
  | cons r rs ih=>simp[aF,ih]
theorem G2(fares:List Int)(rs:List (List Int))(last:Int)(ends:List Int):∀ r ∈ aF fares rs last ends,r.length=ends.length:=by
  induction rs with
  | nil=>intro r hr;simp[aF] at hr;rw[hr]
  | cons r rs ih =>
    intro q hq
    simp only[aF,List.mem_cons] at hq
    rcases hq with rfl | hq
    · rw[G0]
      cases ht:aF fares rs last ends with
      | nil=>exact absurd ht (lH _ _ _ _)
      | cons a b=>rw[List.headD_cons];exact ih a (by rw[ht];exact List.mem_cons_self)
    · exact ih q hq
theorem oS(fares:List Int)(rs:List (List Int))(last:Int)(ends:List Int):((aF fares rs last ends).headD []).length=ends.length:=by
  cases ht:aF fares rs last ends with
  | nil=>exact absurd ht (lH _ _ _ _)
  | cons a b=>rw[List.headD_cons];exact G2 fares rs last ends a (by rw[ht];exact List.mem_cons_self)
theorem G3{xs:List (List Int)}(h:xs ≠ [])(h':xs.reverse ≠ []):xs.reverse.getLast h'=xs.headD []:=by
  cases xs with
  | nil=>exact absurd rfl h
  | cons x r=>simp
theorem oT(l:Int):∀ (rs:List (List Int)) (k:Nat),k<=rs.length->(aK rs l).getD k 0=(aK (rs.drop k) l).headD 0
  | rs,0,_=>by cases h:aK rs l <;> simp[h]
  | r::rs,k+1,h=>by rw[aK,List.getD_cons_succ,List.drop_succ_cons,oT l rs k (by simpa using h)]
theorem G4{fares:List Int}{turns:List (List Int)}{last:Int}{ends:List Int}(hf:cU fares)(hlf:fares.length<=1000)(hr:∀ r ∈ turns,cU r/\r.length<=1000)(hs:∀ r ∈ turns,0<=r.sum/\r.sum < 1000000)(ht:turns.length<=1000)(he:ends.length<=1000):
    lq [DI fares,DII turns,.int last,DI ends]=some (DII (aF fares turns last ends)):=by
  refine bu (bf rfl ?_)
  unfold o8
  walk_at "env"
  walk_at "run"
  refine bb (uj hs ht) ?_
  walk_at "run"
  rw[List.length_map]
  refine⟨_,_,rfl,⟨by omega,by omega⟩,⟨by omega,by omega⟩,?_⟩
  rw[show ((turns.length:Int) - 1 - -1).toNat=turns.length by omega]
  refine eS _ _ (fun k ρ=>∃ a,ρ=[some (DI fares),some (DII turns),some (.int last),some (DI ends),some (DI (aK turns last)),some (DII (aF fares (turns.drop (turns.length - k)) last ends).reverse),a]) ⟨none,by rw[Nat.sub_zero,List.drop_length];rfl⟩ ?_ ?_
  · rintro ρ ⟨a,rfl⟩
    rw[List.length_range,Nat.sub_self,List.drop_zero]
    refine sg ?_
    refine D7 rfl ?_
    rw[List.reverse_reverse]
    refine sh ?_
    rfl
  · rintro k hk ρ ⟨a,rfl⟩
    rw[List.length_range] at hk
    simp only[List.getElem_range]
    walk_at "env"
    have htl:=iD fares (turns.drop (turns.length - k)) last ends
    rw[List.length_drop] at htl
    refine D6 rfl (by rw[List.length_map,List.length_reverse,htl];omega) ?_
    walk_at "run"
    refine ia (by omega) (by omega) ?_
    walk_at "run"
    refine bv (by omega) (by rw[fg];omega) ?_
    walk_at "run"
    refine D3 (by simp[lH]) ?_
    walk_at "run"
    have hi:turns.length - 1 - k < turns.length:=by omega
    rw[G3 (lH _ _ _ _),show ((turns.length:Int) - 1 - (k:Nat)).toNat=turns.length - 1 - k by omega,show ((turns.length:Int) - 1 - (k:Nat)+1).toNat=turns.length - k by omega,oT _ _ _ (by omega),cE _ _ _ hi]
    have hm:=hr _ (List.getElem_mem hi)
    refine bb (FZ hf hm.1 hlf hm.2 (by rw[oS];exact he)) ?_
    refine⟨_,rfl,?_⟩
    rw[show (aF fares (turns.drop (turns.length - k)) last ends).reverse.map DI++[DI (eB fares turns[turns.length - 1 - k] ((aK (turns.drop (turns.length - k)) last).headD 0) ((aF fares (turns.drop (turns.length - k)) last ends).headD []))]=((aF fares (turns.drop (turns.length - k)) last ends).reverse++[eB fares turns[turns.length - 1 - k] ((aK (turns.drop (turns.length - k)) last).headD 0) ((aF fares (turns.drop (turns.length - k)) last ends).headD [])]).map DI by simp]
    refine so ?_
    walk_at "env"
    have e:aF fares (turns.drop (turns.length - (k+1))) last ends=eB fares turns[turns.length - 1 - k] ((aK (turns.drop (turns.length - k)) last).headD 0) ((aF fares (turns.drop (turns.length - k)) last ends).headD [])::aF fares (turns.drop (turns.length - k)) last ends:=by
      rw[show turns.length - (k+1)=turns.length - 1 - k by omega,List.drop_eq_getElem_cons hi,aF,show turns.length - 1 - k+1=turns.length - k by omega]
    rw[e,List.reverse_cons]
    exact⟨_,rfl⟩
theorem oU(fares:List Int)(last:Int)(ends:List Int):∀ (rs:List (List Int)) (k:Nat),k<=rs.length->(aF fares rs last ends).getD k []=(aF fares (rs.drop k) last ends).headD []
  | rs,0,_=>by rw[List.drop_zero];cases aF fares rs last ends <;> rfl
  | r::rs,k+1,h=>by rw[aF,List.getD_cons_succ,List.drop_succ_cons,oU fares last ends rs k (by simpa using h)]
theorem lI(fares:List Int)(last:Int)(ends:List Int)(rs:List (List Int))(t:Nat)(h:t<=rs.length):((aF fares rs last ends).getD t []).length=ends.length:=by
  rw[oU _ _ _ _ _ h,oS]
theorem um{n:Nat}{l:Int}(hn:n<=10)(h1:1<=l)(h2:l<=10 ^ 40):∀ {rs:List (List Int)},RowsOk n rs->1<=(aK rs l).headD 0/\(aK rs l).headD 0<=10 ^ 40 * 1000000 ^ rs.length
  | [],_=>by simp[aK];omega
  | r::rs,h=>by
    obtain⟨i1,i2⟩:=um hn h1 h2 (rs:=rs) fun q hq=>h q (List.mem_cons_of_mem _ hq)
    have hs:=h.sum hn r List.mem_cons_self
    have hp:=(h r List.mem_cons_self).2.2
    rw[aK,List.headD_cons,List.length_cons,Int.pow_succ]
    generalize (aK rs l).headD 0=x at i1 i2 ⊢
    generalize r.sum=y at hs hp ⊢
    have e1:x * 1<=x * y:=Int.mul_le_mul_of_nonneg_left (by omega) (by omega)
    have e2:x * y<=(10 ^ 40 * 1000000 ^ rs.length) * 1000000:=Int.mul_le_mul i2 (by omega) (by omega) (by omega)
    rw[Int.mul_assoc] at e2
    exact⟨by omega,e2⟩
theorem uo{n:Nat}{l:Int}(hn:n<=10)(h1:1<=l)(h2:l<=10 ^ 40){rs:List (List Int)}(h:RowsOk n rs)(h8:rs.length<=8):1<=(aK rs l).headD 0/\(aK rs l).headD 0<=10 ^ 88:=by
  obtain⟨i1,i2⟩:=um hn h1 h2 h
  have:=eU (x:=1000000) (B:=1000000) (n:=rs.length) 8 (by omega) (by omega) (by omega) h8
  exact⟨i1,by omega⟩
theorem RowsOk.drop{n k:Nat}{ts:List (List Int)}(h:RowsOk n ts):RowsOk n (ts.drop k):=fun r hr=>h r (List.mem_of_mem_drop hr)
def g8(f scale:Int)(bs:List Int)(s:Nat):Bool:=decide (0 < s/\bs.getD s 0<=f * scale+bs.getD (s - 1) 0)
theorem G5{bs:List Int}{f scale:Int}{s:Nat}(hm:okMul f scale)(hs:s < bs.length):lr [.int f,.int scale,DI bs,.int (s:Nat)]=some (.bl (g8 f scale bs s)):=by
  refine bu (bO (bf rfl ?_))
  unfold o9 g8
  walk_at "env"
  walk_at "run"
  refine bp (fun h=>?_) fun h=>?_
  · walk_at "run"
    refine bb (uk hm hs (by omega)) ?_
    walk_at "run"
    refine bv (by omega) (by omega) ?_
    walk_at "run"
    rw[Int.toNat_natCast]
    exact congrArg D.bl (decide_eq_decide.mpr ⟨fun q=>⟨by omega,q⟩,fun q=>q.2⟩)
  · walk_at "run"
    exact congrArg D.bl (decide_eq_false fun q=>h (by omega)).symm
theorem G6{bs:List Int}{scale:Int}{s:Nat}(h1:1<=scale)(h2:scale<=10 ^ 130)(h0:0 < s)(hs:s < bs.length):ls [.int scale,DI bs,.int (s:Nat)]=some (.int (-((bs.getD (s - 1) 0 - bs.getD s 0) / scale))):=by
  refine bu (bO (bf rfl ?_))
  unfold oa
  walk_at "env"
  walk_at "run"
  refine bv (by omega) (by omega) ?_
  walk_at "run"
  refine bv (by omega) (by omega) ?_
  walk_at "run"
  rw[show ((s:Int) - 1).toNat=s - 1 by omega,Int.toNat_natCast]
theorem lJ{p q f scale:Int}(h:1<=scale):-((p - q) / scale)<=f ↔ q<=f * scale+p:=by
  have h1:=Int.le_ediv_iff_mul_le (a:=-f) (b:=p - q) (c:=scale) (by omega)
  rw[Int.neg_mul] at h1
  constructor
  · intro h2
    have:=h1.mp (by omega)
    omega
  · intro h2
    have:=h1.mpr (by omega)
    omega
structure Sale (S:Nat) (fares:List Int) (turns:List (List Int)) (r c o d:Int):Prop where
  hS:S<=10
  f1:1<=fares.length
  f2:fares.length<=6
  f3:∀ x ∈ fares,1<=x/\x<=1000000
  t1:turns.length<=8
  t2:RowsOk fares.length turns
  r1:0<=r
  r2:r<=10
  c1:0<=c
  c2:c<=o
  o1:1<=o
  o2:o<=1000
  d1:0<=d
  d2:d<=1000000
def bU(S:Nat)(fares:List Int)(turns:List (List Int))(r c o d:Int)(told sold:Nat)(paid:Int)(dues latest:D):List D :=
  [.int (S:Nat),DI fares,.tup [.int r,.int c,.int o,.int d],DI (aK turns (o ^ S)),DII (aF fares turns (o ^ S) (ends r c o d S)),.int (told:Nat),.int (sold:Nat),.int paid,dues,latest]
theorem G7{n:Nat}{r c o d:Int}(hn:n<=100)(ho:0<=o/\o<=1000):lz [.int (n:Nat),.tup [.int r,.int c,.int o,.int d]]=some (.int (o ^ n)):=by
  refine bu (bO (bf rfl ?_))
  unfold om
  walk_at "env"
  walk_at "run"
  refine bb (u9 (by omega) (by omega)) ?_
  walk_at "run"
section
variable {C o:Nat} {M:Sto} {Q:QE} {S:Nat} {fares:List Int} {turns:List (List Int)} {r c of d:Int} {told sold:Nat} {paid:Int} {dues latest:D}
theorem lK(hm:M o=some (.ins C NS_Office (bU S fares turns r c of d told sold paid dues latest)))(h:Q (.int (told:Nat)) M):fZ C [.ptr o] M Q:=by
  refine bG rfl ?_
  unfold oH
  walk_at "env"
  walk_at "run"
  exact h
end
section
variable {C o:Nat} {M:Sto} {Q:QE} {S:Nat} {fares:List Int} {turns:List (List Int)} {r c of d:Int} {told sold:Nat} {paid:Int} {dues latest:D}
theorem dN(hm:M o=some (.ins C NS_Office (bU S fares turns r c of d told sold paid dues latest)))(hs:sold<=S)(h:Q (.int ((S - sold:Nat):Int)) M):cT C [.ptr o] M Q:=by
  refine bG rfl ?_
  unfold oI
  walk_at "env"
  walk_at "run"
  rw[show (S:Int) - (sold:Int)=((S - sold:Nat):Int) by omega]
  exact h
theorem uq(hm:M o=some (.ins C NS_Office (bU S fares turns r c of d told sold paid dues latest)))(h:Q (.bl (decide (told=turns.length))) M):jJ C [.ptr o] M Q:=by
  refine bG rfl ?_
  unfold oJ
  walk_at "env"
  walk_at "run"
  rw[show List.map (vw1 M) [DI (aK turns (of ^ S))]=[DI (aK turns (of ^ S))] from rfl]
  walk_at "run"
  rw[List.length_map,fg,show decide ((told:Int)=((turns.length+1:Nat):Int) - 1)=decide (told=turns.length) from decide_eq_decide.mpr (by omega)]
  exact h
theorem G8(hm:M o=some (.ins C NS_Office (bU S fares turns r c of d told sold paid dues latest)))(h:Q .non M):iq C [.ptr o,.non] M Q:=by
  refine bG rfl ?_
  unfold lC
  walk_at "env"
  walk_at "run"
  exact h
theorem G9{k:Nat}(hm:M o=some (.ins C NS_Office (bU S fares turns r c of d told sold paid dues latest)))(hk:k < fares.length)(h:Q (.int (fares.getD k 0)) M):iq C [.ptr o,.int (k:Nat)] M Q:=by
  refine bG rfl ?_
  unfold lC
  walk_at "env"
  walk_at "run"
  rw[show List.map (vw1 M) [DI fares]=[DI fares] from rfl]
  walk_at "run"
  rw[List.length_map,decide_eq_true (show (0:Int)<=(k:Nat)/\((k:Nat):Int)<=(fares.length:Int) - 1 by omega)]
  walk_at "run"
  refine bv (by omega) (by omega) ?_
  rw[Int.toNat_natCast]
  exact h
theorem Ga(hm:M o=some (.ins C NS_Office (bU S fares turns r c of d told sold paid dues latest)))(h:Q (.bl false) M):ir C [.ptr o,.non] M Q:=by
  refine bG rfl ?_
  unfold lD
  walk_at "env"
  walk_at "run"
  exact h
theorem Gb{f:Int}(hm:M o=some (.ins C NS_Office (bU S fares turns r c of d told sold paid dues latest)))(hs:sold<=S)(ht:told < turns.length)(hf:1<=f/\f<=1000000)(h:Q (.bl (g8 f ((aK turns (of ^ S)).getD (told+1) 0) ((aF fares turns (of ^ S) (ends r c of d S)).getD (told+1) []) (S - sold))) M):ir C [.ptr o,.int f] M Q:=by
  refine bG rfl ?_
  unfold lD
  walk_at "env"
  walk_at "run"
  refine bv (by omega) (by rw[fg];omega) ?_
  walk_at "run"
  refine ia (by omega) (by rw[iD];omega) ?_
  walk_at "run"
  rw[show ((told:Int)+1).toNat=told+1 by omega]
  refine dN hm hs ?_
  walk_at "run"
  refine bb (G5 (nc (by omega) (by omega)) (by rw[lI _ _ _ _ _ (by omega),iA];omega)) ?_
  walk_at "run"
  exact h
def dg(S sold told:Nat)(fares:List Int)(turns:List (List Int))(r c of d:Int):D :=
  if S - sold=0 then .non else .int (-((((aF fares turns (of ^ S) (ends r c of d S)).getD (told+1) []).getD (S - sold - 1) 0 - ((aF fares turns (of ^ S) (ends r c of d S)).getD (told+1) []).getD (S - sold) 0) / (aK turns (of ^ S)).getD (told+1) 0))
theorem oV(s:Sale S fares turns r c of d){t:Nat}(ht:t<=turns.length):1<=(aK turns (of ^ S)).getD t 0/\(aK turns (of ^ S)).getD t 0<=10 ^ 88:=by
  rw[oT _ _ _ ht]
  have h1:=s.o1
  have h2:=s.o2
  have h3:=s.hS
  have p0:(1:Int)<=of ^ S:=by
    have:∀ n:Nat,(1:Int)<=of ^ n:=fun n=>by
      induction n with
      | zero=>simp
      | succ n ih=>rw[Int.pow_succ];have:=Int.mul_le_mul ih h1 (by omega) (by omega);omega
    exact this S
  have p1:of ^ S<=1000 ^ 10:=eU 10 (by omega) h2 (by omega) h3
  exact uo (by have:=s.f2;omega) p0 (by omega) s.t2.drop (by have:=s.t1;rw[List.length_drop];omega)
theorem ur(s:Sale S fares turns r c of d)(hm:M o=some (.ins C NS_Office (bU S fares turns r c of d told sold paid dues latest)))(hs:sold<=S)(ht:told < turns.length)(h:Q (dg S sold told fares turns r c of d) M):jK C [.ptr o] M Q:=by
  refine bG rfl ?_
  unfold oK
  walk_at "env"
  walk_at "run"
  refine dN hm hs ?_
  walk_at "run"
  refine bp (fun e=>?_) fun e=>?_
  · walk_at "run"
    rw[dg,if_pos (by omega)] at h
    exact h
  · walk_at "run"
    refine bv (by omega) (by rw[fg];omega) ?_
    walk_at "run"
    refine ia (by omega) (by rw[iD];omega) ?_
    walk_at "run"
    rw[show ((told:Int)+1).toNat=told+1 by omega]
    refine dN hm hs ?_
    walk_at "run"
    have hsc:=oV s (t:=told+1) (by omega)
    refine bb (G6 hsc.1 (by omega) (by omega) (by rw[lI _ _ _ _ _ (by omega),iA];omega)) ?_
    walk_at "run"
    rw[dg,if_neg (by omega)] at h
    exact h
theorem Gc(s:Sale S fares turns r c of d)(hm:M o=some (.ins C NS_Office (bU S fares turns r c of d told sold paid dues latest)))(hs:sold<=S)(ht:told < turns.length)(h:∀ M',M' o=some (.ins C NS_Office (bU S fares turns r c of d (told+1) sold paid dues (.tup [.int (told:Nat),.int ((S - sold:Nat):Int),dg S sold told fares turns r c of d,.non])))->Kp (· = o) M M'->Q (.bl false) M'):iu C [.ptr o,.non] M Q:=by
  refine bG rfl ?_
  unfold lE
  walk_at "env"
  walk_at "run"
  refine uq hm ?_
  rw[decide_eq_false (by omega)]
  walk_at "run"
  refine G8 hm ?_
  walk_at "run"
  refine Ga hm ?_
  walk_at "run"
  refine dN hm hs ?_
  walk_at "run"
  refine ur s hm hs ht ?_
  walk_at "run"
  refine⟨o,_,rfl,hm,?_⟩
  walk_at "run"
  refine⟨o,_,rfl,aU,?_⟩
  rw[cQ]
  walk_at "run"
  refine h _ ?_ (Kp.upd (.inl rfl))
  rw[aU]
  rfl
theorem Gd{k:Nat}{b:Bool}(s:Sale S fares turns r c of d)(hm:M o=some (.ins C NS_Office (bU S fares turns r c of d told sold paid dues latest)))(hs:sold<=S)(ht:told < turns.length)(hk:k < fares.length)(hb:g8 (fares.getD k 0) ((aK turns (of ^ S)).getD (told+1) 0) ((aF fares turns (of ^ S) (ends r c of d S)).getD (told+1) []) (S - sold)=b)(h:∀ M',M' o=some (.ins C NS_Office (bU S fares turns r c of d (told+1) (sold+(if b=true then 1 else 0)) (paid+(if b=true then fares.getD k 0 else 0)) dues (.tup [.int (told:Nat),.int ((S - sold:Nat):Int),dg S sold told fares turns r c of d,.int (fares.getD k 0)])))->Kp (· = o) M M'->Q (.bl b) M'):iu C [.ptr o,.int (k:Nat)] M Q:=by
  have hf:1<=fares.getD k 0/\fares.getD k 0<=1000000:=by rw[cE _ _ _ hk];exact s.f3 _ (List.getElem_mem _)
  refine bG rfl ?_
  unfold lE
  walk_at "env"
  walk_at "run"
  refine uq hm ?_
  rw[decide_eq_false (by omega)]
  walk_at "run"
  refine G9 hm hk ?_
  walk_at "run"
  refine Gb hm hs ht hf ?_
  rw[hb]
  walk_at "run"
  refine dN hm hs ?_
  walk_at "run"
  refine ur s hm hs ht ?_
  walk_at "run"
  refine⟨o,_,rfl,hm,?_⟩
  walk_at "run"
  refine⟨o,_,rfl,aU,?_⟩
  rw[cQ]
  cases b with
  | true =>
    walk_at "run"
    refine⟨o,_,rfl,aU,?_⟩
    rw[cQ]
    walk_at "run"
    refine⟨o,_,rfl,aU,?_⟩
    rw[cQ]
    walk_at "run"
    refine h _ ?_ (Kp.upd (.inl rfl))
    rw[aU]
    rfl
  | false =>
    walk_at "run"
    refine h _ ?_ (Kp.upd (.inl rfl))
    rw[aU,if_neg Bool.false_ne_true,if_neg Bool.false_ne_true,Int.add_zero]
    rfl
end
section
variable {C o:Nat} {M:Sto} {Q:QE} {S:Nat} {fares:List Int} {turns:List (List Int)} {r c of d:Int} {told sold:Nat} {paid:Int} {dues latest:D}
theorem jL{lt:List D}(hm:M o=some (.ins C NS_Office (bU S fares turns r c of d told sold paid dues (.tup lt))))(h:Q (.tup lt) M):iw C [.ptr o] M Q:=by
  refine bG rfl ?_
  unfold oM
  walk_at "env"
  walk_at "run"
  exact h
end
def dA(S:Nat)(fares:List Int)(turns:List (List Int))(r c of d:Int):D:=.tup [.int (S:Nat),DI fares,DII turns,.tup [.int r,.int c,.int of,.int d]]
theorem Ge{F v:Nat}(h:v < F):ixD (.lst (((List.range F).map fun (k:Nat)=>D.int (k:Nat))++[D.non])) (.int (v:Nat))=some (.int (v:Nat)):=by
  have e:ixN (((List.range F).map fun (k:Nat)=>D.int (k:Nat))++[D.non]).length (v:Nat)=some v:=by
    unfold ixN;rw[if_pos (by omega),if_pos (by simp;omega)];congr 1
  simp only[ixD,items,Option.bind_some,atI]
  rw[e,Option.bind_some,List.getElem?_append_left (by simpa using h)]
  simp[h]
theorem Gf{F:Nat}:ixD (.lst (((List.range F).map fun (k:Nat)=>D.int (k:Nat))++[D.non])) (.int (F:Nat))=some .non:=by
  have e:ixN (((List.range F).map fun (k:Nat)=>D.int (k:Nat))++[D.non]).length (F:Nat)=some F:=by
    unfold ixN;rw[if_pos (by omega),if_pos (by simp;omega)];congr 1
  simp only[ixD,items,Option.bind_some,atI]
  rw[e,Option.bind_some,List.getElem?_append_right (by simp)]
  simp
theorem oW(S sold told:Nat)(fares:List Int)(turns:List (List Int))(r c of d:Int):aY 3 (dg S sold told fares turns r c of d)=true:=by
  unfold dg;split <;> rfl
theorem oX{a b:Int}{x y:D}(hx:aY 3 x=true)(hy:aY 3 y=true):aY 4 (.tup [.int a,.int b,x,y])=true:=by
  rw[aY]
  simp only[List.all_cons,List.all_nil,hx,hy,Bool.and_true]
  rfl
theorem Gg(xs:List Int)(c s:Int):(List.range (xs.length+1)).map (fun j=>(xs++[0]).getD j 0 * s+(0::xs).getD j 0 * c)=more xs c s:=by
  apply List.ext_getElem
  · simp[lG]
  · intro j h1 h2
    rw[uc h2,List.getElem_map,List.getElem_range]
    have hl:=lG xs c s
    congr 1
    · congr 1
      by_cases hj:j < xs.length
      · rw[List.getD_eq_getElem?_getD,List.getD_eq_getElem?_getD,List.getElem?_append_left hj]
      · have:j=xs.length:=by omega
        subst this
        simp[List.getD_eq_getElem?_getD]
    · cases j with
      | zero=>simp
      | succ j=>rw[List.getD_cons_succ,if_neg (by omega),Nat.add_sub_cancel]
def cV(r c o d:Int)(n:Nat):Int:=0 - d * cr r c (o - c) n
def cu(r c o d:Int)(S k:Nat):List Int:=(List.range (S+1)).map fun l=>if l < k then g7 r c o d (S - l) l else cV r c o d (S - l)
theorem Gh(r c o d:Int)(S:Nat):cu r c o d S (S+1)=ends r c o d S:=by
  unfold cu ends
  refine List.map_congr_left fun l hl=>?_
  rw[if_pos (List.mem_range.mp hl)]
theorem Gi(r c o d:Int)(S:Nat):cu r c o d S 0=((List.range (S+1)).map (cV r c o d)).reverse:=by
  apply List.ext_getElem
  · simp[cu]
  · intro j h1 h2
    simp[cu]
theorem oY(r c o d:Int)(S k:Nat):(cu r c o d S k).length=S+1:=by simp[cu]
theorem Gj(r c o d:Int)(S k:Nat)(hk:k < S+1):(cu r c o d S k).set k (cV r c o d (S - k) * o ^ k)=cu r c o d S (k+1):=by
  apply List.ext_getElem
  · simp[cu]
  · intro j h1 h2
    rw[List.getElem_set]
    simp only[cu,List.getElem_map,List.getElem_range]
    split
    · rename_i e;subst e
      rw[if_pos (by omega),cV,g7,Int.zero_sub,Int.neg_mul,Int.neg_mul,Int.neg_mul]
    · by_cases hj:j < k
      · rw[if_pos hj,if_pos (by omega)]
      · rw[if_neg hj,if_neg (by omega)]
theorem Gm(r c o d:Int)(S k:Nat)(hk:k < S+1):(cu r c o d S k).getD k 0=cV r c o d (S - k):=by
  rw[cE _ _ _ (by rw[oY];exact hk)]
  simp[cu]
theorem Gn(r c s:Int)(n:Nat):((List.range (n+1)).map fun j=>(bj n c s).getD j 0 * max 0 ((j:Int) - r)).sum=cr r c s n:=by
  rw[cr,<- ud (fun x j=>x * max 0 ((j:Int) - r)) (dt r) (fun x j=>by unfold dt;rw[Int.max_comm]) _ 0]
  congr 1
  apply List.ext_getElem
  · simp[g6]
  · intro j h1 h2
    have:j < (bj n c s).length:=by simpa using h2
    simp[List.getD_eq_getElem?_getD,this]
theorem Go{S:Nat}{r c o d:Int}(hS:S<=10)(hr:0<=r/\r<=1000)(hc:0<=c/\c<=o)(ho:o<=1000)(h1:1<=o)(hd:0<=d/\d<=1000000):jC [.int (S:Nat),.tup [.int r,.int c,.int o,.int d]]=some (DI (ends r c o d S)):=by
  refine bu (bf rfl ?_)
  unfold oo
  walk_at "env"
  walk_at "run"
  refine⟨⟨by omega,by omega⟩,?_⟩
  rw[show ((S:Int)+1).toNat=S+1 by omega]
  refine eS _ _ (fun k ρ=>∃ a b e,ρ=[some (.int (S:Nat)),some (.tup [.int r,.int c,.int o,.int d]),some (.int r),some (.int c),some (.int o),some (.int d),some (DI ((List.range k).map (cV r c o d)).reverse),some (DI (bj k c (o - c))),some (.int 1),a,b,e]) ⟨_,_,_,rfl⟩ ?_ ?_
  · rintro ρ ⟨a,b,e,rfl⟩
    rw[List.length_range,<- Gi]
    walk_at "run"
    refine⟨⟨by omega,by omega⟩,?_⟩
    rw[show ((S:Int)+1).toNat=S+1 by omega]
    refine eS _ _ (fun k ρ=>∃ e,ρ=[some (.int (S:Nat)),some (.tup [.int r,.int c,.int o,.int d]),some (.int r),some (.int c),some (.int o),some (.int d),some (DI (cu r c o d S k)),some (DI (bj (S+1) c (o - c))),some (.int (o ^ k)),a,b,e]) ⟨_,by rw[Int.pow_zero]⟩ ?_ ?_
    · rintro ρ ⟨e,rfl⟩
      rw[List.length_range,Gh]
      walk_at "run"
    · rintro k hk ρ ⟨e,rfl⟩
      rw[List.length_range] at hk
      rw[List.getElem_range]
      walk_at "env"
      walk_at "run"
      refine Cn (k:=(k:Nat)) (j:=k) rfl ?_
      walk_at "run"
      refine bv (by omega) (by rw[oY];omega) ?_
      rw[Int.toNat_natCast,Gm _ _ _ _ _ _ hk]
      walk_at "run"
      have hm:okMul (cV r c o d (S - k)) (o ^ k):=by
        have:=uh (r:=r) (c:=c) (o:=o) (d:=d) (n:=S - k) (l:=k) (by omega) (by omega) hr hc ho h1 hd
        rw[cV,Int.zero_sub,<- Int.neg_mul];exact this
      refine sf hm ?_
      walk_at "run"
      refine⟨_,k,rfl,by rw[List.length_map,oY];unfold ixN;rw[if_pos (by omega),if_pos (by omega)];congr 1,?_⟩
      walk_at "run"
      rw[<- Int.pow_succ]
      rw[show D.lst (((cu r c o d S k).map D.int).set k (D.int (cV r c o d (S - k) * o ^ k)))=DI (cu r c o d S (k+1)) by rw[<- List.map_set,Gj _ _ _ _ _ _ hk]]
      exact⟨_,rfl⟩
  · rintro k hk ρ ⟨a,b,e,rfl⟩
    rw[List.length_range] at hk
    rw[List.getElem_range]
    walk_at "env"
    walk_at "run"
    refine jh (α:=Nat) ?_
    walk_at "run"
    refine⟨⟨by omega,by omega⟩,fun j=>.int (j:Nat),fun j=>(bj k c (o - c)).getD j 0 * max 0 ((j:Int) - r),List.range (k+1),by rw[show ((k:Int)+1).toNat=k+1 by omega],by simp;omega,fun j hj=>⟨_,rfl,?_⟩,?_⟩
    · have hj:=List.mem_range.mp hj
      walk_at "env"
      walk_at "run"
      refine bv (by omega) (by rw[g6];omega) ?_
      rw[Int.toNat_natCast]
      walk_at "run"
    walk_at "run"
    rw[Gn]
    refine nk rfl (by simp;omega) ?_
    walk_at "run"
    refine⟨by omega,by omega,?_⟩
    walk_at "run"
    refine jh (α:=Nat) ?_
    walk_at "run"
    refine⟨⟨by omega,by omega⟩,fun j=>.int (j:Nat),fun j=>(bj k c (o - c)++[0]).getD j 0 * (o - c)+(0::bj k c (o - c)).getD j 0 * c,List.range (k+2),by rw[show ((k:Int)+2).toNat=k+2 by omega],by simp;omega,fun j hj=>⟨_,rfl,?_⟩,?_⟩
    · have hj:=List.mem_range.mp hj
      have hsl:=g6 k c (o - c)
      walk_at "env"
      walk_at "run"
      rw[sD]
      refine bv (by omega) (by rw[List.length_append,hsl];simp;omega) ?_
      rw[Int.toNat_natCast]
      walk_at "run"
      rw[show [D.int 0]++(bj k c (o - c)).map D.int=(0::bj k c (o - c)).map D.int from rfl]
      refine bv (by omega) (by rw[List.length_cons,hsl];omega) ?_
      rw[Int.toNat_natCast]
      walk_at "run"
    walk_at "run"
    walk_at "env"
    have e1:(List.range (k+2)).map (fun j=>(bj k c (o - c)++[0]).getD j 0 * (o - c)+(0::bj k c (o - c)).getD j 0 * c)=bj (k+1) c (o - c):=by
      have:=Gg (bj k c (o - c)) c (o - c)
      rw[g6] at this
      exact this
    rw[e1]
    rw[show D.lst ((((List.range k).map (cV r c o d)).reverse.map D.int).insertIdx (min (Int.toNat 0) (((List.range k).map (cV r c o d)).reverse.map D.int).length) (D.int (0 - d * cr r c (o - c) k)))=DI ((List.range (k+1)).map (cV r c o d)).reverse by simp[List.range_succ,cV,DI]]
    exact⟨_,_,_,rfl⟩
theorem Gp{S:Nat}{r c o d:Int}(hS:S<=10)(h1:1<=o)(ho:o<=1000):jD [.int (S:Nat),.tup [.int r,.int c,.int o,.int d]]=some (.int (o ^ S)):=by
  refine bu (bO (bf rfl ?_))
  unfold oq
  walk_at "env"
  walk_at "run"
  refine⟨⟨by omega,by omega⟩,?_⟩
  rw[Int.toNat_natCast]
  refine eS _ _ (fun k ρ=>∃ a,ρ=[some (.int (S:Nat)),some (.tup [.int r,.int c,.int o,.int d]),some (.int (o ^ k)),a]) ⟨_,by rw[Int.pow_zero]⟩ ?_ ?_
  · rintro ρ ⟨a,rfl⟩
    rw[List.length_range]
    walk_at "run"
  · rintro k hk ρ ⟨a,rfl⟩
    rw[List.getElem_range]
    walk_at "env"
    walk_at "run"
    rw[<- Int.pow_succ]
    exact⟨_,rfl⟩
theorem Gq{fares row:List Int}(hl:row.length=fares.length+1)(scale:Int)(bs:List Int)(s:Nat):
    du fares row scale bs s=row.getLastD 0 * bs.getD s 0+((List.range fares.length).map fun j=>row.getD j 0 * cI (fares.getD j 0) scale bs s).sum:=by
  unfold du
  rw[ul _ _ _ (by simpa using hl),List.length_map,iC]
  have e1:row.getD fares.length 0=row.getLastD 0:=by
    cases row with
    | nil=>simp at hl
    | cons x r =>
      rw[List.getD_eq_getElem?_getD,List.getLastD_eq_getLast?,List.getLast?_eq_getElem?]
      congr 2
      omega
  rw[e1,Int.add_comm]
  congr 1
  refine congrArg List.sum (List.map_congr_left fun j hj=>?_)
  have hj:=List.mem_range.mp hj
  congr 1
  simp[List.getD_eq_getElem?_getD,hj]
theorem Gr{fares row:List Int}{scale:Int}{bs:List Int}(hf:cU fares)(hr:cU row)(hl:row.length=fares.length+1)(hlf:fares.length<=100)(hs:bs.length<=100):jE [DI fares,DI row,.int scale,DI bs]=some (DI (eB fares row scale bs)):=by
  have hne:row ≠ []:=fun e=>by rw[e] at hl;simp at hl
  refine bu (bf rfl ?_)
  unfold ot
  walk_at "env"
  walk_at "run"
  refine CV _ _ (fun k ρ=>∃ a b e f g h,ρ=[some (DI fares),some (DI row),some (.int scale),some (DI bs),some (DI ((List.range k).map (du fares row scale bs))),a,b,e,f,g,h]) ⟨_,_,_,_,_,_,rfl⟩ ?_ ?_
  · rintro ρ ⟨a,b,e,f,g,h,rfl⟩
    walk_at "run"
    rfl
  · rintro s hs' ρ ⟨a,b,e,f,g,h,rfl⟩
    walk_at "env"
    walk_at "run"
    refine sx hne ?_
    have hm0:=hr _ (List.getLast_mem hne)
    walk_at "run"
    refine CW _ _ _ _ (fun j ρ=>∃ f g h,ρ=[some (DI fares),some (DI row),some (.int scale),some (DI bs),some (DI ((List.range s).map (du fares row scale bs))),some (.int (s:Nat)),some (.int bs[s]),some (.int (row.getLast hne * bs[s]+((List.range j).map fun j=>row.getD j 0 * cI (fares.getD j 0) scale bs s).sum)),f,g,h]) ⟨_,_,_,by rw[List.range_zero,List.map_nil,List.sum_nil,Int.add_zero]⟩ ?_ ?_
    · rintro ρ ⟨f,g,h,rfl⟩
      rw[show min fares.length row.length=fares.length by omega]
      refine sm rfl (by simp;omega) ?_
      walk_at "run"
      walk_at "env"
      have ew:=Gq hl scale bs s
      rw[show row.getLastD 0=row.getLast hne by cases row with | nil=>exact absurd rfl hne | cons x r=>rfl,cE _ _ _ hs'] at ew
      rw[<- ew,sy,show (List.range s).map (du fares row scale bs)++[du fares row scale bs s]=(List.range (s+1)).map (du fares row scale bs) by rw[List.range_succ,List.map_append];rfl]
      exact⟨_,_,_,_,_,_,rfl⟩
    · rintro j hj1 hj2 ρ ⟨f,g,h,rfl⟩
      have hfj:=hf _ (List.getElem_mem hj1)
      have hrj:=hr _ (List.getElem_mem hj2)
      have ec:cI fares[j] scale bs s=if s=0 then bs[s] else max bs[s] (fares[j] * scale+bs.getD (s - 1) 0):=by
        unfold cI
        split
        · rename_i e;subst e;rw[cE _ _ _ hs']
        · rw[cE _ _ _ hs']
      have fin:∀ x:Int,x=cI fares[j] scale bs s->row.getLast hne * bs[s]+((List.range j).map fun j=>row.getD j 0 * cI (fares.getD j 0) scale bs s).sum+row[j] * x=row.getLast hne * bs[s]+((List.range (j+1)).map fun j=>row.getD j 0 * cI (fares.getD j 0) scale bs s).sum:=fun x e=>by
        rw[e,List.range_succ,List.map_append,List.sum_append,List.map_cons,List.map_nil,List.sum_cons,List.sum_nil,cE _ _ _ hj1,cE _ _ _ hj2]
        omega
      walk_at "env"
      walk_at "run"
      refine bp (fun h0=>?_) fun h0=>?_
      · walk_at "run"
        refine bv (by omega) (by omega) ?_
        rw[show ((s:Int) - 1).toNat=s - 1 by omega]
        walk_at "run"
        walk_at "env"
        rw[fin _ (by rw[ec,if_neg (by omega)])]
        exact⟨_,_,_,rfl⟩
      · walk_at "run"
        walk_at "env"
        rw[fin _ (by rw[ec,if_pos (by omega)])]
        exact⟨_,_,_,rfl⟩
theorem Gs{S:Nat}{fares:List Int}{turns:List (List Int)}{r c of d:Int}(s:Sale S fares turns r c of d):
    lA [dA S fares turns r c of d]=some (.tup [DI (aK turns (of ^ S)),DII (aF fares turns (of ^ S) (ends r c of d S))]):=by
  obtain⟨hS,f1,f2,f3,t1,t2,r1,r2,c1,c2,o1,o2,d1,d2⟩:=s
  have hfs:cU fares:=fun x hx=>by have:=f3 x hx;omega
  refine bu (bf rfl ?_)
  unfold ou dA
  walk_at "env"
  walk_at "run"
  walk_at "env"
  walk_at "run"
  refine bb (Go hS (by omega) (by omega) (by omega) (by omega) (by omega)) ?_
  walk_at "run"
  refine bb (Gp hS (by omega) (by omega)) ?_
  walk_at "run"
  rw[<- List.map_reverse]
  refine eS _ _ (fun k ρ=>∃ a,ρ=[some (dA S fares turns r c of d),some (.int (S:Nat)),some (DI fares),some (DII turns),some (.tup [.int r,.int c,.int of,.int d]),some (DII (aF fares (turns.reverse.take k).reverse (of ^ S) (ends r c of d S))),some (DI (aK (turns.reverse.take k).reverse (of ^ S))),a]) ⟨_,rfl⟩ ?_ ?_
  · rintro ρ ⟨a,rfl⟩
    rw[List.length_reverse,List.take_of_length_le (by simp),List.reverse_reverse]
    walk_at "run"
  · rintro k hk ρ ⟨a,rfl⟩
    rw[List.length_reverse] at hk
    have hm:=t2 (turns.reverse[k]) (by rw[<- List.mem_reverse];exact List.getElem_mem _)
    have hsm:=t2.sum (by omega) (turns.reverse[k]) (by rw[<- List.mem_reverse];exact List.getElem_mem _)
    have hrs:cU turns.reverse[k]:=fun x hx=>by have:=hm.2.1 x hx;omega
    have et:(turns.reverse.take (k+1)).reverse=turns.reverse[k]::(turns.reverse.take k).reverse:=by
      rw[List.take_succ_eq_append_getElem (by simpa using hk),List.reverse_append,List.reverse_singleton,List.singleton_append]
    have hlt:(turns.reverse.take k).length=k:=by simp;omega
    generalize turns.reverse[k]=row at hm hsm hrs et ⊢
    rw[et]
    have htl:=iD fares (turns.reverse.take k).reverse (of ^ S) (ends r c of d S)
    have hsl:=fg (turns.reverse.take k).reverse (of ^ S)
    have hth:=oS fares (turns.reverse.take k).reverse (of ^ S) (ends r c of d S)
    rw[List.length_reverse,hlt] at htl hsl
    rw[iA] at hth
    generalize (turns.reverse.take k).reverse=ts at htl hsl hth ⊢
    walk_at "env"
    walk_at "run"
    refine nk (ds:=(aF fares ts (of ^ S) (ends r c of d S)).map DI) rfl (by rw[List.length_map,htl];omega) ?_
    walk_at "run"
    refine bv (by omega) (by omega) ?_
    walk_at "run"
    refine ia (by omega) (by omega) ?_
    walk_at "run"
    have e0:(aK ts (of ^ S)).getD (0:Int).toNat 0=(aK ts (of ^ S)).headD 0:=by cases aK ts (of ^ S) <;> rfl
    have e1:(aF fares ts (of ^ S) (ends r c of d S)).getD (0:Int).toNat []=(aF fares ts (of ^ S) (ends r c of d S)).headD []:=by cases aF fares ts (of ^ S) (ends r c of d S) <;> rfl
    rw[e0,e1]
    refine bb (Gr hfs hrs hm.1 (by omega) (by omega)) ?_
    refine⟨by omega,by omega,?_⟩
    walk_at "run"
    refine nk (ds:=(aK ts (of ^ S)).map D.int) rfl (by rw[List.length_map,hsl];omega) ?_
    walk_at "run"
    refine bv (by omega) (by omega) ?_
    rw[e0]
    walk_at "run"
    refine⟨by omega,by omega,?_⟩
    exact⟨_,rfl⟩
theorem Gu{a b:Int}(hb:1<=b):-(a.natAbs:Int) - 1<=a / b/\a / b<=a.natAbs:=by
  have h1:=Int.ediv_mul_le a (show b ≠ 0 by omega)
  have h2:=Int.lt_ediv_add_one_mul_self a (show 0 < b by omega)
  by_cases hq:0<=a / b
  · have:=Int.mul_le_mul_of_nonneg_left hb hq
    constructor <;> omega
  · have hq':a / b+1<=0:=by omega
    have:=Int.mul_le_mul_of_nonpos_left hq' hb
    constructor <;> omega
theorem Gv{i:Int}:ez [.int i]=some (.bl true):=by
  refine bu (bO (bf rfl ?_))
  unfold ow
  walk_at "env"
  walk_at "run"
  rfl
local macro_rules | `(tactic| walk_at "call")=>`(tactic| (with_reducible refine bb Gv ?_))
theorem ut{B:Int}(hB:0<=B):∀ (row ys:List Int),(∀ x ∈ row,0<=x)->(∀ y ∈ ys,-B<=y/\y<=B)->-(row.sum * B)<=(List.zipWith (fun a b=>a * b) row ys).sum/\(List.zipWith (fun a b=>a * b) row ys).sum<=row.sum * B
  | [],_,_,_=>by simp
  | x::r,[],h,_=>by
    have h1:=je h
    have:=Int.mul_nonneg h1 hB
    simp only[List.zipWith_nil_right,List.sum_nil]
    omega
  | x::r,y::ys,h,h'=>by
    have ih:=ut hB r ys (fun z hz=>h z (List.mem_cons_of_mem _ hz)) fun z hz=>h' z (List.mem_cons_of_mem _ hz)
    have hx:=h x List.mem_cons_self
    have hy:=h' y List.mem_cons_self
    have a1:=Int.mul_le_mul_of_nonneg_left hy.2 hx
    have a2:=Int.mul_le_mul_of_nonneg_left hy.1 hx
    rw[List.zipWith_cons_cons,List.sum_cons,List.sum_cons,Int.add_mul]
    rw[Int.mul_neg] at a2
    omega
theorem Gw{fares row:List Int}{scale A:Int}{bs:List Int}(hr:∀ x ∈ row,0<=x)(hs:0<=row.sum/\row.sum<=7000)(hf:∀ x ∈ fares,1<=x/\x<=1000000)(hsc:1<=scale/\scale<=10 ^ 88)(hA:10 ^ 95<=A)(hb:∀ x ∈ bs,-A<=x/\x<=A):∀ x ∈ eB fares row scale bs,-(20000 * A)<=x/\x<=20000 * A:=by
  intro x hx
  obtain⟨s,hs',rfl⟩:=List.mem_map.mp hx
  have hs':=List.mem_range.mp hs'
  have hg:∀ i,-A<=bs.getD i 0/\bs.getD i 0<=A:=fun i=>by
    by_cases hi:i < bs.length
    · rw[cE _ _ _ hi];exact hb _ (List.getElem_mem _)
    · rw[List.getD_eq_getElem?_getD,List.getElem?_eq_none (by omega)];simp;omega
  have hc:∀ y ∈ (fares.map fun f=>cI f scale bs s)++[bs.getD s 0],-(A+10 ^ 95)<=y/\y<=A+10 ^ 95:=fun y hy=>by
    rcases List.mem_append.mp hy with hy | hy
    · obtain⟨f,hf',rfl⟩:=List.mem_map.mp hy
      have h1:=hf f hf'
      have h2:f * scale<=1000000 * 10 ^ 88:=Int.mul_le_mul h1.2 hsc.2 (by omega) (by omega)
      have h3:0<=f * scale:=Int.mul_nonneg (by omega) (by omega)
      have g0:=hg 0
      have g1:=hg s
      have g2:=hg (s - 1)
      simp only[cI]
      split <;> omega
    · rw[List.mem_singleton.mp hy]
      have:=hg s
      omega
  have z:=ut (B:=A+10 ^ 95) (by omega) row _ hr hc
  have m:row.sum * (A+10 ^ 95)<=7000 * (A+10 ^ 95):=Int.mul_le_mul_of_nonneg_right hs.2 (by omega)
  have e:du fares row scale bs s=(List.zipWith (fun a b=>a * b) row ((fares.map fun f=>cI f scale bs s)++[bs.getD s 0])).sum:=rfl
  rw[<- e] at z
  constructor <;> omega
theorem uv{fares:List Int}{last:Int}{es:List Int}(hf:∀ x ∈ fares,1<=x/\x<=1000000)(hfl:fares.length<=6)(hl:1<=last/\last<=10 ^ 40)(he:∀ x ∈ es,-(10 ^ 95)<=x/\x<=10 ^ 95):∀ {ts:List (List Int)},RowsOk fares.length ts->ts.length<=8->∀ x ∈ (aF fares ts last es).headD [],-(10 ^ 95 * 20000 ^ ts.length)<=x/\x<=10 ^ 95 * 20000 ^ ts.length
  | [],_,_,x,hx=>by have:=he x (by simpa [aF] using hx);simpa using this
  | r :: rs,h,h8,x,hx=>by
    have hrs:RowsOk fares.length rs:=fun q hq=>h q (List.mem_cons_of_mem _ hq)
    have ih:=uv hf hfl hl he hrs (by simp at h8;omega)
    have hr:=h r List.mem_cons_self
    have hsum:0<=r.sum/\r.sum<=7000:=by
      have h4:=nh (b:=1000) fun x hx=>(hr.2.1 x hx).2
      exact⟨by omega,by omega⟩
    have hsc:=uo (by omega) hl.1 hl.2 hrs (by simp at h8;omega)
    have hp:(1:Int)<=20000 ^ rs.length:=by
      have:∀ n:Nat,(1:Int)<=20000 ^ n:=fun n=>by
        induction n with
        | zero=>simp
        | succ n ih=>rw[Int.pow_succ];omega
      exact this _
    have hA:(10 ^ 95:Int)<=10 ^ 95 * 20000 ^ rs.length:=by omega
    have:=Gw (fun x hx=>(hr.2.1 x hx).1) hsum hf hsc hA ih x (by simpa [aF] using hx)
    rw[List.length_cons,Int.pow_succ]
    constructor <;> omega
theorem Gx{S:Nat}{r c o d:Int}(hS:S<=10)(hr:0<=r/\r<=1000)(hc:0<=c/\c<=o)(ho:o<=1000)(h1:1<=o)(hd:0<=d/\d<=1000000):∀ x ∈ ends r c o d S,-(10 ^ 95)<=x/\x<=10 ^ 95:=by
  intro x hx
  obtain⟨l,hl,rfl⟩:=List.mem_map.mp hx
  have hl:=List.mem_range.mp hl
  have hn:S - l<=10:=by omega
  generalize S - l=n at hn
  have a1:=uf (r:=r) hc.1 (show 0<=o - c by omega) n
  have a2:=ug hr.1 hc.1 (show 0<=o - c by omega) n
  rw[show c+(o - c)=o by omega] at a2
  have a3:o ^ n<=1000 ^ 10:=eU 10 (by omega) ho (by omega) hn
  have a4:(n:Int) * o ^ n<=10 * 1000 ^ 10:=Int.mul_le_mul (by omega) a3 (jf (by omega) n) (by omega)
  have b1:=Int.mul_nonneg hd.1 a1
  have b2:d * cr r c (o - c) n<=1000000 * (10 * 1000 ^ 10):=Int.mul_le_mul hd.2 (by omega) a1 (by omega)
  have c1:=jf (show 0<=o by omega) l
  have c2:o ^ l<=1000 ^ 10:=eU 10 (by omega) ho (by omega) (by omega)
  have e:g7 r c o d n l = -(d * cr r c (o - c) n * o ^ l):=by rw[g7,Int.neg_mul,Int.neg_mul]
  have m1:d * cr r c (o - c) n * o ^ l<=1000000 * (10 * 1000 ^ 10) * 1000 ^ 10:=Int.mul_le_mul b2 c2 c1 (by omega)
  have m2:=Int.mul_nonneg b1 c1
  rw[e]
  constructor <;> omega
theorem uw{S:Nat}{fares:List Int}{turns:List (List Int)}{r c of d:Int}(s:Sale S fares turns r c of d){t i:Nat}(ht:t<=turns.length):-(10 ^ 130)<=((aF fares turns (of ^ S) (ends r c of d S)).getD t []).getD i 0/\((aF fares turns (of ^ S) (ends r c of d S)).getD t []).getD i 0<=10 ^ 130:=by
  rw[oU _ _ _ _ _ ht]
  have t1:=s.t1
  have p0:(1:Int)<=of ^ S:=by
    have:∀ n:Nat,(1:Int)<=of ^ n:=fun n=>by
      induction n with
      | zero=>simp
      | succ n ih=>rw[Int.pow_succ];have:=Int.mul_le_mul ih s.o1 (by omega) (by omega);omega
    exact this S
  have p1:of ^ S<=1000 ^ 10:=eU 10 (by have:=s.o1;omega) s.o2 (by omega) s.hS
  have hb:=uv (es:=ends r c of d S) (last:=of ^ S) s.f3 s.f2 ⟨p0,by omega⟩ (Gx s.hS ⟨s.r1,by have:=s.r2;omega⟩ ⟨s.c1,s.c2⟩ s.o2 s.o1 ⟨s.d1,s.d2⟩) (s.t2.drop (k:=t)) (by rw[List.length_drop];omega)
  have hp:(20000:Int) ^ (turns.drop t).length<=20000 ^ 8:=eU 8 (by omega) (by omega) (by omega) (by rw[List.length_drop];omega)
  generalize (aF fares (turns.drop t) (of ^ S) (ends r c of d S)).headD []=L at hb ⊢
  by_cases hi:i < L.length
  · have:=hb _ (List.getElem_mem hi)
    rw[cE _ _ _ hi]
    constructor <;> omega
  · rw[List.getD_eq_getElem?_getD,List.getElem?_eq_none (by omega)]
    simp
structure Handed (M:Sto) (a b:Nat) (bs:List Nat) (fares:List Int) (turns:List (List Int)):Prop where
  ha:M a=some (.lst (fares.map .int))
  hb:M b=some (.lst (bs.map .ptr))
  hl:bs.length=turns.length
  hv:∀ i (h:i < bs.length) (h':i < turns.length),M bs[i]=some (.lst (turns[i].map .int))
theorem Handed.keep{M M':Sto}{a b:Nat}{bs:List Nat}{fares:List Int}{turns:List (List Int)}{S:Nat->Prop}(h:Handed M a b bs fares turns)(k:Kp S M M')(hS:∀ x ds,S x->M x ≠ some (.lst ds)):Handed M' a b bs fares turns :=
  ⟨k _ _ h.ha fun z=>hS _ _ z h.ha,k _ _ h.hb fun z=>hS _ _ z h.hb,h.hl,fun i h1 h2=>k _ _ (h.hv i h1 h2) fun z=>hS _ _ z (h.hv i h1 h2)⟩
theorem Gy(M:Sto)(xs:List Int):(xs.map D.int).map (vw1 M)=xs.map D.int:=by rw[List.map_map];rfl
theorem Handed.va{M:Sto}{a b:Nat}{bs:List Nat}{fares:List Int}{turns:List (List Int)}(h:Handed M a b bs fares turns):vw2 M (.ptr a)=DI fares:=by
  simp only[vw2,h.ha,Gy]
theorem Handed.v1{M:Sto}{a b:Nat}{bs:List Nat}{fares:List Int}{turns:List (List Int)}(h:Handed M a b bs fares turns):vw1 M (.ptr a)=DI fares:=by
  simp only[vw1,h.ha]
theorem Handed.vb{M:Sto}{a b:Nat}{bs:List Nat}{fares:List Int}{turns:List (List Int)}(h:Handed M a b bs fares turns):vw2 M (.ptr b)=DII turns:=by
  simp only[vw2,h.hb]
  congr 1
  apply List.ext_getElem
  · simp[h.hl]
  · intro i h1 h2
    have q1:i < bs.length:=by simpa using h1
    have q2:i < turns.length:=by simpa using h2
    simp only[List.getElem_map,vw1,h.hv i q1 q2]
section
variable {C o a b:Nat} {bs:List Nat} {M:Sto} {Q:QE} {S:Nat} {fares:List Int} {turns:List (List Int)} {r c of d:Int}
theorem Gz(s:Sale S fares turns r c of d)(hh:Handed M a b bs fares turns)(ho:M o=some (.ins C [] []))(h:∀ M',M' o=some (.ins C NS_Office (bU S fares turns r c of d 0 0 0 .non .non))->Kp (· = o) M M'->Q .non M'):
    jF C [.ptr o,.int (S:Nat),.ptr a,.ptr b,.tup [.int r,.int c,.int of,.int d]] M Q:=by
  obtain⟨hS,f1,f2,f3,t1,t2,r1,r2,c1,c2,o1,o2,d1,d2⟩:=s
  have hrl:∀ x ∈ turns,x.length<=1000:=fun x hx=>by have:=(t2 x hx).1;omega
  have hk:∀ c',Handed (aN M o c') a b bs fares turns:=fun c'=>hh.keep (S:=(· = o)) (Kp.upd (.inl rfl)) fun x ds e q=>by subst e;rw[ho] at q;cases q
  refine bG rfl ?_
  unfold oy
  walk_at "env"
  walk_at "run"
  simp only[List.map_cons,List.map_nil]
  rw[hh.va,hh.vb]
  refine jc (FG (by omega) (by omega) hrl) ?_
  rintro _ ⟨b',rfl,hb⟩
  have hb':b'=true:=hb.mpr ⟨by omega,by omega,f1,f2,f3,t1,t2⟩
  subst hb'
  walk_at "run"
  refine bb (FH r c of d) ?_
  rw[show oR r c of d=true from decide_eq_true ⟨r1,r2,o1,o2,c1,c2,d1,d2⟩]
  walk_at "run"
  refine bb (G7 (by omega) (by omega)) ?_
  have hfs:cU fares:=fun x hx=>by have:=f3 x hx;omega
  have hts:∀ x ∈ turns,cU x/\x.length<=1000:=fun x hx=>⟨fun y hy=>by have:=(t2 x hx).2.1 y hy;omega,hrl x hx⟩
  have hsum:=t2.sum (by omega)
  walk_at "run"
  refine fX ?_
  walk_at "run"
  refine⟨o,_,rfl,ho,?_⟩
  walk_at "run"
  refine fX ?_
  walk_at "run"
  refine⟨fares.map .int,(hk _).v1,?_⟩
  walk_at "run"
  refine⟨o,_,rfl,aU,?_⟩
  rw[cQ]
  walk_at "run"
  refine fX ?_
  walk_at "run"
  refine⟨o,_,rfl,aU,?_⟩
  rw[cQ]
  walk_at "run"
  refine fX ?_
  walk_at "run"
  simp only[List.map_cons,List.map_nil]
  rw[(hk _).vb]
  refine bb (uj hsum (by omega)) ?_
  refine⟨⟨_,rfl⟩,?_⟩
  walk_at "run"
  refine⟨o,_,rfl,aU,?_⟩
  rw[cQ]
  walk_at "run"
  refine fX ?_
  walk_at "run"
  refine bb (FU hS (by omega) (by omega) (by omega) (by omega) (by omega)) ?_
  walk_at "run"
  simp only[List.map_cons,List.map_nil]
  rw[(hk _).vb,(hk _).va]
  refine bb (G4 hfs (by omega) hts hsum (by omega) (by rw[iA];omega)) ?_
  walk_at "run"
  refine⟨o,_,rfl,aU,?_⟩
  rw[cQ]
  walk_at "run"
  iterate 4
    refine fX ?_
    walk_at "run"
    refine⟨o,_,rfl,aU,?_⟩
    rw[cQ]
    walk_at "run"
  refine fX ?_
  walk_at "run"
  refine⟨o,_,rfl,aU,?_⟩
  rw[cQ]
  walk_at "run"
  exact h _ aU (Kp.upd (.inl rfl))
end
section
variable {C:Nat} {M:Sto} {Q:QE} {S:Nat} {fares:List Int} {turns:List (List Int)} {r c of d:Int}
theorem oZ(s:Sale S fares turns r c of d)(h:∀ o M',M o=none->M' o=some (.ins C NS_Office (bU S fares turns r c of d 0 0 0 .non .non))->Kp (fun _=>False) M M'->Q (.ptr o) M'):
    ip C [dA S fares turns r c of d] M Q:=by
  have f1:=s.f1
  have f2:=s.f2
  have t1:=s.t1
  refine bG rfl ?_
  unfold oz dA
  walk_at "env"
  walk_at "run"
  refine nN ?_
  walk_at "run"
  intro a ha
  walk_at "run"
  refine⟨by rw[List.length_map];omega,?_⟩
  refine nO DI turns (fun k ds M'=>∃ bs:List Nat,ds=bs.map .ptr/\bs.length=k/\(∀ i (h:i < bs.length) (h':i < turns.length),M' bs[i]=some (.lst (turns[i].map .int)))/\(∀ x ∈ bs,M x=none/\x ≠ a)/\Kp (fun _=>False) (aN M a (.lst (fares.map .int))) M') ⟨[],rfl,rfl,fun i h=>absurd h (by simp),by simp,Kp.refl⟩ ?_ ?_
  · rintro _ M1 ⟨bs,rfl,b1,b2,b3,K1⟩ b hb
    have Ka:Kp (fun _=>False) M M1:=(Kp.upd (S:=fun _=>False) (.inr ha)).trans K1 fun _ z _=>z
    have hbM:M b=none:=by
      cases e:M b with
      | none=>rfl
      | some c=>have:=Ka _ _ e id;rw[hb] at this;cases this
    have ha1:M1 a=some (.lst (fares.map .int)):=K1 _ _ aU id
    have hab:a ≠ b:=fun e=>by subst e;rw[ha1] at hb;cases hb
    have hbs:∀ x ∈ bs,x ≠ b:=fun x hx e=>by
      obtain⟨i,hi,rfl⟩:=List.getElem_of_mem hx
      have:=b2 i hi (by omega)
      rw[e,hb] at this;cases this
    have hh:Handed (aN M1 b (.lst (bs.map .ptr))) a b bs fares turns:=⟨by rw[cF hab];exact ha1,aU,b1,fun i h1 h2=>by rw[cF (hbs _ (List.getElem_mem _))];exact b2 i h1 h2⟩
    walk_at "run"
    refine F2 ?_
    walk_at "run"
    intro o ho
    have K2:Kp (fun _=>False) M (aN M1 b (.lst (bs.map .ptr))):=Ka.trans (Kp.upd (.inr hb)) fun _ z _=>z
    have hoM:M o=none:=by
      cases e:M o with
      | none=>rfl
      | some c=>have:=K2 _ _ e id;rw[ho] at this;cases this
    have hh2:Handed (aN (aN M1 b (.lst (bs.map .ptr))) o (.ins C [] [])) a b bs fares turns:=hh.keep (S:=fun _=>False) (Kp.upd (.inr ho)) fun _ _ z=>z.elim
    refine Gz s hh2 aU fun M3 h3 K3=>⟨rfl,?_⟩
    have K4:Kp (fun _=>False) M M3:=fun x c e n=>K3 x c (Kp.upd (S:=fun _=>False) (.inr ho) x c (K2 x c e id) id) fun z=>by subst z;rw[hoM] at e;cases e
    have hh3:Handed M3 a b bs fares turns:=hh2.keep K3 fun x ds e q=>by subst e;rw[aU] at q;cases q
    have hoa:o ≠ a:=fun e=>by subst e;rw[hh3.ha] at h3;cases h3
    have hob:o ≠ b:=fun e=>by subst e;rw[hh3.hb] at h3;cases h3
    have hobs:∀ x ∈ bs,x ≠ o:=fun x hx e=>by
      obtain⟨i,hi,rfl⟩:=List.getElem_of_mem hx
      have:=hh3.hv i hi (by omega)
      rw[e,h3] at this;cases this
    walk_at "env"
    walk_at "run"
    refine⟨a,_,rfl,hh3.ha,?_⟩
    walk_at "run"
    refine⟨a,_,0,0,rfl,aU,rfl,by rw[List.length_reverse,List.length_map];unfold ixN;rw[if_pos (by omega),if_pos (by omega)];rfl,?_⟩
    rw[cQ]
    walk_at "run"
    refine⟨b,bs,rfl,?_⟩
    refine Fp bs (fun k ρ M'=>∃ b1,ρ=[some (dA S fares turns r c of d),some (.lst [.ptr a,.ptr b]),some (.ptr o),b1]/\Kp (fun x=>x=a\/x ∈ bs) M3 M'/\(∃ fs:List D,M' a=some (.lst fs)/\fs.length=fares.length)/\∀ i (h:i < bs.length),∃ ds:List D,M' bs[i]=some (.lst ds)/\0 < ds.length) ?_ ⟨_,rfl,Kp.upd (.inl (.inl rfl)),⟨_,aU,by simp⟩,?_⟩ ?_ ?_
    · rintro k ρ M4 ⟨b1,rfl,K5,_,_⟩
      exact K5 _ _ hh3.hb fun z=>z.elim (fun e=>hab e.symm) fun z=>hbs b z rfl
    · intro i hi
      have hr:=hh3.hv i hi (by omega)
      by_cases e:bs[i]=a
      · exact⟨_,by rw[e];exact aU,by simp;omega⟩
      · have:=(s.t2 _ (List.getElem_mem (show i < turns.length by omega))).1
        exact⟨_,by rw[cF e];exact hr,by rw[List.length_map];omega⟩
    · rintro ρ M4 ⟨b1,rfl,K5,⟨fs,e1,e2⟩,_⟩
      walk_at "run"
      have hb4:=K5 _ _ hh3.hb fun z=>z.elim (fun e=>hab e.symm) fun z=>hbs b z rfl
      refine⟨b,_,rfl,hb4,?_⟩
      walk_at "run"
      simp only[List.map_cons,List.map_nil,vw1,e1]
      walk_at "run"
      refine D1 (by omega) (by omega) ?_
      refine⟨_,hb4,by rw[List.length_map];omega,?_⟩
      walk_at "run"
      refine h o _ hoM ?_ ?_
      · rw[cF hob]
        exact K5 _ _ h3 fun z=>z.elim (fun e=>hoa e) fun z=>hobs o z rfl
      · intro x c e _
        have hx:x ≠ b:=fun z=>by subst z;rw[hbM] at e;cases e
        rw[cF hx]
        exact K5 _ _ (K4 _ _ e id) fun z=>by
          rcases z with rfl | z
          · rw[ha] at e;cases e
          · rw[(b3 x z).1] at e;cases e
    · rintro k hk ρ M4 ⟨b1,rfl,K5,⟨fs,e1,e2⟩,hv⟩ N hN
      obtain⟨ds,e3,e4⟩:=hv k hk
      walk_at "env"
      walk_at "run"
      refine⟨bs[k],ds,rfl,e3,?_⟩
      walk_at "run"
      refine⟨bs[k],_,0,0,rfl,aU,rfl,by rw[List.length_reverse];unfold ixN;rw[if_pos (by omega),if_pos (by omega)];rfl,?_⟩
      rw[cQ]
      walk_at "run"
      refine hN _ _ ⟨_,rfl,K5.trans (Kp.upd (S:=(· = bs[k])) (.inl rfl)) (fun x z _=>.inr (by rw[z];exact List.getElem_mem _)),?_,fun i hi=>?_⟩
      · by_cases e:a=bs[k]
        · exact absurd e.symm (b3 _ (List.getElem_mem hk)).2
        · exact⟨fs,by rw[cF e];exact e1,e2⟩
      · by_cases e:bs[i]=bs[k]
        · exact⟨_,by rw[e];exact aU,by simp;omega⟩
        · obtain⟨ds',e5,e6⟩:=hv i hi
          exact⟨ds',by rw[cF e];exact e5,e6⟩
  · rintro k hk _ M1 ⟨bs,rfl,b1,b2,b3,K1⟩ N hN
    walk_at "env"
    walk_at "run"
    refine nN ?_
    walk_at "run"
    intro x hx
    have hxa:x ≠ a:=fun e=>by subst e;have:=K1 _ _ aU id;rw[hx] at this;cases this
    have Ka:Kp (fun _=>False) M M1:=(Kp.upd (S:=fun _=>False) (.inr ha)).trans K1 fun _ z _=>z
    refine hN _ _ ⟨bs++[x],by simp,by simp[b1],fun i h1 h2=>?_,fun y hy=>?_,K1.trans (Kp.upd (.inr hx)) fun _ z _=>z⟩
    · by_cases hi:i < bs.length
      · rw[List.getElem_append_left hi,cF]
        · exact b2 i hi h2
        · intro e;have:=b2 i hi h2;rw[e,hx] at this;cases this
      · have:i=bs.length:=by simp at h1;omega
        subst this
        rw[List.getElem_append_right (Nat.le_refl _)]
        simp only[Nat.sub_self,List.getElem_cons_zero,b1]
        exact aU
    · rcases List.mem_append.mp hy with hy | hy
      · exact b3 y hy
      · rw[List.mem_singleton.mp hy]
        refine⟨?_,hxa⟩
        cases e:M x with
        | none=>rfl
        | some c=>have:=Ka _ _ e id;rw[hx] at this;cases this
end
theorem GA{xs:List D}{K:D->Prop}(h:K (.int (xs.length:Nat))):WF (aI br) [.tup xs] K:=⟨_,rfl,h⟩
theorem GB{ds:List D}{K:D->Prop}(h:K (.bl true)):W1 (da "tuple") (.tup ds) K:=⟨_,rfl,h⟩
local macro_rules | `(tactic| walk_at "call")=>`(tactic| first | (with_reducible refine GA ?_) | (with_reducible refine GB ?_) | (with_reducible refine D4 ?_))
def jM(sc:Int)(bs:List Int)(s:Nat):D:=if s=0 then .non else .int (-((bs.getD (s - 1) 0 - bs.getD s 0) / sc))
theorem ux{sc:Int}{bs:List Int}{s:Nat}(h1:1<=sc)(h2:sc<=10 ^ 88)(hs:s < bs.length)(hb:∀ i,-(10 ^ 130)<=bs.getD i 0/\bs.getD i 0<=10 ^ 130):lB [.int sc,DI bs,.int (s:Nat),jM sc bs s]=some (.bl true):=by
  refine bu (bO (bf rfl ?_))
  unfold ox
  walk_at "env"
  walk_at "run"
  refine bp (fun e=>?_) fun e=>?_
  · rw[jM,if_pos (by omega)]
    walk_at "run"
  · rw[jM,if_neg (by omega)]
    have f1:=hb (s - 1)
    have f2:=hb s
    have f3:=Gu (a:=bs.getD (s - 1) 0 - bs.getD s 0) h1
    have f4:-(10 ^ 132)<=-((bs.getD (s - 1) 0 - bs.getD s 0) / sc)/\-((bs.getD (s - 1) 0 - bs.getD s 0) / sc)<=10 ^ 132:=by omega
    clear f3
    have i1:=lJ (p:=bs.getD (s - 1) 0) (q:=bs.getD s 0) (f:=-((bs.getD (s - 1) 0 - bs.getD s 0) / sc)) h1
    have i2:=lJ (p:=bs.getD (s - 1) 0) (q:=bs.getD s 0) (f:=-((bs.getD (s - 1) 0 - bs.getD s 0) / sc) - 1) h1
    generalize -((bs.getD (s - 1) 0 - bs.getD s 0) / sc)=q at *
    walk_at "run"
    refine bv (by omega) (by omega) ?_
    walk_at "run"
    refine bv (by omega) (by omega) ?_
    walk_at "run"
    rw[show ((s:Int) - 1).toNat=s - 1 by omega,Int.toNat_natCast,decide_eq_true (i1.mp (Int.le_refl _))]
    walk_at "run"
    refine bv (by omega) (by omega) ?_
    walk_at "run"
    refine bv (by omega) (by omega) ?_
    walk_at "run"
    rw[show ((s:Int) - 1).toNat=s - 1 by omega,Int.toNat_natCast,decide_eq_true (show (q - 1) * sc+bs.getD (s - 1) 0 < bs.getD s 0 by
      have:=mt i2.mpr (by omega)
      omega)]
section
variable {C o:Nat} {M:Sto} {Q:QE} {S:Nat} {fares:List Int} {turns:List (List Int)} {r c of d:Int} {told sold:Nat} {paid:Int} {dues latest:D}
theorem lM:dg S sold told fares turns r c of d=jM ((aK turns (of ^ S)).getD (told+1) 0) ((aF fares turns (of ^ S) (ends r c of d S)).getD (told+1) []) (S - sold):=rfl
theorem uy(s:Sale S fares turns r c of d)(hm:M o=some (.ins C NS_Office (bU S fares turns r c of d told sold paid dues latest)))(hs:sold<=S)(ht:told < turns.length)(h:∀ M' latest',M' o=some (.ins C NS_Office (bU S fares turns r c of d (told+1) sold paid dues latest'))->Kp (· = o) M M'->Q (.bl true) M'):
    iy C [.ptr o,dA S fares turns r c of d,DI (aK turns (of ^ S)),DII (aF fares turns (of ^ S) (ends r c of d S)),.non] M Q:=by
  have hsc:=oV s (t:=told+1) (by omega)
  refine bG rfl ?_
  unfold lF dA
  walk_at "env"
  walk_at "run"
  refine lK hm ?_
  walk_at "run"
  refine dN hm hs ?_
  walk_at "run"
  refine Gc s hm hs ht fun M1 h1 K1=>?_
  walk_at "run"
  refine jL h1 ?_
  walk_at "run"
  rw[show (!decide ((([D.int (told:Nat),D.int ((S - sold:Nat):Int),dg S sold told fares turns r c of d,D.non].length:Nat):Int)=4))=false from rfl]
  walk_at "run"
  rw[show cZ [D.int (told:Nat),D.int ((S - sold:Nat):Int),dg S sold told fares turns r c of d,D.non] none (some 2)=[D.int (told:Nat),D.int ((S - sold:Nat):Int)] from rfl]
  refine nq rfl ?_
  walk_at "run"
  refine bv (by omega) (by rw[fg];omega) ?_
  walk_at "run"
  refine ia (by omega) (by rw[iD];omega) ?_
  walk_at "run"
  rw[show ((told:Int)+1).toNat=told+1 by omega,lM]
  refine bb (ux hsc.1 hsc.2 (by rw[lI _ _ _ _ _ (by omega),iA];omega) fun i=>uw s (by omega)) ?_
  walk_at "run"
  refine nq rfl ?_
  walk_at "run"
  refine bp (fun _=>?_) fun e=>absurd rfl e
  walk_at "run"
  refine dN h1 hs ?_
  walk_at "run"
  refine bp (fun _=>?_) fun e=>absurd (by simp) e
  walk_at "run"
  refine jL h1 ?_
  walk_at "run"
  refine nr (oX (oW ..) rfl) ?_
  walk_at "run"
  exact h _ _ h1 K1
theorem uz{k:Nat}(s:Sale S fares turns r c of d)(hm:M o=some (.ins C NS_Office (bU S fares turns r c of d told sold paid dues latest)))(hs:sold<=S)(ht:told < turns.length)(hk:k < fares.length)(h:∀ M' sold' paid' latest',sold'<=S->M' o=some (.ins C NS_Office (bU S fares turns r c of d (told+1) sold' paid' dues latest'))->Kp (· = o) M M'->Q (.bl true) M'):
    iy C [.ptr o,dA S fares turns r c of d,DI (aK turns (of ^ S)),DII (aF fares turns (of ^ S) (ends r c of d S)),.int (k:Nat)] M Q:=by
  have hsc:=oV s (t:=told+1) (by omega)
  have hf:=s.f3 _ (List.getElem_mem hk)
  refine bG rfl ?_
  unfold lF dA
  walk_at "env"
  walk_at "run"
  refine lK hm ?_
  walk_at "run"
  refine dN hm hs ?_
  walk_at "run"
  generalize hb:g8 (fares.getD k 0) ((aK turns (of ^ S)).getD (told+1) 0) ((aF fares turns (of ^ S) (ends r c of d S)).getD (told+1) []) (S - sold)=b
  refine Gd s hm hs ht hk hb fun M1 h1 K1=>?_
  walk_at "run"
  refine jL h1 ?_
  walk_at "run"
  rw[show (!decide ((([D.int (told:Nat),D.int ((S - sold:Nat):Int),dg S sold told fares turns r c of d,D.int (fares.getD k 0)].length:Nat):Int)=4))=false from rfl]
  walk_at "run"
  rw[show cZ [D.int (told:Nat),D.int ((S - sold:Nat):Int),dg S sold told fares turns r c of d,D.int (fares.getD k 0)] none (some 2)=[D.int (told:Nat),D.int ((S - sold:Nat):Int)] from rfl]
  refine nq rfl ?_
  walk_at "run"
  refine bv (by omega) (by rw[fg];omega) ?_
  walk_at "run"
  refine ia (by omega) (by rw[iD];omega) ?_
  walk_at "run"
  rw[show ((told:Int)+1).toNat=told+1 by omega,lM]
  refine bb (ux hsc.1 hsc.2 (by rw[lI _ _ _ _ _ (by omega),iA];omega) fun i=>uw s (by omega)) ?_
  walk_at "run"
  refine bv (by omega) (by omega) ?_
  rw[Int.toNat_natCast]
  walk_at "run"
  refine n8 (fun e=>absurd rfl e) fun _=>?_
  walk_at "run"
  have hle:sold+(if b=true then 1 else 0)<=S:=by
    cases b with
    | false=>simpa using hs
    | true=>have:=(of_decide_eq_true (show decide _=true from hb)).1;simp;omega
  refine bp (fun h0=>?_) fun h0=>?_
  · walk_at "run"
    have hb2:b=decide (-((((aF fares turns (of ^ S) (ends r c of d S)).getD (told+1) []).getD (S - sold - 1) 0 - ((aF fares turns (of ^ S) (ends r c of d S)).getD (told+1) []).getD (S - sold) 0) / (aK turns (of ^ S)).getD (told+1) 0)<=fares.getD k 0):=by
      rw[<- hb,g8]
      exact decide_eq_decide.mpr ⟨fun e=>(lJ hsc.1).mpr e.2,fun e=>⟨by omega,(lJ hsc.1).mp e⟩⟩
    have e0:jM ((aK turns (of ^ S)).getD (told+1) 0) ((aF fares turns (of ^ S) (ends r c of d S)).getD (told+1) []) (S - sold)=.int (-((((aF fares turns (of ^ S) (ends r c of d S)).getD (told+1) []).getD (S - sold - 1) 0 - ((aF fares turns (of ^ S) (ends r c of d S)).getD (told+1) []).getD (S - sold) 0) / (aK turns (of ^ S)).getD (told+1) 0)):=if_neg (by omega)
    rw[e0]
    walk_at "run"
    rw[<- hb2]
    refine bp (fun _=>?_) fun e=>absurd rfl e
    walk_at "run"
    refine dN h1 hle ?_
    walk_at "run"
    refine bp (fun _=>?_) fun e=>absurd (by cases b <;> simp at hle ⊢ <;> omega) e
    walk_at "run"
    refine jL h1 ?_
    walk_at "run"
    rw[<- e0,<- lM]
    refine nr (oX (oW ..) rfl) ?_
    walk_at "run"
    exact h _ _ _ _ hle h1 K1
  · walk_at "run"
    have hb2:b=false:=by
      rw[<- hb,g8]
      exact decide_eq_false fun e=>h0 (by omega)
    subst hb2
    refine bp (fun _=>?_) fun e=>absurd rfl e
    walk_at "run"
    refine dN h1 hle ?_
    walk_at "run"
    refine bp (fun _=>?_) fun e=>absurd (by simp) e
    walk_at "run"
    refine jL h1 ?_
    walk_at "run"
    rw[<- lM]
    refine nr (oX (oW ..) rfl) ?_
    walk_at "run"
    exact h _ _ _ _ hle h1 K1
end
theorem GC(ns:List Int)(hl:ns.length<=63)(C:Nat):oO C [.scr ns] (fun _=>none) fun d _=>d=.bl true:=by
  refine bG rfl ?_
  unfold oN
  walk_at "env"
  walk_at "run"
  refine FB (by omega) (by omega) fun S fares turns r c of d M1 hS f1 f2 f3 t1 t2 r1 r2 c1 c2 o1 o2 d1 d2 K1=>?_
  have s:Sale S fares turns r c of d:=⟨hS,f1,f2,f3,t1,t2,r1,r2,c1,c2,o1,o2,d1,d2⟩
  walk_at "run"
  walk_at "env"
  walk_at "run"
  refine bb (Gs s) ?_
  walk_at "run"
  walk_at "env"
  walk_at "run"
  refine oZ s fun o M2 ho0 ho K2=>?_
  walk_at "run"
  refine⟨_,_,rfl,⟨by omega,by omega⟩,⟨by omega,by omega⟩,?_⟩
  refine tz (fun (k:Nat)=>.int (3+(k:Nat))) _ (fun k ρ M'=>∃ o b1 b2 b3,ρ=[some (.scr ns),some (dA S fares turns r c of d),some (.int (S:Nat)),some (DI fares),some (DII turns),some (.tup [.int r,.int c,.int of,.int d]),some (DI (aK turns (of ^ S))),some (DII (aF fares turns (of ^ S) (ends r c of d S))),some (.ptr o),b1,b2,b3] /\
    ∃ told sold paid latest,told<=turns.length/\sold<=S/\M' o=some (.ins C NS_Office (bU S fares turns r c of d told sold paid .non latest))) ⟨_,_,_,_,rfl,0,0,0,_,by omega,by omega,ho⟩ ?_ ?_
  · rintro ρ M3 ⟨o,b1,b2,b3,rfl,_⟩
    walk_at "run"
  · rintro k hk ρ M3 ⟨o,b1,b2,b3,rfl,told,sold,paid,latest,a1,a2,h3⟩ N hN
    rw[List.length_range] at hk
    rw[List.getElem_range]
    have hk':(3:Int)+(k:Nat)<=1000:=by omega
    walk_at "env"
    walk_at "run"
    refine oP (by omega) (by omega) fun p M4 hp P4 K4=>?_
    have hop:o ≠ p:=fun e=>by subst e;rw[h3] at hp;cases hp
    have h4:=K4 _ _ h3 id
    walk_at "run"
    rw[List.length_map]
    refine Fq (by omega) (by omega) ?_
    rw[Int.toNat_natCast]
    walk_at "run"
    rw[List.length_map]
    refine df P4 (by omega) (by omega) (by omega) fun v M5 v1 v2 P5 K5=>?_
    have h5:=K5 _ _ h4 hop
    obtain⟨w,rfl⟩:∃ w:Nat,v=w:=⟨v.toNat,by omega⟩
    by_cases hw:w < fares.length
    · refine n6 (Ge hw) ?_
      walk_at "run"
      refine lK h5 ?_
      walk_at "run"
      rw[List.length_map]
      refine bp (fun et=>?_) fun et=>?_
      · walk_at "run"
        refine oZ s fun o6 M6 z6 h6 K6=>?_
        walk_at "run"
        rw[List.length_map]
        refine bp (fun el=>?_) fun el=>?_
        · walk_at "run"
          refine uz s h6 (by omega) (by omega) hw fun M8 sold' paid' latest' g1 g2 K8=>?_
          walk_at "run"
          exact hN _ _ ⟨_,_,_,_,rfl,_,_,_,_,by omega,g1,g2⟩
        · walk_at "run"
          exact hN _ _ ⟨_,_,_,_,rfl,_,_,_,_,Nat.zero_le _,Nat.zero_le _,h6⟩
      · walk_at "run"
        rw[List.length_map]
        refine bp (fun el=>?_) fun el=>?_
        · walk_at "run"
          refine uz s h5 a2 (by omega) hw fun M8 sold' paid' latest' g1 g2 K8=>?_
          walk_at "run"
          exact hN _ _ ⟨_,_,_,_,rfl,_,_,_,_,by omega,g1,g2⟩
        · walk_at "run"
          exact hN _ _ ⟨_,_,_,_,rfl,_,_,_,_,a1,a2,h5⟩
    · have:w=fares.length:=by omega
      subst this
      refine n6 Gf ?_
      walk_at "run"
      refine lK h5 ?_
      walk_at "run"
      rw[List.length_map]
      refine bp (fun et=>?_) fun et=>?_
      · walk_at "run"
        refine oZ s fun o6 M6 z6 h6 K6=>?_
        walk_at "run"
        rw[List.length_map]
        refine bp (fun el=>?_) fun el=>?_
        · walk_at "run"
          refine uy s h6 (by omega) (by omega) fun M8 latest' g2 K8=>?_
          walk_at "run"
          exact hN _ _ ⟨_,_,_,_,rfl,_,_,_,_,by omega,by omega,g2⟩
        · walk_at "run"
          exact hN _ _ ⟨_,_,_,_,rfl,_,_,_,_,Nat.zero_le _,Nat.zero_le _,h6⟩
      · walk_at "run"
        rw[List.length_map]
        refine bp (fun el=>?_) fun el=>?_
        · walk_at "run"
          refine uy s h5 a2 (by omega) fun M8 latest' g2 K8=>?_
          walk_at "run"
          exact hN _ _ ⟨_,_,_,_,rfl,_,_,_,_,by omega,by omega,g2⟩
        · walk_at "run"
          exact hN _ _ ⟨_,_,_,_,rfl,_,_,_,_,a1,a2,h5⟩
end My
end VL
namespace VL
namespace My
open PySem PySem.Spec PyProof.Rows L2
def top(i:Nat):Stmt:=PySem.Challenge.pw_latefare_k42_papers.main.body.getD i (.Pass ⟨0,0,0,0⟩)
section
variable {P:Program} {w:World} {K:PySem.W.Frag} {mg:Str->Option Value} {base:Heap}
abbrev g9:Stmt:=top 9
theorem uA:FnScope ["number","least","most"] ["number","least","most"] (ai g9):=⟨rfl,rfl,rfl,by decide +kernel,rfl,by decide +kernel,by decide +kernel⟩
theorem GD{a:Addr}{fd:FuncData}(Fn:Fun K "is_within" "is_within" g9 a fd)(b_bool:mg "bool" = none)(b_int:mg "int" = none)(b_isinstance:mg "isinstance" = none):FnOk P w K mg base CX0 1 a fd ["number","least","most"] (spF K tB false):=by
  refine bh (np:=3) (n:=3) (body:=nQ) [] [] rfl rfl rfl Fn uA (fun cdv A outer s H E F hn hr=>?_)
  have sc:=uA
  exact (aP (bn (O':=[]) (cC (jb rh (by decide +kernel) b_isinstance b_int (ab 0)) (cC (rP (jb rj (by decide +kernel) b_isinstance b_bool (ab 0))) (di (rO (ab 1) (ab 0) (ab 2)))))))
theorem GE{a:Addr}{fd:FuncData}(Fn:Fun K "is_within" "is_within" g9 a fd)(m:mg "is_within" = some (.ref a))(b_bool:mg "bool" = none)(b_int:mg "int" = none)(b_isinstance:mg "isinstance" = none):Def P w K mg base "is_within" 1 ["number","least","most"] ca false :=
  Def.sc ⟨a,fd,GD Fn b_bool b_int b_isinstance,m,Fn.kp,Fn.binds fun _ _ _ _ _ _ us hl=>match us,hl with | [_,_,_],_=>rfl⟩
abbrev ga:Stmt:=top 10
theorem uB:FnScope ["base","times","product","step"] ["base","times"] (ai ga):=⟨rfl,rfl,rfl,by decide +kernel,rfl,by decide +kernel,by decide +kernel⟩
theorem GF{a:Addr}{fd:FuncData}(Fn:Fun K "power" "power" ga a fd)(b_range:mg "range" = none):FnOk P w K mg base CX0 1 a fd ["base","times"] (spF K tD false):=by
  refine bh (np:=2) (n:=4) (body:=nR) [] [] rfl rfl rfl Fn uB (fun cdv A outer s H E F hn hr=>?_)
  have sc:=uB
  exact (aS (cb 2 sc.nd ah) (aS (ja 3 [] sc.nd rfl b_range (ag (ab 1) aq) (aP (cb 2 sc.nd (bA (ab 2) (ab 0))))) (aP (bn (O':=[]) (ab 2)))))
theorem GG{a:Addr}{fd:FuncData}(Fn:Fun K "power" "power" ga a fd)(m:mg "power" = some (.ref a))(b_range:mg "range" = none):Def P w K mg base "power" 1 ["base","times"] eW false :=
  Def.sc ⟨a,fd,GF Fn b_range,m,Fn.kp,Fn.binds fun _ _ _ _ _ _ us hl=>match us,hl with | [_,_],_=>rfl⟩
abbrev fh:Stmt:=top 18
theorem uC:FnScope ["fares"] ["fares"] (ai fh):=⟨rfl,rfl,rfl,by decide +kernel,rfl,by decide +kernel,by decide +kernel⟩
theorem GH{a:Addr}{fd:FuncData}(Fn:Fun K "are_fares" "are_fares" fh a fd)(b_all:mg "all" = none)(b_len:mg "len" = none){t_MOST_FARE:Tok}(c_MOST_FARE:mg "MOST_FARE" = some (.int 1000000 t_MOST_FARE)){t_MOST_FARES:Tok}(c_MOST_FARES:mg "MOST_FARES" = some (.int 6 t_MOST_FARES))(d_is_within:Def P w K mg base "is_within" 1 ["number","least","most"] ca false):FnOk P w K mg base CX0 2 a fd ["fares"] (spF K tE false):=by
  refine bh (np:=1) (n:=1) (body:=nS) [] [] rfl rfl rfl Fn uC (fun cdv A outer s H E F hn hr=>?_)
  have sc:=uC
  exact (aP (bn (O':=[]) (cC (rO ah (cN b_len (ag (ab 0) aq)) (eQ c_MOST_FARES)) (di (n3 rfl b_all (ag (bx (cP (own:=["fare"]) (caps:=[]) (cn:=[]) ⟨rfl,by decide +kernel,by decide +kernel,cm (ai fh) rfl (by decide +kernel),by first | rfl | decide +kernel,by decide +kernel,by decide +kernel⟩ rfl (i7 (aA 0)) (fun _ _ _ _=>bH (i:=0) (show (["fare"]:List Str).Nodup from by decide +kernel) rfl (Or.inl rfl) (.inr rfl)) (dG 0) (by decide) (fun _ _ _ _=>cM) (fun _ _ _ _=>(ba d_is_within hr (ag (ab 0) (ag ah (ag (eQ c_MOST_FARE) aq))))))) aq))))))
theorem GI{a:Addr}{fd:FuncData}(Fn:Fun K "are_fares" "are_fares" fh a fd)(m:mg "are_fares" = some (.ref a))(b_all:mg "all" = none)(b_len:mg "len" = none){t_MOST_FARE:Tok}(c_MOST_FARE:mg "MOST_FARE" = some (.int 1000000 t_MOST_FARE)){t_MOST_FARES:Tok}(c_MOST_FARES:mg "MOST_FARES" = some (.int 6 t_MOST_FARES))(d_is_within:Def P w K mg base "is_within" 1 ["number","least","most"] ca false):Def P w K mg base "are_fares" 2 ["fares"] jp false :=
  Def.sc ⟨a,fd,GH Fn b_all b_len c_MOST_FARE c_MOST_FARES d_is_within,m,Fn.kp,Fn.binds fun _ _ _ _ _ _ us hl=>match us,hl with | [_],_=>rfl⟩
abbrev gb:Stmt:=top 21
theorem uD:FnScope ["row"] ["row"] (ai gb):=⟨rfl,rfl,rfl,by decide +kernel,rfl,by decide +kernel,by decide +kernel⟩
theorem GJ{a:Addr}{fd:FuncData}(Fn:Fun K "total_of" "total_of" gb a fd)(b_sum:mg "sum" = none):FnOk P w K mg base CX0 1 a fd ["row"] (spF K tF false):=by
  refine bh (np:=1) (n:=1) (body:=nT) [] [] rfl rfl rfl Fn uD (fun cdv A outer s H E F hn hr=>?_)
  have sc:=uD
  exact (aP (bn (O':=[]) (j7 rfl b_sum (ag (ab 0) aq))))
theorem GK{a:Addr}{fd:FuncData}(Fn:Fun K "total_of" "total_of" gb a fd)(m:mg "total_of" = some (.ref a))(b_sum:mg "sum" = none):Def P w K mg base "total_of" 1 ["row"] eX false :=
  Def.sc ⟨a,fd,GJ Fn b_sum,m,Fn.kp,Fn.binds fun _ _ _ _ _ _ us hl=>match us,hl with | [_],_=>rfl⟩
abbrev fj:Stmt:=top 20
theorem uE:FnScope ["row","classes"] ["row","classes"] (ai fj):=⟨rfl,rfl,rfl,by decide +kernel,rfl,by decide +kernel,by decide +kernel⟩
theorem GL{a:Addr}{fd:FuncData}(Fn:Fun K "is_row" "is_row" fj a fd)(b_all:mg "all" = none)(b_len:mg "len" = none){t_MOST_WEIGHT:Tok}(c_MOST_WEIGHT:mg "MOST_WEIGHT" = some (.int 1000 t_MOST_WEIGHT))(d_is_within:Def P w K mg base "is_within" 1 ["number","least","most"] ca false)(d_total_of:Def P w K mg base "total_of" 1 ["row"] eX false):FnOk P w K mg base CX0 2 a fd ["row","classes"] (spF K tG false):=by
  refine bh (np:=2) (n:=2) (body:=nU) [] [] rfl rfl rfl Fn uE (fun cdv A outer s H E F hn hr=>?_)
  have sc:=uE
  exact (aS (j9 (O':=[]) (kN hr (cN b_len (ag (ab 0) aq)) (bz (ab 1) ah)) (aP (bn (O':=[]) eP)) j8) (aP (bn (O':=[]) (cC (n3 rfl b_all (ag (bx (cP (own:=["weight"]) (caps:=[]) (cn:=[]) ⟨rfl,by decide +kernel,by decide +kernel,cm (ai fj) rfl (by decide +kernel),by first | rfl | decide +kernel,by decide +kernel,by decide +kernel⟩ rfl (i7 (aA 0)) (fun _ _ _ _=>bH (i:=0) (show (["weight"]:List Str).Nodup from by decide +kernel) rfl (Or.inl rfl) (.inr rfl)) (dG 0) (by decide) (fun _ _ _ _=>cM) (fun _ _ _ _=>(ba d_is_within hr (ag (ab 0) (ag ah (ag (eQ c_MOST_WEIGHT) aq))))))) aq)) (di (mW (ba d_total_of hr (ag (ab 0) aq)) ah))))))
theorem GM{a:Addr}{fd:FuncData}(Fn:Fun K "is_row" "is_row" fj a fd)(m:mg "is_row" = some (.ref a))(b_all:mg "all" = none)(b_len:mg "len" = none){t_MOST_WEIGHT:Tok}(c_MOST_WEIGHT:mg "MOST_WEIGHT" = some (.int 1000 t_MOST_WEIGHT))(d_is_within:Def P w K mg base "is_within" 1 ["number","least","most"] ca false)(d_total_of:Def P w K mg base "total_of" 1 ["row"] eX false):Def P w K mg base "is_row" 2 ["row","classes"] jq false :=
  Def.sc ⟨a,fd,GL Fn b_all b_len c_MOST_WEIGHT d_is_within d_total_of,m,Fn.kp,Fn.binds fun _ _ _ _ _ _ us hl=>match us,hl with | [_,_],_=>rfl⟩
abbrev fk:Stmt:=top 19
theorem uF:FnScope ["turns","classes"] ["turns","classes"] (ai fk):=⟨rfl,rfl,rfl,by decide +kernel,rfl,by decide +kernel,by decide +kernel⟩
theorem GN{a:Addr}{fd:FuncData}(Fn:Fun K "are_turns" "are_turns" fk a fd)(b_all:mg "all" = none)(b_len:mg "len" = none){t_MOST_TURNS:Tok}(c_MOST_TURNS:mg "MOST_TURNS" = some (.int 8 t_MOST_TURNS))(d_is_row:Def P w K mg base "is_row" 2 ["row","classes"] jq false):FnOk P w K mg base CX0 3 a fd ["turns","classes"] (spF K tH false):=by
  refine bh (np:=2) (n:=2) (body:=nV) [] [] rfl rfl rfl Fn uF (fun cdv A outer s H E F hn hr=>?_)
  have sc:=uF
  exact (aP (bn (O':=[]) (cC (rL (cN b_len (ag (ab 0) aq)) (eQ c_MOST_TURNS)) (di (n3 rfl b_all (ag (bx (cP (own:=["row"]) (caps:=[1]) (cn:=["classes"]) ⟨rfl,by decide +kernel,by decide +kernel,cm (ai fk) rfl (by decide +kernel),by first | rfl | decide +kernel,by decide +kernel,by decide +kernel⟩ rfl (i7 (aA 0)) (fun _ _ _ _=>bH (i:=0) (show (["row","classes"]:List Str).Nodup from by decide +kernel) rfl (Or.inl rfl) (.inr rfl)) (dG 0) (by decide) (fun _ _ _ _=>cM) (fun _ _ _ _=>(ba d_is_row hr (ag (ab 0) (ag (ab 1) aq)))))) aq))))))
theorem GO{a:Addr}{fd:FuncData}(Fn:Fun K "are_turns" "are_turns" fk a fd)(m:mg "are_turns" = some (.ref a))(b_all:mg "all" = none)(b_len:mg "len" = none){t_MOST_TURNS:Tok}(c_MOST_TURNS:mg "MOST_TURNS" = some (.int 8 t_MOST_TURNS))(d_is_row:Def P w K mg base "is_row" 2 ["row","classes"] jq false):Def P w K mg base "are_turns" 3 ["turns","classes"] jr false :=
  Def.sc ⟨a,fd,GN Fn b_all b_len c_MOST_TURNS d_is_row,m,Fn.kp,Fn.binds fun _ _ _ _ _ _ us hl=>match us,hl with | [_,_],_=>rfl⟩
abbrev gc:Stmt:=top 17
theorem uG:FnScope ["seats","fares","turns"] ["seats","fares","turns"] (ai gc):=⟨rfl,rfl,rfl,by decide +kernel,rfl,by decide +kernel,by decide +kernel⟩
theorem GP{a:Addr}{fd:FuncData}(Fn:Fun K "is_sale" "is_sale" gc a fd)(b_len:mg "len" = none){t_MOST_SEATS:Tok}(c_MOST_SEATS:mg "MOST_SEATS" = some (.int 10 t_MOST_SEATS))(d_is_within:Def P w K mg base "is_within" 3 ["number","least","most"] ca false)(d_are_fares:Def P w K mg base "are_fares" 3 ["fares"] jp false)(d_are_turns:Def P w K mg base "are_turns" 3 ["turns","classes"] jr false):FnOk P w K mg base CX0 4 a fd ["seats","fares","turns"] (spF K tI false):=by
  refine bh (np:=3) (n:=3) (body:=nW) [] [] rfl rfl rfl Fn uG (fun cdv A outer s H E F hn hr=>?_)
  have sc:=uG
  exact (aP (bn (O':=[]) (cC (ba d_is_within hr (ag (ab 0) (ag ah (ag (eQ c_MOST_SEATS) aq)))) (cC (ba d_are_fares hr (ag (ab 1) aq)) (di (ba d_are_turns hr (ag (ab 2) (ag (cN b_len (ag (ab 1) aq)) aq))))))))
theorem GQ{a:Addr}{fd:FuncData}(Fn:Fun K "is_sale" "is_sale" gc a fd)(m:mg "is_sale" = some (.ref a))(b_len:mg "len" = none){t_MOST_SEATS:Tok}(c_MOST_SEATS:mg "MOST_SEATS" = some (.int 10 t_MOST_SEATS))(d_is_within:Def P w K mg base "is_within" 3 ["number","least","most"] ca false)(d_are_fares:Def P w K mg base "are_fares" 3 ["fares"] jp false)(d_are_turns:Def P w K mg base "are_turns" 3 ["turns","classes"] jr false):Def P w K mg base "is_sale" 4 ["seats","fares","turns"] ln false :=
  Def.sc ⟨a,fd,GP Fn b_len c_MOST_SEATS d_is_within d_are_fares d_are_turns,m,Fn.kp,Fn.binds fun _ _ _ _ _ _ us hl=>match us,hl with | [_,_,_],_=>rfl⟩
abbrev gd:Stmt:=top 22
theorem uH:FnScope ["turns","last","scales","row"] ["turns","last"] (ai gd):=⟨rfl,rfl,rfl,by decide +kernel,rfl,by decide +kernel,by decide +kernel⟩
theorem GR{a:Addr}{fd:FuncData}(Fn:Fun K "scales_of" "scales_of" gd a fd)(b_list:mg "list" = none)(b_reversed:mg "reversed" = none)(d_total_of:Def P w K mg base "total_of" 1 ["row"] eX false):FnOk P w K mg base CX0 2 a fd ["turns","last"] (spF K tJ true):=by
  refine bh (np:=2) (n:=4) (body:=nX) [] [] rfl rfl rfl Fn uH (fun cdv A outer s H E F hn hr=>?_)
  have sc:=uH
  exact (aS (cO 2 sc.nd (cD (ag (ab 1) aq)) (by rw[hn];decide)) (aS (rZ 3 [2] sc.nd rfl b_reversed (ab 0) (aP (rS 2 (bA (aL (aA 2) (fP ah) (fun _ _=>rfl)) (ba d_total_of hr (ag (ab 3) aq)))))) (aP (kK (O':=[]) (By b_list b_reversed (aA 2))))))
theorem GS{a:Addr}{fd:FuncData}(Fn:Fun K "scales_of" "scales_of" gd a fd)(m:mg "scales_of" = some (.ref a))(b_list:mg "list" = none)(b_reversed:mg "reversed" = none)(d_total_of:Def P w K mg base "total_of" 1 ["row"] eX false):Def P w K mg base "scales_of" 2 ["turns","last"] fY true :=
  ⟨a,fd,GR Fn b_list b_reversed d_total_of,m,Fn.kp,Fn.binds fun _ _ _ _ _ _ us hl=>match us,hl with | [_,_],_=>rfl⟩
abbrev fm:Stmt:=top 27
theorem uI:FnScope ["row","classes","kept"] ["row","classes","kept"] (ai fm):=⟨rfl,rfl,rfl,by decide +kernel,rfl,by decide +kernel,by decide +kernel⟩
theorem GT{a:Addr}{fd:FuncData}(Fn:Fun K "weighed" "weighed" fm a fd)(b_sum:mg "sum" = none)(b_zip:mg "zip" = none):FnOk P w K mg base CX0 1 a fd ["row","classes","kept"] (spF K tK false):=by
  refine bh (np:=3) (n:=3) (body:=nY) [] [] rfl rfl rfl Fn uI (fun cdv A outer s H E F hn hr=>?_)
  have sc:=uI
  exact (aP (bn (O':=[]) (j7 rfl b_sum (ag (bx (cP (own:=["weight","worth"]) (caps:=[]) (cn:=[]) ⟨rfl,by decide +kernel,by decide +kernel,cm (ai fm) rfl (by decide +kernel),by first | rfl | decide +kernel,by decide +kernel,by decide +kernel⟩ rfl (rY b_zip (aA 0) (cG (bx (i6 (aA 1) (cG (bx (cD (ag (ab 2) aq)))))))) (fun _ _ _ _=>fw rfl (Tgs.ok (is:=[0,1]) (show (["weight","worth"]:List Str).Nodup from by decide +kernel) (.cons (i:=0) rfl (Or.inl rfl) (.inr rfl) (.cons (i:=1) rfl (Or.inl rfl) (.inr rfl) Tgs.nil rfl) rfl))) (mG [0,1]) (by decide) (fun _ _ _ _=>cM) (fun _ _ _ _=>(bA (ab 0) (ab 1))))) aq))))
theorem GU{a:Addr}{fd:FuncData}(Fn:Fun K "weighed" "weighed" fm a fd)(m:mg "weighed" = some (.ref a))(b_sum:mg "sum" = none)(b_zip:mg "zip" = none):Def P w K mg base "weighed" 1 ["row","classes","kept"] js false :=
  Def.sc ⟨a,fd,GT Fn b_sum b_zip,m,Fn.kp,Fn.binds fun _ _ _ _ _ _ us hl=>match us,hl with | [_,_,_],_=>rfl⟩
abbrev ge:Stmt:=top 29
theorem uJ:FnScope ["fare","scale","behind","s"] ["fare","scale","behind","s"] (ai ge):=⟨rfl,rfl,rfl,by decide +kernel,rfl,by decide +kernel,by decide +kernel⟩
theorem GV{a:Addr}{fd:FuncData}(Fn:Fun K "sold_worth" "sold_worth" ge a fd):FnOk P w K mg base CX0 1 a fd ["fare","scale","behind","s"] (spF K tL false):=by
  refine bh (np:=4) (n:=4) (body:=nZ) [] [] rfl rfl rfl Fn uJ (fun cdv A outer s H E F hn hr=>?_)
  have sc:=uJ
  exact (aP (bn (O':=[]) (bz (bA (ab 0) (ab 1)) (aL (aA 2) (cq (ab 3) ah) (fun _ _=>rfl)))))
theorem GW{a:Addr}{fd:FuncData}(Fn:Fun K "sold_worth" "sold_worth" ge a fd)(m:mg "sold_worth" = some (.ref a)):Def P w K mg base "sold_worth" 1 ["fare","scale","behind","s"] eY false :=
  Def.sc ⟨a,fd,GV Fn , m,Fn.kp,Fn.binds fun _ _ _ _ _ _ us hl=>match us,hl with | [_,_,_,_],_=>rfl⟩
abbrev gf:Stmt:=top 28
theorem uK:FnScope ["fare","scale","behind","s"] ["fare","scale","behind","s"] (ai gf):=⟨rfl,rfl,rfl,by decide +kernel,rfl,by decide +kernel,by decide +kernel⟩
theorem GX{a:Addr}{fd:FuncData}(Fn:Fun K "class_worth" "class_worth" gf a fd)(b_max:mg "max" = none)(d_sold_worth:Def P w K mg base "sold_worth" 1 ["fare","scale","behind","s"] eY false):FnOk P w K mg base CX0 2 a fd ["fare","scale","behind","s"] (spF K tM false):=by
  refine bh (np:=4) (n:=4) (body:=o0) [] [] rfl rfl rfl Fn uK (fun cdv A outer s H E F hn hr=>?_)
  have sc:=uK
  exact (aS (j9 (O':=[]) (kM hr (ab 3) ah) (aP (bn (O':=[]) (aL (aA 2) (ab 3) (fun _ _=>rfl)))) j8) (aP (bn (O':=[]) (kJ rfl b_max (ag (aL (aA 2) (ab 3) (fun _ _=>rfl)) (ag (ba d_sold_worth hr (ag (ab 0) (ag (ab 1) (ag (ab 2) (ag (ab 3) aq))))) aq))))))
theorem GY{a:Addr}{fd:FuncData}(Fn:Fun K "class_worth" "class_worth" gf a fd)(m:mg "class_worth" = some (.ref a))(b_max:mg "max" = none)(d_sold_worth:Def P w K mg base "sold_worth" 1 ["fare","scale","behind","s"] eY false):Def P w K mg base "class_worth" 2 ["fare","scale","behind","s"] jt false :=
  Def.sc ⟨a,fd,GX Fn b_max d_sold_worth,m,Fn.kp,Fn.binds fun _ _ _ _ _ _ us hl=>match us,hl with | [_,_,_,_],_=>rfl⟩
abbrev fo:Stmt:=top 26
theorem uL:FnScope ["fares","row","scale","behind","s"] ["fares","row","scale","behind","s"] (ai fo):=⟨rfl,rfl,rfl,by decide +kernel,rfl,by decide +kernel,by decide +kernel⟩
theorem GZ{a:Addr}{fd:FuncData}(Fn:Fun K "stand_worth" "stand_worth" fo a fd)(d_weighed:Def P w K mg base "weighed" 2 ["row","classes","kept"] js false)(d_class_worth:Def P w K mg base "class_worth" 2 ["fare","scale","behind","s"] jt false):FnOk P w K mg base CX0 3 a fd ["fares","row","scale","behind","s"] (spF K tN false):=by
  refine bh (np:=5) (n:=5) (body:=o3) [] [] rfl rfl rfl Fn uL (fun cdv A outer s H E F hn hr=>?_)
  have sc:=uL
  exact (aP (bn (O':=[]) (ba d_weighed hr (ag (ab 1) (ag (bx (cP (own:=["fare"]) (caps:=[2,3,4]) (cn:=["scale","behind","s"]) ⟨rfl,by decide +kernel,by decide +kernel,cm (ai fo) rfl (by decide +kernel),by first | rfl | decide +kernel,by decide +kernel,by decide +kernel⟩ rfl (i7 (aA 0)) (fun _ _ _ _=>bH (i:=0) (show (["fare","scale","behind","s"]:List Str).Nodup from by decide +kernel) rfl (Or.inl rfl) (.inr rfl)) (dG 0) (by decide) (fun _ _ _ _=>cM) (fun _ _ _ _=>(ba d_class_worth hr (ag (ab 0) (ag (ab 1) (ag (ab 2) (ag (ab 3) aq)))))))) (ag (aL (aA 3) (ab 4) (fun _ _=>rfl)) aq))))))
theorem Ha{a:Addr}{fd:FuncData}(Fn:Fun K "stand_worth" "stand_worth" fo a fd)(m:mg "stand_worth" = some (.ref a))(d_weighed:Def P w K mg base "weighed" 2 ["row","classes","kept"] js false)(d_class_worth:Def P w K mg base "class_worth" 2 ["fare","scale","behind","s"] jt false):Def P w K mg base "stand_worth" 3 ["fares","row","scale","behind","s"] ju false :=
  Def.sc ⟨a,fd,GZ Fn d_weighed d_class_worth,m,Fn.kp,Fn.binds fun _ _ _ _ _ _ us hl=>match us,hl with | [_,_,_,_,_],_=>rfl⟩
abbrev fq:Stmt:=top 25
theorem uM:FnScope ["fares","row","scale","behind"] ["fares","row","scale","behind"] (ai fq):=⟨rfl,rfl,rfl,by decide +kernel,rfl,by decide +kernel,by decide +kernel⟩
theorem Hb{a:Addr}{fd:FuncData}(Fn:Fun K "row_worths" "row_worths" fq a fd)(b_len:mg "len" = none)(b_range:mg "range" = none)(d_stand_worth:Def P w K mg base "stand_worth" 3 ["fares","row","scale","behind","s"] ju false):FnOk P w K mg base CX0 4 a fd ["fares","row","scale","behind"] (spF K tO true):=by
  refine bh (np:=4) (n:=4) (body:=o7) [] [] rfl rfl rfl Fn uM (fun cdv A outer s H E F hn hr=>?_)
  have sc:=uM
  exact (aP (kK (O':=[]) (cP (own:=["s"]) (caps:=[0,1,2,3]) (cn:=["fares","row","scale","behind"]) ⟨rfl,by decide +kernel,by decide +kernel,cm (ai fq) rfl (by decide +kernel),by first | rfl | decide +kernel,by decide +kernel,by decide +kernel⟩ rfl (kL b_range (ag (cN b_len (ag (ab 3) aq)) aq)) (fun _ _ _ _=>bH (i:=0) (show (["s","fares","row","scale","behind"]:List Str).Nodup from by decide +kernel) rfl (Or.inl rfl) (.inr rfl)) (dG 0) (by decide) (fun _ _ _ _=>cM) (fun _ _ _ _=>(ba d_stand_worth hr (ag (ab 1) (ag (ab 2) (ag (ab 3) (ag (ab 4) (ag (ab 0) aq))))))))))
theorem Hc{a:Addr}{fd:FuncData}(Fn:Fun K "row_worths" "row_worths" fq a fd)(m:mg "row_worths" = some (.ref a))(b_len:mg "len" = none)(b_range:mg "range" = none)(d_stand_worth:Def P w K mg base "stand_worth" 3 ["fares","row","scale","behind","s"] ju false):Def P w K mg base "row_worths" 4 ["fares","row","scale","behind"] jv true :=
  ⟨a,fd,Hb Fn b_len b_range d_stand_worth,m,Fn.kp,Fn.binds fun _ _ _ _ _ _ us hl=>match us,hl with | [_,_,_,_],_=>rfl⟩
abbrev gg:Stmt:=top 24
theorem uN:FnScope ["fares","turns","last","ends","scales","table","t"] ["fares","turns","last","ends"] (ai gg):=⟨rfl,rfl,rfl,by decide +kernel,rfl,by decide +kernel,by decide +kernel⟩
theorem He{a:Addr}{fd:FuncData}(Fn:Fun K "worths_of" "worths_of" gg a fd)(b_len:mg "len" = none)(b_list:mg "list" = none)(b_range:mg "range" = none)(b_reversed:mg "reversed" = none)(d_scales_of:Def P w K mg base "scales_of" 4 ["turns","last"] fY true)(d_row_worths:Def P w K mg base "row_worths" 4 ["fares","row","scale","behind"] jv true):FnOk P w K mg base CX0 5 a fd ["fares","turns","last","ends"] (spX K tP):=by
  refine BH (np:=4) (n:=7) (body:=o8) [] rfl rfl rfl Fn uN (fun cdv A outer s H E F hn hr=>?_)
  have sc:=uN
  exact (BE (OL:=[]) (fr:=true) (cO 4 sc.nd (fR d_scales_of hr (ag (ab 1) (ag (ab 2) aq))) (by rw[hn];decide)) Ba (BF (O':=[]) 5 sc.nd (mZ b_list (aA 3)) (by rw[hn];decide) (BA (BC 6 sc.nd rfl b_range (ag (cq (cN b_len (ag (ab 1) aq)) ah) (ag (fP ah) (ag (fP ah) aq))) (sd (BB (fR d_row_worths hr (ag (ab 0) (ag (aL (aA 1) (ab 6) (fun _ _=>rfl)) (ag (aL (aA 4) (bz (ab 6) ah) (fun _ _=>rfl)) (ag (aL (aA 5) (fP ah) (fun _ _=>rfl)) aq)))))))) (sd (BD rfl b_list b_reversed))) (B0 Bd)))
theorem Hf{a:Addr}{fd:FuncData}(Fn:Fun K "worths_of" "worths_of" gg a fd)(m:mg "worths_of" = some (.ref a))(b_len:mg "len" = none)(b_list:mg "list" = none)(b_range:mg "range" = none)(b_reversed:mg "reversed" = none)(d_scales_of:Def P w K mg base "scales_of" 4 ["turns","last"] fY true)(d_row_worths:Def P w K mg base "row_worths" 4 ["fares","row","scale","behind"] jv true):DefX P w K mg base "worths_of" 5 ["fares","turns","last","ends"] lq :=
  ⟨a,fd,He Fn b_len b_list b_range b_reversed d_scales_of d_row_worths,m,Fn.kp,Fn.binds fun _ _ _ _ _ _ us hl=>match us,hl with | [_,_,_,_],_=>rfl⟩
abbrev gh:Stmt:=top 31
theorem uO:FnScope ["fare","scale","behind","s"] ["fare","scale","behind","s"] (ai gh):=⟨rfl,rfl,rfl,by decide +kernel,rfl,by decide +kernel,by decide +kernel⟩
theorem Hg{a:Addr}{fd:FuncData}(Fn:Fun K "is_taken" "is_taken" gh a fd)(d_sold_worth:Def P w K mg base "sold_worth" 1 ["fare","scale","behind","s"] eY false):FnOk P w K mg base CX0 2 a fd ["fare","scale","behind","s"] (spF K tQ false):=by
  refine bh (np:=4) (n:=4) (body:=o9) [] [] rfl rfl rfl Fn uO (fun cdv A outer s H E F hn hr=>?_)
  have sc:=uO
  exact (aP (bn (O':=[]) (cC (mW (ab 3) ah) (di (rM (ba d_sold_worth hr (ag (ab 0) (ag (ab 1) (ag (ab 2) (ag (ab 3) aq))))) (aL (aA 2) (ab 3) (fun _ _=>rfl)))))))
theorem Hh{a:Addr}{fd:FuncData}(Fn:Fun K "is_taken" "is_taken" gh a fd)(m:mg "is_taken" = some (.ref a))(d_sold_worth:Def P w K mg base "sold_worth" 1 ["fare","scale","behind","s"] eY false):Def P w K mg base "is_taken" 2 ["fare","scale","behind","s"] lr false :=
  Def.sc ⟨a,fd,Hg Fn d_sold_worth,m,Fn.kp,Fn.binds fun _ _ _ _ _ _ us hl=>match us,hl with | [_,_,_,_],_=>rfl⟩
abbrev gi:Stmt:=top 32
theorem uP:FnScope ["scale","behind","s"] ["scale","behind","s"] (ai gi):=⟨rfl,rfl,rfl,by decide +kernel,rfl,by decide +kernel,by decide +kernel⟩
theorem Hi{a:Addr}{fd:FuncData}(Fn:Fun K "least_fare" "least_fare" gi a fd):FnOk P w K mg base CX0 1 a fd ["scale","behind","s"] (spF K tR false):=by
  refine bh (np:=3) (n:=3) (body:=oa) [] [] rfl rfl rfl Fn uP (fun cdv A outer s H E F hn hr=>?_)
  have sc:=uP
  exact (aP (bn (O':=[]) (fP (mU (cq (aL (aA 1) (cq (ab 2) ah) (fun _ _=>rfl)) (aL (aA 1) (ab 2) (fun _ _=>rfl))) (ab 0)))))
theorem Hj{a:Addr}{fd:FuncData}(Fn:Fun K "least_fare" "least_fare" gi a fd)(m:mg "least_fare" = some (.ref a)):Def P w K mg base "least_fare" 1 ["scale","behind","s"] ls false :=
  Def.sc ⟨a,fd,Hi Fn , m,Fn.kp,Fn.binds fun _ _ _ _ _ _ us hl=>match us,hl with | [_,_,_],_=>rfl⟩
abbrev gj:Stmt:=top 37
theorem uQ:FnScope ["rule","room","came","of","due","chances_hold"] ["rule"] (ai gj):=⟨rfl,rfl,rfl,by decide +kernel,rfl,by decide +kernel,by decide +kernel⟩
theorem Hk{a:Addr}{fd:FuncData}(Fn:Fun K "is_rule" "is_rule" gj a fd){t_MOST_DUE:Tok}(c_MOST_DUE:mg "MOST_DUE" = some (.int 1000000 t_MOST_DUE)){t_MOST_OF:Tok}(c_MOST_OF:mg "MOST_OF" = some (.int 1000 t_MOST_OF)){t_MOST_ROOM:Tok}(c_MOST_ROOM:mg "MOST_ROOM" = some (.int 10 t_MOST_ROOM))(d_is_within:Def P w K mg base "is_within" 1 ["number","least","most"] ca false):FnOk P w K mg base CX0 2 a fd ["rule"] (spF K tS false):=by
  refine bh (np:=1) (n:=6) (body:=oe) [] [] rfl rfl rfl Fn uQ (fun cdv A outer s H E F hn hr=>?_)
  have sc:=uQ
  exact (aS (cb 1 sc.nd (aL (aA 0) ah (fun _ _=>rfl))) (aS (cb 2 sc.nd (aL (aA 0) ah (fun _ _=>rfl))) (aS (cb 3 sc.nd (aL (aA 0) ah (fun _ _=>rfl))) (aS (cb 4 sc.nd (aL (aA 0) ah (fun _ _=>rfl))) (aS (cb 5 sc.nd (cC (ba d_is_within hr (ag (ab 3) (ag ah (ag (eQ c_MOST_OF) aq)))) (di (ba d_is_within hr (ag (ab 2) (ag ah (ag (ab 3) aq))))))) (aP (bn (O':=[]) (cC (ba d_is_within hr (ag (ab 1) (ag ah (ag (eQ c_MOST_ROOM) aq)))) (cC (ab 5) (di (ba d_is_within hr (ag (ab 4) (ag ah (ag (eQ c_MOST_DUE) aq))))))))))))))
theorem Hl{a:Addr}{fd:FuncData}(Fn:Fun K "is_rule" "is_rule" gj a fd)(m:mg "is_rule" = some (.ref a)){t_MOST_DUE:Tok}(c_MOST_DUE:mg "MOST_DUE" = some (.int 1000000 t_MOST_DUE)){t_MOST_OF:Tok}(c_MOST_OF:mg "MOST_OF" = some (.int 1000 t_MOST_OF)){t_MOST_ROOM:Tok}(c_MOST_ROOM:mg "MOST_ROOM" = some (.int 10 t_MOST_ROOM))(d_is_within:Def P w K mg base "is_within" 1 ["number","least","most"] ca false):Def P w K mg base "is_rule" 2 ["rule"] lu false :=
  Def.sc ⟨a,fd,Hk Fn c_MOST_DUE c_MOST_OF c_MOST_ROOM d_is_within,m,Fn.kp,Fn.binds fun _ _ _ _ _ _ us hl=>match us,hl with | [_],_=>rfl⟩
abbrev dO:Stmt:=top 39
theorem uR:FnScope ["shows","came","stayed","without","along"] ["shows","came","stayed"] (ai dO):=⟨rfl,rfl,rfl,by decide +kernel,rfl,by decide +kernel,by decide +kernel⟩
theorem Hm{a:Addr}{fd:FuncData}(Fn:Fun K "with_one_more" "with_one_more" dO a fd)(b_zip:mg "zip" = none):FnOk P w K mg base CX0 1 a fd ["shows","came","stayed"] (spF K tT true):=by
  refine bh (np:=3) (n:=5) (body:=og) [] [] rfl rfl rfl Fn uR (fun cdv A outer s H E F hn hr=>?_)
  have sc:=uR
  exact (aS (cO 3 sc.nd (i6 (cG (bx (cP (own:=["weight"]) (caps:=[2]) (cn:=["stayed"]) ⟨rfl,by decide +kernel,by decide +kernel,cm (ai dO) rfl (by decide +kernel),by first | rfl | decide +kernel,by decide +kernel,by decide +kernel⟩ rfl (i7 (aA 0)) (fun _ _ _ _=>bH (i:=0) (show (["weight","stayed"]:List Str).Nodup from by decide +kernel) rfl (Or.inl rfl) (.inr rfl)) (dG 0) (by decide) (fun _ _ _ _=>cM) (fun _ _ _ _=>(bA (ab 0) (ab 1)))))) (cG (bx (cD (ag ah aq))))) (by rw[hn];decide)) (aS (cO 4 sc.nd (i6 (cG (bx (cD (ag ah aq)))) (cG (bx (cP (own:=["weight"]) (caps:=[1]) (cn:=["came"]) ⟨rfl,by decide +kernel,by decide +kernel,cm (ai dO) rfl (by decide +kernel),by first | rfl | decide +kernel,by decide +kernel,by decide +kernel⟩ rfl (i7 (aA 0)) (fun _ _ _ _=>bH (i:=0) (show (["weight","came"]:List Str).Nodup from by decide +kernel) rfl (Or.inl rfl) (.inr rfl)) (dG 0) (by decide) (fun _ _ _ _=>cM) (fun _ _ _ _=>(bA (ab 0) (ab 1))))))) (by rw[hn];decide)) (aP (kK (O':=[]) (cP (own:=["one","other"]) (caps:=[]) (cn:=[]) ⟨rfl,by decide +kernel,by decide +kernel,cm (ai dO) rfl (by decide +kernel),by first | rfl | decide +kernel,by decide +kernel,by decide +kernel⟩ rfl (rY b_zip (aA 3) (aA 4)) (fun _ _ _ _=>fw rfl (Tgs.ok (is:=[0,1]) (show (["one","other"]:List Str).Nodup from by decide +kernel) (.cons (i:=0) rfl (Or.inl rfl) (.inr rfl) (.cons (i:=1) rfl (Or.inl rfl) (.inr rfl) Tgs.nil rfl) rfl))) (mG [0,1]) (by decide) (fun _ _ _ _=>cM) (fun _ _ _ _=>(bz (ab 0) (ab 1))))))))
theorem Hn{a:Addr}{fd:FuncData}(Fn:Fun K "with_one_more" "with_one_more" dO a fd)(m:mg "with_one_more" = some (.ref a))(b_zip:mg "zip" = none):Def P w K mg base "with_one_more" 1 ["shows","came","stayed"] jw true :=
  ⟨a,fd,Hm Fn b_zip,m,Fn.kp,Fn.binds fun _ _ _ _ _ _ us hl=>match us,hl with | [_,_,_],_=>rfl⟩
abbrev gk:Stmt:=top 38
theorem uS:FnScope ["sold","came","of","shows","seat"] ["sold","came","of"] (ai gk):=⟨rfl,rfl,rfl,by decide +kernel,rfl,by decide +kernel,by decide +kernel⟩
theorem Ho{a:Addr}{fd:FuncData}(Fn:Fun K "shows_of" "shows_of" gk a fd)(b_range:mg "range" = none)(d_with_one_more:Def P w K mg base "with_one_more" 1 ["shows","came","stayed"] jw true):FnOk P w K mg base CX0 2 a fd ["sold","came","of"] (spF K tU true):=by
  refine bh (np:=3) (n:=5) (body:=oh) [] [] rfl rfl rfl Fn uS (fun cdv A outer s H E F hn hr=>?_)
  have sc:=uS
  exact (aS (cO 3 sc.nd (cD (ag ah aq)) (by rw[hn];decide)) (aS (ja 4 [3] sc.nd rfl b_range (ag (ab 0) aq) (aP (cO 3 sc.nd (fR d_with_one_more hr (ag (ab 3) (ag (ab 1) (ag (cq (ab 2) (ab 1)) aq)))) (by rw[hn];decide)))) (aP (n0 (O':=[]) 3))))
theorem Hq{a:Addr}{fd:FuncData}(Fn:Fun K "shows_of" "shows_of" gk a fd)(m:mg "shows_of" = some (.ref a))(b_range:mg "range" = none)(d_with_one_more:Def P w K mg base "with_one_more" 1 ["shows","came","stayed"] jw true):Def P w K mg base "shows_of" 2 ["sold","came","of"] jx true :=
  ⟨a,fd,Ho Fn b_range d_with_one_more,m,Fn.kp,Fn.binds fun _ _ _ _ _ _ us hl=>match us,hl with | [_,_,_],_=>rfl⟩
abbrev ft:Stmt:=top 42
theorem uT:FnScope ["sold","rule","room","shows"] ["sold","rule"] (ai ft):=⟨rfl,rfl,rfl,by decide +kernel,rfl,by decide +kernel,by decide +kernel⟩
theorem Hr{a:Addr}{fd:FuncData}(Fn:Fun K "beyond_room" "beyond_room" ft a fd)(b_enumerate:mg "enumerate" = none)(b_max:mg "max" = none)(b_sum:mg "sum" = none)(d_shows_of:Def P w K mg base "shows_of" 2 ["sold","came","of"] jx true):FnOk P w K mg base CX0 3 a fd ["sold","rule"] (spF K tV false):=by
  refine bh (np:=2) (n:=4) (body:=oi) [] [] rfl rfl rfl Fn uT (fun cdv A outer s H E F hn hr=>?_)
  have sc:=uT
  exact (aS (cb 2 sc.nd (aL (aA 1) ah (fun _ _=>rfl))) (aS (cO 3 sc.nd (fR d_shows_of hr (ag (ab 0) (ag (aL (aA 1) ah (fun _ _=>rfl)) (ag (aL (aA 1) ah (fun _ _=>rfl)) aq)))) (by rw[hn];decide)) (aP (bn (O':=[]) (j7 rfl b_sum (ag (bx (cP (own:=["many","weight"]) (caps:=[2]) (cn:=["room"]) ⟨rfl,by decide +kernel,by decide +kernel,cm (ai ft) rfl (by decide +kernel),by first | rfl | decide +kernel,by decide +kernel,by decide +kernel⟩ rfl (Bv b_enumerate (aA 3)) (fun _ _ _ _=>fw rfl (Tgs.ok (is:=[0,1]) (show (["many","weight","room"]:List Str).Nodup from by decide +kernel) (.cons (i:=0) rfl (Or.inl rfl) (.inr rfl) (.cons (i:=1) rfl (Or.inl rfl) (.inr rfl) Tgs.nil rfl) rfl))) (mG [0,1]) (by decide) (fun _ _ _ _=>cM) (fun _ _ _ _=>(bA (ab 1) (kJ rfl b_max (ag (cq (ab 0) (ab 2)) (ag ah aq))))))) aq))))))
theorem Hs{a:Addr}{fd:FuncData}(Fn:Fun K "beyond_room" "beyond_room" ft a fd)(m:mg "beyond_room" = some (.ref a))(b_enumerate:mg "enumerate" = none)(b_max:mg "max" = none)(b_sum:mg "sum" = none)(d_shows_of:Def P w K mg base "shows_of" 2 ["sold","came","of"] jx true):Def P w K mg base "beyond_room" 3 ["sold","rule"] jz false :=
  Def.sc ⟨a,fd,Hr Fn b_enumerate b_max b_sum d_shows_of,m,Fn.kp,Fn.binds fun _ _ _ _ _ _ us hl=>match us,hl with | [_,_],_=>rfl⟩
abbrev gm:Stmt:=top 41
theorem uU:FnScope ["sold","left","rule","due"] ["sold","left","rule"] (ai gm):=⟨rfl,rfl,rfl,by decide +kernel,rfl,by decide +kernel,by decide +kernel⟩
theorem Ht{a:Addr}{fd:FuncData}(Fn:Fun K "end_of" "end_of" gm a fd)(d_power:Def P w K mg base "power" 3 ["base","times"] eW false)(d_beyond_room:Def P w K mg base "beyond_room" 3 ["sold","rule"] jz false):FnOk P w K mg base CX0 4 a fd ["sold","left","rule"] (spF K tW false):=by
  refine bh (np:=3) (n:=4) (body:=oj) [] [] rfl rfl rfl Fn uU (fun cdv A outer s H E F hn hr=>?_)
  have sc:=uU
  exact (aS (cb 3 sc.nd (aL (aA 2) ah (fun _ _=>rfl))) (aP (bn (O':=[]) (bA (bA (fP (ab 3)) (ba d_beyond_room hr (ag (ab 0) (ag (ab 2) aq)))) (ba d_power hr (ag (aL (aA 2) ah (fun _ _=>rfl)) (ag (ab 1) aq)))))))
theorem Hu{a:Addr}{fd:FuncData}(Fn:Fun K "end_of" "end_of" gm a fd)(m:mg "end_of" = some (.ref a))(d_power:Def P w K mg base "power" 3 ["base","times"] eW false)(d_beyond_room:Def P w K mg base "beyond_room" 3 ["sold","rule"] jz false):Def P w K mg base "end_of" 4 ["sold","left","rule"] jA false :=
  Def.sc ⟨a,fd,Ht Fn d_power d_beyond_room,m,Fn.kp,Fn.binds fun _ _ _ _ _ _ us hl=>match us,hl with | [_,_,_],_=>rfl⟩
abbrev fu:Stmt:=top 40
theorem uV:FnScope ["seats","rule"] ["seats","rule"] (ai fu):=⟨rfl,rfl,rfl,by decide +kernel,rfl,by decide +kernel,by decide +kernel⟩
theorem Hv{a:Addr}{fd:FuncData}(Fn:Fun K "ends_of" "ends_of" fu a fd)(b_range:mg "range" = none)(d_end_of:Def P w K mg base "end_of" 4 ["sold","left","rule"] jA false):FnOk P w K mg base CX0 5 a fd ["seats","rule"] (spF K tX true):=by
  refine bh (np:=2) (n:=2) (body:=ol) [] [] rfl rfl rfl Fn uV (fun cdv A outer s H E F hn hr=>?_)
  have sc:=uV
  exact (aP (kK (O':=[]) (cP (own:=["left"]) (caps:=[0,1]) (cn:=["seats","rule"]) ⟨rfl,by decide +kernel,by decide +kernel,cm (ai fu) rfl (by decide +kernel),by first | rfl | decide +kernel,by decide +kernel,by decide +kernel⟩ rfl (kL b_range (ag (bz (ab 0) ah) aq)) (fun _ _ _ _=>bH (i:=0) (show (["left","seats","rule"]:List Str).Nodup from by decide +kernel) rfl (Or.inl rfl) (.inr rfl)) (dG 0) (by decide) (fun _ _ _ _=>cM) (fun _ _ _ _=>(ba d_end_of hr (ag (cq (ab 1) (ab 0)) (ag (ab 0) (ag (ab 2) aq))))))))
theorem Hw{a:Addr}{fd:FuncData}(Fn:Fun K "ends_of" "ends_of" fu a fd)(m:mg "ends_of" = some (.ref a))(b_range:mg "range" = none)(d_end_of:Def P w K mg base "end_of" 4 ["sold","left","rule"] jA false):Def P w K mg base "ends_of" 5 ["seats","rule"] lw true :=
  ⟨a,fd,Hv Fn b_range d_end_of,m,Fn.kp,Fn.binds fun _ _ _ _ _ _ us hl=>match us,hl with | [_,_],_=>rfl⟩
abbrev gn:Stmt:=top 43
theorem uW:FnScope ["seats","rule"] ["seats","rule"] (ai gn):=⟨rfl,rfl,rfl,by decide +kernel,rfl,by decide +kernel,by decide +kernel⟩
theorem Hx{a:Addr}{fd:FuncData}(Fn:Fun K "last_scale" "last_scale" gn a fd)(d_power:Def P w K mg base "power" 1 ["base","times"] eW false):FnOk P w K mg base CX0 2 a fd ["seats","rule"] (spF K tY false):=by
  refine bh (np:=2) (n:=2) (body:=om) [] [] rfl rfl rfl Fn uW (fun cdv A outer s H E F hn hr=>?_)
  have sc:=uW
  exact (aP (bn (O':=[]) (ba d_power hr (ag (aL (aA 1) ah (fun _ _=>rfl)) (ag (ab 0) aq)))))
theorem Hy{a:Addr}{fd:FuncData}(Fn:Fun K "last_scale" "last_scale" gn a fd)(m:mg "last_scale" = some (.ref a))(d_power:Def P w K mg base "power" 1 ["base","times"] eW false):Def P w K mg base "last_scale" 2 ["seats","rule"] lz false :=
  Def.sc ⟨a,fd,Hx Fn d_power,m,Fn.kp,Fn.binds fun _ _ _ _ _ _ us hl=>match us,hl with | [_,_],_=>rfl⟩
abbrev gp:Stmt:=top 47
theorem uX:FnScope ["script","k","cell"] ["script","k"] (ai gp):=⟨rfl,rfl,rfl,by decide +kernel,rfl,by decide +kernel,by decide +kernel⟩
theorem Hz{a:Addr}{fd:FuncData}(Fn:Fun K "_law_nth" "_law_nth" gp a fd):FnOk P w K mg base CX0 1 a fd ["script","k"] (spF K tZ false):=by
  refine bh (np:=2) (n:=3) (body:=on) [] [] rfl rfl rfl Fn uX (fun cdv A outer s H E F hn hr=>?_)
  have sc:=uX
  exact (aS (Bq 2 [] sc.nd rfl (bx (Bo (aA 0) (mY (ab 1)) (mY (bz (ab 1) ah)))) (aP (bn (O':=[]) (ab 2)))) (aP (bn (O':=[]) ah)))
theorem HA{a:Addr}{fd:FuncData}(Fn:Fun K "_law_nth" "_law_nth" gp a fd)(m:mg "_law_nth" = some (.ref a)):Def P w K mg base "_law_nth" 1 ["script","k"] jB false :=
  Def.sc ⟨a,fd,Hz Fn , m,Fn.kp,Fn.binds fun _ _ _ _ _ _ us hl=>match us,hl with | [_,_],_=>rfl⟩
abbrev eD:Stmt:=top 54
theorem uY:FnScope ["seats","rule","room","came","of","due","ends","shows","power_v","sold","lost","left"] ["seats","rule"] (ai eD):=⟨rfl,rfl,rfl,by decide +kernel,rfl,by decide +kernel,by decide +kernel⟩
theorem HB{a:Addr}{fd:FuncData}(Fn:Fun K "_law_ends" "_law_ends" eD a fd)(b_max:mg "max" = none)(b_range:mg "range" = none)(b_sum:mg "sum" = none):FnOk P w K mg base CX0 1 a fd ["seats","rule"] (spF K u0 true):=by
  refine bh (np:=2) (n:=12) (body:=oo) [] [] rfl rfl rfl Fn uY (fun cdv A outer s H E F hn hr=>?_)
  have sc:=uY
  exact (aS (rT (O':=[]) [2,3,4,5] rfl sc.nd (ab 1) (.cons (i:=2) rfl (by first | exact Or.inl rfl | exact Or.inr rfl) (.inl rfl) (.cons (i:=3) rfl (by first | exact Or.inl rfl | exact Or.inr rfl) (.inl rfl) (.cons (i:=4) rfl (by first | exact Or.inl rfl | exact Or.inr rfl) (.inl rfl) (.cons (i:=5) rfl (by first | exact Or.inl rfl | exact Or.inr rfl) (.inl rfl) Tgs.nil rfl) rfl) rfl) rfl) (by decide) (by decide)) (aS (cO 6 sc.nd (cD aq) (by rw[hn];decide)) (aS (cO 7 sc.nd (cD (ag ah aq)) (by rw[hn];decide)) (aS (cb 8 sc.nd ah) (aS (ja 9 [7,6] sc.nd rfl b_range (ag (bz (ab 0) ah) aq) (aS (cb 10 sc.nd (j7 rfl b_sum (ag (bx (cP (own:=["number"]) (caps:=[2,7]) (cn:=["room","shows"]) ⟨rfl,by decide +kernel,by decide +kernel,cm (ai eD) rfl (by decide +kernel),by first | rfl | decide +kernel,by decide +kernel,by decide +kernel⟩ rfl (kL b_range (ag (bz (ab 9) ah) aq)) (fun _ _ _ _=>bH (i:=0) (show (["number","room","shows"]:List Str).Nodup from by decide +kernel) rfl (Or.inl rfl) (.inr rfl)) (dG 0) (by decide) (fun _ _ _ _=>cM) (fun _ _ _ _=>(bA (aL (aA 2) (ab 0) (fun _ _=>rfl)) (kJ rfl b_max (ag ah (ag (cq (ab 0) (ab 1)) aq))))))) aq))) (aS (n4 6 ah (cq ah (bA (ab 5) (ab 10)))) (aP (cO 7 sc.nd (cP (own:=["j"]) (caps:=[3,4,7]) (cn:=["came","of","shows"]) ⟨rfl,by decide +kernel,by decide +kernel,cm (ai eD) rfl (by decide +kernel),by first | rfl | decide +kernel,by decide +kernel,by decide +kernel⟩ rfl (kL b_range (ag (bz (ab 9) ah) aq)) (fun _ _ _ _=>bH (i:=0) (show (["j","came","of","shows"]:List Str).Nodup from by decide +kernel) rfl (Or.inl rfl) (.inr rfl)) (dG 0) (by decide) (fun _ _ _ _=>cM) (fun _ _ _ _=>(bz (bA (aL (cG (bx (i6 (aA 3) (cG (bx (cD (ag ah aq))))))) (ab 0) (fun _ _=>rfl)) (cq (ab 2) (ab 1))) (bA (aL (cG (bx (i6 (cG (bx (cD (ag ah aq)))) (aA 3)))) (ab 0) (fun _ _=>rfl)) (ab 1))))) (by rw[hn];decide)))))) (aS (ja 11 [7,6] sc.nd rfl b_range (ag (bz (ab 0) ah) aq) (aS (Bp 6 (bA (aL (aA 6) (ab 11) (fun _ _=>rfl)) (ab 8)) (ab 11)) (aP (cb 8 sc.nd (bA (ab 8) (ab 4)))))) (aP (n0 (O':=[]) 6))))))))
theorem HC{a:Addr}{fd:FuncData}(Fn:Fun K "_law_ends" "_law_ends" eD a fd)(m:mg "_law_ends" = some (.ref a))(b_max:mg "max" = none)(b_range:mg "range" = none)(b_sum:mg "sum" = none):Def P w K mg base "_law_ends" 1 ["seats","rule"] jC true :=
  ⟨a,fd,HB Fn b_max b_range b_sum,m,Fn.kp,Fn.binds fun _ _ _ _ _ _ us hl=>match us,hl with | [_,_],_=>rfl⟩
abbrev gq:Stmt:=top 55
theorem uZ:FnScope ["seats","rule","last","seat"] ["seats","rule"] (ai gq):=⟨rfl,rfl,rfl,by decide +kernel,rfl,by decide +kernel,by decide +kernel⟩
theorem HD{a:Addr}{fd:FuncData}(Fn:Fun K "_law_last" "_law_last" gq a fd)(b_range:mg "range" = none):FnOk P w K mg base CX0 1 a fd ["seats","rule"] (spF K u1 false):=by
  refine bh (np:=2) (n:=4) (body:=oq) [] [] rfl rfl rfl Fn uZ (fun cdv A outer s H E F hn hr=>?_)
  have sc:=uZ
  exact (aS (cb 2 sc.nd ah) (aS (ja 3 [] sc.nd rfl b_range (ag (ab 0) aq) (aP (cb 2 sc.nd (bA (ab 2) (aL (aA 1) ah (fun _ _=>rfl)))))) (aP (bn (O':=[]) (ab 2)))))
theorem HE{a:Addr}{fd:FuncData}(Fn:Fun K "_law_last" "_law_last" gq a fd)(m:mg "_law_last" = some (.ref a))(b_range:mg "range" = none):Def P w K mg base "_law_last" 1 ["seats","rule"] jD false :=
  Def.sc ⟨a,fd,HD Fn b_range,m,Fn.kp,Fn.binds fun _ _ _ _ _ _ us hl=>match us,hl with | [_,_],_=>rfl⟩
abbrev gr:Stmt:=top 56
theorem v4:FnScope ["fares","row","scale","behind","found","s","stay","total","fare","weight","best"] ["fares","row","scale","behind"] (ai gr):=⟨rfl,rfl,rfl,by decide +kernel,rfl,by decide +kernel,by decide +kernel⟩
theorem HF{a:Addr}{fd:FuncData}(Fn:Fun K "_law_list" "_law_list" gr a fd)(b_enumerate:mg "enumerate" = none)(b_max:mg "max" = none)(b_zip:mg "zip" = none):FnOk P w K mg base CX0 1 a fd ["fares","row","scale","behind"] (spF K u2 true):=by
  refine bh (np:=4) (n:=11) (body:=ot) [] [] rfl rfl rfl Fn v4 (fun cdv A outer s H E F hn hr=>?_)
  have sc:=v4
  exact (aS (cO 4 sc.nd (cD aq) (by rw[hn];decide)) (aS (Bw 5 6 [4] sc.nd rfl b_enumerate (ab 3) (aS (cb 7 sc.nd (bA (aL (aA 1) (fP ah) (fun _ _=>rfl)) (ab 6))) (aS (Bx 8 9 [4] sc.nd rfl b_zip (ab 0) (ab 1) (aS (cb 10 sc.nd (ab 6)) (aS (j9 (O':=[4]) (rN (ab 5) ah) (aP (cb 10 sc.nd (kJ rfl b_max (ag (ab 6) (ag (bz (bA (ab 8) (ab 2)) (aL (aA 3) (cq (ab 5) ah) (fun _ _=>rfl))) aq))))) j8) (aP (cb 7 sc.nd (bz (ab 7) (bA (ab 9) (ab 10))))))) (.cons (i:=8) rfl (by first | exact Or.inl rfl | exact Or.inr rfl) (by first | exact .inl rfl | exact .inr rfl) (.cons (i:=9) rfl (by first | exact Or.inl rfl | exact Or.inr rfl) (by first | exact .inl rfl | exact .inr rfl) Tgs.nil rfl) rfl)) (aP (rS 4 (ab 7))))) (.cons (i:=5) rfl (by first | exact Or.inl rfl | exact Or.inr rfl) (by first | exact .inl rfl | exact .inr rfl) (.cons (i:=6) rfl (by first | exact Or.inl rfl | exact Or.inr rfl) (by first | exact .inl rfl | exact .inr rfl) Tgs.nil rfl) rfl)) (aP (n0 (O':=[]) 4))))
theorem HG{a:Addr}{fd:FuncData}(Fn:Fun K "_law_list" "_law_list" gr a fd)(m:mg "_law_list" = some (.ref a))(b_enumerate:mg "enumerate" = none)(b_max:mg "max" = none)(b_zip:mg "zip" = none):Def P w K mg base "_law_list" 1 ["fares","row","scale","behind"] jE true :=
  ⟨a,fd,HF Fn b_enumerate b_max b_zip,m,Fn.kp,Fn.binds fun _ _ _ _ _ _ us hl=>match us,hl with | [_,_,_,_],_=>rfl⟩
abbrev gs:Stmt:=top 57
theorem v5:FnScope ["sale","seats","fares","turns","rule","table","scales","row"] ["sale"] (ai gs):=⟨rfl,rfl,rfl,by decide +kernel,rfl,by decide +kernel,by decide +kernel⟩
theorem HH{a:Addr}{fd:FuncData}(Fn:Fun K "_law_table" "_law_table" gs a fd)(b_reversed:mg "reversed" = none)(b_sum:mg "sum" = none)(d_law_ends:Def P w K mg base "_law_ends" 1 ["seats","rule"] jC true)(d_law_last:Def P w K mg base "_law_last" 1 ["seats","rule"] jD false)(d_law_list:Def P w K mg base "_law_list" 1 ["fares","row","scale","behind"] jE true):FnOk P w K mg base CX0 2 a fd ["sale"] (spF K u3 false):=by
  refine bh (np:=1) (n:=8) (body:=ou) [] [] rfl rfl rfl Fn v5 (fun cdv A outer s H E F hn hr=>?_)
  have sc:=v5
  exact (aS (rT (O':=[]) [1,2,3,4] rfl sc.nd (ab 0) (.cons (i:=1) rfl (by first | exact Or.inl rfl | exact Or.inr rfl) (.inl rfl) (.cons (i:=2) rfl (by first | exact Or.inl rfl | exact Or.inr rfl) (.inl rfl) (.cons (i:=3) rfl (by first | exact Or.inl rfl | exact Or.inr rfl) (.inl rfl) (.cons (i:=4) rfl (by first | exact Or.inl rfl | exact Or.inr rfl) (.inl rfl) Tgs.nil rfl) rfl) rfl) rfl) (by decide) (by decide)) (aS (cO 5 sc.nd (cD (ag (bx (fR d_law_ends hr (ag (ab 1) (ag (ab 4) aq)))) aq)) (by rw[hn];decide)) (aS (cO 6 sc.nd (cD (ag (ba d_law_last hr (ag (ab 1) (ag (ab 4) aq))) aq)) (by rw[hn];decide)) (aS (rZ 7 [6,5] sc.nd rfl b_reversed (ab 3) (aS (n4 5 ah (bx (fR d_law_list hr (ag (ab 2) (ag (ab 7) (ag (aL (aA 6) ah (fun _ _=>rfl)) (ag (aL (aA 5) ah (fun _ _=>rfl)) aq))))))) (aP (n4 6 ah (bA (aL (aA 6) ah (fun _ _=>rfl)) (j7 rfl b_sum (ag (ab 7) aq))))))) (aP (bn (O':=[]) (rQ (ag (ab 6) (ag (ab 5) aq)))))))))
theorem HI{a:Addr}{fd:FuncData}(Fn:Fun K "_law_table" "_law_table" gs a fd)(m:mg "_law_table" = some (.ref a))(b_reversed:mg "reversed" = none)(b_sum:mg "sum" = none)(d_law_ends:Def P w K mg base "_law_ends" 1 ["seats","rule"] jC true)(d_law_last:Def P w K mg base "_law_last" 1 ["seats","rule"] jD false)(d_law_list:Def P w K mg base "_law_list" 1 ["fares","row","scale","behind"] jE true):Def P w K mg base "_law_table" 2 ["sale"] lA false :=
  ⟨a,fd,HH Fn b_reversed b_sum d_law_ends d_law_last d_law_list,m,Fn.kp,Fn.binds fun _ _ _ _ _ _ us hl=>match us,hl with | [_],_=>rfl⟩
abbrev gt:Stmt:=top 58
theorem v6:FnScope ["found"] ["found"] (ai gt):=⟨rfl,rfl,rfl,by decide +kernel,rfl,by decide +kernel,by decide +kernel⟩
theorem HJ{a:Addr}{fd:FuncData}(Fn:Fun K "_law_whole" "_law_whole" gt a fd)(b_bool:mg "bool" = none)(b_int:mg "int" = none)(b_isinstance:mg "isinstance" = none):FnOk P w K mg base CX0 1 a fd ["found"] (spF K u4 false):=by
  refine bh (np:=1) (n:=1) (body:=ow) [] [] rfl rfl rfl Fn v6 (fun cdv A outer s H E F hn hr=>?_)
  have sc:=v6
  exact (aP (bn (O':=[]) (cC (jb rh (by decide +kernel) b_isinstance b_int (ab 0)) (di (rP (jb rj (by decide +kernel) b_isinstance b_bool (ab 0)))))))
theorem HK{a:Addr}{fd:FuncData}(Fn:Fun K "_law_whole" "_law_whole" gt a fd)(m:mg "_law_whole" = some (.ref a))(b_bool:mg "bool" = none)(b_int:mg "int" = none)(b_isinstance:mg "isinstance" = none):Def P w K mg base "_law_whole" 1 ["found"] ez false :=
  Def.sc ⟨a,fd,HJ Fn b_bool b_int b_isinstance,m,Fn.kp,Fn.binds fun _ _ _ _ _ _ us hl=>match us,hl with | [_],_=>rfl⟩
abbrev gu:Stmt:=top 59
theorem v7:FnScope ["scale","behind","s","least"] ["scale","behind","s","least"] (ai gu):=⟨rfl,rfl,rfl,by decide +kernel,rfl,by decide +kernel,by decide +kernel⟩
theorem HL{a:Addr}{fd:FuncData}(Fn:Fun K "_law_least" "_law_least" gu a fd)(d_law_whole:Def P w K mg base "_law_whole" 1 ["found"] ez false):FnOk P w K mg base CX0 2 a fd ["scale","behind","s","least"] (spF K u5 false):=by
  refine bh (np:=4) (n:=4) (body:=ox) [] [] rfl rfl rfl Fn v7 (fun cdv A outer s H E F hn hr=>?_)
  have sc:=v7
  exact (aS (j9 (O':=[]) (kM hr (ab 2) ah) (aP (bn (O':=[]) (Bs (ab 3)))) j8) (aS (j9 (O':=[]) (fQ (eR (ba d_law_whole hr (ag (ab 3) aq)))) (aP (bn (O':=[]) eP)) j8) (aP (bn (O':=[]) (cC (rM (bz (bA (ab 3) (ab 0)) (aL (aA 1) (cq (ab 2) ah) (fun _ _=>rfl))) (aL (aA 1) (ab 2) (fun _ _=>rfl))) (di (Bk (bz (bA (cq (ab 3) ah) (ab 0)) (aL (aA 1) (cq (ab 2) ah) (fun _ _=>rfl))) (aL (aA 1) (ab 2) (fun _ _=>rfl)))))))))
theorem HM{a:Addr}{fd:FuncData}(Fn:Fun K "_law_least" "_law_least" gu a fd)(m:mg "_law_least" = some (.ref a))(d_law_whole:Def P w K mg base "_law_whole" 1 ["found"] ez false):Def P w K mg base "_law_least" 2 ["scale","behind","s","least"] lB false :=
  Def.sc ⟨a,fd,HL Fn d_law_whole,m,Fn.kp,Fn.binds fun _ _ _ _ _ _ us hl=>match us,hl with | [_,_,_,_],_=>rfl⟩
abbrev gv:Stmt:=dU (top 45) 0
theorem v8:FnScope ["self","seats","fares","turns","rule","last"] ["self","seats","fares","turns","rule"] (ai gv):=⟨rfl,rfl,rfl,by decide +kernel,rfl,by decide +kernel,by decide +kernel⟩
theorem HN{C_Office:Addr}{a:Addr}{fd:FuncData}(Fn:Fun K "__init__" "Office.__init__" gv a fd)(b_list:mg "list" = none)(cl_Office:Cls K C_Office)(na_Office_dues:NoAttr K C_Office "dues")(na_Office_fares:NoAttr K C_Office "fares")(na_Office_latest:NoAttr K C_Office "latest")(na_Office_paid:NoAttr K C_Office "paid")(na_Office_rule:NoAttr K C_Office "rule")(na_Office_scales:NoAttr K C_Office "scales")(na_Office_seats:NoAttr K C_Office "seats")(na_Office_sold:NoAttr K C_Office "sold")(na_Office_table:NoAttr K C_Office "table")(na_Office_told:NoAttr K C_Office "told")(d_is_sale:Def P w K mg base "is_sale" 5 ["seats","fares","turns"] ln false)(d_scales_of:Def P w K mg base "scales_of" 5 ["turns","last"] fY true)(d_worths_of:DefX P w K mg base "worths_of" 5 ["fares","turns","last","ends"] lq)(d_is_rule:Def P w K mg base "is_rule" 5 ["rule"] lu false)(d_ends_of:Def P w K mg base "ends_of" 5 ["seats","rule"] lw true)(d_last_scale:Def P w K mg base "last_scale" 5 ["seats","rule"] lz false):FnOk P w K mg base CX0 6 a fd ["self","seats","fares","turns","rule"] (spN K (jF C_Office)):=by
  refine cc (np:=5) (n:=6) (body:=oy C_Office) rfl rfl rfl Fn v8 (fun cdv A outer s H E hr=>?_)
  have sc:=v8
  exact (ay (bZ (lj (jn (EA d_is_sale hr (ao (ac (ab 1)) (ao (ac (ab 2)) (ao (ac (ab 3)) aM)))))) jo bY) (ay (bZ (dm (fQ (eR (ba d_is_rule hr (ag (ab 4) aq))))) jo bY) (ay (b9 5 sc.nd (ac (ba d_last_scale hr (ag (ab 1) (ag (ab 4) aq))))) (ay (dM (ns:=NS_Office.take 0) cl_Office na_Office_seats (ac (ab 0)) (ac (ab 1))) (ay (dM (ns:=NS_Office.take 1) cl_Office na_Office_fares (ac (ab 0)) (ED b_list (ac (ab 2)))) (ay (dM (ns:=NS_Office.take 2) cl_Office na_Office_rule (ac (ab 0)) (ac (ab 4))) (ay (dM (ns:=NS_Office.take 3) cl_Office na_Office_scales (ac (ab 0)) (EB d_scales_of hr (ao (ac (ab 3)) (ao (ac (ab 5)) aM)))) (ay (dM (ns:=NS_Office.take 4) cl_Office na_Office_table (ac (ab 0)) (EC d_worths_of hr (ao (ac (ab 2)) (ao (ac (ab 3)) (ao (ac (ab 5)) (ao (ac (bx (fR d_ends_of hr (ag (ab 1) (ag (ab 4) aq))))) aM)))))) (ay (dM (ns:=NS_Office.take 5) cl_Office na_Office_told (ac (ab 0)) (ac ah)) (ay (dM (ns:=NS_Office.take 6) cl_Office na_Office_sold (ac (ab 0)) (ac ah)) (ay (dM (ns:=NS_Office.take 7) cl_Office na_Office_paid (ac (ab 0)) (ac ah)) (ay (dM (ns:=NS_Office.take 8) cl_Office na_Office_dues (ac (ab 0)) (ac i4)) (b4 (dM (ns:=NS_Office.take 9) cl_Office na_Office_latest (ac (ab 0)) (ac i4)))))))))))))))
abbrev fv:Stmt:=top 61
theorem v9:FnScope ["sale","handed","office","row"] ["sale"] (ai fv):=⟨rfl,rfl,rfl,by decide +kernel,rfl,by decide +kernel,by decide +kernel⟩
theorem HP{C_Office:Addr}{a:Addr}{fd:FuncData}(Fn:Fun K "_law_opened" "_law_opened" fv a fd)(b_len:mg "len" = none)(b_list:mg "list" = none)(mk_Office:MakN P w K mg base "Office" C_Office 6 ["self","seats","fares","turns","rule"] (jF C_Office)):FnOk P w K mg base CX0 8 a fd ["sale"] (spN K (ip C_Office)):=by
  refine cc (np:=1) (n:=4) (body:=oz C_Office) rfl rfl rfl Fn v9 (fun cdv A outer s H E hr=>?_)
  have sc:=v9
  exact (ay (b9 1 sc.nd (t6 (ao (nG (mZ b_list (cG (aL (aA 0) ah (fun _ _=>rfl))))) (ao (EF (y:="row") (caps:=[]) (cn:=[]) ⟨rfl,by decide +kernel,by decide +kernel,cm (ai fv) rfl (by decide +kernel),by first | rfl | decide +kernel,by decide +kernel,by decide +kernel⟩ rfl (ac (aL (aA 0) ah (fun _ _=>rfl))) (fun _ _ _ _=>bH (i:=0) (show (["row"]:List Str).Nodup from by decide +kernel) rfl (Or.inl rfl) (.inr rfl)) (fun _ _ _ _=>(nG (mZ b_list (aA 0))))) aM)))) (ay (b9 2 sc.nd (Er mk_Office (hr.mono (by decide)) (ao (ac (aL (aA 0) ah (fun _ _=>rfl))) (ao (cH (ac (ab 1)) (ac ah) (fun _ _=>rfl)) (ao (cH (ac (ab 1)) (ac ah) (fun _ _=>rfl)) (ao (ac (aL (aA 0) ah (fun _ _=>rfl))) aM)))))) (ay (tf (cH (ac (ab 1)) (ac ah) (fun _ _=>rfl))) (ay (nK (cH (ac (ab 1)) (ac ah) (fun _ _=>rfl)) (ac ah) (ac (mV ah ah))) (ay (EG 3 sc.nd rfl (cH (ac (ab 1)) (ac ah) (fun _ _=>rfl)) (ay (tf (ac (ab 3))) (b4 (nK (ac (ab 3)) (ac ah) (ac ah))))) (ay (t8 (cH (ac (ab 1)) (ac ah) (fun _ _=>rfl)) (EE (cD (ag ah aq)) (dq (nM b_len (ao (cH (ac (ab 1)) (ac ah) (fun _ _=>rfl)) aM)) (ac ah)))) (b4 (bq (ac (ab 2))))))))))
abbrev gw:Stmt:=top 48
theorem vc:FnScope ["script","k"] ["script","k"] (ai gw):=⟨rfl,rfl,rfl,by decide +kernel,rfl,by decide +kernel,by decide +kernel⟩
theorem HQ{C_Office:Addr}{a:Addr}{fd:FuncData}(Fn:Fun K "_law_pool" "_law_pool" gw a fd)(d_law_nth:Def P w K mg base "_law_nth" 1 ["script","k"] jB false):FnOk P w K mg base CX0 2 a fd ["script","k"] (spN K (eZ C_Office)):=by
  refine cc (np:=2) (n:=2) (body:=oA C_Office) rfl rfl rfl Fn vc (fun cdv A outer s H E hr=>?_)
  have sc:=vc
  exact (b4 (bq (Ey (ns:=["rest","mixed","count"]) (nL (ba d_law_nth hr (ag (ab 0) (ag (ab 1) aq))) (nL (rV hr (i5 (ba d_law_nth hr (ag (ab 0) (ag ah aq))) ah) ah) (nL (bz ah (ab 1)) Ex))))))
abbrev gx:Stmt:=top 49
theorem vd:FnScope ["pool","many","rest"] ["pool","many"] (ai gx):=⟨rfl,rfl,rfl,by decide +kernel,rfl,by decide +kernel,by decide +kernel⟩
theorem HR{C_Office:Addr}{a:Addr}{fd:FuncData}(Fn:Fun K "_law_take" "_law_take" gx a fd):FnOk P w K mg base CX0 1 a fd ["pool","many"] (spN K (bT C_Office)):=by
  refine cc (np:=2) (n:=3) (body:=oB C_Office) rfl rfl rfl Fn vd (fun cdv A outer s H E hr=>?_)
  have sc:=vd
  exact (ay (b9 2 sc.nd (ll (ns:=["rest","mixed","count"]) (i:=0) hr (ac (ab 0)) (fun _ _=>rfl))) (ay (bZ (lj (jn (ll (ns:=["rest","mixed","count"]) (i:=1) hr (ac (ab 0)) (fun _ _=>rfl)))) (ay (nJ (ns:=["rest","mixed","count"]) (i:=0) hr (ac (ab 0)) (ac (mU (ab 2) (ab 1)))) (b4 (bq (ac (i5 (ab 2) (ab 1)))))) bY) (ay (nJ (ns:=["rest","mixed","count"]) (i:=2) hr (ac (ab 0)) (dq (ll (ns:=["rest","mixed","count"]) (i:=2) hr (ac (ab 0)) (fun _ _=>rfl)) (ac ah))) (ay (b9 2 sc.nd (dq (ac (i5 (ab 2) ah)) (El (ac ah) (ll (ns:=["rest","mixed","count"]) (i:=2) hr (ac (ab 0)) (fun _ _=>rfl))))) (ay (b9 2 sc.nd (ac (i5 (bA (ab 2) (bz (ab 2) ah)) ah))) (ay (b9 2 sc.nd (ac (i5 (bA (ab 2) (ab 2)) ah))) (ay (nJ (ns:=["rest","mixed","count"]) (i:=0) hr (ac (ab 0)) (ac (ab 2))) (b4 (bq (ac (i5 (mU (ab 2) ah) (ab 1))))))))))))
abbrev gy:Stmt:=top 50
theorem vf:FnScope ["pool","most","kind"] ["pool","most"] (ai gy):=⟨rfl,rfl,rfl,by decide +kernel,rfl,by decide +kernel,by decide +kernel⟩
theorem HS{C_Office:Addr}{a:Addr}{fd:FuncData}(Fn:Fun K "_law_size" "_law_size" gy a fd)(b_min:mg "min" = none)(d_law_take:DefN P w K mg base "_law_take" 1 ["pool","many"] (bT C_Office)):FnOk P w K mg base CX0 2 a fd ["pool","most"] (spN K (ff C_Office)):=by
  refine cc (np:=2) (n:=3) (body:=oC C_Office) rfl rfl rfl Fn vf (fun cdv A outer s H E hr=>?_)
  have sc:=vf
  exact (ay (b9 2 sc.nd (bB d_law_take hr (ao (ac (ab 0)) (ao (ac ah) aM)))) (ay (bZ (dm (kM hr (ab 2) ah)) (b4 (bq (bB d_law_take hr (ao (ac (ab 0)) (ao (ac (rR rfl b_min (ag ah (ag (ab 1) aq)))) aM))))) bY) (ay (bZ (dm (kM hr (ab 2) ah)) (b4 (bq (ac (cq (ab 1) ah)))) bY) (b4 (bq (bB d_law_take hr (ao (ac (ab 0)) (ao (ac (ab 1)) aM))))))))
abbrev gz:Stmt:=top 52
theorem vg:FnScope ["pool","of"] ["pool"] (ai gz):=⟨rfl,rfl,rfl,by decide +kernel,rfl,by decide +kernel,by decide +kernel⟩
theorem HU{C_Office:Addr}{a:Addr}{fd:FuncData}(Fn:Fun K "_law_rule" "_law_rule" gz a fd)(d_law_size:DefN P w K mg base "_law_size" 2 ["pool","most"] (ff C_Office))(d_law_take:DefN P w K mg base "_law_take" 2 ["pool","many"] (bT C_Office)):FnOk P w K mg base CX0 3 a fd ["pool"] (spN K (jG C_Office)):=by
  refine cc (np:=1) (n:=2) (body:=oE C_Office) rfl rfl rfl Fn vg (fun cdv A outer s H E hr=>?_)
  have sc:=vg
  exact (ay (b9 1 sc.nd (dq (ac ah) (bB d_law_size hr (ao (ac (ab 0)) (ao (ac ah) aM))))) (b4 (bq (nF (ao (bB d_law_take hr (ao (ac (ab 0)) (ao (ac ah) aM))) (ao (bB d_law_take hr (ao (ac (ab 0)) (ao (ac (bz (ab 1) ah)) aM))) (ao (ac (ab 1)) (ao (bB d_law_size hr (ao (ac (ab 0)) (ao (ac (bz (mV ah ah) ah)) aM))) aM))))))))
abbrev gA:Stmt:=top 51
theorem vh:FnScope ["pool","many","row","k"] ["pool","many"] (ai gA):=⟨rfl,rfl,rfl,by decide +kernel,rfl,by decide +kernel,by decide +kernel⟩
theorem HV{C_Office:Addr}{a:Addr}{fd:FuncData}(Fn:Fun K "_law_weights" "_law_weights" gA a fd)(b_range:mg "range" = none)(b_sum:mg "sum" = none)(d_law_take:DefN P w K mg base "_law_take" 1 ["pool","many"] (bT C_Office)):FnOk P w K mg base CX0 2 a fd ["pool","many"] (spN K (jH C_Office)):=by
  refine cc (np:=2) (n:=4) (body:=oF C_Office) rfl rfl rfl Fn vh (fun cdv A outer s H E hr=>?_)
  have sc:=vh
  exact (ay (b9 2 sc.nd (nG (cD aq))) (ay (Eu 3 sc.nd rfl b_range (ao (ac (bz (ab 1) ah)) aM) (b4 (t8 (ac (ab 2)) (cH (t6 (ao (ac ah) (ao (bB d_law_take hr (ao (ac (ab 0)) (ao (ac ah) aM))) (ao (bB d_law_take hr (ao (ac (ab 0)) (ao (ac ah) aM))) aM)))) (bB d_law_take hr (ao (ac (ab 0)) (ao (ac ah) aM))) (fun _ _=>rfl))))) (ay (bZ (nD hr (Ez rfl b_sum (ao (ac (ab 2)) aM)) (ac ah)) (b4 (nK (ac (ab 2)) (ac (ab 1)) (ac ah))) bY) (b4 (Et 2)))))
abbrev eE:Stmt:=top 53
theorem vi:FnScope ["script","k","pool","seats","fares","rule","many"] ["script","k"] (ai eE):=⟨rfl,rfl,rfl,by decide +kernel,rfl,by decide +kernel,by decide +kernel⟩
theorem HW{C_Office:Addr}{a:Addr}{fd:FuncData}(Fn:Fun K "_law_sale" "_law_sale" eE a fd)(b_len:mg "len" = none)(b_range:mg "range" = none)(d_law_pool:DefN P w K mg base "_law_pool" 3 ["script","k"] (eZ C_Office))(d_law_take:DefN P w K mg base "_law_take" 3 ["pool","many"] (bT C_Office))(d_law_rule:DefN P w K mg base "_law_rule" 3 ["pool"] (jG C_Office))(d_law_size:DefN P w K mg base "_law_size" 3 ["pool","most"] (ff C_Office))(d_law_weights:DefN P w K mg base "_law_weights" 3 ["pool","many"] (jH C_Office)):FnOk P w K mg base CX0 4 a fd ["script","k"] (spN K (jI C_Office)):=by
  refine cc (np:=2) (n:=7) (body:=oG C_Office) rfl rfl rfl Fn vi (fun cdv A outer s H E hr=>?_)
  have sc:=vi
  exact (ay (b9 2 sc.nd (bB d_law_pool hr (ao (ac (ab 0)) (ao (ac (ab 1)) aM)))) (ay (b9 3 sc.nd (bB d_law_take hr (ao (ac (ab 2)) (ao (ac ah) aM)))) (ay (b9 4 sc.nd (t9 (y:="j") (caps:=[2]) (cn:=["pool"]) ⟨rfl,by decide +kernel,by decide +kernel,cm (ai eE) rfl (by decide +kernel),by first | rfl | decide +kernel,by decide +kernel,by decide +kernel⟩ rfl b_range (ao (dq (ac ah) (bB d_law_take hr (ao (ac (ab 2)) (ao (ac ah) aM)))) aM) (fun _ _ _ _=>bH (i:=0) (show (["j","pool"]:List Str).Nodup from by decide +kernel) rfl (Or.inl rfl) (.inr rfl)) (fun _ _ _ _=>(dq (ac ah) (bB d_law_size hr (ao (ac (ab 1)) (ao (ac (mV ah ah)) aM))))))) (ay (b9 5 sc.nd (bB d_law_rule hr (ao (ac (ab 2)) aM))) (ay (b9 6 sc.nd (bB d_law_take hr (ao (ac (ab 2)) (ao (ac ah) aM)))) (ay (b9 2 sc.nd (bB d_law_pool hr (ao (ac (ab 0)) (ao (ac (bz (ab 1) ah)) aM)))) (b4 (bq (nF (ao (ac (ab 3)) (ao (ac (ab 4)) (ao (t9 (y:="j") (caps:=[2,4]) (cn:=["pool","fares"]) ⟨rfl,by decide +kernel,by decide +kernel,cm (ai eE) rfl (by decide +kernel),by first | rfl | decide +kernel,by decide +kernel,by decide +kernel⟩ rfl b_range (ao (ac (ab 6)) aM) (fun _ _ _ _=>bH (i:=0) (show (["j","pool","fares"]:List Str).Nodup from by decide +kernel) rfl (Or.inl rfl) (.inr rfl)) (fun _ _ _ _=>(bB d_law_weights hr (ao (ac (ab 1)) (ao (ac (cN b_len (ag (ab 2) aq))) aM))))) (ao (ac (ab 5)) aM)))))))))))))
abbrev gB:Stmt:=dU (top 45) 1
theorem vj:FnScope ["self"] ["self"] (ai gB):=⟨rfl,rfl,rfl,by decide +kernel,rfl,by decide +kernel,by decide +kernel⟩
theorem HX{C_Office:Addr}{a:Addr}{fd:FuncData}(Fn:Fun K "turn" "Office.turn" gB a fd)(cl_Office:Cls K C_Office)(na_Office_told:NoAttr K C_Office "told"):FnOk P w K mg base CX0 1 a fd ["self"] (spN K (fZ C_Office)):=by
  refine cc (np:=1) (n:=1) (body:=oH C_Office) rfl rfl rfl Fn vj (fun cdv A outer s H E hr=>?_)
  have sc:=vj
  exact (b4 (bq (bX (i:=5) (ns:=NS_Office) cl_Office na_Office_told (ac (ab 0)))))
abbrev gC:Stmt:=dU (top 45) 2
theorem vk:FnScope ["self"] ["self"] (ai gC):=⟨rfl,rfl,rfl,by decide +kernel,rfl,by decide +kernel,by decide +kernel⟩
theorem HY{C_Office:Addr}{a:Addr}{fd:FuncData}(Fn:Fun K "left" "Office.left" gC a fd)(cl_Office:Cls K C_Office)(na_Office_seats:NoAttr K C_Office "seats")(na_Office_sold:NoAttr K C_Office "sold"):FnOk P w K mg base CX0 1 a fd ["self"] (spN K (cT C_Office)):=by
  refine cc (np:=1) (n:=1) (body:=oI C_Office) rfl rfl rfl Fn vk (fun cdv A outer s H E hr=>?_)
  have sc:=vk
  exact (b4 (bq (nB (bX (i:=0) (ns:=NS_Office) cl_Office na_Office_seats (ac (ab 0))) (bX (i:=6) (ns:=NS_Office) cl_Office na_Office_sold (ac (ab 0))))))
abbrev gD:Stmt:=dU (top 45) 6
theorem vm:FnScope ["self"] ["self"] (ai gD):=⟨rfl,rfl,rfl,by decide +kernel,rfl,by decide +kernel,by decide +kernel⟩
theorem HZ{C_Office:Addr}{a:Addr}{fd:FuncData}(Fn:Fun K "is_over" "Office.is_over" gD a fd)(b_len:mg "len" = none)(cl_Office:Cls K C_Office)(na_Office_scales:NoAttr K C_Office "scales")(na_Office_told:NoAttr K C_Office "told"):FnOk P w K mg base CX0 1 a fd ["self"] (spN K (jJ C_Office)):=by
  refine cc (np:=1) (n:=1) (body:=oJ C_Office) rfl rfl rfl Fn vm (fun cdv A outer s H E hr=>?_)
  have sc:=vm
  exact (b4 (bq (nC hr (bX (i:=5) (ns:=NS_Office) cl_Office na_Office_told (ac (ab 0))) (nB (nM b_len (ao (bX (i:=3) (ns:=NS_Office) cl_Office na_Office_scales (ac (ab 0))) aM)) (ac ah)))))
abbrev gE:Stmt:=dU (top 45) 7
theorem vn:FnScope ["self","asker"] ["self","asker"] (ai gE):=⟨rfl,rfl,rfl,by decide +kernel,rfl,by decide +kernel,by decide +kernel⟩
theorem Ia{C_Office:Addr}{a:Addr}{fd:FuncData}(Fn:Fun K "fare_of" "Office.fare_of" gE a fd)(b_len:mg "len" = none)(cl_Office:Cls K C_Office)(na_Office_fares:NoAttr K C_Office "fares")(d_is_within:Def P w K mg base "is_within" 1 ["number","least","most"] ca false):FnOk P w K mg base CX0 2 a fd ["self","asker"] (spN K (iq C_Office)):=by
  refine cc (np:=2) (n:=2) (body:=lC C_Office) rfl rfl rfl Fn vn (fun cdv A outer s H E hr=>?_)
  have sc:=vn
  exact (ay (bZ (dm (Bt (ab 1))) (b4 (bq (ac i4))) bY) (ay (bZ (lj (jn (nH d_is_within hr (ao (ac (ab 1)) (ao (ac ah) (ao (nB (nM b_len (ao (bX (i:=1) (ns:=NS_Office) cl_Office na_Office_fares (ac (ab 0))) aM)) (ac ah)) aM)))))) jo bY) (b4 (bq (cH (bX (i:=1) (ns:=NS_Office) cl_Office na_Office_fares (ac (ab 0))) (ac (ab 1)) (fun _ _=>rfl))))))
abbrev gF:Stmt:=dU (top 45) 8
theorem vo:FnScope ["self","fare","behind"] ["self","fare"] (ai gF):=⟨rfl,rfl,rfl,by decide +kernel,rfl,by decide +kernel,by decide +kernel⟩
theorem Ib{C_Office:Addr}{a:Addr}{fd:FuncData}(Fn:Fun K "takes" "Office.takes" gF a fd)(cl_Office:Cls K C_Office)(na_Office_scales:NoAttr K C_Office "scales")(na_Office_table:NoAttr K C_Office "table")(na_Office_told:NoAttr K C_Office "told")(d_is_taken:Def P w K mg base "is_taken" 2 ["fare","scale","behind","s"] lr false)(m_Office_left:MetN P w K mg base C_Office "left" 2 ["self"] (cT C_Office)):FnOk P w K mg base CX0 3 a fd ["self","fare"] (spN K (ir C_Office)):=by
  refine cc (np:=2) (n:=3) (body:=lD C_Office) rfl rfl rfl Fn vo (fun cdv A outer s H E hr=>?_)
  have sc:=vo
  exact (ay (b9 2 sc.nd (dq (bX (i:=5) (ns:=NS_Office) cl_Office na_Office_told (ac (ab 0))) (ac ah))) (b4 (bq (nE (ac (rW (ab 1))) (t5 (nH d_is_taken hr (ao (ac (ab 1)) (ao (cH (bX (i:=3) (ns:=NS_Office) cl_Office na_Office_scales (ac (ab 0))) (ac (ab 2)) (fun _ _=>rfl)) (ao (cH (bX (i:=4) (ns:=NS_Office) cl_Office na_Office_table (ac (ab 0))) (ac (ab 2)) (fun _ _=>rfl)) (ao (de (ns:=NS_Office) cl_Office m_Office_left hr (ac (ab 0))) aM))))))))))
abbrev gG:Stmt:=dU (top 45) 9
theorem vp:FnScope ["self","behind"] ["self"] (ai gG):=⟨rfl,rfl,rfl,by decide +kernel,rfl,by decide +kernel,by decide +kernel⟩
theorem Ic{C_Office:Addr}{a:Addr}{fd:FuncData}(Fn:Fun K "least" "Office.least" gG a fd)(cl_Office:Cls K C_Office)(na_Office_scales:NoAttr K C_Office "scales")(na_Office_table:NoAttr K C_Office "table")(na_Office_told:NoAttr K C_Office "told")(d_least_fare:Def P w K mg base "least_fare" 1 ["scale","behind","s"] ls false)(m_Office_left:MetN P w K mg base C_Office "left" 1 ["self"] (cT C_Office)):FnOk P w K mg base CX0 2 a fd ["self"] (spN K (jK C_Office)):=by
  refine cc (np:=1) (n:=2) (body:=oK C_Office) rfl rfl rfl Fn vp (fun cdv A outer s H E hr=>?_)
  have sc:=vp
  exact (ay (bZ (nD hr (de (ns:=NS_Office) cl_Office m_Office_left hr (ac (ab 0))) (ac ah)) (b4 (bq (ac i4))) bY) (ay (b9 1 sc.nd (dq (bX (i:=5) (ns:=NS_Office) cl_Office na_Office_told (ac (ab 0))) (ac ah))) (b4 (bq (nH d_least_fare hr (ao (cH (bX (i:=3) (ns:=NS_Office) cl_Office na_Office_scales (ac (ab 0))) (ac (ab 1)) (fun _ _=>rfl)) (ao (cH (bX (i:=4) (ns:=NS_Office) cl_Office na_Office_table (ac (ab 0))) (ac (ab 1)) (fun _ _=>rfl)) (ao (de (ns:=NS_Office) cl_Office m_Office_left hr (ac (ab 0))) aM))))))))
abbrev gH:Stmt:=dU (top 45) 5
theorem vq:FnScope ["self","asker","fare","taken"] ["self","asker"] (ai gH):=⟨rfl,rfl,rfl,by decide +kernel,rfl,by decide +kernel,by decide +kernel⟩
theorem Id{C_Office:Addr}{a:Addr}{fd:FuncData}(Fn:Fun K "asked" "Office.asked" gH a fd)(cl_Office:Cls K C_Office)(na_Office_latest:NoAttr K C_Office "latest")(na_Office_paid:NoAttr K C_Office "paid")(na_Office_sold:NoAttr K C_Office "sold")(na_Office_told:NoAttr K C_Office "told")(m_Office_is_over:MetN P w K mg base C_Office "is_over" 3 ["self"] (jJ C_Office))(m_Office_fare_of:MetN P w K mg base C_Office "fare_of" 3 ["self","asker"] (iq C_Office))(m_Office_takes:MetN P w K mg base C_Office "takes" 3 ["self","fare"] (ir C_Office))(m_Office_left:MetN P w K mg base C_Office "left" 3 ["self"] (cT C_Office))(m_Office_least:MetN P w K mg base C_Office "least" 3 ["self"] (jK C_Office)):FnOk P w K mg base CX0 4 a fd ["self","asker"] (spN K (iu C_Office)):=by
  refine cc (np:=2) (n:=4) (body:=lE C_Office) rfl rfl rfl Fn vq (fun cdv A outer s H E hr=>?_)
  have sc:=vq
  exact (ay (bZ (jn (de (ns:=NS_Office) cl_Office m_Office_is_over hr (ac (ab 0)))) jo bY) (ay (b9 2 sc.nd (nI (ns:=NS_Office) cl_Office m_Office_fare_of hr (ac (ab 0)) (ao (ac (ab 1)) aM))) (ay (b9 3 sc.nd (nI (ns:=NS_Office) cl_Office m_Office_takes hr (ac (ab 0)) (ao (ac (ab 2)) aM))) (ay (lm (i:=9) (ns:=NS_Office) cl_Office na_Office_latest (ac (ab 0)) (nF (ao (bX (i:=5) (ns:=NS_Office) cl_Office na_Office_told (ac (ab 0))) (ao (de (ns:=NS_Office) cl_Office m_Office_left hr (ac (ab 0))) (ao (de (ns:=NS_Office) cl_Office m_Office_least hr (ac (ab 0))) (ao (ac (ab 2)) aM)))))) (ay (lm (i:=5) (ns:=NS_Office) cl_Office na_Office_told (ac (ab 0)) (dq (bX (i:=5) (ns:=NS_Office) cl_Office na_Office_told (ac (ab 0))) (ac ah))) (ay (bZ (dm (eR (ab 3))) (ay (lm (i:=6) (ns:=NS_Office) cl_Office na_Office_sold (ac (ab 0)) (dq (bX (i:=6) (ns:=NS_Office) cl_Office na_Office_sold (ac (ab 0))) (ac ah))) (b4 (lm (i:=7) (ns:=NS_Office) cl_Office na_Office_paid (ac (ab 0)) (dq (bX (i:=7) (ns:=NS_Office) cl_Office na_Office_paid (ac (ab 0))) (ac (ab 2)))))) bY) (b4 (bq (ac (ab 3))))))))))
abbrev gJ:Stmt:=dU (top 45) 10
theorem vt:FnScope ["self"] ["self"] (ai gJ):=⟨rfl,rfl,rfl,by decide +kernel,rfl,by decide +kernel,by decide +kernel⟩
theorem Ie{C_Office:Addr}{a:Addr}{fd:FuncData}(Fn:Fun K "paper" "Office.paper" gJ a fd)(cl_Office:Cls K C_Office)(na_Office_latest:NoAttr K C_Office "latest"):FnOk P w K mg base CX0 1 a fd ["self"] (spN K (iw C_Office)):=by
  refine cc (np:=1) (n:=1) (body:=oM C_Office) rfl rfl rfl Fn vt (fun cdv A outer s H E hr=>?_)
  have sc:=vt
  exact (ay (bZ (Em (bX (i:=9) (ns:=NS_Office) cl_Office na_Office_latest (ac (ab 0)))) jo bY) (b4 (bq (bX (i:=9) (ns:=NS_Office) cl_Office na_Office_latest (ac (ab 0))))))
abbrev gK:Stmt:=top 60
theorem vz:FnScope ["office","sale","scales","table","asker","turn","seats","taken","paper","fare","due"] ["office","sale","scales","table","asker"] (ai gK):=⟨rfl,rfl,rfl,by decide +kernel,rfl,by decide +kernel,by decide +kernel⟩
theorem Ig{C_Office:Addr}{a:Addr}{fd:FuncData}(Fn:Fun K "_law_told" "_law_told" gK a fd)(b_int:mg "int" = none)(b_isinstance:mg "isinstance" = none)(b_len:mg "len" = none)(b_tuple:mg "tuple" = none)(cl_Office:Cls K C_Office)(d_law_whole:Def P w K mg base "_law_whole" 4 ["found"] ez false)(d_law_least:Def P w K mg base "_law_least" 4 ["scale","behind","s","least"] lB false)(m_Office_turn:MetN P w K mg base C_Office "turn" 4 ["self"] (fZ C_Office))(m_Office_left:MetN P w K mg base C_Office "left" 4 ["self"] (cT C_Office))(m_Office_asked:MetN P w K mg base C_Office "asked" 4 ["self","asker"] (iu C_Office))(m_Office_paper:MetN P w K mg base C_Office "paper" 4 ["self"] (iw C_Office)):FnOk P w K mg base CX0 5 a fd ["office","sale","scales","table","asker"] (spN K (iy C_Office)):=by
  refine cc (np:=5) (n:=11) (body:=lF C_Office) rfl rfl rfl Fn vz (fun cdv A outer s H E hr=>?_)
  have sc:=vz
  exact (ay (b9 5 sc.nd (de (ns:=NS_Office) cl_Office m_Office_turn hr (ac (ab 0)))) (ay (b9 6 sc.nd (de (ns:=NS_Office) cl_Office m_Office_left hr (ac (ab 0)))) (ay (b9 7 sc.nd (nI (ns:=NS_Office) cl_Office m_Office_asked hr (ac (ab 0)) (ao (ac (ab 4)) aM))) (ay (b9 8 sc.nd (de (ns:=NS_Office) cl_Office m_Office_paper hr (ac (ab 0)))) (ay (bZ (dm (kI (kH (fQ (eR (jb zW (by decide +kernel) b_isinstance b_tuple (ab 8)))) (kH (kN hr (cN b_len (ag (ab 8) aq)) ah) (mX (kN hr (Bu (aA 8) Bn (mY ah)) (rQ (ag (ab 5) (ag (ab 6) aq))))))))) (b4 (bq (ac eP))) bY) (ay (bZ (dm (kI (kH (fQ (eR (ba d_law_whole hr (ag (aL (aA 8) ah (fun _ _=>rfl)) aq)))) (mX (fQ (eR (ba d_law_whole hr (ag (aL (aA 8) ah (fun _ _=>rfl)) aq)))))))) (b4 (bq (ac eP))) bY) (ay (bZ (dm (fQ (eR (ba d_law_least hr (ag (aL (aA 2) (bz (ab 5) ah) (fun _ _=>rfl)) (ag (aL (aA 3) (bz (ab 5) ah) (fun _ _=>rfl)) (ag (ab 6) (ag (aL (aA 8) ah (fun _ _=>rfl)) aq)))))))) (b4 (bq (ac eP))) bY) (ay (b9 9 sc.nd (ac i4)) (ay (bZ (dm (rX (ab 4))) (b4 (b9 9 sc.nd (ac (aL (cG (aL (aA 1) ah (fun _ _=>rfl))) (ab 4) (fun _ _=>rfl))))) bY) (ay (bZ (dm (kI (kH (kN hr (aL (aA 8) ah (fun _ _=>rfl)) (ab 9)) (mX (kI (Bm (rX (ab 4)) (Bl (fQ (eR (ba d_law_whole hr (ag (aL (aA 8) ah (fun _ _=>rfl)) aq))))))))))) (b4 (bq (ac eP))) bY) (ay (b9 10 sc.nd (ac (cC (rW (ab 9)) (cC (mW (ab 6) ah) (di (rL (aL (aA 8) ah (fun _ _=>rfl)) (ab 9))))))) (b4 (bq (nE (ac (rV hr (ab 7) (ab 10))) (nE (nC hr (de (ns:=NS_Office) cl_Office m_Office_left hr (ac (ab 0))) (ac (cq (ab 6) (Bz b_int (ag (ab 10) aq))))) (t5 (nC hr (de (ns:=NS_Office) cl_Office m_Office_paper hr (ac (ab 0))) (ac (ab 8)))))))))))))))))))
abbrev eF:Stmt:=top 62
theorem vA:FnScope ["script","sale","seats","fares","turns","rule","scales","table","office","k","pool","asker"] ["script"] (ai eF):=⟨rfl,rfl,rfl,by decide +kernel,rfl,by decide +kernel,by decide +kernel⟩
theorem Ih{C_Office:Addr}{a:Addr}{fd:FuncData}(Fn:Fun K "law" "law" eF a fd)(b_len:mg "len" = none)(b_list:mg "list" = none)(b_min:mg "min" = none)(b_range:mg "range" = none)(cl_Office:Cls K C_Office)(d_law_table:Def P w K mg base "_law_table" 8 ["sale"] lA false)(d_law_sale:DefN P w K mg base "_law_sale" 8 ["script","k"] (jI C_Office))(d_law_opened:DefN P w K mg base "_law_opened" 8 ["sale"] (ip C_Office))(d_law_pool:DefN P w K mg base "_law_pool" 8 ["script","k"] (eZ C_Office))(d_law_take:DefN P w K mg base "_law_take" 8 ["pool","many"] (bT C_Office))(m_Office_turn:MetN P w K mg base C_Office "turn" 8 ["self"] (fZ C_Office))(d_law_told:DefN P w K mg base "_law_told" 8 ["office","sale","scales","table","asker"] (iy C_Office)):FnOk P w K mg base CX0 9 a fd ["script"] (spN K (oO C_Office)):=by
  refine cc (np:=1) (n:=12) (body:=oN C_Office) rfl rfl rfl Fn vA (fun cdv A outer s H E hr=>?_)
  have sc:=vA
  exact (ay (b9 1 sc.nd (bB d_law_sale hr (ao (ac (ab 0)) (ao (ac ah) aM)))) (ay (t7 [2,3,4,5] rfl sc.nd (ac (ab 1)) (.cons (i:=2) rfl (by first | exact Or.inl rfl | exact Or.inr rfl) (.inl rfl) (.cons (i:=3) rfl (by first | exact Or.inl rfl | exact Or.inr rfl) (.inl rfl) (.cons (i:=4) rfl (by first | exact Or.inl rfl | exact Or.inr rfl) (.inl rfl) (.cons (i:=5) rfl (by first | exact Or.inl rfl | exact Or.inr rfl) (.inl rfl) Tgs.nil rfl) rfl) rfl) rfl)) (ay (t7 [6,7] rfl sc.nd (ac (Br d_law_table hr (ag (ab 1) aq))) (.cons (i:=6) rfl (by first | exact Or.inl rfl | exact Or.inr rfl) (.inl rfl) (.cons (i:=7) rfl (by first | exact Or.inl rfl | exact Or.inr rfl) (.inl rfl) Tgs.nil rfl) rfl)) (ay (b9 8 sc.nd (bB d_law_opened hr (ao (ac (ab 1)) aM))) (ay (Ev 9 sc.nd rfl b_range (ao (ac ah) (ao (ac (rR rfl b_min (ag ah (ag (cN b_len (ag (ab 0) aq)) aq)))) aM)) (ay (b9 10 sc.nd (bB d_law_pool hr (ao (ac (ab 0)) (ao (ac (ab 9)) aM)))) (ay (b9 11 sc.nd (cH (ac (bx (i6 (cG (bx (BG b_list b_range (ag (cN b_len (ag (ab 3) aq)) aq)))) (cG (bx (cD (ag i4 aq))))))) (bB d_law_take hr (ao (ac (ab 10)) (ao (ac (bz (cN b_len (ag (ab 3) aq)) ah)) aM))) (fun _ _=>rfl))) (ay (bZ (nD hr (de (ns:=NS_Office) cl_Office m_Office_turn hr (ac (ab 8))) (ac (cN b_len (ag (ab 4) aq)))) (b4 (b9 8 sc.nd (bB d_law_opened hr (ao (ac (ab 1)) aM)))) bY) (b4 (bZ (Ep (Eo (dm (rN (cN b_len (ag (ab 4) aq)) ah)) (En (lj (jn (bB d_law_told hr (ao (ac (ab 8)) (ao (ac (ab 1)) (ao (ac (ab 6)) (ao (ac (ab 7)) (ao (ac (ab 11)) aM))))))))))) (b4 (bq (ac eP))) bY)))))) (b4 (bq (ac eP))))))))
end
def p5(K:PySem.W.Frag):Sp:=fun vs H Q E=>∀ C_Office:Nat,spN K (oO C_Office) vs H Q E
theorem all_mk{l:PySem.W.OpenLaw}{w:World}{K:PySem.W.Frag}{h:Heap}{mg:Str->Option Value}{fa C_Office f1 f2 f3 f4 f5 f6 f7 f8 f9 f10 f11 f12 f13 f14 f15 f16 f17 f18 f19 f20 f21 f22 f23 f24 f25 f26 f27 f28 f29 f30 f31 f32 f33 f34 f35 f36 f37 f38 f39 f40 f41 f42 f43 f44 f45 f46 f47 f48:Addr}(X:K.In h)(G:h.Ns mainGlobals mg)(hfa:mg "law" = some (.ref fa)){od1 an1 od2 an2 od3 an3 od4 an4 od5 an5 od6 an6 od7 an7 od8 an8 od9 an9 od10 an10 od11 an11 od12 an12 od13 an13 od14 an14 od15 an15 od16 an16 od17 an17 od18 an18 od19 an19 od20 an20 od21 an21 od22 an22 od23 an23 od24 an24 od25 an25 od26 an26 od27 an27 od28 an28 od29 an29 od30 an30 od31 an31 od32 an32 od33 an33 od34 an34 od35 an35 od36 an36 od37 an37 od38 an38 od39 an39 od40 an40 od41 an41 od42 an42 od43 an43 od44 an44 od45 an45 od46 an46 od47 an47 od48 an48:Option Addr}{sl1 sl2 sl3 sl4 sl5 sl6 sl7 sl8 sl9 sl10 sl11 sl12 sl13 sl14 sl15 sl16 sl17 sl18 sl19 sl20 sl21 sl22 sl23 sl24 sl25 sl26 sl27 sl28 sl29 sl30 sl31 sl32 sl33 sl34 sl35 sl36 sl37 sl38 sl39 sl40 sl41 sl42 sl43 sl44 sl45 sl46 sl47 sl48:Array (Option Value)}{oc1 kV1 dc1 pm1 cd1 ct1 oc2 kV2 dc2 pm2 cd2 ct2 oc3 kV3 dc3 pm3 cd3 ct3 oc4 kV4 dc4 pm4 cd4 ct4 oc5 kV5 dc5 pm5 cd5 ct5 oc6 kV6 dc6 pm6 cd6 ct6 oc7 kV7 dc7 pm7 cd7 ct7 oc8 kV8 dc8 pm8 cd8 ct8 oc9 kV9 dc9 pm9 cd9 ct9 oc10 kV10 dc10 pm10 cd10 ct10 oc11 kV11 dc11 pm11 cd11 ct11 oc12 kV12 dc12 pm12 cd12 ct12 oc13 kV13 dc13 pm13 cd13 ct13 oc14 kV14 dc14 pm14 cd14 ct14 oc15 kV15 dc15 pm15 cd15 ct15 oc16 kV16 dc16 pm16 cd16 ct16 oc17 kV17 dc17 pm17 cd17 ct17 oc18 kV18 dc18 pm18 cd18 ct18 oc19 kV19 dc19 pm19 cd19 ct19 oc20 kV20 dc20 pm20 cd20 ct20 oc21 kV21 dc21 pm21 cd21 ct21 oc22 kV22 dc22 pm22 cd22 ct22 oc23 kV23 dc23 pm23 cd23 ct23 oc24 kV24 dc24 pm24 cd24 ct24 oc25 kV25 dc25 pm25 cd25 ct25 oc26 kV26 dc26 pm26 cd26 ct26 oc27 kV27 dc27 pm27 cd27 ct27 oc28 kV28 dc28 pm28 cd28 ct28 oc29 kV29 dc29 pm29 cd29 ct29 oc30 kV30 dc30 pm30 cd30 ct30 oc31 kV31 dc31 pm31 cd31 ct31 oc32 kV32 dc32 pm32 cd32 ct32 oc33 kV33 dc33 pm33 cd33 ct33 oc34 kV34 dc34 pm34 cd34 ct34 oc35 kV35 dc35 pm35 cd35 ct35 oc36 kV36 dc36 pm36 cd36 ct36 oc37 kV37 dc37 pm37 cd37 ct37 oc38 kV38 dc38 pm38 cd38 ct38 oc39 kV39 dc39 pm39 cd39 ct39 oc40 kV40 dc40 pm40 cd40 ct40 oc41 kV41 dc41 pm41 cd41 ct41 oc42 kV42 dc42 pm42 cd42 ct42 oc43 kV43 dc43 pm43 cd43 ct43 oc44 kV44 dc44 pm44 cd44 ct44 oc45 kV45 dc45 pm45 cd45 ct45 oc46 kV46 dc46 pm46 cd46 ct46 oc47 kV47 dc47 pm47 cd47 ct47 oc48 kV48 dc48 pm48 cd48 ct48:Value}{t_MOST_DUE t_MOST_FARE t_MOST_FARES t_MOST_OF t_MOST_ROOM t_MOST_SEATS t_MOST_TURNS t_MOST_WEIGHT:Tok}(aC_Office:PySem.W.nsIn K mainGlobals "Office" = some (some (.ref C_Office)))(a1:PySem.W.nsIn K mainGlobals "is_within" = some (some (.ref f1)))(l1:K.lookup f1=some ⟨oc1,od1,.func (PySem.W.fnOf "is_within" "is_within" (aG g9) (aD g9) (ai g9) .none kV1 dc1 pm1 an1 cd1 ct1),sl1⟩)(c1:PySem.W.codeIn K cd1 "is_within" = true)(k1:PySem.W.keepIn K (.ref f1)=true)(a2:PySem.W.nsIn K mainGlobals "power" = some (some (.ref f2)))(l2:K.lookup f2=some ⟨oc2,od2,.func (PySem.W.fnOf "power" "power" (aG ga) (aD ga) (ai ga) .none kV2 dc2 pm2 an2 cd2 ct2),sl2⟩)(c2:PySem.W.codeIn K cd2 "power" = true)(k2:PySem.W.keepIn K (.ref f2)=true)(a3:PySem.W.nsIn K mainGlobals "are_fares" = some (some (.ref f3)))(l3:K.lookup f3=some ⟨oc3,od3,.func (PySem.W.fnOf "are_fares" "are_fares" (aG fh) (aD fh) (ai fh) .none kV3 dc3 pm3 an3 cd3 ct3),sl3⟩)(c3:PySem.W.codeIn K cd3 "are_fares" = true)(k3:PySem.W.keepIn K (.ref f3)=true)(a4:PySem.W.nsIn K mainGlobals "total_of" = some (some (.ref f4)))(l4:K.lookup f4=some ⟨oc4,od4,.func (PySem.W.fnOf "total_of" "total_of" (aG gb) (aD gb) (ai gb) .none kV4 dc4 pm4 an4 cd4 ct4),sl4⟩)(c4:PySem.W.codeIn K cd4 "total_of" = true)(k4:PySem.W.keepIn K (.ref f4)=true)(a5:PySem.W.nsIn K mainGlobals "is_row" = some (some (.ref f5)))(l5:K.lookup f5=some ⟨oc5,od5,.func (PySem.W.fnOf "is_row" "is_row" (aG fj) (aD fj) (ai fj) .none kV5 dc5 pm5 an5 cd5 ct5),sl5⟩)(c5:PySem.W.codeIn K cd5 "is_row" = true)(k5:PySem.W.keepIn K (.ref f5)=true)(a6:PySem.W.nsIn K mainGlobals "are_turns" = some (some (.ref f6)))(l6:K.lookup f6=some ⟨oc6,od6,.func (PySem.W.fnOf "are_turns" "are_turns" (aG fk) (aD fk) (ai fk) .none kV6 dc6 pm6 an6 cd6 ct6),sl6⟩)(c6:PySem.W.codeIn K cd6 "are_turns" = true)(k6:PySem.W.keepIn K (.ref f6)=true)(a7:PySem.W.nsIn K mainGlobals "is_sale" = some (some (.ref f7)))(l7:K.lookup f7=some ⟨oc7,od7,.func (PySem.W.fnOf "is_sale" "is_sale" (aG gc) (aD gc) (ai gc) .none kV7 dc7 pm7 an7 cd7 ct7),sl7⟩)(c7:PySem.W.codeIn K cd7 "is_sale" = true)(k7:PySem.W.keepIn K (.ref f7)=true)(a8:PySem.W.nsIn K mainGlobals "scales_of" = some (some (.ref f8)))(l8:K.lookup f8=some ⟨oc8,od8,.func (PySem.W.fnOf "scales_of" "scales_of" (aG gd) (aD gd) (ai gd) .none kV8 dc8 pm8 an8 cd8 ct8),sl8⟩)(c8:PySem.W.codeIn K cd8 "scales_of" = true)(k8:PySem.W.keepIn K (.ref f8)=true)(a9:PySem.W.nsIn K mainGlobals "weighed" = some (some (.ref f9)))(l9:K.lookup f9=some ⟨oc9,od9,.func (PySem.W.fnOf "weighed" "weighed" (aG fm) (aD fm) (ai fm) .none kV9 dc9 pm9 an9 cd9 ct9),sl9⟩)(c9:PySem.W.codeIn K cd9 "weighed" = true)(k9:PySem.W.keepIn K (.ref f9)=true)(a10:PySem.W.nsIn K mainGlobals "sold_worth" = some (some (.ref f10)))(l10:K.lookup f10=some ⟨oc10,od10,.func (PySem.W.fnOf "sold_worth" "sold_worth" (aG ge) (aD ge) (ai ge) .none kV10 dc10 pm10 an10 cd10 ct10),sl10⟩)(c10:PySem.W.codeIn K cd10 "sold_worth" = true)(k10:PySem.W.keepIn K (.ref f10)=true)(a11:PySem.W.nsIn K mainGlobals "class_worth" = some (some (.ref f11)))(l11:K.lookup f11=some ⟨oc11,od11,.func (PySem.W.fnOf "class_worth" "class_worth" (aG gf) (aD gf) (ai gf) .none kV11 dc11 pm11 an11 cd11 ct11),sl11⟩)(c11:PySem.W.codeIn K cd11 "class_worth" = true)(k11:PySem.W.keepIn K (.ref f11)=true)(a12:PySem.W.nsIn K mainGlobals "stand_worth" = some (some (.ref f12)))(l12:K.lookup f12=some ⟨oc12,od12,.func (PySem.W.fnOf "stand_worth" "stand_worth" (aG fo) (aD fo) (ai fo) .none kV12 dc12 pm12 an12 cd12 ct12),sl12⟩)(c12:PySem.W.codeIn K cd12 "stand_worth" = true)(k12:PySem.W.keepIn K (.ref f12)=true)(a13:PySem.W.nsIn K mainGlobals "row_worths" = some (some (.ref f13)))(l13:K.lookup f13=some ⟨oc13,od13,.func (PySem.W.fnOf "row_worths" "row_worths" (aG fq) (aD fq) (ai fq) .none kV13 dc13 pm13 an13 cd13 ct13),sl13⟩)(c13:PySem.W.codeIn K cd13 "row_worths" = true)(k13:PySem.W.keepIn K (.ref f13)=true)(a14:PySem.W.nsIn K mainGlobals "worths_of" = some (some (.ref f14)))(l14:K.lookup f14=some ⟨oc14,od14,.func (PySem.W.fnOf "worths_of" "worths_of" (aG gg) (aD gg) (ai gg) .none kV14 dc14 pm14 an14 cd14 ct14),sl14⟩)(c14:PySem.W.codeIn K cd14 "worths_of" = true)(k14:PySem.W.keepIn K (.ref f14)=true)(a15:PySem.W.nsIn K mainGlobals "is_taken" = some (some (.ref f15)))(l15:K.lookup f15=some ⟨oc15,od15,.func (PySem.W.fnOf "is_taken" "is_taken" (aG gh) (aD gh) (ai gh) .none kV15 dc15 pm15 an15 cd15 ct15),sl15⟩)(c15:PySem.W.codeIn K cd15 "is_taken" = true)(k15:PySem.W.keepIn K (.ref f15)=true)(a16:PySem.W.nsIn K mainGlobals "least_fare" = some (some (.ref f16)))(l16:K.lookup f16=some ⟨oc16,od16,.func (PySem.W.fnOf "least_fare" "least_fare" (aG gi) (aD gi) (ai gi) .none kV16 dc16 pm16 an16 cd16 ct16),sl16⟩)(c16:PySem.W.codeIn K cd16 "least_fare" = true)(k16:PySem.W.keepIn K (.ref f16)=true)(a17:PySem.W.nsIn K mainGlobals "is_rule" = some (some (.ref f17)))(l17:K.lookup f17=some ⟨oc17,od17,.func (PySem.W.fnOf "is_rule" "is_rule" (aG gj) (aD gj) (ai gj) .none kV17 dc17 pm17 an17 cd17 ct17),sl17⟩)(c17:PySem.W.codeIn K cd17 "is_rule" = true)(k17:PySem.W.keepIn K (.ref f17)=true)(a18:PySem.W.nsIn K mainGlobals "with_one_more" = some (some (.ref f18)))(l18:K.lookup f18=some ⟨oc18,od18,.func (PySem.W.fnOf "with_one_more" "with_one_more" (aG dO) (aD dO) (ai dO) .none kV18 dc18 pm18 an18 cd18 ct18),sl18⟩)(c18:PySem.W.codeIn K cd18 "with_one_more" = true)(k18:PySem.W.keepIn K (.ref f18)=true)(a19:PySem.W.nsIn K mainGlobals "shows_of" = some (some (.ref f19)))(l19:K.lookup f19=some ⟨oc19,od19,.func (PySem.W.fnOf "shows_of" "shows_of" (aG gk) (aD gk) (ai gk) .none kV19 dc19 pm19 an19 cd19 ct19),sl19⟩)(c19:PySem.W.codeIn K cd19 "shows_of" = true)(k19:PySem.W.keepIn K (.ref f19)=true)(a20:PySem.W.nsIn K mainGlobals "beyond_room" = some (some (.ref f20)))(l20:K.lookup f20=some ⟨oc20,od20,.func (PySem.W.fnOf "beyond_room" "beyond_room" (aG ft) (aD ft) (ai ft) .none kV20 dc20 pm20 an20 cd20 ct20),sl20⟩)(c20:PySem.W.codeIn K cd20 "beyond_room" = true)(k20:PySem.W.keepIn K (.ref f20)=true)(a21:PySem.W.nsIn K mainGlobals "end_of" = some (some (.ref f21)))(l21:K.lookup f21=some ⟨oc21,od21,.func (PySem.W.fnOf "end_of" "end_of" (aG gm) (aD gm) (ai gm) .none kV21 dc21 pm21 an21 cd21 ct21),sl21⟩)(c21:PySem.W.codeIn K cd21 "end_of" = true)(k21:PySem.W.keepIn K (.ref f21)=true)(a22:PySem.W.nsIn K mainGlobals "ends_of" = some (some (.ref f22)))(l22:K.lookup f22=some ⟨oc22,od22,.func (PySem.W.fnOf "ends_of" "ends_of" (aG fu) (aD fu) (ai fu) .none kV22 dc22 pm22 an22 cd22 ct22),sl22⟩)(c22:PySem.W.codeIn K cd22 "ends_of" = true)(k22:PySem.W.keepIn K (.ref f22)=true)(a23:PySem.W.nsIn K mainGlobals "last_scale" = some (some (.ref f23)))(l23:K.lookup f23=some ⟨oc23,od23,.func (PySem.W.fnOf "last_scale" "last_scale" (aG gn) (aD gn) (ai gn) .none kV23 dc23 pm23 an23 cd23 ct23),sl23⟩)(c23:PySem.W.codeIn K cd23 "last_scale" = true)(k23:PySem.W.keepIn K (.ref f23)=true)(a24:PySem.W.nsIn K mainGlobals "_law_nth" = some (some (.ref f24)))(l24:K.lookup f24=some ⟨oc24,od24,.func (PySem.W.fnOf "_law_nth" "_law_nth" (aG gp) (aD gp) (ai gp) .none kV24 dc24 pm24 an24 cd24 ct24),sl24⟩)(c24:PySem.W.codeIn K cd24 "_law_nth" = true)(k24:PySem.W.keepIn K (.ref f24)=true)(a25:PySem.W.nsIn K mainGlobals "_law_ends" = some (some (.ref f25)))(l25:K.lookup f25=some ⟨oc25,od25,.func (PySem.W.fnOf "_law_ends" "_law_ends" (aG eD) (aD eD) (ai eD) .none kV25 dc25 pm25 an25 cd25 ct25),sl25⟩)(c25:PySem.W.codeIn K cd25 "_law_ends" = true)(k25:PySem.W.keepIn K (.ref f25)=true)(a26:PySem.W.nsIn K mainGlobals "_law_last" = some (some (.ref f26)))(l26:K.lookup f26=some ⟨oc26,od26,.func (PySem.W.fnOf "_law_last" "_law_last" (aG gq) (aD gq) (ai gq) .none kV26 dc26 pm26 an26 cd26 ct26),sl26⟩)(c26:PySem.W.codeIn K cd26 "_law_last" = true)(k26:PySem.W.keepIn K (.ref f26)=true)(a27:PySem.W.nsIn K mainGlobals "_law_list" = some (some (.ref f27)))(l27:K.lookup f27=some ⟨oc27,od27,.func (PySem.W.fnOf "_law_list" "_law_list" (aG gr) (aD gr) (ai gr) .none kV27 dc27 pm27 an27 cd27 ct27),sl27⟩)(c27:PySem.W.codeIn K cd27 "_law_list" = true)(k27:PySem.W.keepIn K (.ref f27)=true)(a28:PySem.W.nsIn K mainGlobals "_law_table" = some (some (.ref f28)))(l28:K.lookup f28=some ⟨oc28,od28,.func (PySem.W.fnOf "_law_table" "_law_table" (aG gs) (aD gs) (ai gs) .none kV28 dc28 pm28 an28 cd28 ct28),sl28⟩)(c28:PySem.W.codeIn K cd28 "_law_table" = true)(k28:PySem.W.keepIn K (.ref f28)=true)(a29:PySem.W.nsIn K mainGlobals "_law_whole" = some (some (.ref f29)))(l29:K.lookup f29=some ⟨oc29,od29,.func (PySem.W.fnOf "_law_whole" "_law_whole" (aG gt) (aD gt) (ai gt) .none kV29 dc29 pm29 an29 cd29 ct29),sl29⟩)(c29:PySem.W.codeIn K cd29 "_law_whole" = true)(k29:PySem.W.keepIn K (.ref f29)=true)(a30:PySem.W.nsIn K mainGlobals "_law_least" = some (some (.ref f30)))(l30:K.lookup f30=some ⟨oc30,od30,.func (PySem.W.fnOf "_law_least" "_law_least" (aG gu) (aD gu) (ai gu) .none kV30 dc30 pm30 an30 cd30 ct30),sl30⟩)(c30:PySem.W.codeIn K cd30 "_law_least" = true)(k30:PySem.W.keepIn K (.ref f30)=true)(a31:PySem.W.findIn K (.ref C_Office) "__init__" = some (some (.ref f31)))(i31:PySem.W.isFn K (.ref f31)=true)(l31:K.lookup f31=some ⟨oc31,od31,.func (PySem.W.fnOf "__init__" "Office.__init__" (aG gv) (aD gv) (ai gv) .none kV31 dc31 pm31 an31 cd31 ct31),sl31⟩)(c31:PySem.W.codeIn K cd31 "Office.__init__" = true)(k31:PySem.W.keepIn K (.ref f31)=true)(a32:PySem.W.nsIn K mainGlobals "_law_opened" = some (some (.ref f32)))(l32:K.lookup f32=some ⟨oc32,od32,.func (PySem.W.fnOf "_law_opened" "_law_opened" (aG fv) (aD fv) (ai fv) .none kV32 dc32 pm32 an32 cd32 ct32),sl32⟩)(c32:PySem.W.codeIn K cd32 "_law_opened" = true)(k32:PySem.W.keepIn K (.ref f32)=true)(a33:PySem.W.nsIn K mainGlobals "_law_pool" = some (some (.ref f33)))(l33:K.lookup f33=some ⟨oc33,od33,.func (PySem.W.fnOf "_law_pool" "_law_pool" (aG gw) (aD gw) (ai gw) .none kV33 dc33 pm33 an33 cd33 ct33),sl33⟩)(c33:PySem.W.codeIn K cd33 "_law_pool" = true)(k33:PySem.W.keepIn K (.ref f33)=true)(a34:PySem.W.nsIn K mainGlobals "_law_take" = some (some (.ref f34)))(l34:K.lookup f34=some ⟨oc34,od34,.func (PySem.W.fnOf "_law_take" "_law_take" (aG gx) (aD gx) (ai gx) .none kV34 dc34 pm34 an34 cd34 ct34),sl34⟩)(c34:PySem.W.codeIn K cd34 "_law_take" = true)(k34:PySem.W.keepIn K (.ref f34)=true)(a35:PySem.W.nsIn K mainGlobals "_law_size" = some (some (.ref f35)))(l35:K.lookup f35=some ⟨oc35,od35,.func (PySem.W.fnOf "_law_size" "_law_size" (aG gy) (aD gy) (ai gy) .none kV35 dc35 pm35 an35 cd35 ct35),sl35⟩)(c35:PySem.W.codeIn K cd35 "_law_size" = true)(k35:PySem.W.keepIn K (.ref f35)=true)(a36:PySem.W.nsIn K mainGlobals "_law_rule" = some (some (.ref f36)))(l36:K.lookup f36=some ⟨oc36,od36,.func (PySem.W.fnOf "_law_rule" "_law_rule" (aG gz) (aD gz) (ai gz) .none kV36 dc36 pm36 an36 cd36 ct36),sl36⟩)(c36:PySem.W.codeIn K cd36 "_law_rule" = true)(k36:PySem.W.keepIn K (.ref f36)=true)(a37:PySem.W.nsIn K mainGlobals "_law_weights" = some (some (.ref f37)))(l37:K.lookup f37=some ⟨oc37,od37,.func (PySem.W.fnOf "_law_weights" "_law_weights" (aG gA) (aD gA) (ai gA) .none kV37 dc37 pm37 an37 cd37 ct37),sl37⟩)(c37:PySem.W.codeIn K cd37 "_law_weights" = true)(k37:PySem.W.keepIn K (.ref f37)=true)(a38:PySem.W.nsIn K mainGlobals "_law_sale" = some (some (.ref f38)))(l38:K.lookup f38=some ⟨oc38,od38,.func (PySem.W.fnOf "_law_sale" "_law_sale" (aG eE) (aD eE) (ai eE) .none kV38 dc38 pm38 an38 cd38 ct38),sl38⟩)(c38:PySem.W.codeIn K cd38 "_law_sale" = true)(k38:PySem.W.keepIn K (.ref f38)=true)(a39:PySem.W.findIn K (.ref C_Office) "turn" = some (some (.ref f39)))(i39:PySem.W.isFn K (.ref f39)=true)(l39:K.lookup f39=some ⟨oc39,od39,.func (PySem.W.fnOf "turn" "Office.turn" (aG gB) (aD gB) (ai gB) .none kV39 dc39 pm39 an39 cd39 ct39),sl39⟩)(c39:PySem.W.codeIn K cd39 "Office.turn" = true)(k39:PySem.W.keepIn K (.ref f39)=true)(a40:PySem.W.findIn K (.ref C_Office) "left" = some (some (.ref f40)))(i40:PySem.W.isFn K (.ref f40)=true)(l40:K.lookup f40=some ⟨oc40,od40,.func (PySem.W.fnOf "left" "Office.left" (aG gC) (aD gC) (ai gC) .none kV40 dc40 pm40 an40 cd40 ct40),sl40⟩)(c40:PySem.W.codeIn K cd40 "Office.left" = true)(k40:PySem.W.keepIn K (.ref f40)=true)(a41:PySem.W.findIn K (.ref C_Office) "is_over" = some (some (.ref f41)))(i41:PySem.W.isFn K (.ref f41)=true)(l41:K.lookup f41=some ⟨oc41,od41,.func (PySem.W.fnOf "is_over" "Office.is_over" (aG gD) (aD gD) (ai gD) .none kV41 dc41 pm41 an41 cd41 ct41),sl41⟩)(c41:PySem.W.codeIn K cd41 "Office.is_over" = true)(k41:PySem.W.keepIn K (.ref f41)=true)(a42:PySem.W.findIn K (.ref C_Office) "fare_of" = some (some (.ref f42)))(i42:PySem.W.isFn K (.ref f42)=true)(l42:K.lookup f42=some ⟨oc42,od42,.func (PySem.W.fnOf "fare_of" "Office.fare_of" (aG gE) (aD gE) (ai gE) .none kV42 dc42 pm42 an42 cd42 ct42),sl42⟩)(c42:PySem.W.codeIn K cd42 "Office.fare_of" = true)(k42:PySem.W.keepIn K (.ref f42)=true)(a43:PySem.W.findIn K (.ref C_Office) "takes" = some (some (.ref f43)))(i43:PySem.W.isFn K (.ref f43)=true)(l43:K.lookup f43=some ⟨oc43,od43,.func (PySem.W.fnOf "takes" "Office.takes" (aG gF) (aD gF) (ai gF) .none kV43 dc43 pm43 an43 cd43 ct43),sl43⟩)(c43:PySem.W.codeIn K cd43 "Office.takes" = true)(k43:PySem.W.keepIn K (.ref f43)=true)(a44:PySem.W.findIn K (.ref C_Office) "least" = some (some (.ref f44)))(i44:PySem.W.isFn K (.ref f44)=true)(l44:K.lookup f44=some ⟨oc44,od44,.func (PySem.W.fnOf "least" "Office.least" (aG gG) (aD gG) (ai gG) .none kV44 dc44 pm44 an44 cd44 ct44),sl44⟩)(c44:PySem.W.codeIn K cd44 "Office.least" = true)(k44:PySem.W.keepIn K (.ref f44)=true)(a45:PySem.W.findIn K (.ref C_Office) "asked" = some (some (.ref f45)))(i45:PySem.W.isFn K (.ref f45)=true)(l45:K.lookup f45=some ⟨oc45,od45,.func (PySem.W.fnOf "asked" "Office.asked" (aG gH) (aD gH) (ai gH) .none kV45 dc45 pm45 an45 cd45 ct45),sl45⟩)(c45:PySem.W.codeIn K cd45 "Office.asked" = true)(k45:PySem.W.keepIn K (.ref f45)=true)(a46:PySem.W.findIn K (.ref C_Office) "paper" = some (some (.ref f46)))(i46:PySem.W.isFn K (.ref f46)=true)(l46:K.lookup f46=some ⟨oc46,od46,.func (PySem.W.fnOf "paper" "Office.paper" (aG gJ) (aD gJ) (ai gJ) .none kV46 dc46 pm46 an46 cd46 ct46),sl46⟩)(c46:PySem.W.codeIn K cd46 "Office.paper" = true)(k46:PySem.W.keepIn K (.ref f46)=true)(a47:PySem.W.nsIn K mainGlobals "_law_told" = some (some (.ref f47)))(l47:K.lookup f47=some ⟨oc47,od47,.func (PySem.W.fnOf "_law_told" "_law_told" (aG gK) (aD gK) (ai gK) .none kV47 dc47 pm47 an47 cd47 ct47),sl47⟩)(c47:PySem.W.codeIn K cd47 "_law_told" = true)(k47:PySem.W.keepIn K (.ref f47)=true)(a48:PySem.W.nsIn K mainGlobals "law" = some (some (.ref f48)))(l48:K.lookup f48=some ⟨oc48,od48,.func (PySem.W.fnOf "law" "law" (aG eF) (aD eF) (ai eF) .none kV48 dc48 pm48 an48 cd48 ct48),sl48⟩)(c48:PySem.W.codeIn K cd48 "law" = true)(k48:PySem.W.keepIn K (.ref f48)=true)(pg_Office:PySem.W.plainGet K C_Office Str.empty=true)(hd_Office:PySem.W.hasDictIn K C_Office=true)(po_Office:PySem.W.plainOver K C_Office=true)(sa_Office:PySem.W.findIn K (.ref C_Office) "__setattr__" = some (some (.builtin "object.__setattr__")))(mk_Office:PySem.W.makesIn K C_Office=true)(kc_Office:PySem.W.keepIn K (.ref C_Office)=true)(na_Office_seats:PySem.W.findIn K (.ref C_Office) "seats" = some none)(na_Office_fares:PySem.W.findIn K (.ref C_Office) "fares" = some none)(na_Office_rule:PySem.W.findIn K (.ref C_Office) "rule" = some none)(na_Office_scales:PySem.W.findIn K (.ref C_Office) "scales" = some none)(na_Office_table:PySem.W.findIn K (.ref C_Office) "table" = some none)(na_Office_told:PySem.W.findIn K (.ref C_Office) "told" = some none)(na_Office_sold:PySem.W.findIn K (.ref C_Office) "sold" = some none)(na_Office_paid:PySem.W.findIn K (.ref C_Office) "paid" = some none)(na_Office_dues:PySem.W.findIn K (.ref C_Office) "dues" = some none)(na_Office_latest:PySem.W.findIn K (.ref C_Office) "latest" = some none)(z_all:PySem.W.nsIn K mainGlobals "all" = some none)(z_bool:PySem.W.nsIn K mainGlobals "bool" = some none)(z_enumerate:PySem.W.nsIn K mainGlobals "enumerate" = some none)(z_int:PySem.W.nsIn K mainGlobals "int" = some none)(z_isinstance:PySem.W.nsIn K mainGlobals "isinstance" = some none)(z_len:PySem.W.nsIn K mainGlobals "len" = some none)(z_list:PySem.W.nsIn K mainGlobals "list" = some none)(z_max:PySem.W.nsIn K mainGlobals "max" = some none)(z_min:PySem.W.nsIn K mainGlobals "min" = some none)(z_range:PySem.W.nsIn K mainGlobals "range" = some none)(z_reversed:PySem.W.nsIn K mainGlobals "reversed" = some none)(z_sum:PySem.W.nsIn K mainGlobals "sum" = some none)(z_tuple:PySem.W.nsIn K mainGlobals "tuple" = some none)(z_zip:PySem.W.nsIn K mainGlobals "zip" = some none)(y_MOST_DUE:PySem.W.nsIn K mainGlobals "MOST_DUE" = some (some (.int 1000000 t_MOST_DUE)))(y_MOST_FARE:PySem.W.nsIn K mainGlobals "MOST_FARE" = some (some (.int 1000000 t_MOST_FARE)))(y_MOST_FARES:PySem.W.nsIn K mainGlobals "MOST_FARES" = some (some (.int 6 t_MOST_FARES)))(y_MOST_OF:PySem.W.nsIn K mainGlobals "MOST_OF" = some (some (.int 1000 t_MOST_OF)))(y_MOST_ROOM:PySem.W.nsIn K mainGlobals "MOST_ROOM" = some (some (.int 10 t_MOST_ROOM)))(y_MOST_SEATS:PySem.W.nsIn K mainGlobals "MOST_SEATS" = some (some (.int 10 t_MOST_SEATS)))(y_MOST_TURNS:PySem.W.nsIn K mainGlobals "MOST_TURNS" = some (some (.int 8 t_MOST_TURNS)))(y_MOST_WEIGHT:PySem.W.nsIn K mainGlobals "MOST_WEIGHT" = some (some (.int 1000 t_MOST_WEIGHT))):
    ∃ fd:FuncData,(∀ (s:Shared) (v:Value),BindsTo s fd ⟨[v],[]⟩ [("script",v)])/\∀ base:Heap,K.In base->base.Ns mainGlobals mg->FnOk l.prog w K mg base CX0 9 fa fd ["script"] (p5 K):=by
  have e:=hfa.symm.trans (PySem.W.mg_of X G a48)
  cases e
  have b_all:=PySem.W.mg_none_of X G z_all
  have b_bool:=PySem.W.mg_none_of X G z_bool
  have b_enumerate:=PySem.W.mg_none_of X G z_enumerate
  have b_int:=PySem.W.mg_none_of X G z_int
  have b_isinstance:=PySem.W.mg_none_of X G z_isinstance
  have b_len:=PySem.W.mg_none_of X G z_len
  have b_list:=PySem.W.mg_none_of X G z_list
  have b_max:=PySem.W.mg_none_of X G z_max
  have b_min:=PySem.W.mg_none_of X G z_min
  have b_range:=PySem.W.mg_none_of X G z_range
  have b_reversed:=PySem.W.mg_none_of X G z_reversed
  have b_sum:=PySem.W.mg_none_of X G z_sum
  have b_tuple:=PySem.W.mg_none_of X G z_tuple
  have b_zip:=PySem.W.mg_none_of X G z_zip
  have c_MOST_DUE:=PySem.W.mg_of X G y_MOST_DUE
  have c_MOST_FARE:=PySem.W.mg_of X G y_MOST_FARE
  have c_MOST_FARES:=PySem.W.mg_of X G y_MOST_FARES
  have c_MOST_OF:=PySem.W.mg_of X G y_MOST_OF
  have c_MOST_ROOM:=PySem.W.mg_of X G y_MOST_ROOM
  have c_MOST_SEATS:=PySem.W.mg_of X G y_MOST_SEATS
  have c_MOST_TURNS:=PySem.W.mg_of X G y_MOST_TURNS
  have c_MOST_WEIGHT:=PySem.W.mg_of X G y_MOST_WEIGHT
  have cl_Office:Cls K C_Office:=⟨pg_Office,hd_Office,po_Office,sa_Office⟩
  refine⟨PySem.W.fnOf "law" "law" (aG eF) (aD eF) (ai eF) .none kV48 dc48 pm48 an48 cd48 ct48,fun s v=>.of_eq rfl,fun base _ _=>?_⟩
  have d_is_within:=GE (P:=l.prog) (w:=w) (base:=base) (az (st:=g9) l1 c1 k1) (PySem.W.mg_of X G a1) b_bool b_int b_isinstance
  have d_power:=GG (P:=l.prog) (w:=w) (base:=base) (az (st:=ga) l2 c2 k2) (PySem.W.mg_of X G a2) b_range
  have d_are_fares:=GI (P:=l.prog) (w:=w) (base:=base) (az (st:=fh) l3 c3 k3) (PySem.W.mg_of X G a3) b_all b_len c_MOST_FARE c_MOST_FARES (d_is_within.mono (k:=1))
  have d_total_of:=GK (P:=l.prog) (w:=w) (base:=base) (az (st:=gb) l4 c4 k4) (PySem.W.mg_of X G a4) b_sum
  have d_is_row:=GM (P:=l.prog) (w:=w) (base:=base) (az (st:=fj) l5 c5 k5) (PySem.W.mg_of X G a5) b_all b_len c_MOST_WEIGHT (d_is_within.mono (k:=1)) (d_total_of.mono (k:=1))
  have d_are_turns:=GO (P:=l.prog) (w:=w) (base:=base) (az (st:=fk) l6 c6 k6) (PySem.W.mg_of X G a6) b_all b_len c_MOST_TURNS (d_is_row.mono (k:=2))
  have d_is_sale:=GQ (P:=l.prog) (w:=w) (base:=base) (az (st:=gc) l7 c7 k7) (PySem.W.mg_of X G a7) b_len c_MOST_SEATS (d_is_within.mono (k:=3)) (d_are_fares.mono (k:=3)) (d_are_turns.mono (k:=3))
  have d_scales_of:=GS (P:=l.prog) (w:=w) (base:=base) (az (st:=gd) l8 c8 k8) (PySem.W.mg_of X G a8) b_list b_reversed (d_total_of.mono (k:=1))
  have d_weighed:=GU (P:=l.prog) (w:=w) (base:=base) (az (st:=fm) l9 c9 k9) (PySem.W.mg_of X G a9) b_sum b_zip
  have d_sold_worth:=GW (P:=l.prog) (w:=w) (base:=base) (az (st:=ge) l10 c10 k10) (PySem.W.mg_of X G a10)
  have d_class_worth:=GY (P:=l.prog) (w:=w) (base:=base) (az (st:=gf) l11 c11 k11) (PySem.W.mg_of X G a11) b_max (d_sold_worth.mono (k:=1))
  have d_stand_worth:=Ha (P:=l.prog) (w:=w) (base:=base) (az (st:=fo) l12 c12 k12) (PySem.W.mg_of X G a12) (d_weighed.mono (k:=2)) (d_class_worth.mono (k:=2))
  have d_row_worths:=Hc (P:=l.prog) (w:=w) (base:=base) (az (st:=fq) l13 c13 k13) (PySem.W.mg_of X G a13) b_len b_range (d_stand_worth.mono (k:=3))
  have d_worths_of:=Hf (P:=l.prog) (w:=w) (base:=base) (az (st:=gg) l14 c14 k14) (PySem.W.mg_of X G a14) b_len b_list b_range b_reversed (d_scales_of.mono (k:=4)) (d_row_worths.mono (k:=4))
  have d_is_taken:=Hh (P:=l.prog) (w:=w) (base:=base) (az (st:=gh) l15 c15 k15) (PySem.W.mg_of X G a15) (d_sold_worth.mono (k:=1))
  have d_least_fare:=Hj (P:=l.prog) (w:=w) (base:=base) (az (st:=gi) l16 c16 k16) (PySem.W.mg_of X G a16)
  have d_is_rule:=Hl (P:=l.prog) (w:=w) (base:=base) (az (st:=gj) l17 c17 k17) (PySem.W.mg_of X G a17) c_MOST_DUE c_MOST_OF c_MOST_ROOM (d_is_within.mono (k:=1))
  have d_with_one_more:=Hn (P:=l.prog) (w:=w) (base:=base) (az (st:=dO) l18 c18 k18) (PySem.W.mg_of X G a18) b_zip
  have d_shows_of:=Hq (P:=l.prog) (w:=w) (base:=base) (az (st:=gk) l19 c19 k19) (PySem.W.mg_of X G a19) b_range (d_with_one_more.mono (k:=1))
  have d_beyond_room:=Hs (P:=l.prog) (w:=w) (base:=base) (az (st:=ft) l20 c20 k20) (PySem.W.mg_of X G a20) b_enumerate b_max b_sum (d_shows_of.mono (k:=2))
  have d_end_of:=Hu (P:=l.prog) (w:=w) (base:=base) (az (st:=gm) l21 c21 k21) (PySem.W.mg_of X G a21) (d_power.mono (k:=3)) (d_beyond_room.mono (k:=3))
  have d_ends_of:=Hw (P:=l.prog) (w:=w) (base:=base) (az (st:=fu) l22 c22 k22) (PySem.W.mg_of X G a22) b_range (d_end_of.mono (k:=4))
  have d_last_scale:=Hy (P:=l.prog) (w:=w) (base:=base) (az (st:=gn) l23 c23 k23) (PySem.W.mg_of X G a23) (d_power.mono (k:=1))
  have d_law_nth:=HA (P:=l.prog) (w:=w) (base:=base) (az (st:=gp) l24 c24 k24) (PySem.W.mg_of X G a24)
  have d_law_ends:=HC (P:=l.prog) (w:=w) (base:=base) (az (st:=eD) l25 c25 k25) (PySem.W.mg_of X G a25) b_max b_range b_sum
  have d_law_last:=HE (P:=l.prog) (w:=w) (base:=base) (az (st:=gq) l26 c26 k26) (PySem.W.mg_of X G a26) b_range
  have d_law_list:=HG (P:=l.prog) (w:=w) (base:=base) (az (st:=gr) l27 c27 k27) (PySem.W.mg_of X G a27) b_enumerate b_max b_zip
  have d_law_table:=HI (P:=l.prog) (w:=w) (base:=base) (az (st:=gs) l28 c28 k28) (PySem.W.mg_of X G a28) b_reversed b_sum (d_law_ends.mono (k:=1)) (d_law_last.mono (k:=1)) (d_law_list.mono (k:=1))
  have d_law_whole:=HK (P:=l.prog) (w:=w) (base:=base) (az (st:=gt) l29 c29 k29) (PySem.W.mg_of X G a29) b_bool b_int b_isinstance
  have d_law_least:=HM (P:=l.prog) (w:=w) (base:=base) (az (st:=gu) l30 c30 k30) (PySem.W.mg_of X G a30) (d_law_whole.mono (k:=1))
  have mk_Office:MakN l.prog w K mg base "Office" C_Office 6 ["self","seats","fares","turns","rule"] (jF C_Office):=⟨_,_,HN (C_Office:=C_Office) (P:=l.prog) (w:=w) (base:=base) (az (st:=gv) l31 c31 k31) b_list cl_Office na_Office_dues na_Office_fares na_Office_latest na_Office_paid na_Office_rule na_Office_scales na_Office_seats na_Office_sold na_Office_table na_Office_told (d_is_sale.mono (k:=5)) (d_scales_of.mono (k:=5)) (d_worths_of.mono (k:=5)) (d_is_rule.mono (k:=5)) (d_ends_of.mono (k:=5)) (d_last_scale.mono (k:=5)),⟨mk_Office,a31,i31,kc_Office⟩,PySem.W.mg_of X G aC_Office,(az (st:=gv) l31 c31 k31).binds (ps:=["self","seats","fares","turns","rule"]) fun _ _ _ _ _ _ us hl=>match us,hl with | [_,_,_,_,_],_=>rfl⟩
  have d_law_opened:DefN l.prog w K mg base "_law_opened" 8 ["sale"] (ip C_Office):=⟨_,_,HP (C_Office:=C_Office) (P:=l.prog) (w:=w) (base:=base) (az (st:=fv) l32 c32 k32) b_len b_list (mk_Office.mono (k:=6)),PySem.W.mg_of X G a32,k32,(az (st:=fv) l32 c32 k32).binds (ps:=["sale"]) fun _ _ _ _ _ _ us hl=>match us,hl with | [_],_=>rfl⟩
  have d_law_pool:DefN l.prog w K mg base "_law_pool" 2 ["script","k"] (eZ C_Office):=⟨_,_,HQ (C_Office:=C_Office) (P:=l.prog) (w:=w) (base:=base) (az (st:=gw) l33 c33 k33) (d_law_nth.mono (k:=1)),PySem.W.mg_of X G a33,k33,(az (st:=gw) l33 c33 k33).binds (ps:=["script","k"]) fun _ _ _ _ _ _ us hl=>match us,hl with | [_,_],_=>rfl⟩
  have d_law_take:DefN l.prog w K mg base "_law_take" 1 ["pool","many"] (bT C_Office):=⟨_,_,HR (C_Office:=C_Office) (P:=l.prog) (w:=w) (base:=base) (az (st:=gx) l34 c34 k34) , PySem.W.mg_of X G a34,k34,(az (st:=gx) l34 c34 k34).binds (ps:=["pool","many"]) fun _ _ _ _ _ _ us hl=>match us,hl with | [_,_],_=>rfl⟩
  have d_law_size:DefN l.prog w K mg base "_law_size" 2 ["pool","most"] (ff C_Office):=⟨_,_,HS (C_Office:=C_Office) (P:=l.prog) (w:=w) (base:=base) (az (st:=gy) l35 c35 k35) b_min (d_law_take.mono (k:=1)),PySem.W.mg_of X G a35,k35,(az (st:=gy) l35 c35 k35).binds (ps:=["pool","most"]) fun _ _ _ _ _ _ us hl=>match us,hl with | [_,_],_=>rfl⟩
  have d_law_rule:DefN l.prog w K mg base "_law_rule" 3 ["pool"] (jG C_Office):=⟨_,_,HU (C_Office:=C_Office) (P:=l.prog) (w:=w) (base:=base) (az (st:=gz) l36 c36 k36) (d_law_size.mono (k:=2)) (d_law_take.mono (k:=2)),PySem.W.mg_of X G a36,k36,(az (st:=gz) l36 c36 k36).binds (ps:=["pool"]) fun _ _ _ _ _ _ us hl=>match us,hl with | [_],_=>rfl⟩
  have d_law_weights:DefN l.prog w K mg base "_law_weights" 2 ["pool","many"] (jH C_Office):=⟨_,_,HV (C_Office:=C_Office) (P:=l.prog) (w:=w) (base:=base) (az (st:=gA) l37 c37 k37) b_range b_sum (d_law_take.mono (k:=1)),PySem.W.mg_of X G a37,k37,(az (st:=gA) l37 c37 k37).binds (ps:=["pool","many"]) fun _ _ _ _ _ _ us hl=>match us,hl with | [_,_],_=>rfl⟩
  have d_law_sale:DefN l.prog w K mg base "_law_sale" 4 ["script","k"] (jI C_Office):=⟨_,_,HW (C_Office:=C_Office) (P:=l.prog) (w:=w) (base:=base) (az (st:=eE) l38 c38 k38) b_len b_range (d_law_pool.mono (k:=3)) (d_law_take.mono (k:=3)) (d_law_rule.mono (k:=3)) (d_law_size.mono (k:=3)) (d_law_weights.mono (k:=3)),PySem.W.mg_of X G a38,k38,(az (st:=eE) l38 c38 k38).binds (ps:=["script","k"]) fun _ _ _ _ _ _ us hl=>match us,hl with | [_,_],_=>rfl⟩
  have m_Office_turn:MetN l.prog w K mg base C_Office "turn" 1 ["self"] (fZ C_Office):=⟨_,_,HX (C_Office:=C_Office) (P:=l.prog) (w:=w) (base:=base) (az (st:=gB) l39 c39 k39) cl_Office na_Office_told,⟨a39,i39,k39⟩,(az (st:=gB) l39 c39 k39).binds (ps:=["self"]) fun _ _ _ _ _ _ us hl=>match us,hl with | [_],_=>rfl⟩
  have m_Office_left:MetN l.prog w K mg base C_Office "left" 1 ["self"] (cT C_Office):=⟨_,_,HY (C_Office:=C_Office) (P:=l.prog) (w:=w) (base:=base) (az (st:=gC) l40 c40 k40) cl_Office na_Office_seats na_Office_sold,⟨a40,i40,k40⟩,(az (st:=gC) l40 c40 k40).binds (ps:=["self"]) fun _ _ _ _ _ _ us hl=>match us,hl with | [_],_=>rfl⟩
  have m_Office_is_over:MetN l.prog w K mg base C_Office "is_over" 1 ["self"] (jJ C_Office):=⟨_,_,HZ (C_Office:=C_Office) (P:=l.prog) (w:=w) (base:=base) (az (st:=gD) l41 c41 k41) b_len cl_Office na_Office_scales na_Office_told,⟨a41,i41,k41⟩,(az (st:=gD) l41 c41 k41).binds (ps:=["self"]) fun _ _ _ _ _ _ us hl=>match us,hl with | [_],_=>rfl⟩
  have m_Office_fare_of:MetN l.prog w K mg base C_Office "fare_of" 2 ["self","asker"] (iq C_Office):=⟨_,_,Ia (C_Office:=C_Office) (P:=l.prog) (w:=w) (base:=base) (az (st:=gE) l42 c42 k42) b_len cl_Office na_Office_fares (d_is_within.mono (k:=1)),⟨a42,i42,k42⟩,(az (st:=gE) l42 c42 k42).binds (ps:=["self","asker"]) fun _ _ _ _ _ _ us hl=>match us,hl with | [_,_],_=>rfl⟩
  have m_Office_takes:MetN l.prog w K mg base C_Office "takes" 3 ["self","fare"] (ir C_Office):=⟨_,_,Ib (C_Office:=C_Office) (P:=l.prog) (w:=w) (base:=base) (az (st:=gF) l43 c43 k43) cl_Office na_Office_scales na_Office_table na_Office_told (d_is_taken.mono (k:=2)) (m_Office_left.mono (k:=2)),⟨a43,i43,k43⟩,(az (st:=gF) l43 c43 k43).binds (ps:=["self","fare"]) fun _ _ _ _ _ _ us hl=>match us,hl with | [_,_],_=>rfl⟩
  have m_Office_least:MetN l.prog w K mg base C_Office "least" 2 ["self"] (jK C_Office):=⟨_,_,Ic (C_Office:=C_Office) (P:=l.prog) (w:=w) (base:=base) (az (st:=gG) l44 c44 k44) cl_Office na_Office_scales na_Office_table na_Office_told (d_least_fare.mono (k:=1)) (m_Office_left.mono (k:=1)),⟨a44,i44,k44⟩,(az (st:=gG) l44 c44 k44).binds (ps:=["self"]) fun _ _ _ _ _ _ us hl=>match us,hl with | [_],_=>rfl⟩
  have m_Office_asked:MetN l.prog w K mg base C_Office "asked" 4 ["self","asker"] (iu C_Office):=⟨_,_,Id (C_Office:=C_Office) (P:=l.prog) (w:=w) (base:=base) (az (st:=gH) l45 c45 k45) cl_Office na_Office_latest na_Office_paid na_Office_sold na_Office_told (m_Office_is_over.mono (k:=3)) (m_Office_fare_of.mono (k:=3)) (m_Office_takes.mono (k:=3)) (m_Office_left.mono (k:=3)) (m_Office_least.mono (k:=3)),⟨a45,i45,k45⟩,(az (st:=gH) l45 c45 k45).binds (ps:=["self","asker"]) fun _ _ _ _ _ _ us hl=>match us,hl with | [_,_],_=>rfl⟩
  have m_Office_paper:MetN l.prog w K mg base C_Office "paper" 1 ["self"] (iw C_Office):=⟨_,_,Ie (C_Office:=C_Office) (P:=l.prog) (w:=w) (base:=base) (az (st:=gJ) l46 c46 k46) cl_Office na_Office_latest,⟨a46,i46,k46⟩,(az (st:=gJ) l46 c46 k46).binds (ps:=["self"]) fun _ _ _ _ _ _ us hl=>match us,hl with | [_],_=>rfl⟩
  have d_law_told:DefN l.prog w K mg base "_law_told" 5 ["office","sale","scales","table","asker"] (iy C_Office):=⟨_,_,Ig (C_Office:=C_Office) (P:=l.prog) (w:=w) (base:=base) (az (st:=gK) l47 c47 k47) b_int b_isinstance b_len b_tuple cl_Office (d_law_whole.mono (k:=4)) (d_law_least.mono (k:=4)) (m_Office_turn.mono (k:=4)) (m_Office_left.mono (k:=4)) (m_Office_asked.mono (k:=4)) (m_Office_paper.mono (k:=4)),PySem.W.mg_of X G a47,k47,(az (st:=gK) l47 c47 k47).binds (ps:=["office","sale","scales","table","asker"]) fun _ _ _ _ _ _ us hl=>match us,hl with | [_,_,_,_,_],_=>rfl⟩
  have T:=Ih (C_Office:=C_Office) (P:=l.prog) (w:=w) (base:=base) (az (st:=eF) l48 c48 k48) b_len b_list b_min b_range cl_Office (d_law_table.mono (k:=8)) (d_law_sale.mono (k:=8)) (d_law_opened.mono (k:=8)) (d_law_pool.mono (k:=8)) (d_law_take.mono (k:=8)) (m_Office_turn.mono (k:=8)) (d_law_told.mono (k:=8))
  exact T.imp fun vs H Q E h=>h C_Office
theorem walk{l:PySem.W.OpenLaw}{q:Program}{loose:List Str}{XP:(Str->Option Value)->Heap->Prop}{YP:World->Heap->Prop}{d:DefRec}{K:Params->PySem.W.Frag}(hn:l.most=some 63)(hdf:d.params.defaults=[])(hY:∀ (w:World) (h:Heap),YP w h->(K w.params).In h)(Fm:∀ (w:World) (mg:Str->Option Value) (fa:Addr) (h:Heap),(K w.params).In h->h.Ns mainGlobals mg->mg d.name=some (.ref fa) ->
      ∃ fd:FuncData,(∀ (s:Shared) (u:Value),BindsTo s fd ⟨[u],[]⟩ [("script",u)])/\∀ base:Heap,(K w.params).In base->base.Ns mainGlobals mg->FnOk l.prog w (K w.params) mg base CX0 9 fa fd ["script"] (p5 (K w.params))):
    PySem.W.WalkO q loose XP YP l.row.toRowW d [] (fun f vs=>PySem.call f vs) :=
  L2.walk_of (n:=63) (k:=9) (x:="script") (CX:=fun _=>CX0) (sp:=fun w=>p5 (K w.params)) hn (by decide) hdf ⟨rfl,by decide,by decide⟩ hY Fm (fun _ _ a ns hl _ hS C_Office=>E1 hS (GC ns hl C_Office)) fun _ _ _ _ _ z=>z
end My
end VL
namespace PySem.W.Fast
def tw15708099552028412781:=0
def tw1267182841590753394:=0
def tw4123180176835404263:=0
def tw7239316825600319046:=0
def tw16226514275700436919:=0
def tw962152635236507606:=0
def tw10442249819027335583:=0
def tw3594352879618484142:=0
def tw18072861563305225766:=0
def tw16638402150053686370:=0
def tw7949420808008571361:=0
def tw8423586438499701163:=0
def tw11697705045140888255:=0
def tw8149434381868463170:=0
def tw16151347299815910690:=0
def tw3851397076956251824:=0
def tw80479181486498219:=0
def tw14927666024975609549:=0
def tw1858353768462472609:=0
def tw11652661818765401740:=0
def tw13605041644232833057:=0
def tw12805821359142496528:=0
def tw5109603053641647694:=0
def tw3821592570093373060:=0
def tw7731403931376630096:=0
def tw1824265145084765372:=0
def tw6836267476216218294:=0
def tw13210286865733659556:=0
def tw7116512243141837068:=0
def tw6532335860171228201:=0
def tw9241367148701217447:=0
def tw10138305992024440561:=0
def tw10592472894852433306:=0
def tw9279275089787950614:=0
def tw16368334339140447389:=0
def tw8482203998967348032:=0
def tw8470345409961941844:=0
def tw10772325144447727566:=0
def tw1513795715915330488:=0
def tw10885088241860268931:=0
def tw8765220250598395969:=0
def tw13998617084395674106:=0
def tw7107842673110716602:=0
def tw13352088165595257855:=0
def tw3066235457643511766:=0
def tw10516571809842952801:=0
def tw3414510753614971261:=0
def tw8848480977567917525:=0
def tw7193995478077258782:=0
def tw8261841700026649874:=0
def tw3263097700914985541:=0
def tw18319238910864274904:=0
def tw310294217026703555:=0
def tw17669345557697670527:=0
def tw3216948193752570340:=0
def tw18114201333661551068:=0
def tw8482034223371048585:=0
def tw17335005384080921371:=0
def tw10068998415671525803:=0
def tw15271680080280957381:=0
def tw2390935434580241:=0
def tw4604314315100057456:=0
def tw13360356383837756141:=0
def tw17615367464256041388:=0
def tw1072147767592732351:=0
def tw1210072260922178991:=0
def tw244874709968419336:=0
end PySem.W.Fast
open PySem PySem.W PyProof.Rows
theorem PySem.Challenge.cw_latefare_k42_papers_holds : PySem.Challenge.rw_latefare_k42_papers.Holds := by
  w_on;o_law;k_head;(case hw=>w_witness2)
  k_fill
  refine VL.My.walk (l:=PySem.Challenge.rw_latefare_k42_papers) rfl rfl (fun w h Y=>PySem.W.kIn_of Y) ?F
  case F =>
    intro w mg fa h KX G hmg
    refine' VL.My.all_mk KX G hmg ?aC_Office ?a1 ?l1 ?c1 ?k1 ?a2 ?l2 ?c2 ?k2 ?a3 ?l3 ?c3 ?k3 ?a4 ?l4 ?c4 ?k4 ?a5 ?l5 ?c5 ?k5 ?a6 ?l6 ?c6 ?k6 ?a7 ?l7 ?c7 ?k7 ?a8 ?l8 ?c8 ?k8 ?a9 ?l9 ?c9 ?k9 ?a10 ?l10 ?c10 ?k10 ?a11 ?l11 ?c11 ?k11 ?a12 ?l12 ?c12 ?k12 ?a13 ?l13 ?c13 ?k13 ?a14 ?l14 ?c14 ?k14 ?a15 ?l15 ?c15 ?k15 ?a16 ?l16 ?c16 ?k16 ?a17 ?l17 ?c17 ?k17 ?a18 ?l18 ?c18 ?k18 ?a19 ?l19 ?c19 ?k19 ?a20 ?l20 ?c20 ?k20 ?a21 ?l21 ?c21 ?k21 ?a22 ?l22 ?c22 ?k22 ?a23 ?l23 ?c23 ?k23 ?a24 ?l24 ?c24 ?k24 ?a25 ?l25 ?c25 ?k25 ?a26 ?l26 ?c26 ?k26 ?a27 ?l27 ?c27 ?k27 ?a28 ?l28 ?c28 ?k28 ?a29 ?l29 ?c29 ?k29 ?a30 ?l30 ?c30 ?k30 ?a31 ?i31 ?l31 ?c31 ?k31 ?a32 ?l32 ?c32 ?k32 ?a33 ?l33 ?c33 ?k33 ?a34 ?l34 ?c34 ?k34 ?a35 ?l35 ?c35 ?k35 ?a36 ?l36 ?c36 ?k36 ?a37 ?l37 ?c37 ?k37 ?a38 ?l38 ?c38 ?k38 ?a39 ?i39 ?l39 ?c39 ?k39 ?a40 ?i40 ?l40 ?c40 ?k40 ?a41 ?i41 ?l41 ?c41 ?k41 ?a42 ?i42 ?l42 ?c42 ?k42 ?a43 ?i43 ?l43 ?c43 ?k43 ?a44 ?i44 ?l44 ?c44 ?k44 ?a45 ?i45 ?l45 ?c45 ?k45 ?a46 ?i46 ?l46 ?c46 ?k46 ?a47 ?l47 ?c47 ?k47 ?a48 ?l48 ?c48 ?k48 ?pg_Office ?hd_Office ?po_Office ?sa_Office ?mk_Office ?kc_Office ?na_Office_seats ?na_Office_fares ?na_Office_rule ?na_Office_scales ?na_Office_table ?na_Office_told ?na_Office_sold ?na_Office_paid ?na_Office_dues ?na_Office_latest ?z_all ?z_bool ?z_enumerate ?z_int ?z_isinstance ?z_len ?z_list ?z_max ?z_min ?z_range ?z_reversed ?z_sum ?z_tuple ?z_zip ?y_MOST_DUE ?y_MOST_FARE ?y_MOST_FARES ?y_MOST_OF ?y_MOST_ROOM ?y_MOST_SEATS ?y_MOST_TURNS ?y_MOST_WEIGHT
    (case aC_Office=>k_is);(case a1=>k_is);(case l1=>k_is);(case c1=>k_is);(case k1=>k_is);(case a2=>k_is)
    (case l2=>k_is);(case c2=>k_is);(case k2=>k_is);(case a3=>k_is);(case l3=>k_is);(case c3=>k_is)
    (case k3=>k_is);(case a4=>k_is);(case l4=>k_is);(case c4=>k_is);(case k4=>k_is);(case a5=>k_is)
    (case l5=>k_is);(case c5=>k_is);(case k5=>k_is);(case a6=>k_is);(case l6=>k_is);(case c6=>k_is)
    (case k6=>k_is);(case a7=>k_is);(case l7=>k_is);(case c7=>k_is);(case k7=>k_is);(case a8=>k_is)
    (case l8=>k_is);(case c8=>k_is);(case k8=>k_is);(case a9=>k_is);(case l9=>k_is);(case c9=>k_is)
    (case k9=>k_is);(case a10=>k_is);(case l10=>k_is);(case c10=>k_is);(case k10=>k_is);(case a11=>k_is)
    (case l11=>k_is);(case c11=>k_is);(case k11=>k_is);(case a12=>k_is);(case l12=>k_is);(case c12=>k_is)
    (case k12=>k_is);(case a13=>k_is);(case l13=>k_is);(case c13=>k_is);(case k13=>k_is);(case a14=>k_is)
    (case l14=>k_is);(case c14=>k_is);(case k14=>k_is);(case a15=>k_is);(case l15=>k_is);(case c15=>k_is)
    (case k15=>k_is);(case a16=>k_is);(case l16=>k_is);(case c16=>k_is);(case k16=>k_is);(case a17=>k_is)
    (case l17=>k_is);(case c17=>k_is);(case k17=>k_is);(case a18=>k_is);(case l18=>k_is);(case c18=>k_is)
    (case k18=>k_is);(case a19=>k_is);(case l19=>k_is);(case c19=>k_is);(case k19=>k_is);(case a20=>k_is)
    (case l20=>k_is);(case c20=>k_is);(case k20=>k_is);(case a21=>k_is);(case l21=>k_is);(case c21=>k_is)
    (case k21=>k_is);(case a22=>k_is);(case l22=>k_is);(case c22=>k_is);(case k22=>k_is);(case a23=>k_is)
    (case l23=>k_is);(case c23=>k_is);(case k23=>k_is);(case a24=>k_is);(case l24=>k_is);(case c24=>k_is)
    (case k24=>k_is);(case a25=>k_is);(case l25=>k_is);(case c25=>k_is);(case k25=>k_is);(case a26=>k_is)
    (case l26=>k_is);(case c26=>k_is);(case k26=>k_is);(case a27=>k_is);(case l27=>k_is);(case c27=>k_is)
    (case k27=>k_is);(case a28=>k_is);(case l28=>k_is);(case c28=>k_is);(case k28=>k_is);(case a29=>k_is)
    (case l29=>k_is);(case c29=>k_is);(case k29=>k_is);(case a30=>k_is);(case l30=>k_is);(case c30=>k_is)
    (case k30=>k_is);(case a31=>k_is);(case i31=>k_is);(case l31=>k_is);(case c31=>k_is);(case k31=>k_is)
    (case a32=>k_is);(case l32=>k_is);(case c32=>k_is);(case k32=>k_is);(case a33=>k_is);(case l33=>k_is)
    (case c33=>k_is);(case k33=>k_is);(case a34=>k_is);(case l34=>k_is);(case c34=>k_is);(case k34=>k_is)
    (case a35=>k_is);(case l35=>k_is);(case c35=>k_is);(case k35=>k_is);(case a36=>k_is);(case l36=>k_is)
    (case c36=>k_is);(case k36=>k_is);(case a37=>k_is);(case l37=>k_is);(case c37=>k_is);(case k37=>k_is)
    (case a38=>k_is);(case l38=>k_is);(case c38=>k_is);(case k38=>k_is);(case a39=>k_is);(case i39=>k_is)
    (case l39=>k_is);(case c39=>k_is);(case k39=>k_is);(case a40=>k_is);(case i40=>k_is);(case l40=>k_is)
    (case c40=>k_is);(case k40=>k_is);(case a41=>k_is);(case i41=>k_is);(case l41=>k_is);(case c41=>k_is)
    (case k41=>k_is);(case a42=>k_is);(case i42=>k_is);(case l42=>k_is);(case c42=>k_is);(case k42=>k_is)
    (case a43=>k_is);(case i43=>k_is);(case l43=>k_is);(case c43=>k_is);(case k43=>k_is);(case a44=>k_is)
    (case i44=>k_is);(case l44=>k_is);(case c44=>k_is);(case k44=>k_is);(case a45=>k_is);(case i45=>k_is)
    (case l45=>k_is);(case c45=>k_is);(case k45=>k_is);(case a46=>k_is);(case i46=>k_is);(case l46=>k_is)
    (case c46=>k_is);(case k46=>k_is);(case a47=>k_is);(case l47=>k_is);(case c47=>k_is);(case k47=>k_is)
    (case a48=>k_is);(case l48=>k_is);(case c48=>k_is);(case k48=>k_is);(case pg_Office=>k_is);(case hd_Office=>k_is)
    (case po_Office=>k_is);(case sa_Office=>k_is);(case mk_Office=>k_is);(case kc_Office=>k_is);(case na_Office_seats=>k_is);(case na_Office_fares=>k_is)
    (case na_Office_rule=>k_is);(case na_Office_scales=>k_is);(case na_Office_table=>k_is);(case na_Office_told=>k_is);(case na_Office_sold=>k_is);(case na_Office_paid=>k_is)
    (case na_Office_dues=>k_is);(case na_Office_latest=>k_is);(case z_all=>k_is);(case z_bool=>k_is);(case z_enumerate=>k_is);(case z_int=>k_is)
    (case z_isinstance=>k_is);(case z_len=>k_is);(case z_list=>k_is);(case z_max=>k_is);(case z_min=>k_is);(case z_range=>k_is)
    (case z_reversed=>k_is);(case z_sum=>k_is);(case z_tuple=>k_is);(case z_zip=>k_is);(case y_MOST_DUE=>k_is);(case y_MOST_FARE=>k_is)
    (case y_MOST_FARES=>k_is);(case y_MOST_OF=>k_is);(case y_MOST_ROOM=>k_is);(case y_MOST_SEATS=>k_is);(case y_MOST_TURNS=>k_is);(case y_MOST_WEIGHT=>k_is)
