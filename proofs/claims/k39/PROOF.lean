import PyProof.Rows.All
import Wide.All
import OpenK.AllK
import Wide.FinOn
import Lean
import PyProof.EqAt
import PyProof.EqKinds
import PyProof.TupleCall
import PySem.Challenge.RW_latefare_k39_an_office_asked
set_option Elab.async false
set_option linter.all false
set_option maxRecDepth 100000
set_option maxHeartbeats 8000000
namespace L2
open PySem PySem.Spec PyProof.Rows
abbrev Key:=Sum Int Str
def gB:Key->Value->Bool
  | .inl k,v=>Value.isInt k v
  | .inr x,v=>Value.isStrOf x v
def uH(w:World):Key->Int
  | .inl k=>hashInt k
  | .inr x=>hashStr w x
theorem dH:∀ {k:Key} {v:Value},gB k v=true->(∃ i t,k=Sum.inl i/\v=Value.int i t)\/(∃ x t,k=Sum.inr x/\v=Value.str x t)
  | .inl i,v,h=>by
    obtain⟨t,e⟩:=Value.isInt_shape (k:=i) (v:=v) h
    exact .inl ⟨i,t,rfl,e⟩
  | .inr x,v,h=>by
    obtain⟨t,e⟩:=Value.isStrOf_shape (x:=x) (v:=v) h
    exact .inr ⟨x,t,rfl,e⟩
theorem uI(i:Int)(t:Tok):gB (.inl i) (.int i t)=true:=by simp[gB,Value.isInt]
theorem uJ(x:Str)(t:Tok):gB (.inr x) (.str x t)=true:=by simp[gB,Value.isStrOf]
theorem uK(a b:Int):decide ((Sum.inl a:Key)=Sum.inl b)=(a == b):=by
  by_cases e:a=b
  · subst e;simp
  · have h:¬ (Sum.inl a:Key)=Sum.inl b:=fun q=>e (Sum.inl.inj q)
    rw[decide_eq_false h]
    exact (beq_eq_false_iff_ne.mpr e).symm
theorem uL(a b:Str):decide ((Sum.inr a:Key)=Sum.inr b)=decide (a=b):=by
  by_cases e:a=b
  · subst e;simp
  · have h:¬ (Sum.inr a:Key)=Sum.inr b:=fun q=>e (Sum.inr.inj q)
    rw[decide_eq_false h,decide_eq_false e]
theorem uM(a:Int)(b:Str):decide ((Sum.inl a:Key)=Sum.inr b)=false:=decide_eq_false (fun q=>nomatch q)
theorem uN(a:Str)(b:Int):decide ((Sum.inr a:Key)=Sum.inl b)=false:=decide_eq_false (fun q=>nomatch q)
def cm(prog:Program)(w:World):PySem.KeyKind prog w Key where
  is:=gB
  hash:=uH w
  inj := fun v a b ha hb=>by
    rcases dH ha with⟨i,t,rfl,rfl⟩ | ⟨x,t,rfl,rfl⟩
    · rcases dH hb with⟨j,u,rfl,e⟩ | ⟨y,u,rfl,e⟩
      · injection e with e1 _;rw[e1]
      · exact nomatch e
    · rcases dH hb with⟨j,u,rfl,e⟩ | ⟨y,u,rfl,e⟩
      · exact nomatch e
      · injection e with e1 _;rw[e1]
  byValue:=fun k v h=>by
    rcases dH h with⟨i,t,rfl,rfl⟩ | ⟨x,t,rfl,rfl⟩ <;> rfl
  pyHash:=fun hv h=>by
    rcases dH hv with⟨i,t,rfl,rfl⟩ | ⟨x,t,rfl,rfl⟩
    · exact wpAny_pyHash_int h
    · exact wpAny_pyHash_str h
  eqBool:=fun hu hv h=>by
    rcases dH hu with⟨i,t,rfl,rfl⟩ | ⟨x,t,rfl,rfl⟩
    · rcases dH hv with⟨j,u,rfl,rfl⟩ | ⟨y,u,rfl,rfl⟩
      · rw[uK] at h;exact wpAny_eqBool_int h
      · rw[uM] at h;exact SeqAt.EqAt.int_str i t y u _ _ _ _ h
    · rcases dH hv with⟨j,u,rfl,rfl⟩ | ⟨y,u,rfl,rfl⟩
      · rw[uN] at h;exact SeqAt.EqAt.str_int x t j u _ _ _ _ h
      · rw[uL] at h;exact wpAny_eqBool_str h
  «strs» := fun k x t v h=>by
    rcases dH h with⟨i,u,rfl,e⟩ | ⟨y,u,rfl,e⟩
    · exact nomatch e
    · injection e with e1 _
      subst e1
      cases v <;> rfl
theorem uO(prog:Program)(w:World)(i:Int)(t:Tok):(cm prog w).is (.inl i) (.int i t)=true:=uI i t
theorem uP(prog:Program)(w:World)(x:Str)(t:Tok):(cm prog w).is (.inr x) (.str x t)=true:=uJ x t
end L2
namespace L2
open PySem PySem.Spec PyProof.Rows
inductive V where
  | non | bl (b:Bool) | int (i:Int) | str (x:Str) | byt (b:Array UInt8) | flt (b:UInt64) | ref (a:Addr) | ty (n:String)
  deriving DecidableEq
def RelV:V->Value->Prop
  | .non,u=>u=Value.none
  | .bl b,u=>u=Value.bool b
  | .int i,u=>∃ t,u=Value.int i t
  | .str x,u=>∃ t,u=Value.str x t
  | .byt b,u=>∃ t,u=Value.bytes b t
  | .flt b,u=>∃ t,u=Value.float b t
  | .ref a,u=>u=Value.ref a
  | .ty n,u=>u=Value.type n
abbrev Vals:List V->List Value->Prop:=Paired RelV
theorem Vals.length{xs:List V}{us:List Value}(r:Vals xs us):xs.length=us.length:=Paired.length r
theorem Vals.get:∀ {xs:List V} {us:List Value} {i:Nat} {x:V},Vals xs us->xs[i]?=some x->∃ u,us[i]?=some u/\RelV x u
  | _,_,_,_,.nil,e=>by simp at e
  | _,_,0,_,.cons r _,e=>by simp at e;subst e;exact⟨_,rfl,r⟩
  | _,_,i+1,x,.cons _ t,e=>by
    obtain⟨u,h1,h2⟩:=Vals.get (i:=i) (x:=x) t (by simpa using e)
    exact⟨u,by simpa using h1,h2⟩
theorem Vals.set{x:V}{u:Value}(r:RelV x u):∀ {xs:List V} {us:List Value} (i:Nat),Vals xs us->Vals (xs.set i x) (us.set i u)
  | _,_,_,.nil=>.nil
  | _,_,0,.cons _ t=>.cons r t
  | _,_,i+1,.cons q t=>.cons q (Vals.set r i t)
theorem Vals.append:∀ {xs ys:List V} {us ws:List Value},Vals xs us->Vals ys ws->Vals (xs++ys) (us++ws)
  | _,_,_,_,.nil,s=>s
  | _,_,_,_,.cons r t,s=>.cons r (Vals.append t s)
theorem Vals.take:∀ {xs:List V} {us:List Value} (n:Nat),Vals xs us->Vals (xs.take n) (us.take n)
  | _,_,0,_=>.nil
  | _,_,_+1,.nil=>.nil
  | _,_,n+1,.cons r t=>.cons r (Vals.take n t)
theorem Vals.drop:∀ {xs:List V} {us:List Value} (n:Nat),Vals xs us->Vals (xs.drop n) (us.drop n)
  | _,_,0,r=>r
  | _,_,_+1,.nil=>.nil
  | _,_,n+1,.cons _ t=>Vals.drop n t
theorem Vals.none_of:∀ {xs:List V} {us:List Value} {i:Nat},Vals xs us->xs[i]?=none->us[i]?=none:=fun {xs us i} r e=>by
  have h1:=r.length
  have h2:xs.length<=i:=List.getElem?_eq_none_iff.mp e
  exact List.getElem?_eq_none_iff.mpr (by omega)
def RelO:Option V->Option Value->Prop
  | some v,some u=>RelV v u
  | none,none=>True
  | _,_=>False
def KV{κ:Type}:List (κ × V)->List (κ × Value)->Prop:=Paired fun (p:κ × V) (q:κ × Value)=>p.1=q.1/\RelV p.2 q.2
def kV:Key->V
  | .inl i=>.int i
  | .inr x=>.str x
inductive HO where
  | lst (xs:List V)
  | tup (xs:List V)
  | dK (kvs:List (Key × V)) | dT (kvs:List (List Key × V))
  | set (S:Int->Bool) (n:Nat)
  | ins (C dx:Addr) (fs:List (Str × V))
  | own (x:Addr)
  | xd (fs:List (Str × V))
  | met (f x:Addr)
  | rng (lo hi:Int)
  | frz (o:Obj) (u:HO)
  | tbl (ps:Array Value)
  | ext (φ:Heap->Prop)
abbrev Hp:=Addr->Option HO
def upd(H:Hp)(a:Addr)(o:HO):Hp:=fun b=>if b=a then some o else H b
theorem b9{H:Hp}{a:Addr}{o:HO}:upd H a o a=some o:=by unfold upd;rw[if_pos rfl]
theorem aC{H:Hp}{a b:Addr}{o:HO}(h:b ≠ a):upd H a o b=H b:=by unfold upd;rw[if_neg h]
theorem uQ{H:Hp}{a b:Addr}{o u:HO}(h:H a=some o)(h':H b=some u)(d:o ≠ u):a ≠ b:=by
  intro e;subst e;rw[h] at h';exact d (Option.some.inj h')
theorem bQ{H:Hp}{a b:Addr}{o:HO}(h:H a=some o)(h':H b=none):a ≠ b:=by
  intro e;subst e;rw[h] at h';cases h'
section
variable (P:Program) (w:World)
def ObjOk(H:Hp)(h:Heap)(a:Addr):HO->Prop
  | .lst xs=>xs.length<=sizeLine/\∃ (its:List Value) (n:Nat),Vals xs its/\h.get? a=some { cls:=.type "list",data:=.seq its.toArray n }
  | .tup xs=>xs.length<=sizeLine/\∃ its:List Value,Vals xs its/\IsTup h a its.toArray
  | .dK kvs=>kvs.length<=sizeLine/\(a == sysModules)=false/\∃ vs,KV kvs vs/\h.DictOf (cm P w) a vs
  | .dT kvs=>kvs.length<=sizeLine/\(a == sysModules)=false/\∃ xs:List (List Key × Addr × Value),
      Paired (fun (p:List Key × V) (q:List Key × Addr × Value)=>p.1=q.1/\H q.2.1=some (.tup (p.1.map kV))/\RelV p.2 q.2.2) kvs xs /\
      ∃ o es ep,h.get? a=some o/\o.ExactDict/\o.data=.dict es ep/\es.toList=xs.map (entryOfKey (tupleKind (cm P w)))/\(xs.map (·.1)).Nodup
  | .set S n=>h.SetOf (intKind P w) a S n
  | .ins C dx fs=>H dx=some (.own a)/\fs.length<=1000/\dx ≠ a/\h.get? a=some (PySem.W.instObj C dx) /\
      ∃ mA,h.Ns1 dx mA/\(∀ f,RelO (fs.lookup f) (mA f))/\PySem.Within mA (fs.map (·.1))
  | .own _=>∃ o,h.get? a=some o
  | .xd fs=>∃ mA,h.Ns1 a mA/\∀ f,RelO (fs.lookup f) (mA f)
  | .rng lo hi=>∃ t u v,h.get? a=some { cls:=.type "range",data:=.fields #[.int lo t,.int hi u,.int 1 v] }
  | .frz o u=>h.get? a=some o/\ObjOk H h a u
  | .tbl ps=>h.get? a=some { cls:=.none,data:=.fields ps }
  | .met f x=>h.get? a=some (PySem.W.methodObj (.ref f) (.ref x))
  | .ext φ=>φ h/\(∃ o,h.get? a=some o)/\∀ h1 h2:Heap,φ h1->(∀ o,h1.get? a=some o->h2.get? a=some o)->φ h2
def HOk(H:Hp)(h:Heap):Prop:=∀ a o,H a=some o->ObjOk P w H h a o
end
section
variable {P:Program} {w:World} {H H':Hp} {h h':Heap} {a:Addr} {o:HO}
theorem ObjOk.lt(x:ObjOk P w H h a o):a < h.objs.size:=by
  cases o with
  | lst xs=>obtain⟨_,_,_,_,e⟩:=x;exact Heap.lt_size e
  | tup xs=>obtain⟨_,_,_,p⟩:=x;exact p.lt
  | dK kvs=>obtain⟨_,_,_,_,o,_,_,e,_⟩:=x;exact Heap.lt_size e
  | dT kvs=>obtain⟨_,_,_,_,o,_,_,e,_⟩:=x;exact Heap.lt_size e
  | set S n=>obtain⟨o,_,_,_,e,_⟩:=x;exact Heap.lt_size e
  | ins C dx fs=>obtain⟨_,_,_,e,_⟩:=x;exact Heap.lt_size e
  | own y=>obtain⟨_,e⟩:=x;exact Heap.lt_size e
  | xd fs=>obtain⟨_,⟨_,_,_,e,_⟩,_⟩:=x;exact Heap.lt_size e
  | rng lo hi=>obtain⟨_,_,_,e⟩:=x;exact Heap.lt_size e
  | frz ob u=>obtain⟨e,_⟩:=x;exact Heap.lt_size e
  | tbl ps=>exact Heap.lt_size (show h.get? a=some _ from x)
  | met f y=>exact Heap.lt_size (show h.get? a=some _ from x)
  | ext φ=>obtain⟨_,⟨_,e⟩,_⟩:=x;exact Heap.lt_size e
theorem Paired.mapP{α β:Type}{F G:α->β->Prop}:∀ {l₁:List α} {l₂:List β},Paired F l₁ l₂->(∀ a b,F a b->G a b)->Paired G l₁ l₂
  | _,_,.nil,_=>.nil
  | _,_,.cons r t,f=>.cons (f _ _ r) (Paired.mapP t f)
theorem ObjOk.stay(x:ObjOk P w H h a o)(k:∀ b u,(b=a\/H b=some (.own a))->h.get? b=some u->h'.get? b=some u)(ho:∀ b,H b=some (.own a)->H' b=some (.own a))(ht:∀ b xs,H b=some (.tup xs)->H' b=some (.tup xs)):ObjOk P w H' h' a o:=by
  induction o with
  | lst xs=>obtain⟨z,its,n,r,e⟩:=x;exact⟨z,its,n,r,k _ _ (.inl rfl) e⟩
  | tup xs=>obtain⟨z,its,r,ob,e,c⟩:=x;exact⟨z,its,r,ob,k _ _ (.inl rfl) e,c⟩
  | dK kvs=>obtain⟨z,y,vs,r,ob,es,ep,e,c⟩:=x;exact⟨z,y,vs,r,ob,es,ep,k _ _ (.inl rfl) e,c⟩
  | dT kvs =>
    obtain⟨z,y,xs,r,ob,es,ep,e,c⟩:=x
    exact⟨z,y,xs,Paired.mapP r fun p q z=>⟨z.1,ht _ _ z.2.1,z.2.2⟩,ob,es,ep,k _ _ (.inl rfl) e,c⟩
  | set S n=>obtain⟨ob,es,ep,t,e,c⟩:=x;exact⟨ob,es,ep,t,k _ _ (.inl rfl) e,c⟩
  | ins C dx fs =>
    obtain⟨d,z,ne,e,mA,⟨od,es,ep,e2,c⟩,r⟩:=x
    exact⟨ho _ d,z,ne,k _ _ (.inl rfl) e,mA,⟨od,es,ep,k _ _ (.inr d) e2,c⟩,r⟩
  | own y=>obtain⟨ob,e⟩:=x;exact⟨ob,k _ _ (.inl rfl) e⟩
  | xd fs=>obtain⟨mA,⟨od,es,ep,e,c⟩,r⟩:=x;exact⟨mA,⟨od,es,ep,k _ _ (.inl rfl) e,c⟩,r⟩
  | rng lo hi=>obtain⟨t,u,v,e⟩:=x;exact⟨t,u,v,k _ _ (.inl rfl) e⟩
  | frz ob u ih=>obtain⟨e,q⟩:=x;exact⟨k _ _ (.inl rfl) e,ih q⟩
  | tbl ps =>
    have e:h.get? a=some { cls:=.none,data:=.fields ps }:=x
    show h'.get? a=some { cls:=.none,data:=.fields ps }
    exact k a _ (.inl rfl) e
  | met f y =>
    have e:h.get? a=some (PySem.W.methodObj (.ref f) (.ref y)):=x
    show h'.get? a=some (PySem.W.methodObj (.ref f) (.ref y))
    exact k a _ (.inl rfl) e
  | ext φ=>obtain⟨p,⟨o,e⟩,st⟩:=x;exact⟨st _ _ p fun o q=>k _ _ (.inl rfl) q,⟨o,k _ _ (.inl rfl) e⟩,st⟩
theorem HOk.lt(x:HOk P w H h)(e:H a=some o):a < h.objs.size:=(x a o e).lt
theorem HOk.fresh(x:HOk P w H h)(e:h.objs.size<=a):H a=none:=by
  cases q:H a with
  | none=>rfl
  | some u=>exact absurd (Nat.lt_of_lt_of_le (x.lt q) e) (Nat.lt_irrefl _)
theorem HOk.kept(x:HOk P w H h)(k:∀ b u,h.get? b=some u->h'.get? b=some u):HOk P w H h':=fun a o e =>
  (x a o e).stay (fun b u _ q=>k b u q) (fun _ q=>q) fun _ _ q=>q
theorem HOk.laid(x:HOk P w H h)(k:∀ b u,h.get? b=some u->h'.get? b=some u)(hp:h.objs.size<=a)(new:ObjOk P w (upd H a o) h' a o):HOk P w (upd H a o) h':=fun b u e=>by
  have hn:=x.fresh hp
  by_cases hb:b=a
  · subst hb;rw[b9] at e;cases e;exact new
  · rw[aC hb] at e
    exact (x b u e).stay (fun c v _ q=>k c v q) (fun c q=>by rw[aC (bQ q hn)];exact q) fun c xs q=>by rw[aC (bQ q hn)];exact q
end
def Rd(H:Hp)(a:Addr)(u:HO):Prop:=H a=some u\/∃ o,H a=some (.frz o u)
theorem Rd.of{H:Hp}{a:Addr}{u:HO}(h:H a=some u):Rd H a u:=.inl h
theorem Rd.ok{P:Program}{w:World}{H:Hp}{h:Heap}{a:Addr}{u:HO}(r:Rd H a u)(x:HOk P w H h):ObjOk P w H h a u:=by
  rcases r with r | ⟨o,r⟩
  · exact x a u r
  · obtain⟨_,q⟩:=x a _ r
    exact q
def Mut:Option HO->Prop
  | some (.lst _)=>True
  | some (.dK _)=>True
  | some (.dT _)=>True
  | some (.set _ _)=>True
  | some (.ins _ _ _)=>True
  | some (.ext _)=>True
  | _=>False
section
variable {P:Program} {w:World} {H:Hp} {h h':Heap} {x e:Addr} {o':HO}
theorem HOk.write(ok:HOk P w H h)(mu:Mut (H x))(he:e=x\/H e=some (.own x))(k:∀ b u,b ≠ e->h.get? b=some u->h'.get? b=some u)(heo:∃ u,h'.get? e=some u)(new:ObjOk P w (upd H x o') h' x o'):HOk P w (upd H x o') h':=fun b u q=>by
  have nown:∀ c y,H c=some (.own y)->c ≠ x:=fun c y r z=>by subst z;rw[r] at mu;exact mu
  have ntup:∀ c xs,H c=some (.tup xs)->c ≠ x:=fun c xs r z=>by subst z;rw[r] at mu;exact mu
  by_cases hb:b=x
  · subst hb;rw[b9] at q;cases q;exact new
  · rw[aC hb] at q
    by_cases hbe:b=e
    · have q':H b=some (.own x):=by
        rcases he with z | z
        · exact absurd (hbe.trans z) hb
        · rw[hbe];exact z
      rw[q] at q';cases q'
      obtain⟨v,hv⟩:=heo
      exact⟨v,by rw[hbe];exact hv⟩
    · refine (ok b u q).stay (fun c v hc r=>k c v ?_ r) (fun c r=>by rw[aC (nown c b r)];exact r) fun c xs r=>by rw[aC (ntup c xs r)];exact r
      rcases hc with rfl | hc
      · exact hbe
      · rintro rfl
        rcases he with z | z
        · exact nown c b hc z
        · rw[hc] at z;cases z;exact hb rfl
end
structure Un (fs ex:List Addr) (H H':Hp) (h h':Heap):Prop where
  keep:∀ b o,h.get? b=some o->H b=none->b ∉ fs->b ∉ ex->h'.get? b=some o
  slot:∀ b o,h.get? b=some o->H b=none->b ∈ fs->b ∉ ex->∃ sl,h'.get? b=some { o with slots:=sl }
  free:∀ b o,h.get? b=some o->H b=none->b ∉ ex->H' b=none
  there:∀ b o,h.get? b=some o->b ∉ ex->∃ o',h'.get? b=some o'
  tups:∀ b xs,H b=some (.tup xs)->H' b=some (.tup xs)
  frzs:∀ b o u,H b=some (.frz o u)->H' b=some (.frz o u)
  tbls:∀ b ps,H b=some (.tbl ps)->∃ more,H' b=some (.tbl (ps++more))
section
variable {fs fs' ex ex':List Addr} {H H1 H2:Hp} {h h1 h2 h':Heap} {a x e:Addr} {o:HO}
theorem Un.any(u:Un fs ex H H1 h h1){b:Addr}{ob:Obj}(q:h.get? b=some ob)(n:H b=none)(hx:b ∉ ex):∃ sl,h1.get? b=some { ob with slots:=sl }:=by
  by_cases hb:b ∈ fs
  · exact u.slot b ob q n hb hx
  · exact⟨ob.slots,u.keep b ob q n hb hx⟩
theorem Un.trans(a:Un fs ex H H1 h h1)(b:Un fs ex H1 H2 h1 h2):Un fs ex H H2 h h2 where
  keep:=fun c ob q n hc hx=>b.keep c ob (a.keep c ob q n hc hx) (a.free c ob q n hx) hc hx
  slot:=fun c ob q n hc hx=>by
    obtain⟨sl,e1⟩:=a.slot c ob q n hc hx
    obtain⟨sl',e2⟩:=b.slot c _ e1 (a.free c ob q n hx) hc hx
    exact⟨sl',e2⟩
  free:=fun c ob q n hx=>by
    obtain⟨o',e1⟩:=a.there c ob q hx
    exact b.free c o' e1 (a.free c ob q n hx) hx
  there:=fun c ob q hx=>by
    obtain⟨o',e1⟩:=a.there c ob q hx
    exact b.there c o' e1 hx
  tups:=fun c xs q=>b.tups c xs (a.tups c xs q)
  frzs:=fun c ob xs q=>b.frzs c ob xs (a.frzs c ob xs q)
  tbls:=fun c ps q=>by
    obtain⟨m1,e1⟩:=a.tbls c ps q
    obtain⟨m2,e2⟩:=b.tbls c _ e1
    exact⟨m1++m2,by rw[e2,Array.append_assoc]⟩
theorem Un.kept(k:∀ b u,h.get? b=some u->h'.get? b=some u):Un fs ex H H h h' :=
  ⟨fun b ob q _ _ _=>k b ob q,fun b ob q _ _ _=>⟨ob.slots,k b ob q⟩,fun _ _ _ n _=>n,fun b ob q _=>⟨ob,k b ob q⟩,fun _ _ q=>q,fun _ _ _ q=>q,fun _ ps q=>⟨#[],by rw[q];simp⟩⟩
theorem Un.refl:Un fs ex H H h h:=Un.kept fun _ _ q=>q
theorem Un.laid(k:∀ b u,h.get? b=some u->h'.get? b=some u)(hp:h.objs.size<=a)(hn:H a=none):Un fs ex H (upd H a o) h h' where
  keep:=fun b u q _ _ _=>k b u q
  slot:=fun b u q _ _ _=>⟨u.slots,k b u q⟩
  free:=fun b u q n _=>by rw[aC (Nat.ne_of_lt (Nat.lt_of_lt_of_le (Heap.lt_size q) hp))];exact n
  there:=fun b u q _=>⟨u,k b u q⟩
  tups:=fun b xs q=>by rw[aC (bQ q hn)];exact q
  frzs:=fun b u xs q=>by rw[aC (bQ q hn)];exact q
  tbls:=fun b ps q=>⟨#[],by rw[aC (bQ q hn),q];simp⟩
theorem Un.write(mu:Mut (H x))(he:e=x\/H e=some (.own x))(k:∀ b u,b ≠ e->h.get? b=some u->h'.get? b=some u)(heo:∃ u,h'.get? e=some u):Un fs ex H (upd H x o) h h':=by
  have hx:∀ b,H b=none->b ≠ x:=fun b n z=>by subst z;rw[n] at mu;exact mu
  have hb:∀ b,H b=none->b ≠ e:=fun b n z=>by
    subst z
    rcases he with r | r
    · exact hx b n r
    · rw[n] at r;cases r
  have hm:∀ b u,H b=some u->¬ Mut (some u)->b ≠ x:=fun b u q nm z=>by subst z;rw[q] at mu;exact nm mu
  refine⟨fun b u q n _ _=>k b u (hb b n) q,fun b u q n _ _=>⟨u.slots,k b u (hb b n) q⟩,fun b u q n _=>by rw[aC (hx b n)];exact n,fun b u q _=>?_,
    fun b xs q=>by rw[aC (hm b _ q fun z=>z)];exact q,fun b u xs q=>by rw[aC (hm b _ q fun z=>z)];exact q,fun b ps q=>⟨#[],by rw[aC (hm b _ q fun z=>z),q];simp⟩⟩
  by_cases hbe:b=e
  · subst hbe;exact heo
  · exact⟨u,k b u hbe q⟩
theorem Un.mono(u:Un fs ex H H1 h h1)(hs:∀ b ∈ fs,b ∈ fs')(hx:∀ b ∈ ex,b ∈ ex'):Un fs' ex' H H1 h h1 :=
  ⟨fun b ob q n hb he=>u.keep b ob q n (fun z=>hb (hs b z)) fun z=>he (hx b z),fun _ _ q n _ he=>u.any q n fun z=>he (hx _ z),fun b ob q n he=>u.free b ob q n fun z=>he (hx b z),fun b ob q he=>u.there b ob q fun z=>he (hx b z),u.tups,u.frzs,u.tbls⟩
end
def trk(h:Heap)(H:Hp):List Addr:=(List.range h.objs.size).filter fun a=>(H a).isSome
def dI(h:Heap)(H:Hp):Heap:=PySem.W.hideAll h (trk h H)
theorem uR(h:Heap)(H:Hp):(dI h H).objs.size=h.objs.size:=PySem.W.hideAll_size _ _
theorem uS{h:Heap}{H:Hp}{b:Addr}{o:Obj}(e:h.get? b=some o)(n:H b=none):(dI h H).get? b=some o :=
  PySem.W.hideAll_get _ e fun hm=>by
    have q:(H b).isSome=true:=(List.mem_filter.mp hm).2
    rw[n] at q;simp at q
theorem uT{h:Heap}{H:Hp}{b:Addr}{o:Obj}(e:(dI h H).get? b=some o):h.get? b=some o/\H b=none:=by
  have e':h.get? b=some o:=PySem.W.of_hideAll (trk h H) e
  refine⟨e',?_⟩
  cases q:H b with
  | none=>rfl
  | some x =>
    have hm:b ∈ trk h H:=List.mem_filter.mpr ⟨List.mem_range.mpr (Heap.lt_size e'),by simp[q]⟩
    have z:(dI h H).get? b=none:=PySem.W.hideAll_none (trk h H) hm
    rw[z] at e;cases e
def uU(g h:Heap)(L:Addr):List (Addr × Obj):=(List.range h.objs.size).filterMap fun a=>if a=L\/(g.get? a).isSome=true then none else (h.get? a).map fun o=>(a,o)
def aq(g h:Heap)(L d:Addr):List (Addr × Obj):=(uU g h L).filter fun p=>decide (p.1 ≠ d)
end L2
namespace L2
open PySem PySem.Spec PyProof.Rows
structure Mod (K:PySem.W.Frag) (mg:Str->Option Value) (base:Heap):Prop where
  kin:K.In base
  glob:base.Ns mainGlobals mg
  blt:∃ mb,base.Ns builtinsNs mb/\∀ x:Str,x ≠ "__name__"->mb x=bootBuiltins x
  nolimit:base.NoLimit
structure Cx where
  prog:Program
  w:World
  K:PySem.W.Frag
  mg:Str->Option Value
  base:Heap
  A:Around
  N:List Str
  s₀:Shared
  H₀:Hp
  env:Env
  outer:List Env
  stack:List Env
  ex:List Addr
  fn:Str->Bool
  calm:Bool
  pn:List (Addr × Obj)
  xe:Value->Shared->Prop
def frs(l:List Env):List Addr:=l.filterMap (·.frame)
abbrev Cx.fs(X:Cx):List Addr:=frs X.outer
def Vis(sc:Scope)(x:Str):Prop:=sc.names.lookup x=some .local\/sc.names.lookup x=some .cell\/sc.names.lookup x=some .free
def Loc(sc:Scope)(x:Str):Prop:=sc.names.lookup x=some .local\/sc.names.lookup x=some .cell
def uV(env:Env)(h:Heap)(m:Str->Option Value)(x:Str)(u:Value):Prop :=
  (env.kindOf x=some .local/\m x=some u)\/((env.kindOf x=some .cell\/env.kindOf x=some .free)/\∃ c,env.cells.lookup x=some c/\h.IsCell c (some u))
structure Cx.Ok (X:Cx):Prop where
  mod:Mod X.K X.mg X.base
  kind:X.env.scope.kind=.function
  glob:X.env.globals=mainGlobals
  blt:X.env.builtins=builtinsNs
  above:X.s₀.heap.objs.size<=X.env.locals
  inj:∀ x y c,X.env.cells.lookup x=some c->X.env.cells.lookup y=some c->x=y
  has:∀ x,(X.env.kindOf x=some .cell\/X.env.kindOf x=some .free)->∃ c,X.env.cells.lookup x=some c
  cab:∀ x c,X.fn x=true->X.env.cells.lookup x=some c->X.s₀.heap.objs.size<=c
  hd:X.calm=true->X.A.handled=none
  frames:X.A.frames=some X.stack
  stk:X.stack=X.outer\/(X.stack=X.env::X.outer/\X.env.frame=some X.env.locals)
  exf:∀ b ∈ X.ex,b ≠ X.env.locals/\∀ x c,X.env.cells.lookup x=some c->c ≠ b
  bs:∀ b o,X.base.get? b=some o->X.s₀.heap.get? b=some o/\X.H₀ b=none
  bsz:X.base.objs.size<=X.s₀.heap.objs.size
  noex:∀ b o,X.base.get? b=some o->b ∉ X.ex
  exfs:∀ b ∈ X.ex,b ∉ X.fs
  funs:X.s₀.heap.FunFrames X.base X.outer
  frf:∀ b ∈ X.fs,X.H₀ b=none
structure Inv (X:Cx) (pins:List (Addr × Obj)) (σ:List (Option V)) (H:Hp) (s:Shared):Prop where
  ok:X.Ok
  os:s.os=X.s₀.os
  bare:AllBare s.gens
  base:Un X.fs X.ex X.H₀ H X.s₀.heap s.heap
  loc:∃ m,s.heap.Ns X.env.locals m/\∀ (i:Nat) (x:Str) (v:V),X.N[i]?=some x->σ[i]?=some (some v)->Vis X.env.scope x->∃ u,RelV v u/\uV X.env s.heap m x u
  cell:∀ x c,X.env.cells.lookup x=some c->∃ v,s.heap.IsCell c v
  free:H X.env.locals=none
  freeC:∀ x c,X.env.cells.lookup x=some c->H c=none
  pin:∀ p ∈ X.pn++pins,s.heap.get? p.1=some p.2/\H p.1=none/\p.1 ≠ X.env.locals/\p.1 ∉ X.fs/\∀ v,p.2.data ≠ .cell v
  hok:HOk X.prog X.w H s.heap
  len:σ.length=X.N.length
section
variable {X:Cx} {pins:List (Addr × Obj)} {σ:List (Option V)} {H H':Hp} {s:Shared} {h':Heap}
theorem Cx.Ok.nofr(ok:X.Ok){b:Addr}{o:Obj}(e:X.base.get? b=some o):b ∉ X.fs:=fun hb=>by
  have:=(ok.funs.mem hb).1
  rw[e] at this;cases this
theorem Inv.bs(I:Inv X pins σ H s):∀ b o,X.base.get? b=some o->s.heap.get? b=some o/\H b=none:=fun b o e =>
  ⟨I.base.keep b o (I.ok.bs b o e).1 (I.ok.bs b o e).2 (I.ok.nofr e) (I.ok.noex b o e),I.base.free b o (I.ok.bs b o e).1 (I.ok.bs b o e).2 (I.ok.noex b o e)⟩
theorem Inv.bk(I:Inv X pins σ H s):∀ b o,X.base.get? b=some o->s.heap.get? b=some o:=fun b o e=>(I.bs b o e).1
theorem Inv.mod(I:Inv X pins σ H s):Mod X.K X.mg X.base:=I.ok.mod
theorem Inv.kIn(I:Inv X pins σ H s):X.K.In s.heap:=I.ok.mod.kin.keeps I.bk
theorem Inv.nolimit(I:Inv X pins σ H s):s.heap.NoLimit:=I.ok.mod.nolimit.keeps I.bk
theorem Inv.fr(I:Inv X pins σ H s):∃ m,Fr X.base X.env.locals s.heap m :=
  let ⟨m,hn,_⟩:=I.loc
  ⟨m,hn,I.bk,Nat.le_trans I.ok.bsz I.ok.above⟩
theorem Inv.lt(I:Inv X pins σ H s):X.env.locals < s.heap.objs.size:=let ⟨_,hn,_⟩:=I.loc;hn.lt
theorem Inv.sz(I:Inv X pins σ H s):X.s₀.heap.objs.size<=s.heap.objs.size:=Nat.le_trans I.ok.above (Nat.le_of_lt I.lt)
theorem Inv.nofs(I:Inv X pins σ H s){a:Addr}(h:s.heap.objs.size<=a):a ∉ X.fs:=fun hb=>by
  obtain⟨_,o,ho,_⟩:=I.ok.funs.mem hb
  exact absurd (Nat.lt_of_lt_of_le (Heap.lt_size ho) (Nat.le_trans I.sz h)) (Nat.lt_irrefl _)
theorem Inv.cne(I:Inv X pins σ H s):∀ x c,X.env.cells.lookup x=some c->c ≠ X.env.locals:=fun x c e z=>by
  obtain⟨v,o,ho,hd⟩:=I.cell x c e
  obtain⟨m,⟨o',es,ep,ho',hd',_⟩,_⟩:=I.loc
  rw[z,ho'] at ho;cases ho;rw[hd'] at hd;cases hd
theorem Inv.funs(I:Inv X pins σ H s):s.heap.FunFrames X.base X.outer:=by
  have all:∀ (l:List Env),(∀ b ∈ frs l,b ∈ X.fs)->X.s₀.heap.FunFrames X.base l->s.heap.FunFrames X.base l:=by
    intro l
    induction l with
    | nil=>intro _ _;trivial
    | cons env r ih =>
      intro hs hl
      obtain⟨hk,⟨L,o,hf,hn,ho,hd⟩,hr⟩:=hl
      have hL:L ∈ X.fs:=hs L (by unfold frs;rw[List.filterMap_cons,hf];exact List.mem_cons_self)
      obtain⟨sl,e⟩:=I.base.slot L o ho (I.ok.frf L hL) hL fun z=>I.ok.exfs L z hL
      exact⟨hk,⟨L,_,hf,hn,e,hd⟩,ih (fun b hb=>hs b (by unfold frs;rw[List.filterMap_cons,hf];exact List.mem_cons_of_mem _ hb)) hr⟩
  exact all X.outer (fun _ hb=>hb) I.ok.funs
theorem Inv.stack(I:Inv X pins σ H s):s.heap.FunFrames X.base X.stack:=by
  rcases I.ok.stk with e | ⟨e,hf⟩
  · rw[e];exact I.funs
  · rw[e]
    obtain⟨m,hn,_⟩:=I.loc
    refine .cons (by rw[I.ok.kind];decide) hf hn ?_ I.funs
    exact Heap.get?_none_of_le (Nat.le_trans I.ok.bsz I.ok.above)
theorem Inv.stkSub(I:Inv X pins σ H s):∀ b ∈ frs X.stack,b ∈ X.env.locals::X.fs:=fun b hb=>by
  rcases I.ok.stk with e | ⟨e,hf⟩
  · rw[e] at hb;exact List.mem_cons_of_mem _ hb
  · rw[e] at hb
    unfold frs at hb
    rw[List.filterMap_cons,hf] at hb
    exact hb
theorem Inv.stkFree(I:Inv X pins σ H s):∀ b ∈ frs X.stack,H b=none:=fun b hb=>by
  rcases List.mem_cons.mp (I.stkSub b hb) with e | hb
  · rw[e];exact I.free
  · obtain⟨_,o,ho,_⟩:=I.ok.funs.mem hb
    exact I.base.free b o ho (I.ok.frf b hb) fun z=>I.ok.exfs b z hb
theorem Inv.step{g':Array GenState}{t':Nat}{d':Drawn}{ch:List Addr}(I:Inv X pins σ H s)(hch:∀ b ∈ ch,(b ∈ X.ex\/X.s₀.heap.objs.size<=b)/\b ≠ X.env.locals/\(∀ x c,X.env.cells.lookup x=some c->c ≠ b)/\∀ p ∈ X.pn++pins,p.1 ≠ b)(keep:∀ b o,b ≠ X.env.locals->b ∉ X.fs->b ∉ ch->s.heap.get? b=some o->H b=none->h'.get? b=some o)(slot:∀ b o,b ≠ X.env.locals->b ∈ X.fs->b ∉ ch->s.heap.get? b=some o->H b=none->∃ sl,h'.get? b=some { o with slots:=sl })(free:∀ b o,b ∉ ch->s.heap.get? b=some o->H b=none->H' b=none)(there:∀ b o,b ∉ ch->s.heap.get? b=some o->∃ o',h'.get? b=some o')(tups:∀ b xs,H b=some (.tup xs)->H' b=some (.tup xs))(frzs:∀ b o u,H b=some (.frz o u)->H' b=some (.frz o u))(tbls:∀ b ps,H b=some (.tbl ps)->∃ more,H' b=some (.tbl (ps++more)))(ns:∀ m,s.heap.Ns X.env.locals m->h'.Ns X.env.locals m)(hok:HOk X.prog X.w H' h')(hg:AllBare g'):
    Inv X pins σ H' { s with heap:=h',gens:=g',drawn:=d',toks:=t' }:=by
  have neL:∀ b o,X.s₀.heap.get? b=some o->b ≠ X.env.locals:=fun b o e=>Nat.ne_of_lt (Nat.lt_of_lt_of_le (Heap.lt_size e) I.ok.above)
  have neC:∀ b o,X.s₀.heap.get? b=some o->b ∉ X.ex->b ∉ ch:=fun b o e hx hb=>by
    rcases (hch b hb).1 with z | z
    · exact hx z
    · exact absurd (Nat.lt_of_lt_of_le (Heap.lt_size e) z) (Nat.lt_irrefl _)
  have cellK:∀ x c,X.env.cells.lookup x=some c->∀ v,s.heap.IsCell c v->h'.IsCell c v:=fun x c e v ⟨o,ho,hd⟩=>by
    have nch:c ∉ ch:=fun z=>(hch c z).2.2.1 x c e rfl
    by_cases hc:c ∈ X.fs
    · obtain⟨sl,q⟩:=slot c o (I.cne x c e) hc nch ho (I.freeC x c e)
      exact⟨_,q,hd⟩
    · exact⟨o,keep c o (I.cne x c e) hc nch ho (I.freeC x c e),hd⟩
  refine⟨I.ok,I.os,hg,⟨fun b o e n hb hx=>?_,fun b o e n hb hx=>?_,fun b o e n hx=>?_,fun b o e hx=>?_,fun b xs e=>tups b xs (I.base.tups b xs e),fun b o xs e=>frzs b o xs (I.base.frzs b o xs e),fun b ps e=>?_⟩,?_,fun x c e=>?_,?_,fun x c e=>?_,fun p hp=>?_,hok,I.len⟩
  · exact keep b o (neL b o e) hb (neC b o e hx) (I.base.keep b o e n hb hx) (I.base.free b o e n hx)
  · obtain⟨sl,e1⟩:=I.base.slot b o e n hb hx
    obtain⟨sl',e2⟩:=slot b _ (neL b o e) hb (neC b o e hx) e1 (I.base.free b o e n hx)
    exact⟨sl',e2⟩
  · obtain⟨o',e1⟩:=I.base.there b o e hx
    exact free b o' (neC b o e hx) e1 (I.base.free b o e n hx)
  · obtain⟨o',e1⟩:=I.base.there b o e hx
    exact there b o' (neC b o e hx) e1
  · obtain⟨m1,e1⟩:=I.base.tbls b ps e
    obtain⟨m2,e2⟩:=tbls b _ e1
    exact⟨m1++m2,by rw[e2,Array.append_assoc]⟩
  · obtain⟨m,hn,hl⟩:=I.loc
    refine⟨m,ns m hn,fun i x v e1 e2 e3=>?_⟩
    obtain⟨u,r,l⟩:=hl i x v e1 e2 e3
    refine⟨u,r,?_⟩
    rcases l with l | ⟨k,c,e,z⟩
    · exact .inl l
    · exact .inr ⟨k,c,e,cellK x c e _ z⟩
  · obtain⟨v,z⟩:=I.cell x c e
    exact⟨v,cellK x c e v z⟩
  · obtain⟨m,⟨o,_,_,ho,_⟩,_⟩:=I.loc
    exact free _ o (fun z=>(hch _ z).2.1 rfl) ho I.free
  · obtain⟨v,o,ho,hd⟩:=I.cell x c e
    exact free c o (fun z=>(hch c z).2.2.1 x c e rfl) ho (I.freeC x c e)
  · obtain⟨e,n,ne,nf,d⟩:=I.pin p hp
    have nch:p.1 ∉ ch:=fun z=>(hch p.1 z).2.2.2 p hp rfl
    exact⟨keep p.1 p.2 ne nf nch e n,free p.1 p.2 nch e n,ne,nf,d⟩
theorem Inv.un{t':Nat}(I:Inv X pins σ H s)(u:Un X.fs [] H H' s.heap h')(hok:HOk X.prog X.w H' h'):Inv X pins σ H' { s with heap:=h',toks:=t' }:=by
  obtain⟨m,⟨o,es,ep,ho,r⟩,_⟩:=id I.loc
  obtain⟨sl,hL⟩:=u.any ho I.free (by simp)
  exact I.step (g':=s.gens) (d':=s.drawn) (ch:=[]) (fun _ z=>nomatch z) (fun b o _ hb _ e n=>u.keep b o e n hb (by simp)) (fun b o _ hb _ e n=>u.slot b o e n hb (by simp)) (fun b o _ e n=>u.free b o e n (by simp)) (fun b o _ e=>u.there b o e (by simp)) u.tups u.frzs u.tbls (fun m' hm=>by
    obtain⟨o',es',ep',ho',r'⟩:=hm
    rw[ho] at ho';cases ho'
    exact⟨_,es',ep',hL,r'⟩) hok I.bare
theorem Inv.call{g':Array GenState}{t':Nat}{d':Drawn}{ch:List Addr}(I:Inv X pins σ H s)(u:Un (frs X.stack) ch H H' s.heap h')(hok:HOk X.prog X.w H' h')(hg:AllBare g')(hch:∀ b ∈ ch,(b ∈ X.ex\/X.s₀.heap.objs.size<=b)/\b ≠ X.env.locals/\(∀ x c,X.env.cells.lookup x=some c->c ≠ b)/\∀ p ∈ X.pn++pins,p.1 ≠ b):
    Inv X pins σ H' { s with heap:=h',gens:=g',drawn:=d',toks:=t' }:=by
  obtain⟨m,⟨o,es,ep,ho,r⟩,_⟩:=id I.loc
  obtain⟨sl,hL⟩:=u.any ho I.free fun z=>(hch _ z).2.1 rfl
  exact I.step (ch:=ch) hch (fun b o hL hb hc e n=>u.keep b o e n (fun z=>(List.mem_cons.mp (I.stkSub b z)).elim hL hb) hc) (fun b o _ _ hc e n=>u.any e n hc) (fun b o hc e n=>u.free b o e n hc) (fun b o hc e=>u.there b o e hc) u.tups u.frzs u.tbls (fun m' hm=>by
    obtain⟨o',es',ep',ho',r'⟩:=hm
    rw[ho] at ho';cases ho'
    exact⟨_,es',ep',hL,r'⟩) hok hg
theorem Inv.turned{t':Nat}{it:Addr}(I:Inv X pins σ H s)(k:∀ b o,b ≠ it->s.heap.get? b=some o->h'.get? b=some o)(hn:H it=none)(hL:it ≠ X.env.locals)(h1:it ∈ X.ex\/X.s₀.heap.objs.size<=it)(h2:∀ x c,X.env.cells.lookup x=some c->c ≠ it)(h3:∀ p ∈ X.pn++pins,p.1 ≠ it):Inv X pins σ H { s with heap:=h',toks:=t' }:=by
  have nit:∀ b u,H b=some u->b ≠ it:=fun b u e z=>by rw[z,hn] at e;cases e
  refine I.step (g':=s.gens) (d':=s.drawn) (ch:=[it]) (fun b hb=>?_) (fun b o _ _ hc e _=>k b o (fun z=>hc (by simp[z])) e) (fun b o _ _ hc e _=>⟨o.slots,k b o (fun z=>hc (by simp[z])) e⟩) (fun _ _ _ _ n=>n)
    (fun b o hc e=>⟨o,k b o (fun z=>hc (by simp[z])) e⟩) (fun _ _ e=>e) (fun _ _ _ e=>e) (fun b ps e=>⟨#[],by rw[e];simp⟩) (fun m hm=>?_) (fun b u e=>?_) I.bare
  · have e:b=it:=by simpa using hb
    subst e
    exact⟨h1,hL,h2,h3⟩
  · obtain⟨o,es,ep,ho,r⟩:=hm
    exact⟨o,es,ep,k _ o (Ne.symm hL) ho,r⟩
  · refine (I.hok b u e).stay (fun c v hc q=>k c v ?_ q) (fun _ q=>q) fun _ _ q=>q
    rcases hc with z | z
    · rw[z];exact nit b u e
    · exact nit c _ z
theorem Inv.tok(I:Inv X pins σ H s)(t:Nat):Inv X pins σ H { s with toks:=t }:=I.un (h':=s.heap) (t':=t) Un.refl I.hok
theorem Inv.kept{t':Nat}(I:Inv X pins σ H s)(k:∀ b u,s.heap.get? b=some u->h'.get? b=some u):Inv X pins σ H { s with heap:=h',toks:=t' }:=I.un (Un.kept k) (I.hok.kept k)
theorem Inv.laid{a:Addr}{o:HO}{t':Nat}(I:Inv X pins σ H s)(k:∀ b u,s.heap.get? b=some u->h'.get? b=some u)(hp:s.heap.objs.size<=a)(new:ObjOk X.prog X.w (upd H a o) h' a o):
    Inv X pins σ (upd H a o) { s with heap:=h',toks:=t' }:=I.un (Un.laid k hp (I.hok.fresh hp)) (I.hok.laid k hp new)
theorem Inv.write{x e:Addr}{o:HO}{t':Nat}(I:Inv X pins σ H s)(mu:Mut (H x))(he:e=x\/H e=some (.own x))(k:∀ b u,b ≠ e->s.heap.get? b=some u->h'.get? b=some u)(heo:∃ u,h'.get? e=some u)(new:ObjOk X.prog X.w (upd H x o) h' x o):Inv X pins σ (upd H x o) { s with heap:=h',toks:=t' }:=I.un (Un.write mu he k heo) (I.hok.write mu he k heo new)
theorem Inv.pins_of{pins':List (Addr × Obj)}(I:Inv X pins σ H s)(h:∀ p ∈ pins',s.heap.get? p.1=some p.2/\H p.1=none/\p.1 ≠ X.env.locals/\p.1 ∉ X.fs/\∀ v,p.2.data ≠ .cell v):Inv X pins' σ H s :=
  ⟨I.ok,I.os,I.bare,I.base,I.loc,I.cell,I.free,I.freeC,fun p hp=>(List.mem_append.mp hp).elim (fun z=>I.pin p (List.mem_append_left _ z)) (h p),I.hok,I.len⟩
theorem ou{N:List Str}(hN:N.Nodup){i j:Nat}{x:Str}(a:N[i]?=some x)(b:N[j]?=some x):i=j:=by
  obtain⟨h1,e1⟩:=List.getElem?_eq_some_iff.mp a
  obtain⟨h2,e2⟩:=List.getElem?_eq_some_iff.mp b
  exact (List.getElem_inj hN).mp (e1.trans e2.symm)
theorem ow{M:Model}{A:Around}{E:Value->Shared->Prop}{i:Nat}{x:Str}{v:V}{u:Value}{Q:Unit->Shared->Prop}(I:Inv X pins σ H s)(hN:X.N.Nodup)(hi:X.N[i]?=some x)(hx:Loc X.env.scope x)(r:RelV v u)(h:∀ s',Inv X pins (σ.set i (some v)) H s'->(∃ a,Heap.SameBut a s.heap s'.heap/\(a=X.env.locals\/X.env.cells.lookup x=some a))->Q () s')(hf:X.fn x=true\/X.env.scope.names.lookup x=some .local:=by first | exact .inl rfl | exact .inr rfl | assumption):wpAny M A (storeName X.env x u) Q E s:=by
  obtain⟨m,hn,hl⟩:=id I.loc
  have hcls:(X.env.scope.kind == .class || (X.env.scope.kind == .module && X.env.locals != X.env.globals))=false:=by rw[I.ok.kind];rfl
  have hiσ:i < σ.length:=by rw[I.len];exact (List.getElem?_eq_some_iff.mp hi).1
  have cne:=I.cne
  have tracked:∀ {a:Addr} {h':Heap},(∃ o,s.heap.get? a=some o/\H a=none)->Heap.SameBut a s.heap h'->HOk X.prog X.w H h':=fun {a h'} ha hs b ob e=>by
    obtain⟨_,_,hfree⟩:=ha
    refine (I.hok b ob e).stay (fun c w' hc q=>(hs.2 c ?_).trans q) (fun _ q=>q) fun _ _ q=>q
    rintro rfl
    rcases hc with rfl | hc
    · rw[hfree] at e;cases e
    · rw[hfree] at hc;cases hc
  rcases hx with hk | hk
  · refine wpAny_storeName_local hk hn (fun h' hn' hs=>?_) hcls
    obtain⟨oL,_,_,hoL,_⟩:=id hn
    refine h _ ⟨I.ok,I.os,I.bare,⟨fun b o e n hb hx=>?_,fun b o e n hb hx=>?_,I.base.free,fun b o e hx=>?_,I.base.tups,I.base.frzs,I.base.tbls⟩,⟨_,hn',fun j y v' e1 e2 e3=>?_⟩,fun y c e=>?_,I.free,I.freeC,fun p hp=>?_,tracked ⟨oL,hoL,I.free⟩ hs,by simpa using I.len⟩ ⟨_,hs,.inl rfl⟩
    · exact (hs.2 b (Nat.ne_of_lt (Nat.lt_of_lt_of_le (Heap.lt_size e) I.ok.above))).trans (I.base.keep b o e n hb hx)
    · obtain⟨sl,e1⟩:=I.base.slot b o e n hb hx
      exact⟨sl,(hs.2 b (Nat.ne_of_lt (Nat.lt_of_lt_of_le (Heap.lt_size e) I.ok.above))).trans e1⟩
    · obtain⟨o',e1⟩:=I.base.there b o e hx
      exact⟨o',(hs.2 b (Nat.ne_of_lt (Nat.lt_of_lt_of_le (Heap.lt_size e) I.ok.above))).trans e1⟩
    · by_cases hj:j=i
      · subst hj
        rw[hi] at e1;cases e1
        rw[List.getElem?_set_self hiσ] at e2
        cases e2
        exact⟨u,r,.inl ⟨hk,by simp⟩⟩
      · rw[List.getElem?_set_ne (Ne.symm hj)] at e2
        obtain⟨u',r',q⟩:=hl j y v' e1 e2 e3
        refine⟨u',r',?_⟩
        rcases q with⟨k,e⟩ | ⟨k,c,e,z⟩
        · refine .inl ⟨k,?_⟩
          have:y ≠ x:=fun e=>hj (ou hN e1 (e ▸ hi))
          simp[this,e]
        · exact .inr ⟨k,c,e,z.sameBut hs (cne y c e)⟩
    · obtain⟨w',z⟩:=I.cell y c e
      exact⟨w',z.sameBut hs (cne y c e)⟩
    · obtain⟨e,n,ne,nf,d⟩:=I.pin p hp
      exact⟨(hs.2 p.1 ne).trans e,n,ne,nf,d⟩
  · have hfn:X.fn x=true:=by
      rcases hf with z | z
      · exact z
      · rw[z] at hk;cases hk
    obtain⟨c,hc⟩:=I.ok.has x (.inl hk)
    obtain⟨w',z⟩:=I.cell x c hc
    refine wpAny_storeName_cell I.ok.kind hk hc z (fun h' hc' hs=>?_)
    obtain⟨oc,hoc,hocd⟩:=id z
    refine h { s with heap:=h' } ⟨I.ok,I.os,I.bare,⟨fun b o e n hb hx=>?_,fun b o e n hb hx=>?_,I.base.free,fun b o e hx=>?_,I.base.tups,I.base.frzs,I.base.tbls⟩,⟨m,hn.sameBut hs (Ne.symm (cne x c hc)),fun j y v' e1 e2 e3=>?_⟩,fun y c' e=>?_,I.free,I.freeC,fun p hp=>?_,tracked ⟨oc,hoc,I.freeC x c hc⟩ hs,by simpa using I.len⟩ ⟨c,hs,.inr hc⟩
    · exact (hs.2 b (Nat.ne_of_lt (Nat.lt_of_lt_of_le (Heap.lt_size e) (I.ok.cab x c hfn hc)))).trans (I.base.keep b o e n hb hx)
    · obtain⟨sl,e1⟩:=I.base.slot b o e n hb hx
      exact⟨sl,(hs.2 b (Nat.ne_of_lt (Nat.lt_of_lt_of_le (Heap.lt_size e) (I.ok.cab x c hfn hc)))).trans e1⟩
    · obtain⟨o',e1⟩:=I.base.there b o e hx
      exact⟨o',(hs.2 b (Nat.ne_of_lt (Nat.lt_of_lt_of_le (Heap.lt_size e) (I.ok.cab x c hfn hc)))).trans e1⟩
    · by_cases hj:j=i
      · subst hj
        rw[hi] at e1;cases e1
        rw[List.getElem?_set_self hiσ] at e2
        cases e2
        exact⟨u,r,.inr ⟨.inl hk,c,hc,hc'⟩⟩
      · rw[List.getElem?_set_ne (Ne.symm hj)] at e2
        obtain⟨u',r',q⟩:=hl j y v' e1 e2 e3
        refine⟨u',r',?_⟩
        rcases q with q | ⟨k,c',e,z'⟩
        · exact .inl q
        · refine .inr ⟨k,c',e,z'.sameBut hs ?_⟩
          rintro rfl
          exact hj (ou hN e1 (I.ok.inj _ _ _ e hc ▸ hi))
    · by_cases hcc:c'=c
      · subst hcc;exact⟨_,hc'⟩
      · obtain⟨w2,z2⟩:=I.cell y c' e
        exact⟨w2,z2.sameBut hs hcc⟩
    · obtain⟨e,n,ne,nf,d⟩:=I.pin p hp
      refine⟨(hs.2 p.1 ?_).trans e,n,ne,nf,d⟩
      intro q
      rw[q,hoc] at e
      have q':oc=p.2:=Option.some.inj e
      exact d w' (by rw[<- q'];exact hocd)
theorem ox{M:Model}{A:Around}{E:Value->Shared->Prop}{i:Nat}{x:Str}{v:V}{u:Value}{Q:Unit->Shared->Prop}(I:Inv X pins σ H s)(hN:X.N.Nodup)(hi:X.N[i]?=some x)(hx:Loc X.env.scope x)(r:RelV v u)(h:∀ s',Inv X pins (σ.set i (some v)) H s'->Q () s')(hf:X.fn x=true\/X.env.scope.names.lookup x=some .local:=by first | exact .inl rfl | exact .inr rfl | assumption):wpAny M A (storeName X.env x u) Q E s :=
  ow I hN hi hx r (fun s' I' _=>h s' I') hf
theorem Inv.call'{s':Shared}{ch:List Addr}(I:Inv X pins σ H s)(ho:s'.os=s.os)(u:Un (frs X.stack) ch H H' s.heap s'.heap)(hok:HOk X.prog X.w H' s'.heap)(hg:AllBare s'.gens)(hch:∀ b ∈ ch,(b ∈ X.ex\/X.s₀.heap.objs.size<=b)/\b ≠ X.env.locals/\(∀ x c,X.env.cells.lookup x=some c->c ≠ b)/\∀ p ∈ X.pn++pins,p.1 ≠ b):Inv X pins σ H' s':=by
  obtain⟨h',g',d',t',o'⟩:=s'
  have e:o'=s.os:=ho
  subst e
  exact I.call (g':=g') (t':=t') (d':=d') u hok hg hch
end
abbrev XK:=Value->Option Addr->Hp->Prop
abbrev St:=List (Option V)
abbrev VK:=V->Hp->Prop
abbrev TE:=St->Hp->VK->Prop
abbrev TT:=St->Hp->(Bool->Hp->Prop)->Prop
abbrev TA:=St->Hp->(List V->Hp->Prop)->Prop
structure Ends where
  nx:St->Hp->Prop
  rt:VK
  bk:St->Hp->Prop:=fun _ _=>False
  ct:St->Hp->Prop:=fun _ _=>False
abbrev TS:=Ends->St->Hp->Prop
def EP(X:Cx)(pins:List (Addr × Obj))(σ:St)(Q:VK)(u:Value)(s':Shared):Prop:=∃ v H',Inv X pins σ H' s'/\RelV v u/\Q v H'
def TP(X:Cx)(pins:List (Addr × Obj))(σ:St)(Q:Bool->Hp->Prop)(b:Bool)(s':Shared):Prop:=∃ H',Inv X pins σ H' s'/\Q b H'
def AP(X:Cx)(pins:List (Addr × Obj))(σ:St)(Q:List V->Hp->Prop)(us:List Value)(s':Shared):Prop:=∃ vs H',Inv X pins σ H' s'/\Vals vs us/\Q vs H'
def SP(X:Cx)(pins:List (Addr × Obj))(D:Ends)(f:Flow)(s':Shared):Prop :=
  match f with
  | .next=>∃ σ' H',Inv X pins σ' H' s'/\D.nx σ' H'
  | .brk=>∃ σ' H',Inv X pins σ' H' s'/\D.bk σ' H'
  | .cont=>∃ σ' H',Inv X pins σ' H' s'/\D.ct σ' H'
  | .ret u=>∃ v σ' H',Inv X pins σ' H' s'/\RelV v u/\D.rt v H'
def PE(X:Cx)(e:Expr)(t:TE):Prop :=
  ∀ (pins:List (Addr × Obj)) (s:Shared) (σ:St) (H:Hp) (Q:VK),Inv X pins σ H s->t σ H Q->wpAny (model X.prog X.w) X.A (eval e X.env) (EP X pins σ Q) X.xe s
def PT(X:Cx)(e:Expr)(t:TT):Prop :=
  ∀ (pins:List (Addr × Obj)) (s:Shared) (σ:St) (H:Hp) (Q:Bool->Hp->Prop),Inv X pins σ H s->t σ H Q->wpAny (model X.prog X.w) X.A (isTrue e X.env (eval e X.env)) (TP X pins σ Q) X.xe s
def PW(X:Cx)(e:Expr)(t:TT):Prop :=
  ∀ (whole:Sem Value) (pins:List (Addr × Obj)) (s:Shared) (σ:St) (H:Hp) (Q:Bool->Hp->Prop),Inv X pins σ H s->t σ H Q->wpAny (model X.prog X.w) X.A (isTrue e X.env whole) (TP X pins σ Q) X.xe s
theorem PW.pt{X:Cx}{e:Expr}{t:TT}(h:PW X e t):PT X e t:=h _
def PA(X:Cx)(es:List Expr)(t:TA):Prop :=
  ∀ (pos:Pos) (pins:List (Addr × Obj)) (s:Shared) (σ:St) (H:Hp) (Q:List V->Hp->Prop),Inv X pins σ H s->t σ H Q->wpAny (model X.prog X.w) X.A (spliced (backTo pos (starEach es X.env))) (AP X pins σ Q) X.xe s
def PS(X:Cx)(st:Stmt)(t:TS):Prop :=
  ∀ (pins:List (Addr × Obj)) (s:Shared) (σ:St) (H:Hp) (D:Ends),Inv X pins σ H s->t D σ H->wpAny (model X.prog X.w) X.A (exec st X.env) (SP X pins D) X.xe s
def PSs(X:Cx)(st:List Stmt)(t:TS):Prop :=
  ∀ (pins:List (Addr × Obj)) (s:Shared) (σ:St) (H:Hp) (D:Ends),Inv X pins σ H s->t D σ H->wpAny (model X.prog X.w) X.A (execs st X.env) (SP X pins D) X.xe s
theorem thn{α:Type}{t:Sem α}{Q Q':α->Shared->Prop}{M:Model}{A:Around}{E:Value->Shared->Prop}{s:Shared}(h:wpAny M A t Q E s)(hQ:∀ a s,Q a s->Q' a s):wpAny M A t Q' E s:=wpAny_mono h hQ fun _ _ x=>x
end L2
namespace L2
open PySem PySem.Spec PyProof.Rows
section
variable {X:Cx}
def uW(i:Nat):TE:=fun σ H Q=>∃ v,σ[i]?=some (some v)/\Q v H
def tC(v:V):TE:=fun _ H Q=>Q v H
theorem fw{i:Nat}{x:Str}{pos:Pos}(hN:X.N[i]?=some x)(hv:Vis X.env.scope x)(hd:(x == ("__debug__" : Str))=false:=by decide)(hcd:(x == ("__classdict__" : Str))=false:=by decide):PE X (.Name x pos) (uW i):=by
  intro pins s σ H Q I h
  obtain⟨v,e,h⟩:=h
  obtain⟨m,hn,hl⟩:=I.loc
  obtain⟨u,r,l⟩:=hl i x v hN e hv
  have fin:EP X pins σ Q u s:=⟨v,H,I,r,h⟩
  rcases l with⟨hk,hm⟩ | ⟨hk,c,hc,hcell⟩
  · exact wpAny_Name (wpAny_loadName_local I.ok.kind hk hn hm fin) hd
  · rcases hk with hk | hk
    · exact wpAny_Name (wpAny_loadName_cell I.ok.kind hk hc hcell fin) hd
    · exact wpAny_Name (wpAny_loadName_free I.ok.kind hk hc hcell fin hcd) hd
theorem oy{i j pos}:PE X (.Constant (.int i) j pos) (tC (.int i)):=fun _ _ _ H _ I h=>wpAny_Constant_int ⟨.int i,H,I.tok _,⟨_,rfl⟩,h⟩
theorem uX{b j pos}:PE X (.Constant (.bool b) j pos) (tC (.bl b)):=fun _ _ _ H _ I h=>Constant_bool ⟨.bl b,H,I,rfl,h⟩
theorem uY{j pos}:PE X (.Constant .none j pos) (tC .non):=fun _ _ _ H _ I h=>Constant_none ⟨.non,H,I,rfl,h⟩
theorem lm{x j pos}:PE X (.Constant (.str x) j pos) (tC (.str x)):=fun _ _ _ H _ I h=>Calls.Constant_str ⟨.str x,H,I.tok _,⟨_,rfl⟩,h⟩
def Gl(X:Cx)(x:Str):Prop:=X.env.kindOf x=some .globalImplicit
theorem ln{E:Value->Shared->Prop}{pins:List (Addr × Obj)}{s:Shared}{σ:St}{H:Hp}{x:Str}{u:Value}{pos:Pos}{Q:Value->Shared->Prop}(I:Inv X pins σ H s)(hg:Gl X x)(hm:X.mg x=some u)(h:Q u s)(hd:(x == ("__debug__" : Str))=false:=by decide):wpAny (model X.prog X.w) X.A (eval (.Name x pos) X.env) Q E s :=
  Calls.Name_function_global I.ok.kind hg (Calls.loadGlobal_global (by rw[I.ok.glob];exact I.mod.glob.keeps I.bk) hm h) hd
theorem cJ{E:Value->Shared->Prop}{pins:List (Addr × Obj)}{s:Shared}{σ:St}{H:Hp}{x:Str}{u:Value}{pos:Pos}{Q:Value->Shared->Prop}(I:Inv X pins σ H s)(hg:Gl X x)(hm:X.mg x=none)(hv:bootBuiltins x=some u)(h:Q u s)(hn:x ≠ "__name__":=by decide)(hd:(x == ("__debug__" : Str))=false:=by decide):wpAny (model X.prog X.w) X.A (eval (.Name x pos) X.env) Q E s:=by
  obtain⟨mb,h1,h2⟩:=I.mod.blt
  exact Calls.Name_function_global I.ok.kind hg (Calls.loadGlobal_builtin (by rw[I.ok.glob];exact I.mod.glob.keeps I.bk) hm (by rw[I.ok.blt];exact h1.keeps I.bk) ((h2 x hn).trans hv) h) hd
theorem uZ{x:Str}{v:V}{u:Value}{pos:Pos}(hg:Gl X x)(hm:X.mg x=some u)(r:RelV v u)(hd:(x == ("__debug__" : Str))=false:=by decide):PE X (.Name x pos) (tC v) :=
  fun _ _ _ H _ I h=>ln I hg hm ⟨v,H,I,r,h⟩ hd
theorem v4{x:Str}{v:V}{u:Value}{pos:Pos}(hg:Gl X x)(hm:X.mg x=none)(hv:bootBuiltins x=some u)(r:RelV v u)(hn:x ≠ "__name__":=by decide)(hd:(x == ("__debug__" : Str))=false:=by decide):PE X (.Name x pos) (tC v) :=
  fun _ _ _ H _ I h=>cJ I hg hm hv ⟨v,H,I,r,h⟩ hn hd
variable {a b:Expr} {ta tb:TE} {pos:Pos}
variable {tA tB':TT} {aq:List Expr}
def v5(t u:TT):TT:=fun σ H Q=>t σ H fun c H1=>if c=true then u σ H1 Q else Q false H1
def tOr(t u:TT):TT:=fun σ H Q=>t σ H fun c H1=>if c=true then Q true H1 else u σ H1 Q
def v6(t:TT):TT:=fun σ H Q=>t σ H fun c H1=>Q (!c) H1
theorem v7(ha:PT X a tA):PW X (.BoolOp .And [a] pos) tA:=by
  intro wh pins s σ H Q I h
  refine isTrue_and (thn (ha pins s σ H Q I h) fun c s1 e=>?_)
  cases c with
  | true=>exact isTrue_and_nil e
  | false=>exact e
theorem v8(ha:PT X a tA):PW X (.BoolOp .Or [a] pos) tA:=by
  intro wh pins s σ H Q I h
  refine isTrue_or (thn (ha pins s σ H Q I h) fun c s1 e=>?_)
  cases c with
  | false=>exact isTrue_or_nil e
  | true=>exact e
theorem v9(ha:PT X a tA)(hb:PW X (.BoolOp .And (b::aq) pos) tB'):PW X (.BoolOp .And (a::b::aq) pos) (v5 tA tB'):=by
  intro wh pins s σ H Q I h
  refine isTrue_and (thn (ha pins s σ H _ I h) fun c s1 ⟨H1,I1,q1⟩=>?_)
  cases c with
  | true=>exact hb wh pins s1 σ H1 Q I1 q1
  | false=>exact⟨H1,I1,q1⟩
theorem vc(ha:PT X a tA)(hb:PW X (.BoolOp .Or (b::aq) pos) tB'):PW X (.BoolOp .Or (a::b::aq) pos) (tOr tA tB'):=by
  intro wh pins s σ H Q I h
  refine isTrue_or (thn (ha pins s σ H _ I h) fun c s1 ⟨H1,I1,q1⟩=>?_)
  cases c with
  | true=>exact⟨H1,I1,q1⟩
  | false=>exact hb wh pins s1 σ H1 Q I1 q1
theorem oz(ha:PT X a tA):PT X (.UnaryOp .Not a pos) (v6 tA):=by
  intro pins s σ H Q I h
  exact isTrue_not (ha pins s σ H (fun c H1=>Q (!c) H1) I h)
def vd(ta tb:TE):TE:=fun σ H Q=>ta σ H fun x H1=>∃ c,x=.bl c/\if c=true then tb σ H1 Q else Q (.bl false) H1
def vf(ta:TE):TE:=fun σ H Q=>ta σ H fun x H1=>∃ c,x=.bl c/\Q (.bl (!c)) H1
theorem oA{op}{t:TE}(h:PE X a t):PE X (.BoolOp op [a] pos) t:=fun pins s σ H Q I hw=>BoolOp_one (h pins s σ H Q I hw)
theorem oB(ha:PE X a ta)(hb:PE X (.BoolOp .And (b::aq) pos) tb):PE X (.BoolOp .And (a::b::aq) pos) (vd ta tb):=by
  intro pins s σ H Q I h
  refine BoolOp_and (thn (ha pins s σ H _ I h) fun v s1 ⟨x,H1,I1,r1,q1⟩=>?_)
  obtain⟨c,rfl,q1⟩:=q1
  cases r1
  refine wpAny_truthy_bool ?_
  cases c with
  | true=>exact hb pins s1 σ H1 Q I1 q1
  | false=>exact⟨.bl false,H1,I1,rfl,q1⟩
theorem vg(ha:PE X a ta):PE X (.UnaryOp .Not a pos) (vf ta):=by
  intro pins s σ H Q I h
  refine UnaryOp_ (thn (ha pins s σ H _ I h) fun v s1 ⟨x,H1,I1,r1,q1⟩=>?_)
  obtain⟨c,rfl,q1⟩:=q1
  cases r1
  exact not_of (wpAny_truthy_bool ⟨.bl (!c),H1,I1,rfl,q1⟩)
def tIf(t:TT)(ta tb:TE):TE:=fun σ H Q=>t σ H fun c H1=>if c=true then ta σ H1 Q else tb σ H1 Q
theorem vh{c:Expr}(hc:PT X c tA)(ha:PE X a ta)(hb:PE X b tb):PE X (.IfExp c a b pos) (tIf tA ta tb):=by
  intro pins s σ H Q I h
  refine wpAny_IfExp (thn (hc pins s σ H _ I h) fun d s1 ⟨H1,I1,q1⟩=>?_)
  cases d with
  | true=>exact ha pins s1 σ H1 Q I1 q1
  | false=>exact hb pins s1 σ H1 Q I1 q1
end
end L2
namespace L2
open PySem PySem.Spec PyProof.Rows
def SqL(K:PySem.W.Frag)(H:Hp)(a:Addr)(xs:List V):Prop :=
  Rd H a (.lst xs) \/
    ∃ (o:Obj) (its:Array Value) (n:Nat),K.lookup a=some o/\o.cls=.type "list"/\o.dict=none/\o.data=.seq its n/\its.size<=sizeLine/\Vals xs its.toList
def SqT(K:PySem.W.Frag)(H:Hp)(a:Addr)(xs:List V):Prop :=
  Rd H a (.tup xs) \/
    ∃ (o:Obj) (its:Array Value) (n:Nat),K.lookup a=some o/\o.cls=.type "tuple"/\o.data=.seq its n/\its.size<=sizeLine/\Vals xs its.toList
def vi:Value->Option V
  | .none=>some .non
  | .bool b=>some (.bl b)
  | .int i _=>some (.int i)
  | .str x _=>some (.str x)
  | .bytes b _=>some (.byt b)
  | .float b _=>some (.flt b)
  | .ref a=>some (.ref a)
  | .type n=>some (.ty n)
  | _=>none
theorem RelV.abs{x:V}{u:Value}(r:RelV x u):vi u=some x:=by
  cases x with
  | non=>cases r;rfl
  | bl _=>cases r;rfl
  | int _=>obtain⟨t,rfl⟩:=r;rfl
  | str _=>obtain⟨t,rfl⟩:=r;rfl
  | byt _=>obtain⟨t,rfl⟩:=r;rfl
  | flt _=>obtain⟨t,rfl⟩:=r;rfl
  | ref _=>cases r;rfl
  | ty _=>cases r;rfl
theorem RelV.inj{x y:V}{u:Value}(r:RelV x u)(q:RelV y u):x=y:=Option.some.inj (r.abs.symm.trans q.abs)
theorem Vals.inj:∀ {xs ys:List V} {us:List Value},Vals xs us->Vals ys us->xs=ys
  | _,_,_,.nil,.nil=>rfl
  | _,_,_,.cons r t,.cons r' t'=>by rw[r.inj r',Vals.inj t t']
section
variable {X:Cx} {pins:List (Addr × Obj)} {σ:St} {H:Hp} {s:Shared} {a:Addr} {xs ys:List V}
theorem SqL.of{K:PySem.W.Frag}(h:H a=some (.lst xs)):SqL K H a xs:=.inl (.inl h)
theorem SqT.of{K:PySem.W.Frag}(h:H a=some (.tup xs)):SqT K H a xs:=.inl (.inl h)
theorem Inv.list(I:Inv X pins σ H s)(h:SqL X.K H a xs):∃ its:List Value,Vals xs its/\PlainL s.heap a its.toArray/\xs.length<=sizeLine:=by
  rcases h with h | ⟨o,its,n,hk,hc,hd,hs,hz,r⟩
  · obtain⟨z,its,n,r,e⟩:=h.ok I.hok
    exact⟨its,r,⟨_,n,e,rfl,rfl,rfl⟩,z⟩
  · refine⟨its.toList,r,⟨o,n,I.kIn a o hk,hc,hd,by simpa using hs⟩,?_⟩
    have e:=r.length
    simp only[Array.length_toList] at e
    omega
theorem Inv.tuple(I:Inv X pins σ H s)(h:SqT X.K H a xs):∃ its:List Value,Vals xs its/\IsTup s.heap a its.toArray/\xs.length<=sizeLine:=by
  rcases h with h | ⟨o,its,n,hk,hc,hs,hz,r⟩
  · obtain⟨z,its,r,p⟩:=h.ok I.hok
    exact⟨its,r,p,z⟩
  · refine⟨its.toList,r,⟨o,I.kIn a o hk,hc,n,by simpa using hs⟩,?_⟩
    have e:=r.length
    simp only[Array.length_toList] at e
    omega
theorem Inv.list_inj(I:Inv X pins σ H s)(h:SqL X.K H a xs)(h':SqL X.K H a ys):xs=ys:=by
  obtain⟨its,r,⟨o,n,e,_,_,d⟩,_⟩:=I.list h
  obtain⟨its',r',⟨o',n',e',_,_,d'⟩,_⟩:=I.list h'
  rw[e] at e';cases e'
  rw[d] at d'
  injection d' with d1 _
  have:its=its':=by simpa using congrArg Array.toList d1
  subst this
  exact r.inj r'
end
abbrev Cx.wish(X:Cx)(E:Value->Shared->Prop):Cx:={ X with xe:=E }
abbrev Cx.nox(X:Cx):Cx:=X.wish fun _ _=>False
theorem Cx.Ok.wish{X:Cx}(ok:X.Ok)(E:Value->Shared->Prop):(X.wish E).Ok :=
  ⟨ok.mod,ok.kind,ok.glob,ok.blt,ok.above,ok.inj,ok.has,ok.cab,ok.hd,ok.frames,ok.stk,ok.exf,ok.bs,ok.bsz,ok.noex,ok.exfs,ok.funs,ok.frf⟩
theorem Cx.Ok.unwish{X:Cx}{E:Value->Shared->Prop}(ok:(X.wish E).Ok):X.Ok :=
  ⟨ok.mod,ok.kind,ok.glob,ok.blt,ok.above,ok.inj,ok.has,ok.cab,ok.hd,ok.frames,ok.stk,ok.exf,ok.bs,ok.bsz,ok.noex,ok.exfs,ok.funs,ok.frf⟩
section
variable {X:Cx} {pins:List (Addr × Obj)} {σ:St} {H:Hp} {s:Shared} {E:Value->Shared->Prop}
theorem Inv.wish(I:Inv X pins σ H s)(E:Value->Shared->Prop):Inv (X.wish E) pins σ H s:=⟨I.ok.wish E,I.os,I.bare,I.base,I.loc,I.cell,I.free,I.freeC,I.pin,I.hok,I.len⟩
theorem Inv.unwish(I:Inv (X.wish E) pins σ H s):Inv X pins σ H s:=⟨I.ok.unwish,I.os,I.bare,I.base,I.loc,I.cell,I.free,I.freeC,I.pin,I.hok,I.len⟩
theorem SP.unwish{D:Ends}{f:Flow}{s':Shared}(h:SP (X.wish E) pins D f s'):SP X pins D f s':=by
  cases f with
  | next=>obtain⟨σ',H',I,q⟩:=h;exact⟨σ',H',I.unwish,q⟩
  | brk=>obtain⟨σ',H',I,q⟩:=h;exact⟨σ',H',I.unwish,q⟩
  | cont=>obtain⟨σ',H',I,q⟩:=h;exact⟨σ',H',I.unwish,q⟩
  | ret u=>obtain⟨v,σ',H',I,r,q⟩:=h;exact⟨v,σ',H',I.unwish,r,q⟩
theorem PE.nox{e:Expr}{t:TE}(h:PE X.nox e t):PE X e t:=fun pins s σ H Q I hw =>
  wpAny_mono (h pins s σ H Q (I.wish _) hw) (fun _ _ ⟨v,H',I',r,q⟩=>⟨v,H',I'.unwish,r,q⟩) fun _ _ z=>False.elim z
theorem PT.nox{e:Expr}{t:TT}(h:PT X.nox e t):PT X e t:=fun pins s σ H Q I hw =>
  wpAny_mono (h pins s σ H Q (I.wish _) hw) (fun _ _ ⟨H',I',q⟩=>⟨H',I'.unwish,q⟩) fun _ _ z=>False.elim z
theorem PSs.nox{st:List Stmt}{t:TS}(h:PSs X.nox st t):PSs X st t:=fun pins s σ H D I hw =>
  wpAny_mono (h pins s σ H D (I.wish _) hw) (fun _ _ q=>q.unwish) fun _ _ z=>False.elim z
end
section
variable {X:Cx} {st:Stmt} {aq:List Stmt} {t u:TS} {e:Expr} {te:TE} {pos:Pos}
def vj:TS:=fun D σ H=>D.nx σ H
def vk(t u:TS):TS:=fun D σ H=>t { D with nx:=u D } σ H
theorem oC:PSs X [] vj:=fun _ _ σ H _ I h=>wpAny_execs_nil ⟨σ,H,I,h⟩
theorem ig(h1:PS X st t)(h2:PSs X aq u):PSs X (st::aq) (vk t u):=by
  intro pins s σ H D I h
  refine wpAny_execs_cons (thn (h1 pins s σ H { D with nx:=u D } I h) fun f s1 q=>?_)
  cases f with
  | next =>
    obtain⟨σ',H',I',q⟩:=q
    exact h2 pins s1 σ' H' D I' q
  | ret v=>exact q
  | brk=>exact q
  | cont=>exact q
theorem lq(h1:PS X st t):PSs X [st] t:=by
  intro pins s σ H D I h
  refine wpAny_execs_cons (thn (h1 pins s σ H D I h) fun f s1 q=>?_)
  cases f with
  | next=>exact wpAny_execs_nil q
  | ret v=>exact q
  | brk=>exact q
  | cont=>exact q
theorem Inv.quiet{pins:List (Addr × Obj)}{σ:St}{H:Hp}{s:Shared}(I:Inv X pins σ H s):interactive X.env=false:=by simp[interactive,I.ok.kind]
def vm(te:TE):TS:=fun D σ H=>te σ H fun _ H1=>D.nx σ H1
theorem jx(he:PE X e te)(hs:swapsWith e none pos.line X.env=pure false:=by rfl):PS X (.Expr e pos) (vm te):=by
  intro pins s σ H D I h
  exact wpAny_Expr_any (thn (he pins s σ H _ I h) fun v s1 ⟨x,H1,I1,r1,q1⟩=>⟨σ,H1,I1,q1⟩) I.quiet hs
def vn(te:TE):TS:=fun D σ H=>te σ H D.rt
theorem gC(he:PE X e te):PS X (.Return (some e) pos) (vn te):=by
  intro pins s σ H D I h
  exact wpAny_Return_some (thn (he pins s σ H _ I h) fun v s1 ⟨x,H1,I1,r1,q1⟩=>⟨x,σ,H1,I1,r1,q1⟩)
def vo(c:TT)(t u:TS):TS:=fun D σ H=>c σ H fun b H1=>if b=true then t D σ H1 else u D σ H1
theorem oE{c:Expr}{a b:List Stmt}{tc:TT}(hc:PT X c tc)(ha:PSs X a t)(hb:PSs X b u):PS X (.If c a b pos) (vo tc t u):=by
  intro pins s σ H D I h
  refine wpAny_If (thn (hc pins s σ H _ I h) fun d s1 ⟨H1,I1,q1⟩=>?_)
  cases d with
  | true=>exact ha pins s1 σ H1 D I1 q1
  | false=>exact hb pins s1 σ H1 D I1 q1
def vp:TS:=fun _ _ _=>False
theorem vq{sts:List Stmt}:PSs X sts vp:=fun _ _ _ _ _ _ h=>h.elim
end
abbrev TG:=V->St->Hp->(St->Hp->Prop)->Prop
abbrev TGs:=List V->St->Hp->(St->Hp->Prop)->Prop
def PG(X:Cx)(target:Expr)(t:TG):Prop :=
  ∀ (pins:List (Addr × Obj)) (s:Shared) (σ:St) (H:Hp) (v:V) (u:Value) (Q:St->Hp->Prop),Inv X pins σ H s->RelV v u->t v σ H Q ->
    wpAny (model X.prog X.w) X.A (assign target X.env u) (fun _ s'=>∃ σ' H',Inv X pins σ' H' s'/\Q σ' H') X.xe s
def PGs(X:Cx)(ts:List Expr)(t:TGs):Prop :=
  ∀ (pins:List (Addr × Obj)) (s:Shared) (σ:St) (H:Hp) (vs:List V) (us:List Value) (Q:St->Hp->Prop),Inv X pins σ H s->Vals vs us->t vs σ H Q ->
    wpAny (model X.prog X.w) X.A (assignInOrder ((assignEach ts X.env).map (·.2)) us) (fun _ s'=>∃ σ' H',Inv X pins σ' H' s'/\Q σ' H') X.xe s
abbrev lr:=V->V->V->Hp->(Hp->Prop)->Prop
def oF(X:Cx)(t:lr):Prop :=
  ∀ (pins:List (Addr × Obj)) (s:Shared) (σ:St) (H:Hp) (o i v:V) (ov iv u:Value) (Q:Hp->Prop),Inv X pins σ H s->RelV o ov->RelV i iv->RelV v u->t o i v H Q ->
    wpAny (model X.prog X.w) X.A (setItem ov iv u) (fun _ s'=>∃ H',Inv X pins σ H' s'/\Q H') X.xe s
section
variable {X:Cx} {pos:Pos}
def bq(i:Nat):TG:=fun v σ H Q=>Q (σ.set i (some v)) H
theorem bu{i:Nat}{x:Str}(hN:X.N.Nodup)(hi:X.N[i]?=some x)(hx:Loc X.env.scope x)(hf:X.fn x=true\/X.env.scope.names.lookup x=some .local:=by first | exact .inl rfl | exact .inr rfl | assumption):PG X (.Name x pos) (bq i):=by
  intro pins s σ H v u Q I r h
  exact wpAny_assign_Name (ox I hN hi hx r (fun s' I'=>⟨_,H,I',h⟩) hf)
def oG:TGs:=fun vs σ H Q=>vs=[]/\Q σ H
def oH(t:TG)(u:TGs):TGs:=fun vs σ H Q=>∃ v r,vs=v::r/\t v σ H fun σ' H'=>u r σ' H' Q
theorem vt:PGs X [] oG:=by
  intro pins s σ H vs us Q I r h
  obtain⟨e,h⟩:=h
  subst e
  cases r
  exact assignInOrder_nil ⟨σ,H,I,h⟩
theorem vz{e:Expr}{es:List Expr}{t:TG}{u:TGs}(h1:PG X e t)(h2:PGs X es u)(hs:(assignEach (e::es) X.env).map (·.2)=assign e X.env::(assignEach es X.env).map (·.2):=by rfl):PGs X (e::es) (oH t u):=by
  intro pins s σ H vs us Q I r h
  obtain⟨v,vr,e1,h⟩:=h
  subst e1
  cases r with
  | cons r rr =>
    rw[hs]
    refine assignInOrder_cons (thn (h1 pins s σ H _ _ _ I r h) fun _ s1 ⟨σ1,H1,I1,q1⟩=>?_)
    exact h2 pins s1 σ1 H1 _ _ Q I1 rr q1
def oI(K:PySem.W.Frag)(n:Nat)(t:TGs):TG:=fun v σ H Q=>∃ a xs,v=.ref a/\SqT K H a xs/\xs.length=n/\t xs σ H Q
theorem ij{es:List Expr}{k:Nat}{t:TGs}{n:Nat}(hc:X.calm=true)(h:PGs X es t)(hn:(assignEach es X.env).length=n:=by rfl)(hst:(assignEach es X.env).findIdx? (·.1)=none:=by rfl):PG X (.Tuple es k pos) (oI X.K n t):=by
  intro pins s σ H v u Q I r hw
  obtain⟨a,xs,e1,hq,hl,hw⟩:=hw
  subst e1
  cases r
  obtain⟨its,rv,ht,hz⟩:=I.tuple hq
  refine assign_Tuple_tuple (I.ok.hd hc) ht (by simp[hn,<- hl,rv.length]) hst fun h' hx=>?_
  have I1:Inv X pins σ H { s with heap:=h' }:=I.kept (t':=s.toks) fun b o e=>hx b o (Nat.ne_of_lt (Heap.lt_size e)) e
  exact h pins _ σ H xs _ Q I1 (by simpa using rv) hw
def vA(to ti:TE)(t:lr):TG:=fun v σ H Q=>to σ H fun o H1=>ti σ H1 fun i H2=>t o i v H2 fun H3=>Q σ H3
theorem vB{o i:Expr}{to ti:TE}{t:lr}(ho:PE X o to)(hi:PE X i ti)(hs:oF X t)(ha:∀ v,assign (.Subscript o i pos) X.env v=(do
      let ov <- holding [v] (eval o X.env)
      let iv <- holding [v,ov] (eval i X.env)
      standAt pos
      holding [v,ov,iv] (setItem ov iv v)
      release [v,ov,iv] []):=by intro _;rfl):PG X (.Subscript o i pos) (vA to ti t):=by
  intro pins s σ H v u Q I r h
  rw[ha]
  refine wpAny_bind (wpAny_holding (thn (ho pins s σ H _ I h) fun ov s1 ⟨x,H1,I1,r1,q1⟩=>?_))
  refine wpAny_bind (wpAny_holding (thn (hi pins s1 σ H1 _ I1 q1) fun iv s2 ⟨y,H2,I2,r2,q2⟩=>?_))
  refine wpAny_bind (wpAny_standAt (wpAny_bind (wpAny_holding (thn (hs pins s2 σ H2 x y v ov iv u _ I2 r1 r2 r q2) fun _ s3 ⟨H3,I3,q3⟩=>?_))))
  exact wpAny_release ⟨σ,H3,I3,q3⟩
def ls(te:TE)(g:TG):TS:=fun D σ H=>te σ H fun x H1=>g x σ H1 D.nx
theorem lu{tg e:Expr}{te:TE}{g:TG}(he:PE X e te)(hg:PG X tg g)(hs:swapsWithSole [tg] e pos.line X.env=pure false:=by rfl)(hw:swappedStores [tg] e X.env=pure none:=by rfl)(h1:(assignEach [tg] X.env).map (·.2)=[assign tg X.env]:=by rfl):PS X (.Assign [tg] e pos) (ls te g):=by
  intro pins s σ H D I h
  refine wpAny_Assign_stores (thn (he pins s σ H _ I h) fun v s1 ⟨x,H1,I1,r1,q1⟩=>?_) hs hw
  rw[h1]
  exact thn (hg pins s1 σ H1 x v _ I1 r1 q1) fun _ s2 q=>q
theorem jz{i:Nat}{x:Str}{e:Expr}{te:TE}{pos':Pos}(hN:X.N.Nodup)(hi:X.N[i]?=some x)(hx:Loc X.env.scope x)(he:PE X e te)(hs:swapsWith e (some (.Name x pos')) pos.line X.env=pure false:=by rfl)(hf:X.fn x=true\/X.env.scope.names.lookup x=some .local:=by first | exact .inl rfl | exact .inr rfl | assumption):
    PS X (.Assign [.Name x pos'] e pos) (ls te (bq i)):=by
  intro pins s σ H D I h
  refine wpAny_Assign_Name (thn (he pins s σ H _ I h) fun v s1 ⟨y,H1,I1,r1,q1⟩=>?_) hs
  exact ox I1 hN hi hx r1 (fun s2 I2=>⟨_,H1,I2,q1⟩) hf
end
section
variable {X:Cx} {pos:Pos}
end
structure It where
  go:Nat->Hp->Prop
  yld:Nat->Hp->V->Hp->Prop
  stop:Nat->Hp->Prop
def bI(X:Cx)(pins:List (Addr × Obj))(H:Hp)(b:Addr):Prop :=
  H b=none/\b ≠ X.env.locals/\b ∉ X.fs/\(b ∈ X.ex\/X.s₀.heap.objs.size<=b)/\(∀ x c,X.env.cells.lookup x=some c->c ≠ b)/\∀ p ∈ X.pn++pins,p.1 ≠ b
theorem Inv.fpOk{X:Cx}{pins:List (Addr × Obj)}{σ:St}{H H':Hp}{s:Shared}{b:Addr}(I:Inv X pins σ H s)(hb:s.heap.objs.size<=b)(hn:H' b=none):bI X pins H' b:=by
  refine⟨hn,Nat.ne_of_gt (Nat.lt_of_lt_of_le I.lt hb),I.nofs hb,.inr (Nat.le_trans I.sz hb),fun x c e z=>?_,fun p hp z=>?_⟩
  · obtain⟨v,q⟩:=I.cell x c e
    exact absurd (Nat.lt_of_lt_of_le q.lt (by rw[z];exact hb)) (Nat.lt_irrefl _)
  · exact absurd (Nat.lt_of_lt_of_le (Heap.lt_size (I.pin p hp).1) (by rw[z];exact hb)) (Nat.lt_irrefl _)
structure Turn (P:Program) (w:World) (K:PySem.W.Frag) (tg:Expr) (J:It) (fp:List Addr) (it:Addr) (tn:Nat->Heap->Prop):Prop where
  mem:it ∈ fp
  obj:∀ i h,tn i h->∀ b ∈ fp,∃ o,h.get? b=some o/\∀ v,o.data ≠ .cell v
  keep:∀ i h h',tn i h->(∀ b ∈ fp,∀ o,h.get? b=some o->h'.get? b=some o)->tn i h'
  item:∀ (X:Cx),X.prog=P->X.w=w->X.K=K->X.calm=true->∀ (i:Nat) (pins:List (Addr × Obj)) (s:Shared) (σ:St) (H:Hp) (E:Value->Shared->Prop),Inv X pins σ H s->(∀ b ∈ fp,bI X pins H b)->tn i s.heap->J.go i H ->
    wpAny (model P w) X.A (pyNext (.ref it)) (fun r s1=>∃ u,r=some u /\
      wpAny (model P w) X.A (letOwnedTupleGo tg (.ref it) u) (fun _ s2=>∃ x H',Inv X pins σ H' s2/\RelV x u/\J.yld i H x H'/\tn (i+1) s2.heap/\∀ b ∈ fp,H' b=none) E s1) E s
  done:∀ (X:Cx),X.prog=P->X.w=w->X.K=K->X.calm=true->∀ (i:Nat) (pins:List (Addr × Obj)) (s:Shared) (σ:St) (H:Hp) (E:Value->Shared->Prop),Inv X pins σ H s->(∀ b ∈ fp,bI X pins H b)->tn i s.heap->J.stop i H ->
    wpAny (model P w) X.A (pyNext (.ref it)) (fun r s1=>r=none/\Inv X pins σ H s1) E s
  self:∀ (A:Around) (i:Nat) (s:Shared) (Q:Value->Shared->Prop) (E:Value->Shared->Prop),tn i s.heap->Q (.ref it) s->wpAny (model P w) A (pyIter (.ref it)) Q E s
abbrev TI:=St->Hp->(It->Hp->Prop)->Prop
def PIE(X:Cx)(pins:List (Addr × Obj))(σ:St)(tg:Expr)(R:It->Hp->Prop)(itv:Value)(s2:Shared):Prop :=
  ∃ (it:Addr) (fp:List Addr) (tn:Nat->Heap->Prop) (J:It) (H':Hp),itv=.ref it/\Inv X pins σ H' s2/\Turn X.prog X.w X.K tg J fp it tn/\tn 0 s2.heap/\(∀ b ∈ fp,bI X pins H' b)/\R J H'
def PI(X:Cx)(tg iter:Expr)(wi:TI):Prop :=
  ∀ (pins:List (Addr × Obj)) (s:Shared) (σ:St) (H:Hp) (R:It->Hp->Prop),Inv X pins σ H s->wi σ H R ->
    wpAny (model X.prog X.w) X.A (eval iter X.env) (fun v s1=>wpAny (model X.prog X.w) X.A (pyIter v) (PIE X pins σ tg R) X.xe s1) X.xe s
theorem jA{M:Model}{A:Around}{E:Value->Shared->Prop}{s:Shared}{tg:Expr}{it:Addr}{u:Value}{o:Obj}{n:String}{vs:Array Value}{Q:Unit->Shared->Prop}(ho:s.heap.get? it=some o)(hc:o.cls=.type n)(hd:o.data=.fields vs)(hn:["enumerate","zip","dict_itemiterator","dict_reverseitemiterator","odict_iterator","itertools.zip_longest","itertools.pairwise"].contains n=false)(hQ:Q () s):wpAny M A (letOwnedTupleGo tg (.ref it) u) Q E s:=by
  unfold letOwnedTupleGo
  cases tg <;> first
    | exact wpAny_pure hQ
    | (cases u <;> first
        | exact wpAny_pure hQ
        | (refine wpAny_bind (wpAny_load ho ?_)
           rw[hc,hd]
           show wpAny M A (if (["enumerate","zip","dict_itemiterator","dict_reverseitemiterator","odict_iterator","itertools.zip_longest","itertools.pairwise"].contains n && vs[0]? == some (rawInt _))=true then _ else _) Q E s
           rw[if_neg (by intro h;rw[hn,Bool.false_and] at h;cases h)]
           exact wpAny_pure hQ))
def Itl(K:PySem.W.Frag)(a:Addr):It :=
  ⟨fun i H=>∃ xs x,SqL K H a xs/\xs[i]?=some x,fun i H x H'=>H'=H/\∀ xs,SqL K H a xs->xs[i]?=some x,fun i H=>∃ xs,SqL K H a xs/\xs.length<=i⟩
def Itr(lo:Int)(n:Nat):It:=⟨fun i _=>i < n,fun i H x H'=>H'=H/\x=.int (lo+i),fun i _=>n<=i⟩
theorem vC{P:Program}{w:World}{K:PySem.W.Frag}{tg:Expr}(a it:Addr):Turn P w K tg (Itl K a) [it] it (fun i h=>h.IsListIter it a i) where
  mem:=by simp
  obj:=fun i h st b hb=>by
    have e:b=it:=by simpa using hb
    subst e
    obtain⟨o,e,c,d⟩:=st
    exact⟨o,e,fun v z=>by rw[d] at z;cases z⟩
  keep:=fun i h h' st k=>st.at fun o e=>k it (by simp) o e
  item:=by
    intro X hP hw hK hc i pins s σ H E I hf st hg
    subst hP hw hK
    obtain⟨xs,x,hq,hx⟩:=hg
    obtain⟨its,rv,p,hz⟩:=I.list hq
    obtain⟨u,hu,ru⟩:=rv.get hx
    obtain⟨f0,f1,f2,f3,f4,f5⟩:=hf it (by simp)
    refine wpAny_pyNext_list_item st p.isList (x:=u) (by simpa using hu) fun h' st' sb=>?_
    have I1:Inv X pins σ H { s with heap:=h' }:=I.turned (t':=s.toks) (fun b o hb e=>(sb.2 b hb).trans e) f0 f1 f3 f4 f5
    obtain⟨o,e,c,d⟩:=id st'
    exact⟨u,rfl,jA (s:={ s with heap:=h' }) e c d (by decide) ⟨x,H,I1,ru,⟨rfl,fun ys hy=>by rw[I.list_inj hy hq];exact hx⟩,st',fun b hb=>(hf b hb).1⟩⟩
  done:=by
    intro X hP hw hK hc i pins s σ H E I hf st hg
    subst hP hw hK
    obtain⟨xs,hq,hx⟩:=hg
    obtain⟨its,rv,p,hz⟩:=I.list hq
    obtain⟨f0,f1,f2,f3,f4,f5⟩:=hf it (by simp)
    have hl:=rv.length
    exact wpAny_pyNext_list_end (I.ok.hd hc) st p.isList (by simp;omega) fun h' eb=>⟨rfl,I.turned (t':=s.toks) (fun b o hb e=>eb b o hb e) f0 f1 f3 f4 f5⟩
  self:=fun _ _ _ _ _ st h=>wpAny_pyIter_listiter st h
theorem vD{P:Program}{w:World}{K:PySem.W.Frag}{tg:Expr}(it:Addr)(lo:Int)(n:Nat):Turn P w K tg (Itr lo n) [it] it (fun i h=>IsRangeIter h it (lo+(i:Nat) * 1) ((n:Int) - (i:Nat)) 1) where
  mem:=by simp
  obj := fun i h st b hb=>by
    have e:b=it:=by simpa using hb
    subst e
    exact⟨_,st,fun v z=>by
      have z':Data.fields _=Data.cell v:=z
      cases z'⟩
  keep:=fun i h h' st k=>k it (by simp) _ st
  item:=by
    intro X hP hw hK hc i pins s σ H E I hf st hg
    subst hP hw hK
    obtain⟨f0,f1,f2,f3,f4,f5⟩:=hf it (by simp)
    have W:=Walks.range (prog:=X.prog) (w:=X.w) (I.ok.hd hc) it lo 1 n
    refine W.item i s _ _ hg st fun v h' tk hv st' kk=>?_
    obtain⟨t,rfl⟩:=hv
    have I1:Inv X pins σ H { s with heap:=h',toks:=tk }:=I.turned (fun b o hb e=>kk b o (by simpa using hb) e) f0 f1 f3 f4 f5
    refine⟨_,rfl,jA (s:={ s with heap:=h',toks:=tk }) (n:="range_iterator") st' rfl rfl (by decide) ⟨.int (lo+i),H,I1,⟨t,?_⟩,⟨rfl,rfl⟩,st',fun b hb=>(hf b hb).1⟩⟩
    rw[Int.mul_one]
  done:=by
    intro X hP hw hK hc i pins s σ H E I hf st hg
    subst hP hw hK
    obtain⟨f0,f1,f2,f3,f4,f5⟩:=hf it (by simp)
    exact wpAny_pyNext_range_end (I.ok.hd hc) st (by have:n<=i:=hg;omega) fun h' eb=>⟨rfl,I.turned (t':=s.toks) (fun b o hb e=>eb b o hb e) f0 f1 f3 f4 f5⟩
  self:=fun _ _ _ _ _ st h=>wpAny_pyIter_rangeiter st h
end L2
namespace L2
open PySem PySem.Spec PyProof.Rows
section
variable {X:Cx} {tg:Expr}
def oJ(K:PySem.W.Frag)(tl:TE):TI:=fun σ H R=>tl σ H fun x H1=>∃ a,x=.ref a/\(∃ xs,SqL K H1 a xs)/\R (Itl K a) H1
theorem gD{l:Expr}{tl:TE}(hl:PE X l tl):PI X tg l (oJ X.K tl):=by
  intro pins s σ H R I h
  refine thn (hl pins s σ H _ I h) fun v s1 ⟨x,H1,I1,r1,q1⟩=>?_
  obtain⟨a,e,⟨xs,hq⟩,q⟩:=q1
  subst e
  cases r1
  obtain⟨its,rv,p,hz⟩:=I1.list hq
  refine wpAny_pyIter_list p.isList ?_
  refine⟨s1.heap.objs.size,[s1.heap.objs.size],_,_,H1,rfl,I1.kept (t':=s1.toks) fun b o e=>Heap.get?_push_of_some _ e,vC a _,⟨_,Heap.get?_push_size _ rfl,rfl,rfl⟩,fun b hb=>?_,q⟩
  have e:b=s1.heap.objs.size:=by simpa using hb
  subst e
  exact I1.fpOk (Nat.le_refl _) (I1.hok.fresh (Nat.le_refl _))
theorem oK{pins:List (Addr × Obj)}{σ:St}{H:Hp}{s:Shared}{R:It->Hp->Prop}{E:Value->Shared->Prop}{lo hi:Int}{t u v:Tok}{tk:Nat}(I:Inv X pins σ H s)(h1:-(2 ^ 62)<=lo)(h2:lo < 2 ^ 62)(h3:-(2 ^ 62)<=hi)(h4:hi < 2 ^ 62)(q:R (Itr lo (hi - lo).toNat) H):wpAny (model X.prog X.w) X.A (pyIter (.ref s.heap.objs.size)) (PIE X pins σ tg R) E { s with heap:=s.heap.push { cls:=.type "range",data:=.fields #[.int lo t,.int hi u,.int 1 v] },toks:=tk }:=by
  refine wpAny_pyIter_range (IsRange.new ..) (small_one h1 h2 h3 h4) ?_
  have I1:Inv X pins σ H { s with heap:=s.heap.push { cls:=.type "range",data:=.fields #[.int lo t,.int hi u,.int 1 v] },toks:=tk }:=I.kept fun b o e=>Heap.get?_push_of_some _ e
  refine⟨(s.heap.push { cls:=.type "range",data:=.fields #[.int lo t,.int hi u,.int 1 v] }).objs.size,[(s.heap.push { cls:=.type "range",data:=.fields #[.int lo t,.int hi u,.int 1 v] }).objs.size],_,_,H,rfl,
    I1.kept (t':=tk) fun b o e=>Heap.get?_push_of_some _ e,vD _ lo (hi - lo).toNat,?_,fun b hb=>?_,q⟩
  · have e1:lo+((0:Nat):Int) * 1=lo:=by simp
    have e2:(((hi - lo).toNat:Nat):Int) - ((0:Nat):Int)=Builtin.Range.rangeSize lo hi 1:=by rw[rangeSize_one];split <;> omega
    show IsRangeIter _ _ (lo+((0:Nat):Int) * 1) ((((hi - lo).toNat:Nat):Int) - ((0:Nat):Int)) 1
    rw[e1,e2]
    exact Heap.get?_push_size _ rfl
  · have e:b=(s.heap.push { cls:=.type "range",data:=.fields #[.int lo t,.int hi u,.int 1 v] }).objs.size:=by simpa using hb
    subst e
    exact I1.fpOk (Nat.le_refl _) (I1.hok.fresh (Nat.le_refl _))
def oM(ta:TA):TI:=fun σ H R=>ta σ H fun vs H1=>∃ j:Int,vs=[.int j]/\-(2 ^ 62)<=j/\j < 2 ^ 62/\R (Itr 0 j.toNat) H1
def vE(ta:TA):TI:=fun σ H R=>ta σ H fun vs H1=>∃ i j:Int,vs=[.int i,.int j]/\(-(2 ^ 62)<=i/\i < 2 ^ 62/\-(2 ^ 62)<=j/\j < 2 ^ 62)/\R (Itr i (j - i).toNat) H1
theorem jB{a:Expr}{ta:TA}{p pos:Pos}(hg:Gl X "range")(hm:X.mg "range" = none)(ha:PA X [a] ta)(hs:starEach [a] X.env=[(false,eval a X.env)]:=by rfl):PI X tg (.Call (.Name "range" p) [a] [] pos) (oM ta):=by
  intro pins s σ H R I h
  refine Call_ (cJ I hg hm boot_range (PyProof.Rows.callWith_type1 (thn (ha pos pins s σ H _ I h) fun us s1 ⟨vs,H1,I1,r1,q1⟩=>?_) hs rfl))
  obtain⟨j,e,q1,q2,q⟩:=q1
  subst e
  cases r1 with
  | cons r rr =>
    cases rr
    obtain⟨t,rfl⟩:=r
    exact call_range_1 (oK I1 (by omega) (by omega) q1 q2 (by simpa using q))
theorem vF{a b:Expr}{ta:TA}{p pos:Pos}(hg:Gl X "range")(hm:X.mg "range" = none)(ha:PA X [a,b] ta)(hs:starEach [a,b] X.env=[(false,eval a X.env),(false,eval b X.env)]:=by rfl)(hs2:starEach [b] X.env=[(false,eval b X.env)]:=by rfl):
    PI X tg (.Call (.Name "range" p) [a,b] [] pos) (vE ta):=by
  intro pins s σ H R I h
  refine Call_ (cJ I hg hm boot_range (PyProof.Rows.callWith_type1 (thn (ha pos pins s σ H _ I h) fun us s1 ⟨vs,H1,I1,r1,q1⟩=>?_) (by rw[hs,hs2]) (by rw[hs2];rfl)))
  obtain⟨i,j,e,⟨q1,q2,q3,q4⟩,q⟩:=q1
  subst e
  cases r1 with
  | cons r rr =>
    cases rr with
    | cons r' rr =>
      cases rr
      obtain⟨t,rfl⟩:=r
      obtain⟨t',rfl⟩:=r'
      exact call_range_2 (oK I1 q1 q2 q3 q4 q)
def vG(wi:TI)(g:TG)(tb:TS):TS:=fun D σ H=>wi σ H fun J H1=>∃ W:Nat->Nat->St->Hp->Prop,(∃ m,W 0 m σ H1)/\∀ i m σ H,W i m σ H ->
  (J.stop i H/\D.nx σ H)\/(J.go i H/\∃ N:St->Hp->Prop,(∀ σ' H',N σ' H'->∃ m',m' < m/\W (i+1) m' σ' H')/\∀ x H',J.yld i H x H'->g x σ H' fun σ2 H2=>tb { D with nx:=N,ct:=N,bk:=D.nx } σ2 H2)
def ik(fp:List Addr)(h:Heap):List (Addr × Obj):=fp.filterMap fun b=>(h.get? b).map fun o=>(b,o)
theorem jC{fp:List Addr}{h:Heap}{b:Addr}{o:Obj}(hb:b ∈ fp)(e:h.get? b=some o):(b,o) ∈ ik fp h:=List.mem_filterMap.mpr ⟨b,hb,by rw[e];rfl⟩
theorem vH{fp:List Addr}{h:Heap}{p:Addr × Obj}(hp:p ∈ ik fp h):p.1 ∈ fp/\h.get? p.1=some p.2:=by
  obtain⟨b,hb,e⟩:=List.mem_filterMap.mp hp
  cases q:h.get? b with
  | none=>rw[q] at e;cases e
  | some o =>
    rw[q] at e
    have e':(b,o)=p:=Option.some.inj e
    subst e'
    exact⟨hb,q⟩
theorem Inv.pinned{pins:List (Addr × Obj)}{σ:St}{H:Hp}{s:Shared}{fp:List Addr}(I:Inv X pins σ H s)(hf:∀ b ∈ fp,bI X pins H b)(ho:∀ b ∈ fp,∃ o,s.heap.get? b=some o/\∀ v,o.data ≠ .cell v):Inv X (pins++ik fp s.heap) σ H s :=
  I.pins_of fun p hp=>(List.mem_append.mp hp).elim (fun z=>I.pin p (List.mem_append_right _ z)) fun z=>by
    obtain⟨hb,e⟩:=vH z
    obtain⟨f0,f1,f2,_⟩:=hf p.1 hb
    obtain⟨o,e',d⟩:=ho p.1 hb
    rw[e] at e';cases e'
    exact⟨e,f0,f1,f2,d⟩
theorem Inv.unpinned{pins pl:List (Addr × Obj)}{σ:St}{H:Hp}{s:Shared}(I:Inv X (pins++pl) σ H s):Inv X pins σ H s:=I.pins_of fun p hp=>I.pin p (List.mem_append_right _ (List.mem_append_left _ hp))
theorem fy{iter:Expr}{body:List Stmt}{wi:TI}{g:TG}{tb:TS}{pos:Pos}(hp:PassesOwn (model X.prog X.w) X.A X.env X.xe)(hc:X.calm=true)(hi:PI X tg iter wi)(hg:PG X tg g)(hb:PSs X body tb)(hs:∀ x,foldedSetIterable iter X.env x=pure x:=by intro _;rfl):PS X (.For tg iter body [] pos) (vG wi g tb):=by
  intro pins s σ H D I h
  refine wpAny_For (thn (hi pins s σ H _ I h) fun v s1 h1=>thn h1 fun itv s2 h2=>?_) hs
  obtain⟨it,fp,tn,J,H2,e,I2,T,st2,f2,W,⟨m0,w0⟩,turn⟩:=h2
  subst e
  have stat:∀ {H':Hp},(∀ b ∈ fp,H' b=none)->∀ b ∈ fp,bI X pins H' b:=fun hn b hb=>⟨hn b hb,(f2 b hb).2⟩
  refine codeAny_forLoop_any (fun n s'=>∃ i σ' H',Inv X pins σ' H' s'/\tn i s'.heap/\(∀ b ∈ fp,H' b=none)/\W i n σ' H') ?_ m0 ⟨0,σ,H2,I2,st2,fun b hb=>(f2 b hb).1,w0⟩
  rintro n s3 ⟨i,σ3,H3,I3,st3,fr3,w3⟩
  rcases turn i n σ3 H3 w3 with⟨stop,qn⟩ | ⟨go,N,hN,step⟩
  · refine wpAny_passesOwn hp (thn (T.done X rfl rfl rfl hc i pins s3 σ3 H3 X.xe I3 (stat fr3) st3 stop) fun r s4 ⟨hr,I4⟩=>?_)
    subst hr
    exact wpAny_execs_nil ⟨σ3,H3,I4,qn⟩
  · refine wpAny_passesOwn hp (thn (T.item X rfl rfl rfl hc i pins s3 σ3 H3 X.xe I3 (stat fr3) st3 go) fun r s4 ⟨u,hr,h4⟩=>?_)
    subst hr
    refine wpAny_passesOwn hp (thn h4 fun _ s5 ⟨x,H5,I5,r5,y5,st5,fr5⟩=>?_)
    have I5':=I5.pinned (stat fr5) (T.obj _ _ st5)
    refine wpAny_passesOwn hp (thn (hg _ s5 σ3 H5 x u _ I5' r5 (step x H5 y5)) fun _ s6 ⟨σ6,H6,I6,q6⟩=>?_)
    refine wpAny_passesOwn hp (thn (hb _ s6 σ6 H6 _ I6 q6) fun f s7 q7=>?_)
    have again:∀ {σ7:St} {H7:Hp},Inv X (pins++ik fp s5.heap) σ7 H7 s7->N σ7 H7->∃ m,m < n/\∃ i σ' H',Inv X pins σ' H' s7/\tn i s7.heap/\(∀ b ∈ fp,H' b=none)/\W i m σ' H':=fun {σ7 H7} I7 n7=>by
      obtain⟨m',hm,w7⟩:=hN σ7 H7 n7
      refine⟨m',hm,i+1,σ7,H7,I7.unpinned,T.keep _ _ _ st5 fun b hb o e=>(I7.pin (b,o) (List.mem_append_right _ (List.mem_append_right _ (jC hb e)))).1,fun b hb=>?_,w7⟩
      obtain⟨o,e,d⟩:=T.obj _ _ st5 b hb
      exact (I7.pin (b,o) (List.mem_append_right _ (List.mem_append_right _ (jC hb e)))).2.1
    cases f with
    | next=>obtain⟨σ7,H7,I7,n7⟩:=q7;exact again I7 n7
    | cont=>obtain⟨σ7,H7,I7,n7⟩:=q7;exact again I7 n7
    | brk=>obtain⟨σ7,H7,I7,q7⟩:=q7;exact⟨σ7,H7,I7.unpinned,q7⟩
    | ret v=>obtain⟨x7,σ7,H7,I7,r7,q7⟩:=q7;exact⟨x7,σ7,H7,I7.unpinned,r7,q7⟩
end
theorem oN{K:PySem.W.Frag}{a:Addr}{xs:List V}{g:TG}{tb:TS}{D:Ends}{σ:St}{H:Hp}(Pv:Nat->St->Hp->Prop)(h0:Pv 0 σ H)(hl:∀ i σ H,i<=xs.length->Pv i σ H->SqL K H a xs)(hs:∀ i x σ H,xs[i]?=some x->Pv i σ H->g x σ H fun σ2 H2=>tb { D with nx:=Pv (i+1),ct:=Pv (i+1),bk:=D.nx } σ2 H2)(hd:∀ σ H,Pv xs.length σ H->D.nx σ H):
    ∃ W:Nat->Nat->St->Hp->Prop,(∃ m,W 0 m σ H)/\∀ i m σ H,W i m σ H ->
      ((Itl K a).stop i H/\D.nx σ H)\/((Itl K a).go i H/\∃ N:St->Hp->Prop,(∀ σ' H',N σ' H'->∃ m',m' < m/\W (i+1) m' σ' H')/\∀ x H',(Itl K a).yld i H x H'->g x σ H' fun σ2 H2=>tb { D with nx:=N,ct:=N,bk:=D.nx } σ2 H2):=by
  refine⟨fun i m σ H=>m=xs.length - i/\i<=xs.length/\Pv i σ H,⟨xs.length,by simp,Nat.zero_le _,h0⟩,?_⟩
  rintro i m σ H ⟨rfl,hi,p⟩
  have q:=hl i σ H hi p
  by_cases hlt:i < xs.length
  · refine .inr ⟨⟨xs,xs[i],q,by simp[hlt]⟩,Pv (i+1),fun σ' H' p'=>⟨xs.length - (i+1),by omega,rfl,hlt,p'⟩,fun x H' y=>?_⟩
    obtain⟨e,y⟩:=y
    subst e
    exact hs i x σ _ (y xs q) p
  · have e:i=xs.length:=by omega
    subst e
    exact .inl ⟨⟨xs,q,Nat.le_refl _⟩,hd σ H p⟩
theorem oO{lo:Int}{n:Nat}{g:TG}{tb:TS}{D:Ends}{σ:St}{H:Hp}(Pv:Nat->St->Hp->Prop)(h0:Pv 0 σ H)(hs:∀ i σ H,i < n->Pv i σ H->g (.int (lo+i)) σ H fun σ2 H2=>tb { D with nx:=Pv (i+1),ct:=Pv (i+1),bk:=D.nx } σ2 H2)(hd:∀ σ H,Pv n σ H->D.nx σ H):
    ∃ W:Nat->Nat->St->Hp->Prop,(∃ m,W 0 m σ H)/\∀ i m σ H,W i m σ H ->
      ((Itr lo n).stop i H/\D.nx σ H)\/((Itr lo n).go i H/\∃ N:St->Hp->Prop,(∀ σ' H',N σ' H'->∃ m',m' < m/\W (i+1) m' σ' H')/\∀ x H',(Itr lo n).yld i H x H'->g x σ H' fun σ2 H2=>tb { D with nx:=N,ct:=N,bk:=D.nx } σ2 H2):=by
  refine⟨fun i m σ H=>m=n - i/\i<=n/\Pv i σ H,⟨n,by simp,Nat.zero_le _,h0⟩,?_⟩
  rintro i m σ H ⟨rfl,hi,p⟩
  by_cases hlt:i < n
  · refine .inr ⟨hlt,Pv (i+1),fun σ' H' p'=>⟨n - (i+1),by omega,rfl,hlt,p'⟩,fun x H' y=>?_⟩
    obtain⟨e,y⟩:=y
    subst e y
    exact hs i σ _ hlt p
  · have e:i=n:=by omega
    subst e
    exact .inl ⟨Nat.le_refl _,hd σ H p⟩
end L2
namespace L2
open PySem PySem.Spec PyProof.Rows
abbrev R2:=V->V->Hp->VK->Prop
def OpR(X:Cx)(f:Value->Value->Sem Value)(r:R2):Prop :=
  ∀ (pins:List (Addr × Obj)) (s:Shared) (σ:St) (H:Hp) (x y:V) (v u:Value) (Q:VK),Inv X pins σ H s->RelV x v->RelV y u->r x y H Q ->
    wpAny (model X.prog X.w) X.A (f v u) (EP X pins σ Q) X.xe s
def UnR(X:Cx)(f:Value->Sem Value)(r:V->Hp->VK->Prop):Prop :=
  ∀ (pins:List (Addr × Obj)) (s:Shared) (σ:St) (H:Hp) (x:V) (v:Value) (Q:VK),Inv X pins σ H s->RelV x v->r x H Q ->
    wpAny (model X.prog X.w) X.A (f v) (EP X pins σ Q) X.xe s
def CallR(X:Cx)(f:Value)(r:List V->Hp->VK->Prop):Prop :=
  ∀ (pins:List (Addr × Obj)) (s:Shared) (σ:St) (H:Hp) (xs:List V) (us:List Value) (Q:VK),Inv X pins σ H s->Vals xs us->r xs H Q ->
    wpAny (model X.prog X.w) X.A (call f us) (EP X pins σ Q) X.xe s
def vI(X:Cx)(r:V->Hp->(Bool->Hp->Prop)->Prop):Prop :=
  ∀ (pins:List (Addr × Obj)) (s:Shared) (σ:St) (H:Hp) (x:V) (v:Value) (Q:Bool->Hp->Prop),Inv X pins σ H s->RelV x v->r x H Q ->
    wpAny (model X.prog X.w) X.A (truthy v) (TP X pins σ Q) X.xe s
def tOp(r:R2)(ta tb:TE):TE:=fun σ H Q=>ta σ H fun x H1=>tb σ H1 fun y H2=>r x y H2 Q
def tUn(r:V->Hp->VK->Prop)(ta:TE):TE:=fun σ H Q=>ta σ H fun x H1=>r x H1 Q
def rI(C:Int->Int->Prop)(g:Int->Int->V):R2:=fun x y H Q=>∃ i j,x=.int i/\y=.int j/\C i j/\Q (g i j) H
def rI0(g:Int->Int->V):R2:=fun x y H Q=>∃ i j,x=.int i/\y=.int j/\Q (g i j) H
def rU(g:Int->V):V->Hp->VK->Prop:=fun x H Q=>∃ i,x=.int i/\Q (g i) H
section
variable {X:Cx} {a b c:Expr} {ta tb tc:TE} {pos:Pos}
theorem lw(ha:PE X a ta)(hb:PE X b tb){pins:List (Addr × Obj)}{s:Shared}{σ:St}{H:Hp}{R:V->V->Hp->Prop}(I:Inv X pins σ H s)(h:ta σ H fun x H1=>tb σ H1 fun y H2=>R x y H2){Q:Value->Shared->Prop}{f:Value->Value->Sem Value}(hf:∀ v u s2 x y H2,Inv X pins σ H2 s2->RelV x v->RelV y u->R x y H2->wpAny (model X.prog X.w) X.A (f v u) Q X.xe s2):
    wpAny (model X.prog X.w) X.A (eval a X.env) (fun v s₁=>wpAny (model X.prog X.w) X.A (eval b X.env) (fun u s₂=>wpAny (model X.prog X.w) X.A (f v u) Q X.xe s₂) X.xe s₁) X.xe s:=by
  refine thn (ha pins s σ H _ I h) fun v s1 ⟨x,H1,I1,r1,q1⟩=>?_
  refine thn (hb pins s1 σ H1 _ I1 q1) fun u s2 ⟨y,H2,I2,r2,q2⟩=>?_
  exact hf v u s2 x y H2 I2 r1 r2 q2
theorem jD{op:Operator}{r:R2}(ho:OpR X (binaryOp op) r)(ha:PE X a ta)(hb:PE X b tb):PE X (.BinOp a op b pos) (tOp r ta tb):=by
  intro pins s σ H Q I h
  exact wpAny_BinOp (lw ha hb I h fun v u s2 x y H2 I2 rx ry q=>ho pins s2 σ H2 x y v u Q I2 rx ry q)
theorem vJ{op:UnaryOp}{r:V->Hp->VK->Prop}(ho:UnR X (unaryOp op) r)(ha:PE X a ta):PE X (.UnaryOp op a pos) (tUn r ta):=by
  intro pins s σ H Q I h
  exact UnaryOp_ (thn (ha pins s σ H _ I h) fun v s1 ⟨x,H1,I1,r1,q1⟩=>ho pins s1 σ H1 x v Q I1 r1 q1)
theorem opI{f:Value->Value->Sem Value}{C:Int->Int->Prop}{g:Int->Int->Int}(rule:∀ (i j:Int) (t u:Tok) (s:Shared) (Q:Value->Shared->Prop) (E:Value->Shared->Prop),C i j->Q (.int (g i j) s.toks) { s with toks:=s.toks+1 }->wpAny (model X.prog X.w) X.A (f (.int i t) (.int j u)) Q E s):
    OpR X f (rI C fun i j=>.int (g i j)):=by
  intro pins s σ H x y v u Q I rx ry h
  obtain⟨i,j,rfl,rfl,hc,q⟩:=h
  obtain⟨t,rfl⟩:=rx
  obtain⟨t',rfl⟩:=ry
  exact rule i j t t' s _ _ hc ⟨.int (g i j),H,I.tok _,⟨_,rfl⟩,q⟩
theorem oP{f:Value->Value->Sem Value}{g:Int->Int->Int}(rule:∀ (i j:Int) (t u:Tok) (s:Shared) (Q:Value->Shared->Prop) (E:Value->Shared->Prop),Q (.int (g i j) s.toks) { s with toks:=s.toks+1 }->wpAny (model X.prog X.w) X.A (f (.int i t) (.int j u)) Q E s):
    OpR X f (rI0 fun i j=>.int (g i j)):=by
  intro pins s σ H x y v u Q I rx ry h
  obtain⟨i,j,rfl,rfl,q⟩:=h
  obtain⟨t,rfl⟩:=rx
  obtain⟨t',rfl⟩:=ry
  exact rule i j t t' s _ _ ⟨.int (g i j),H,I.tok _,⟨_,rfl⟩,q⟩
theorem lz{f:Value->Value->Sem Value}{g:Int->Int->Bool}(rule:∀ (i j:Int) (t u:Tok) (s:Shared) (Q:Value->Shared->Prop) (E:Value->Shared->Prop),Q (.bool (g i j)) s->wpAny (model X.prog X.w) X.A (f (.int i t) (.int j u)) Q E s):
    OpR X f (rI0 fun i j=>.bl (g i j)):=by
  intro pins s σ H x y v u Q I rx ry h
  obtain⟨i,j,rfl,rfl,q⟩:=h
  obtain⟨t,rfl⟩:=rx
  obtain⟨t',rfl⟩:=ry
  exact rule i j t t' s _ _ ⟨.bl (g i j),H,I,rfl,q⟩
def CMul(i j:Int):Prop:=(-(2 ^ 64) < i/\i < 2 ^ 64)\/(-(2 ^ 64) < j/\j < 2 ^ 64)
theorem CMul.ok{i j:Int}(h:CMul i j):IntMulOk i j:=by
  rcases h with⟨h1,h2⟩ | ⟨h1,h2⟩
  · exact .of_left (intBits_le_64 h1 h2)
  · exact .of_right (intBits_le_64 h1 h2)
theorem oQ:OpR X (binaryOp .Add) (rI0 fun i j=>.int (i+j)):=oP fun _ _ _ _ _ _ _ q=>add_int q
theorem oR:OpR X (binaryOp .Sub) (rI0 fun i j=>.int (i - j)):=oP fun _ _ _ _ _ _ _ q=>sub_int q
theorem vK:OpR X (binaryOp .Mod) (rI (fun _ j=>0 < j) fun i j=>.int (i % j)):=opI fun i j _ _ _ _ _ hc q=>by
  have h1:(0:Int) < j:=hc
  exact mod_int' (by omega) (by rw[Int.fmod_eq_emod_of_nonneg i (by omega)];exact q)
theorem unI{f:Value->Sem Value}{g:Int->Int}(rule:∀ (i:Int) (t:Tok) (s:Shared) (Q:Value->Shared->Prop) (E:Value->Shared->Prop),Q (.int (g i) s.toks) { s with toks:=s.toks+1 }->wpAny (model X.prog X.w) X.A (f (.int i t)) Q E s):
    UnR X f (rU fun i=>.int (g i)):=by
  intro pins s σ H x v Q I rx h
  obtain⟨i,rfl,q⟩:=h
  obtain⟨t,rfl⟩:=rx
  exact rule i t s _ _ ⟨.int (g i),H,I.tok _,⟨_,rfl⟩,q⟩
theorem vL:UnR X (unaryOp .USub) (rU fun i=>.int (-i)):=unI fun _ _ _ _ _ q=>neg_int q
end
section
variable {X:Cx} {a b c:Expr} {ta tb tc:TE} {pos:Pos}
theorem oS{pins:List (Addr × Obj)}{σ:St}{H:Hp}{s:Shared}{Q:VK}{k k':Bool}(I:Inv X pins σ H s)(q:Q (.bl k) H)(e:k=k'):EP X pins σ Q (.bool k') s:=by
  subst e
  exact⟨.bl k,H,I,rfl,q⟩
theorem lA:OpR X (compareOp .LtE) (rI0 fun i j=>.bl (decide (i<=j))):=lz fun _ _ _ _ _ _ _ q=>le_int q
theorem oT:OpR X (compareOp .Gt) (rI0 fun i j=>.bl (decide (j < i))):=lz fun _ _ _ _ _ _ _ q=>gt_int q
theorem vM:OpR X (compareOp .GtE) (rI0 fun i j=>.bl (decide (j<=i))):=lz fun _ _ _ _ _ _ _ q=>ge_int q
theorem oU:OpR X (compareOp .Is) (fun x y H Q=>y=.non/\Q (.bl (decide (x=.non))) H):=by
  intro pins s σ H x y v u Q I rx ry h
  obtain⟨rfl,q⟩:=h
  cases ry
  refine is_none_gen (oS I q ?_)
  cases x <;> first
    | (cases rx;rfl)
    | (obtain⟨t,rfl⟩:=rx;rfl)
theorem oV:OpR X (compareOp .IsNot) (fun x y H Q=>y=.non/\Q (.bl (!decide (x=.non))) H):=by
  intro pins s σ H x y v u Q I rx ry h
  obtain⟨rfl,q⟩:=h
  cases ry
  refine isnot_none_gen (oS I q ?_)
  cases x <;> first
    | (cases rx;rfl)
    | (obtain⟨t,rfl⟩:=rx;rfl)
theorem OpR.or{f:Value->Value->Sem Value}{r r':R2}(h:OpR X f r)(h':OpR X f r'):OpR X f (fun x y H Q=>r x y H Q\/r' x y H Q):=by
  intro pins s σ H x y v u Q I rx ry q
  rcases q with q | q
  · exact h pins s σ H x y v u Q I rx ry q
  · exact h' pins s σ H x y v u Q I rx ry q
theorem cB(b:Expr){op:CmpOp}(h:op ≠ .In:=by decide)(h2:op ≠ .NotIn:=by decide):behindInMarks op b=false:=by
  have e1:(op == CmpOp.In)=false:=by cases op <;> first | rfl | exact absurd rfl h
  have e2:(op == CmpOp.NotIn)=false:=by cases op <;> first | rfl | exact absurd rfl h2
  cases b <;> simp[behindInMarks,e1,e2]
theorem oW{op:CmpOp}{r:R2}(ho:OpR X (compareOp op) r)(ha:PE X a ta)(hb:PE X b tb)(hm:behindInMarks op b=false):PE X (.Compare a [op] [b] pos) (tOp r ta tb):=by
  intro pins s σ H Q I h
  exact wpAny_Compare1 (lw ha hb I h fun v u s2 x y H2 I2 rx ry q=>ho pins s2 σ H2 x y v u Q I2 rx ry q) hm
def vN(t:TE):TT:=fun σ H Q=>t σ H fun x H'=>∃ k,x=.bl k/\Q k H'
theorem jE{op:CmpOp}{r:R2}(ho:OpR X (compareOp op) r)(ha:PE X a ta)(hb:PE X b tb)(hm:behindInMarks op b=false):PT X (.Compare a [op] [b] pos) (vN (tOp r ta tb)):=by
  intro pins s σ H Q I h
  refine wpAny_isTrue_Compare1 (thn (ha pins s σ H _ I h) fun v s1 ⟨x,H1,I1,r1,q1⟩=>thn (hb pins s1 σ H1 _ I1 q1) fun u s2 ⟨y,H2,I2,r2,q2⟩ =>
    thn (ho pins s2 σ H2 x y v u _ I2 r1 r2 q2) fun c s3 ⟨z,H3,I3,r3,k,e,q3⟩=>?_) hm
  subst e
  cases r3
  exact wpAny_truthy_bool ⟨H3,I3,q3⟩
def oX(r r':R2)(ta tb tc:TE):TE:=fun σ H Q=>ta σ H fun x H1=>tb σ H1 fun y H2=>r x y H2 fun z H3=>∃ k,z=.bl k /\
  (if k=true then tc σ H3 fun w' H4=>r' y w' H4 Q else Q (.bl false) H3)
theorem vO{op op':CmpOp}{r r':R2}(ho:OpR X (compareOp op) r)(ho':OpR X (compareOp op') r')(ha:PE X a ta)(hb:PE X b tb)(hc:PE X c tc)(hm:lastMarks [op,op'] [b,c]=false:=by with_unfolding_all rfl):PE X (.Compare a [op,op'] [b,c] pos) (oX r r' ta tb tc):=by
  intro pins s σ H Q I h
  refine Compare_chain (thn (ha pins s σ H _ I h) fun v s1 ⟨x,H1,I1,r1,q1⟩=>chain_link (thn (hb pins s1 σ H1 _ I1 q1) fun u s2 ⟨y,H2,I2,r2,q2⟩ =>
    thn (ho pins s2 σ H2 x y v u _ I2 r1 r2 q2) fun d s3 ⟨z,H3,I3,r3,k,e,q3⟩=>?_)) hm
  subst e
  cases r3
  refine wpAny_truthy_bool ?_
  cases k with
  | false=>exact ite_ff ⟨.bl false,H3,I3,rfl,q3⟩
  | true=>exact ite_tt (chain_last (thn (hc pins s3 σ H3 _ I3 q3) fun w' s4 ⟨z',H4,I4,r4,q4⟩=>ho' pins s4 σ H4 y z' u w' Q I4 r2 r4 q4))
def lB(K:PySem.W.Frag)(x:V)(H:Hp)(k:Bool):Prop :=
  match x with
  | .non=>k=false
  | .bl b=>k=b
  | .int i=>k=(i != 0)
  | .str y=>y.length<=sizeLine/\k=((y.length:Int) != 0)
  | .byt y=>y.size<=sizeLine/\k=((y.size:Int) != 0)
  | .ref p=>(∃ xs,SqL K H p xs/\k = !xs.isEmpty)\/(∃ xs,SqT K H p xs/\k = !xs.isEmpty)\/∃ kvs,H p=some (.dK kvs)/\k = !kvs.isEmpty
  | _=>False
theorem vP{κ:Type}{kvs:List (κ × V)}{vs:List (κ × Value)}(r:KV kvs vs):(!vs.isEmpty) = !kvs.isEmpty:=by
  cases r <;> rfl
theorem oY{xs:List V}{its:List Value}(r:Vals xs its):(!its.toArray.isEmpty) = !xs.isEmpty:=by
  cases r <;> simp
theorem il:(sizeLine:Nat) < 2 ^ 63:=by rw[sizeLine_eq];decide
theorem vQ:vI X (fun x H Q=>∃ k,lB X.K x H k/\Q k H):=by
  intro pins s σ H x v Q I rx h
  obtain⟨k,e,q⟩:=h
  have hl:=il
  have hs:sizeLine=16777216:=sizeLine_eq
  cases x with
  | non =>
    cases rx
    have e':k=false:=e
    subst e'
    exact truthy_none ⟨H,I,q⟩
  | bl b =>
    cases rx
    have e':k=b:=e
    subst e'
    exact wpAny_truthy_bool ⟨H,I,q⟩
  | int i =>
    obtain⟨t,rfl⟩:=rx
    have e':k=(i != 0):=e
    subst e'
    exact PySem.P.truthy_int ⟨H,I,q⟩
  | str y =>
    obtain⟨t,rfl⟩:=rx
    obtain⟨hy,e'⟩:y.length<=sizeLine/\k=((y.length:Int) != 0):=e
    subst e'
    exact PySem.P.truthy_str (by omega) ⟨H,I.tok _,q⟩
  | byt y =>
    obtain⟨t,rfl⟩:=rx
    obtain⟨hy,e'⟩:y.size<=sizeLine/\k=((y.size:Int) != 0):=e
    subst e'
    exact PySem.W.truthy_bytes (by omega) ⟨H,I.tok _,q⟩
  | ref p =>
    cases rx
    have e':(∃ xs,SqL X.K H p xs/\k = !xs.isEmpty)\/(∃ xs,SqT X.K H p xs/\k = !xs.isEmpty)\/∃ kvs,H p=some (.dK kvs)/\k = !kvs.isEmpty:=e
    rcases e' with⟨xs,hx,e'⟩ | ⟨xs,hx,e'⟩ | ⟨kvs,hx,e'⟩
    · subst e'
      obtain⟨its,r,pl,hz⟩:=I.list hx
      have hlen:=r.length
      exact wpAny_truthy_list pl.isList (by simp only[List.size_toArray];omega) ⟨H,I.tok _,by rw[oY r];exact q⟩
    · subst e'
      obtain⟨its,r,pl,hz⟩:=I.tuple hx
      have hlen:=r.length
      exact truthy_tuple pl (by simp only[List.size_toArray];omega) ⟨H,I.tok _,by rw[oY r];exact q⟩
    · subst e'
      obtain⟨hz,hS,vs,r,m⟩:kvs.length<=sizeLine/\(p == sysModules)=false/\∃ vs,KV kvs vs/\s.heap.DictOf (cm X.prog X.w) p vs:=I.hok p _ hx
      have hlen:kvs.length=vs.length:=Paired.length r
      exact wpAny_truthy_dict hS m (by omega) ⟨H,I.tok _,by rw[vP r];exact q⟩
  | _=>exact (show False from e).elim
theorem oZ(ha:PE X a ta)(he:∀ whole,isTrue a X.env whole=(do let v <- whole;standAt a.pos;holding [v] (truthy v))):
    PT X a (fun σ H Q=>ta σ H fun x H'=>∃ k,lB X.K x H' k/\Q k H'):=by
  intro pins s σ H Q I h
  exact isTrue_plain (thn (ha pins s σ H _ I h) fun v s1 ⟨x,H1,I1,r1,q1⟩=>vQ pins s1 σ H1 x v Q I1 r1 q1) (he _)
theorem eo{x:V}{us:List Value}(r:Vals [x] us):∃ u,us=[u]/\RelV x u:=by
  cases r with
  | cons r1 r2=>cases r2;exact⟨_,rfl,r1⟩
theorem lC{x y:V}{us:List Value}(r:Vals [x,y] us):∃ u w',us=[u,w']/\RelV x u/\RelV y w':=by
  cases r with
  | cons r1 r2 =>
    cases r2 with
    | cons r3 r4=>cases r4;exact⟨_,_,rfl,r1,r3⟩
theorem vR(hc:X.calm=true):CallR X (.builtin "max") (fun xs H Q=>∃ i j,xs=[.int i,.int j]/\Q (.int (if j > i then j else i)) H):=by
  intro pins s σ H xs us Q I r h
  obtain⟨i,j,rfl,q⟩:=h
  obtain⟨u,w',rfl,⟨t,rfl⟩,⟨t',rfl⟩⟩:=lC r
  refine max_two_ints (I.ok.hd hc) fun h' tk k=>⟨_,H,I.kept k,?_,q⟩
  by_cases hj:j > i
  · rw[if_pos hj,if_pos hj];exact⟨_,rfl⟩
  · rw[if_neg hj,if_neg hj];exact⟨_,rfl⟩
theorem vS(hc:X.calm=true):CallR X (.builtin "min") (fun xs H Q=>∃ i j,xs=[.int i,.int j]/\Q (.int (if j < i then j else i)) H):=by
  intro pins s σ H xs us Q I r h
  obtain⟨i,j,rfl,q⟩:=h
  obtain⟨u,w',rfl,⟨t,rfl⟩,⟨t',rfl⟩⟩:=lC r
  refine min_two_ints (I.ok.hd hc) fun h' tk k=>⟨_,H,I.kept k,?_,q⟩
  by_cases hj:j < i
  · rw[if_pos hj,if_pos hj];exact⟨_,rfl⟩
  · rw[if_neg hj,if_neg hj];exact⟨_,rfl⟩
end
end L2
namespace L2
open PySem PySem.Spec PyProof.Rows
structure ObjM (h:Heap) (x dx C:Addr) (mA:Str->Option Value):Prop where
  obj:h.get? x=some (PySem.W.instObj C dx)
  ns:h.Ns1 dx mA
  ne:dx ≠ x
theorem vT{h:Heap}{dx:Addr}{mA:Str->Option Value}(n:h.Ns1 dx mA):∃ od,h.get? dx=some od/\∀ name,PySem.W.lookIn name od=some (mA name):=by
  obtain⟨o,es,ep,ho,hd,hk,_,hm⟩:=n
  refine⟨o,ho,fun name=>?_⟩
  have e:=hm name
  unfold nsFind findBy at e
  rw[<- Array.find?_toList] at e
  unfold PySem.W.lookIn
  rw[hd]
  dsimp only
  split
  · rename_i y q
    rw[q] at e
    exact congrArg some e
  · rename_i q
    rw[q] at e
    have a:es.toList.any (·.refKey)=false:=by
      rw[List.any_eq_false]
      intro y hy
      obtain⟨z,t,hkey⟩:=hk y (Array.mem_toList_iff.mp hy)
      simp[DictEntry.refKey,hkey]
    have a':¬ es.toList.any (·.refKey)=true:=by rw[a];exact Bool.false_ne_true
    rw[if_neg a']
    exact congrArg some e
theorem ObjM.look{h:Heap}{x dx C:Addr}{mA:Str->Option Value}(I:ObjM h x dx C mA):∃ od,PySem.W.InstAt h x (PySem.W.instObj C dx) C (some od)/\∀ name,PySem.W.lookIn name od=some (mA name) :=
  let ⟨od,ho,hl⟩:=vT I.ns
  ⟨od,⟨I.obj,rfl,rfl,ho⟩,hl⟩
section
variable {prog:Program} {w:World} {A:Around} {E:Value->Shared->Prop} {s:Shared} {K:PySem.W.Frag} {x dx C f:Addr} {mA:Str->Option Value} {name:Str} {v:Value}
theorem vU{expr:Bool}{Q:Value->Shared->Prop}(X:K.In s.heap)(I:ObjM s.heap x dx C mA)(hg:PySem.W.plainGet K C name=true)(hh:PySem.W.hasDictIn K C=true)(ha:PySem.W.findIn K (.ref C) name=some none)(hv:mA name=some v)(hv':PySem.W.handedIn v=true)(h:Q v { s with toks:=s.toks+1 }):
    wpAny (model prog w) A (getAttr (.ref x) name expr) Q E s:=by
  obtain⟨od,J,hl⟩:=I.look
  exact PySem.W.get_value X J (PySem.W.plainGet_of hg).1 (PySem.W.findObj_own hh ha rfl (by rw[hl,hv])) hv' h
theorem vV{pl:Sem Bool}{Q:Value × List Value->Shared->Prop}(X:K.In s.heap)(I:ObjM s.heap x dx C mA)(hg:PySem.W.plainGet K C name=true)(hf:PySem.W.findIn K (.ref C) name=some (some (.ref f)))(ht:PySem.W.isFn K (.ref f)=true)(hv:mA name=none)(h:Q (.ref f,[.ref x]) s):
    wpAny (model prog w) A (getMethod (.ref x) name pl) Q E s:=by
  obtain⟨od,J,hl⟩:=I.look
  exact PySem.W.method_fn X J (PySem.W.plainGet_of hg).1 (PySem.W.plainGet_of hg).2 hf (beq_iff_eq.mp ht) (by show (PySem.W.lookIn name od).map (·.isSome)=some false;rw[hl,hv];rfl) h
theorem p5{ns:List Str}{Q:Unit->Shared->Prop}(X:K.In s.heap)(I:ObjM s.heap x dx C mA)(hs:PySem.W.findIn K (.ref C) "__setattr__" = some (some (.builtin "object.__setattr__")))(hp:PySem.W.plainOver K C=true)(ht:PySem.W.takerIn K C name=some none)(hh:PySem.W.hasDictIn K C=true)(hw:PySem.Within mA ns)(hsz:ns.length<=sizeLine)(h:∀ h',ObjM h' x dx C (fun y=>if y=name then some v else mA y)->Heap.SameBut dx s.heap h'->Q () { s with heap:=h',toks:=s.toks+2 }):
    wpAny (model prog w) A (setAttr (.ref x) name v) Q E s:=by
  obtain⟨od,J,hl⟩:=I.look
  refine PySem.W.set_plain X J hs (PySem.W.osa_open (s:={ s with toks:=s.toks+1 }) (r:=none) X J hp ht fun b=>?_)
  obtain⟨cd,hc,hd'⟩:=PySem.W.any_some hh
  have hx:s.heap.get? x=some ⟨.ref C,some dx,.plain,#[]⟩:=I.obj
  refine wpAny_bind (wpAny_pure (wpAny_bind (wpAny_bind (wpAny_loadPart hx (wpAny_bind (PySem.W.Looks.here (s:={ s with toks:=s.toks+1 }) (PySem.W.looks_clsIn X hc) ?_))))))
  rw[hd']
  refine wpAny_pure (a:=some dx) (wpAny_bind (wpAny_pure (wpAny_bind ?_)))
  refine wpAny_nsSet1 (s:={ s with toks:=s.toks+1 }) I.ns fun h' hn2 hs2=>?_
  obtain⟨oD,esD,epD,hoD,hdD,hcD⟩:=hn2.count (PySem.Within.cons name v hw)
  refine wpAny_bind (wpAny_lookBehind hoD (by rw[hdD];exact pastItsLine_dict (Nat.le_trans hcD (by rw[List.length_cons];omega))) ?_)
  exact wpAny_pure (h _ ⟨(hs2.2 _ (Ne.symm I.ne)).trans I.obj,hn2,I.ne⟩ hs2)
theorem vW{R:Result->Shared->Prop}{vs:List Value}{kw:List (Str × Value)}(X:K.In s.heap)(hm:PySem.W.makesIn K C=true)(hi:PySem.W.findIn K (.ref C) "__init__" = some (some (.ref f)))(hf:PySem.W.typeIn K (.ref f)=some (.type "function"))(h:codeAny (model prog w) (A.under (.builtin "type.__call__" ⟨.ref C::vs,kw⟩)) (.call (.ref f) ⟨.ref (s.heap.objs.size+1)::vs,kw⟩) (PySem.W.InitBack (s.heap.objs.size+1) R)
      { s with heap:=(s.heap.push PySem.W.emptyDict).push (PySem.W.instObj C s.heap.objs.size) }):
    codeAny (model prog w) A (.call (.ref C) ⟨vs,kw⟩) R s:=by
  obtain⟨hh,g,d,t,os⟩:=s
  exact PySem.W.make_core (PySem.W.makes_of X hm) (PySem.W.looks_findIn X hi) (fun self=>PySem.W.bind_fn X self hf) (.inl rfl) h
end
def bJ(f:Str)(v:V):List (Str × V)->List (Str × V)
  | []=>[(f,v)]
  | (g,x)::r=>if g=f then (g,v)::r else (g,x)::bJ f v r
theorem p7(f g:Str)(v:V):∀ fs:List (Str × V),(bJ f v fs).lookup g=if g=f then some v else fs.lookup g
  | []=>by
    show List.lookup g [(f,v)]=_
    by_cases h:g=f
    · have hb:(g == f)=true:=beq_iff_eq.mpr h
      simp only[List.lookup,hb,if_pos h]
    · have hb:(g == f)=false:=beq_eq_false_iff_ne.mpr h
      simp only[List.lookup,hb,if_neg h]
  | (k, x)::r=>by
    have ih:=p7 f g v r
    rw[show bJ f v ((k,x)::r)=(if k=f then (k,v)::r else (k,x)::bJ f v r) from rfl]
    by_cases hk:k=f
    · rw[if_pos hk]
      by_cases h:g=k
      · have hb:(g == k)=true:=beq_iff_eq.mpr h
        simp only[List.lookup,hb,if_pos (h.trans hk)]
      · have hb:(g == k)=false:=beq_eq_false_iff_ne.mpr h
        simp only[List.lookup,hb,if_neg (fun e:g=f=>h (e.trans hk.symm))]
    · rw[if_neg hk]
      by_cases h:g=k
      · have hb:(g == k)=true:=beq_iff_eq.mpr h
        simp only[List.lookup,hb,if_neg (fun e:g=f=>hk (h.symm.trans e))]
      · have hb:(g == k)=false:=beq_eq_false_iff_ne.mpr h
        simp only[List.lookup,hb]
        exact ih
theorem lD(f:Str)(v:V):∀ fs:List (Str × V),f ∈ (bJ f v fs).map (·.1)/\∀ g,g ∈ fs.map (·.1)->g ∈ (bJ f v fs).map (·.1)
  | []=>⟨by simp[bJ],fun g h=>by simp at h⟩
  | (k, x)::r=>by
    obtain⟨i1,i2⟩:=lD f v r
    rw[show bJ f v ((k,x)::r)=(if k=f then (k,v)::r else (k,x)::bJ f v r) from rfl]
    by_cases hk:k=f
    · rw[if_pos hk]
      subst hk
      exact⟨by simp,fun g h=>by simpa using h⟩
    · rw[if_neg hk]
      refine⟨?_,fun g h=>?_⟩
      · rw[List.map_cons]
        exact List.mem_cons_of_mem _ i1
      · rw[List.map_cons] at h ⊢
        rcases List.mem_cons.mp h with e | e
        · exact List.mem_cons.mpr (.inl e)
        · exact List.mem_cons_of_mem _ (i2 g e)
theorem p8(f:Str)(v:V):∀ fs:List (Str × V),(bJ f v fs).length<=fs.length+1
  | []=>by simp[bJ]
  | (k,x)::r=>by
    have ih:=p8 f v r
    rw[show bJ f v ((k,x)::r)=(if k=f then (k,v)::r else (k,x)::bJ f v r) from rfl]
    by_cases hk:k=f
    · rw[if_pos hk,List.length_cons,List.length_cons];omega
    · rw[if_neg hk,List.length_cons,List.length_cons];omega
theorem RelO.some_of{v:V}{o:Option Value}(r:RelO (some v) o):∃ u,o=some u/\RelV v u:=by
  cases o with
  | none=>exact (show False from r).elim
  | some u=>exact⟨u,rfl,r⟩
theorem RelO.none_of{o:Option Value}(r:RelO none o):o=none:=by
  cases o with
  | none=>rfl
  | some u=>exact (show False from r).elim
theorem vX{v:V}{u:Value}(r:RelV v u):PySem.W.handedIn u=true:=by
  cases v with
  | non=>cases (show u=Value.none from r);rfl
  | bl b=>cases (show u=Value.bool b from r);rfl
  | int i=>obtain⟨t,e⟩:=(show ∃ t,u=Value.int i t from r);cases e;rfl
  | str x=>obtain⟨t,e⟩:=(show ∃ t,u=Value.str x t from r);cases e;rfl
  | byt b=>obtain⟨t,e⟩:=(show ∃ t,u=Value.bytes b t from r);cases e;rfl
  | flt b=>obtain⟨t,e⟩:=(show ∃ t,u=Value.float b t from r);cases e;rfl
  | ref a=>cases (show u=Value.ref a from r);rfl
  | ty n=>cases (show u=Value.type n from r);rfl
section
variable {P:Program} {w:World} {H H':Hp} {h h':Heap} {a C dx:Addr} {fs fs':List (Str × V)}
theorem lE(hok:HOk P w H h)(e:H a=some (.ins C dx fs)):∃ mA,ObjM h a dx C mA/\(∀ f,RelO (fs.lookup f) (mA f))/\PySem.Within mA (fs.map (·.1))/\fs.length<=1000/\H dx=some (.own a):=by
  obtain⟨d,z,ne,ob,mA,n,r,q⟩:=(show ObjOk P w H h a (.ins C dx fs) from hok a _ e)
  exact⟨mA,⟨ob,n,ne⟩,r,q,z,d⟩
end
structure Cls (K:PySem.W.Frag) (C:Addr):Prop where
  pg:PySem.W.plainGet K C Str.empty=true
  hd:PySem.W.hasDictIn K C=true
  po:PySem.W.plainOver K C=true
  sa:PySem.W.findIn K (.ref C) "__setattr__" = some (some (.builtin "object.__setattr__"))
theorem Cls.get{K:PySem.W.Frag}{C:Addr}(c:Cls K C)(f:Str):PySem.W.plainGet K C f=true:=c.pg
def NoAttr(K:PySem.W.Frag)(C:Addr)(f:Str):Prop:=PySem.W.findIn K (.ref C) f=some none
theorem NoAttr.taker{K:PySem.W.Frag}{C:Addr}{f:Str}(n:NoAttr K C f):PySem.W.takerIn K C f=some none:=by
  unfold PySem.W.takerIn
  rw[show PySem.W.findIn K (.ref C) f=some none from n]
  rfl
structure Con (K:PySem.W.Frag) (C:Addr) (f:Str) (v:V) (u:Value):Prop where
  at_:PySem.W.findIn K (.ref C) f=some (some u)
  rel:RelV v u
  get:PySem.W.specialIn K u "__get__" = some none
  cp:PySem.W.copiedNames.contains f=false
structure Meth (K:PySem.W.Frag) (C:Addr) (m:Str) (f:Addr):Prop where
  at_:PySem.W.findIn K (.ref C) m=some (some (.ref f))
  fn:PySem.W.isFn K (.ref f)=true
  kp:PySem.W.keepIn K (.ref f)=true
section
variable {X:Cx} {pins:List (Addr × Obj)} {σ:St} {H:Hp} {s:Shared} {a C dx:Addr} {fs:List (Str × V)} {f:Str} {v:V} {A:Around} {E:Value->Shared->Prop}
theorem vY{b:Bool}{Q:Value->Shared->Prop}(I:Inv X pins σ H s)(e:H a=some (.ins C dx fs))(c:Cls X.K C)(n:NoAttr X.K C f)(l:fs.lookup f=some v)(h:∀ u s',Inv X pins σ H s'->RelV v u->Q u s'):wpAny (model X.prog X.w) A (getAttr (.ref a) f b) Q E s:=by
  obtain⟨mA,O,r,_,_,_⟩:=lE I.hok e
  obtain⟨u,hu,ru⟩:=RelO.some_of (v:=v) (o:=mA f) (by rw[<- l];exact r f)
  exact vU I.kIn O (c.get f) c.hd n hu (vX ru) (h u _ (I.tok _) ru)
theorem p9{m:Str}{g:Addr}{pl:Sem Bool}{Q:Value × List Value->Shared->Prop}(I:Inv X pins σ H s)(e:H a=some (.ins C dx fs))(c:Cls X.K C)(k:Meth X.K C m g)(l:fs.lookup m=none)(h:Q (.ref g,[.ref a]) s):wpAny (model X.prog X.w) A (getMethod (.ref a) m pl) Q E s:=by
  obtain⟨mA,O,r,_,_,_⟩:=lE I.hok e
  have hn:mA m=none:=RelO.none_of (by rw[<- l];exact r m)
  exact vV I.kIn O (c.get m) k.at_ k.fn hn h
theorem vZ{y:V}{u:Value}{Q:Unit->Shared->Prop}(I:Inv X pins σ H s)(e:H a=some (.ins C dx fs))(c:Cls X.K C)(n:NoAttr X.K C f)(hl:fs.length < 1000)(ry:RelV y u)(h:∀ s',Inv X pins σ (upd H a (.ins C dx (bJ f y fs))) s'->Q () s'):wpAny (model X.prog X.w) A (setAttr (.ref a) f u) Q E s:=by
  obtain⟨mA,O,r,wi,_,ho⟩:=lE I.hok e
  have hz:(fs.map (·.1)).length<=sizeLine:=by rw[List.length_map,sizeLine_eq];omega
  refine p5 I.kIn O c.sa c.po n.taker c.hd wi hz fun h' O' sb=>h _ ?_
  have hd:∃ o,h'.get? dx=some o:=let ⟨o,_,_,e',_⟩:=O'.ns;⟨o,e'⟩
  refine I.write (x:=a) (e:=dx) (by rw[e];exact True.intro) (.inr ho) (fun b q hb z=>(sb.2 b hb).trans z) hd ?_
  refine⟨by rw[aC O.ne];exact ho,?_,O.ne,O'.obj,_,O'.ns,fun g=>?_,fun g hg=>?_⟩
  · have:=p8 f y fs;omega
  · show RelO ((bJ f y fs).lookup g) (if g=f then some u else mA g)
    rw[p7]
    by_cases q:g=f
    · rw[if_pos q,if_pos q];exact ry
    · rw[if_neg q,if_neg q];exact r g
  · by_cases q:g=f
    · rw[q];exact (lD f y fs).1
    · refine (lD f y fs).2 g (wi g fun z=>hg ?_)
      show (if g=f then some u else mA g)=none
      rw[if_neg q];exact z
theorem Inv.made(I:Inv X pins σ H s):Inv X pins σ (upd (upd H s.heap.objs.size (.own (s.heap.objs.size+1))) (s.heap.objs.size+1) (.ins C s.heap.objs.size []))
    { s with heap:=(s.heap.push PySem.W.emptyDict).push (PySem.W.instObj C s.heap.objs.size) }:=by
  have e1:(s.heap.push PySem.W.emptyDict).get? s.heap.objs.size=some PySem.W.emptyDict:=Heap.get?_push_size s.heap rfl
  have e2:((s.heap.push PySem.W.emptyDict).push (PySem.W.instObj C s.heap.objs.size)).get? (s.heap.objs.size+1)=some (PySem.W.instObj C s.heap.objs.size):=by
    have:=Heap.get?_push_size (s.heap.push PySem.W.emptyDict) (o:=PySem.W.instObj C s.heap.objs.size) rfl
    rwa [Heap.size_push] at this
  have e3:(s.heap.push PySem.W.emptyDict).Ns s.heap.objs.size (fun _=>none):=⟨PySem.W.emptyDict,#[],_,e1,rfl,(fun e he=>absurd he (by simp)),fun _=>rfl⟩
  have I1:=I.laid (a:=s.heap.objs.size) (o:=.own (s.heap.objs.size+1)) (h':=s.heap.push PySem.W.emptyDict) (t':=s.toks) (fun b u q=>Heap.get?_push_of_some _ q) (Nat.le_refl _) ⟨_,e1⟩
  refine I1.laid (a:=s.heap.objs.size+1) (o:=.ins C s.heap.objs.size []) (t':=s.toks) (fun b u q=>Heap.get?_push_of_some _ q) (Nat.le_of_eq (Heap.size_push _ _)) ?_
  have ne:s.heap.objs.size ≠ s.heap.objs.size+1:=Nat.ne_of_lt (Nat.lt_succ_self _)
  refine⟨by rw[aC ne,b9],Nat.zero_le _,ne,e2,fun _=>none,(Heap.Ns1.of_empty e3).at fun o q=>Heap.get?_push_of_some _ q,fun _=>True.intro,fun y hy=>absurd rfl hy⟩
theorem w5{prog:Program}{w:World}{env:Env}{e:Expr}{f:Str}{pos:Pos}{s:Shared}{Q:Value->Shared->Prop}(hb:attributeBase e f env (eval e env)=eval e env)(h:wpAny (model prog w) A (eval e env) (fun o s₁=>wpAny (model prog w) A (getAttr o f true) Q E s₁) E s):wpAny (model prog w) A (eval (.Attribute e f pos) env) Q E s :=
  Attribute_any_ h (by rw[arm_eval_Attribute,hb])
end
def w6(K:PySem.W.Frag)(ta:TE)(f:Str):TE:=fun σ H Q=>ta σ H fun x H1=>∃ a C dx fs v,x=.ref a/\H1 a=some (.ins C dx fs)/\Cls K C/\NoAttr K C f/\fs.lookup f=some v/\Q v H1
def w8(K:PySem.W.Frag)(ta tv:TE)(f:Str):TS:=fun D σ H=>tv σ H fun y H1=>ta σ H1 fun x H2=>∃ a C dx fs,x=.ref a/\H2 a=some (.ins C dx fs)/\Cls K C/\NoAttr K C f/\fs.length < 1000 /\
  D.nx σ (upd H2 a (.ins C dx (bJ f y fs)))
section
variable {X:Cx} {o e value:Expr} {f:Str} {pos pos' tpos:Pos} {ta tv:TE}
theorem w9(he:PE X e ta)(hb:attributeBase e f X.env (eval e X.env)=eval e X.env):PE X (.Attribute e f pos) (w6 X.K ta f):=by
  intro pins s σ H Q I h
  refine w5 hb (thn (he pins s σ H _ I h) fun u s1 ⟨x,H1,I1,rx,a,C,dx,fs,v,ex,ea,c,n,l,q⟩=>?_)
  subst ex
  obtain rfl:u=Value.ref a:=rx
  exact vY I1 ea c n l fun u' s2 I2 ru=>⟨v,H1,I2,ru,q⟩
theorem pb(ha:PE X o ta)(hv:PE X value tv)(hs:swapsWith value (some (.Attribute o f pos')) pos.line X.env=pure false):PS X (.Assign [.Attribute o f pos'] value pos) (w8 X.K ta tv f):=by
  intro pins s σ H D I h
  refine plainObj_wpAny_Assign_Attribute (thn (hv pins s σ H _ I h) fun u s1 ⟨y,H1,I1,ry,q⟩=>thn (ha pins s1 σ H1 _ I1 q) fun ov s2 ⟨x,H2,I2,rx,a,C,dx,fs,ex,ea,c,n,l,q2⟩=>?_) hs
  subst ex
  obtain rfl:ov=Value.ref a:=rx
  exact vZ I2 ea c n l ry fun s3 I3=>⟨σ,_,I3,q2⟩
end
section
variable {X:Cx} {pins:List (Addr × Obj)} {σ:St} {H:Hp} {s:Shared} {A:Around} {E:Value->Shared->Prop} {Q:Value->Shared->Prop} {c:Value} {b:Bool}
inductive TyOf (K:PySem.W.Frag) (H:Hp):V->Value->Prop where
  | non:TyOf K H .non (.type "NoneType")
  | bl (x:Bool):TyOf K H (.bl x) (.type "bool")
  | int (i:Int):TyOf K H (.int i) (.type "int")
  | str (x:Str):TyOf K H (.str x) (.type "str")
  | flt (x:UInt64):TyOf K H (.flt x) (.type "float")
  | lst {a:Addr} {xs:List V} (e:H a=some (.lst xs)):TyOf K H (.ref a) (.type "list")
  | frz {a:Addr} {o:Obj} {xs:List V} (e:H a=some (.frz o (.lst xs))):TyOf K H (.ref a) (.type "list")
  | tup {a:Addr} {xs:List V} (e:H a=some (.tup xs)):TyOf K H (.ref a) (.type "tuple")
  | dK {a:Addr} {kvs:List (Key × V)} (e:H a=some (.dK kvs)):TyOf K H (.ref a) (.type "dict")
  | dT {a:Addr} {kvs:List (List Key × V)} (e:H a=some (.dT kvs)):TyOf K H (.ref a) (.type "dict")
  | ins {a C dx:Addr} {fs:List (Str × V)} (e:H a=some (.ins C dx fs)) (cl:Cls K C) (ha:PySem.W.findIn K (.ref C) "__class__" = some (some (.builtin "object.__class__")))
      (hn:PySem.W.specialIn K (.builtin "object.__class__") "__get__" = some (some (.builtin "getset_descriptor.__get__"))) (htk:PySem.W.takesIn K (.builtin "object.__class__")=some true)
      (hm:PySem.W.mroIn K C (.type "object")=some true):TyOf K H (.ref a) (.ref C)
end
end L2
namespace L2
open PySem PySem.Spec PyProof.Rows
structure Room (k:Nat) (A:Around):Prop where
  hd:A.handled=none
  dp:A.depth+3 * k+5 < recursionLimit
  un:A.units+16 * k+200 < cLine
theorem Room.mono{j k:Nat}{A:Around}(r:Room k A)(h:j<=k):Room j A:=⟨r.hd,by have:=r.dp;omega,by have:=r.un;omega⟩
theorem Room.deeper{k:Nat}{A:Around}(r:Room (k+1) A)(env:Env):Room k (A.deeper env) :=
  ⟨r.hd,by have:=r.dp;show A.depth+1+3 * k+5 < _;omega,by have:=r.un;show A.units+3+16 * k+200 < _;omega⟩
theorem Room.in1{k:Nat}{A:Around}(r:Room (k+1) A):Room k A.in1 :=
  ⟨r.hd,by have:=r.dp;show A.depth+3 * k+5 < _;omega,by have:=r.un;show A.units+1+16 * k+200 < _;omega⟩
theorem wa{A:Around}{C:Addr}{us:List Value}{kw:List (Str × Value)}:(A.under (.builtin "type.__call__" ⟨.ref C::us,kw⟩)).depth=A.depth+1:=by
  first | rfl | simp[Around.under,Code.weight,Code.isCreation,Code.isGuard,Code.isCaller,Code.frames,Code.isFrame,guardIds]
theorem wb{A:Around}{C:Addr}{us:List Value}{kw:List (Str × Value)}:(A.under (.builtin "type.__call__" ⟨.ref C::us,kw⟩)).units=A.units+1:=by
  first | rfl | simp[Around.under,Code.cUnits,Code.frames,Code.isFrame]
theorem Room.make{k:Nat}{A:Around}(r:Room (k+1) A)(C:Addr)(us:List Value)(kw:List (Str × Value)):Room k (A.under (.builtin "type.__call__" ⟨.ref C::us,kw⟩)) :=
  ⟨r.hd,by have:=r.dp;rw[wa];omega,by have:=r.un;rw[wb];omega⟩
theorem Room.depth{k:Nat}{A:Around}(r:Room k A):A.depth < recursionLimit:=by have:=r.dp;omega
theorem Room.units{k:Nat}{A:Around}(r:Room k A):A.units+64 < cLine:=by have:=r.un;omega
def pc:TA:=fun _ H Q=>Q [] H
def wc(ta:TE)(tr:TA):TA:=fun σ H Q=>ta σ H fun x H1=>tr σ H1 fun xs H2=>Q (x::xs) H2
section
variable {X:Cx} {e:Expr} {es:List Expr} {te:TE} {t:TA} {pos:Pos}
theorem cC:PA X [] pc:=fun _ _ _ _ H Q I h=>Calls.spliced_nil ⟨[],H,I,.nil,h⟩
theorem cq(ha:PE X e te)(hr:PA X es t)(hs:starEach (e::es) X.env=(false,eval e X.env)::starEach es X.env:=by rfl):PA X (e::es) (wc te t):=by
  intro pos pins s σ H Q I h
  rw[hs]
  show wpAny _ _ (spliced ((false,eval e X.env)::backTo pos (starEach es X.env))) _ _ s
  refine Calls.spliced_cons (thn (ha pins s σ H _ I h) fun u s1 ⟨x,H1,I1,r1,q1⟩=>?_)
  exact thn (hr pos pins s1 σ H1 _ I1 q1) fun us s2 ⟨xs,H2,I2,r2,q2⟩=>⟨x::xs,H2,I2,.cons r1 r2,q2⟩
def wd(t:TA):TE:=fun σ H Q=>t σ H fun xs H1=>xs.length<=sizeLine/\∀ p,H1 p=none->Q (.ref p) (upd H1 p (.tup xs))
def we(t:TA):TE:=fun σ H Q=>t σ H fun xs H1=>xs.length<=sizeLine/\∀ p,H1 p=none->Q (.ref p) (upd H1 p (.lst xs))
theorem pe{x1}(h:PA X es t):PE X (.Tuple es x1 pos) (wd t):=by
  intro pins s σ H Q I hq
  refine wpAny_Tuple_spliced (thn (h pos pins s σ H _ I hq) fun us s1 ⟨xs,H1,I1,r,z,q⟩=>⟨by rw[<- r.length];exact z,?_⟩)
  have hf:H1 s1.heap.objs.size=none:=I1.hok.fresh (Nat.le_refl _)
  refine⟨.ref s1.heap.objs.size,upd H1 s1.heap.objs.size (.tup xs),I1.laid (t':=s1.toks) (fun b u e=>Heap.get?_push_of_some _ e) (Nat.le_refl _) ?_,rfl,q _ hf⟩
  exact⟨z,us,r,⟨_,Heap.get?_push_size _ rfl,rfl,_,rfl⟩⟩
theorem jF(h:PA X es t):PE X (.List es pos) (we t):=by
  intro pins s σ H Q I hq
  refine wpAny_List_spliced (thn (h pos pins s σ H _ I hq) fun us s1 ⟨xs,H1,I1,r,z,q⟩=>⟨by rw[<- r.length];exact z,?_⟩)
  have hf:H1 s1.heap.objs.size=none:=I1.hok.fresh (Nat.le_refl _)
  refine⟨.ref s1.heap.objs.size,upd H1 s1.heap.objs.size (.lst xs),I1.laid (t':=s1.toks) (fun b u e=>Heap.get?_push_of_some _ e) (Nat.le_refl _) ?_,rfl,q _ hf⟩
  exact⟨z,us,0,r,Heap.get?_push_size _ rfl⟩
end
abbrev Sp:=List V->Hp->VK->XK->Prop
abbrev CXT:=List Env->Hp->Shared->XK->Value->Shared->Prop
structure Env0 (P:Program) (w:World) (K:PySem.W.Frag) (mg:Str->Option Value) (base:Heap) (A:Around) (outer:List Env) (s:Shared) (H:Hp):Prop where
  frames:A.frames=some outer
  mod:Mod K mg base
  bs:∀ b o,base.get? b=some o->s.heap.get? b=some o/\H b=none
  bsz:base.objs.size<=s.heap.objs.size
  funs:s.heap.FunFrames base outer
  frf:∀ b ∈ frs outer,H b=none
  hok:HOk P w H s.heap
  bare:AllBare s.gens
def CE(outer:List Env)(P:Program)(w:World)(H:Hp)(s:Shared)(Q:VK)(u:Value)(s':Shared):Prop :=
  ∃ v H',s'.os=s.os/\AllBare s'.gens/\Un (frs outer) [] H H' s.heap s'.heap/\HOk P w H' s'.heap/\RelV v u/\Q v H'
def CR(CX:CXT)(outer:List Env)(P:Program)(w:World)(H:Hp)(s:Shared)(Q:VK)(E:XK)(r:Result)(s':Shared):Prop :=
  match r with
  | .ok (.ret u)=>CE outer P w H s Q u s'
  | .ok _=>False
  | .error e=>CX outer H s E e s'
structure FnOk (P:Program) (w:World) (K:PySem.W.Frag) (mg:Str->Option Value) (base:Heap) (CX:CXT) (k:Nat) (f:Addr) (fd:FuncData) (ps:List Str) (sp:Sp):Prop where
  len:∀ vs H Q E,sp vs H Q E->vs.length=ps.length
  run:∀ (A:Around) (outer:List Env) (s:Shared) (H:Hp) (args:Args) (us:List Value) (vs:List V) (Q:VK) (E:XK),Room k A->Env0 P w K mg base A outer s H->BindsTo s fd args (ps.zip us)->Vals vs us->sp vs H Q E ->
    codeAny (model P w) A (.call (.ref f) args) (CR CX outer P w H s Q E) s
theorem FnOk.mono{P:Program}{w:World}{K:PySem.W.Frag}{mg:Str->Option Value}{base:Heap}{CX:CXT}{j k:Nat}{f:Addr}{fd:FuncData}{ps:List Str}{sp:Sp}(F:FnOk P w K mg base CX j f fd ps sp)(h:j<=k):
    FnOk P w K mg base CX k f fd ps sp:=⟨F.len,fun A outer s H args us vs Q E hr=>F.run A outer s H args us vs Q E (hr.mono h)⟩
theorem FnOk.imp{P:Program}{w:World}{K:PySem.W.Frag}{mg:Str->Option Value}{base:Heap}{CX:CXT}{k:Nat}{f:Addr}{fd:FuncData}{ps:List Str}{sp sp':Sp}(F:FnOk P w K mg base CX k f fd ps sp)(h:∀ vs H Q E,sp' vs H Q E->sp vs H Q E):FnOk P w K mg base CX k f fd ps sp' :=
  ⟨fun vs H Q E q=>F.len vs H Q E (h _ _ _ _ q),fun A outer s H args us vs Q E hr he hb hv hs=>F.run A outer s H args us vs Q E hr he hb hv (h _ _ _ _ hs)⟩
theorem Env0.make{P:Program}{w:World}{K:PySem.W.Frag}{mg:Str->Option Value}{base:Heap}{A:Around}{outer:List Env}{s:Shared}{H:Hp}(e:Env0 P w K mg base A outer s H)(C:Addr)(us:List Value)(kw:List (Str × Value)):
    Env0 P w K mg base (A.under (.builtin "type.__call__" ⟨.ref C::us,kw⟩)) outer s H:=⟨by first | exact e.frames | (simpa [Around.under,Code.envs,Code.isFrame,pushEnvs] using e.frames),e.mod,e.bs,e.bsz,e.funs,e.frf,e.hok,e.bare⟩
theorem Env0.in1{P:Program}{w:World}{K:PySem.W.Frag}{mg:Str->Option Value}{base:Heap}{A:Around}{outer:List Env}{s:Shared}{H:Hp}(e:Env0 P w K mg base A outer s H):
    Env0 P w K mg base A.in1 outer s H:=⟨e.frames,e.mod,e.bs,e.bsz,e.funs,e.frf,e.hok,e.bare⟩
section
variable {X:Cx} {pins:List (Addr × Obj)} {σ:St} {H:Hp} {s s':Shared}
theorem Inv.env0(I:Inv X pins σ H s):Env0 X.prog X.w X.K X.mg X.base X.A X.stack s H :=
  ⟨I.ok.frames,I.ok.mod,I.bs,Nat.le_trans I.ok.bsz I.sz,I.stack,I.stkFree,I.hok,I.bare⟩
theorem Inv.after{Q:VK}{u:Value}(I:Inv X pins σ H s)(h:CE X.stack X.prog X.w H s Q u s'):EP X pins σ Q u s':=by
  obtain⟨v,H',os,bare,un,hok,r,q⟩:=h
  obtain⟨hh,g,d,t,os'⟩:=s'
  obtain rfl:os'=s.os:=os
  exact⟨v,H',I.call (h':=hh) (g':=g) (d':=d) (t':=t) (ch:=[]) un hok bare (fun b z=>absurd z (by simp)),r,q⟩
end
def wf(sp:Sp)(dvs:List V)(E:XK)(t:TA):TE:=fun σ H Q=>t σ H fun vs H1=>sp (vs++dvs) H1 Q E
def pf(C:Addr)(m:Str)(sp:Sp)(dvs:List V)(E:XK)(ta:TE)(t:TA):TE:=fun σ H Q=>ta σ H fun x H1=>∃ a dx fs,x=.ref a/\H1 a=some (.ins C dx fs)/\fs.lookup m=none /\
  t σ H1 fun vs H2=>sp (x::(vs++dvs)) H2 Q E
def wg(C:Addr)(sp:Sp)(dvs:List V)(E:XK)(t:TA):TE:=fun σ H Q=>t σ H fun vs H1=>∀ x dx,H1 x=none->H1 dx=none->dx ≠ x ->
  sp (.ref x::(vs++dvs)) (upd (upd H1 dx (.own x)) x (.ins C dx [])) (fun v H2=>v=.non/\Q (.ref x) H2) E
def Binds(K:PySem.W.Frag)(fd:FuncData)(ps:List Str)(ds:List Value):Prop :=
  ∀ (s:Shared) (us:List Value),K.In s.heap->(us++ds).length=ps.length->BindsTo s fd ⟨us,[]⟩ (ps.zip (us++ds))
theorem Binds.all{K:PySem.W.Frag}{fd:FuncData}{ps:List Str}(h:∀ us:List Value,us.length=ps.length->bindArgs fd ⟨us,[]⟩=pure (ps.zip us)):Binds K fd ps []:=fun s us _ hl=>by
  rw[List.append_nil] at hl ⊢
  exact .of_eq (h us hl)
def fA(CX:CXT)(X:Cx)(E:XK):Prop:=∀ (pins:List (Addr × Obj)) (σ:St) (H:Hp) (s:Shared) (e:Value) (s':Shared),Inv X pins σ H s->CX X.stack H s E e s'->X.xe e s'
section
variable {X:Cx} {CX:CXT} {k:Nat} {f C:Addr} {fd:FuncData} {ps:List Str} {sp:Sp} {dvs:List V} {ds:List Value} {E:XK} {x m:Str} {p pos apos:Pos} {e o:Expr} {es:List Expr} {ta:TE} {t:TA}
theorem lF{pins:List (Addr × Obj)}{σ:St}{H:Hp}{s:Shared}{Q:VK}{us:List Value}{vs:List V}(F:FnOk X.prog X.w X.K X.mg X.base CX k f fd ps sp)(hr:Room k X.A)(hb:Binds X.K fd ps ds)(hd:Vals dvs ds)(hx:fA CX X E)(I:Inv X pins σ H s)(r:Vals vs us)(h:sp (vs++dvs) H Q E):wpAny (model X.prog X.w) X.A (call (.ref f) us) (EP X pins σ Q) X.xe s:=by
  have r2:Vals (vs++dvs) (us++ds):=r.append hd
  have hl:(us++ds).length=ps.length:=by rw[<- r2.length];exact F.len _ _ _ _ h
  refine wpAny_call (codeAny_mono (F.run X.A X.stack s H ⟨us,[]⟩ (us++ds) (vs++dvs) Q E hr I.env0 (hb s us I.kIn hl) r2 h) fun r s' hq=>?_)
  cases r with
  | error e=>exact hx pins σ H s e s' I hq
  | ok fl =>
    cases fl with
    | ret u=>exact I.after hq
    | next=>exact False.elim hq
    | brk=>exact False.elim hq
    | cont=>exact False.elim hq
theorem fB(F:FnOk X.prog X.w X.K X.mg X.base CX k f fd ps sp)(hr:Room k X.A)(hg:Gl X x)(hm:X.mg x=some (.ref f))(hk:PySem.W.keepIn X.K (.ref f)=true)(hb:Binds X.K fd ps ds)(hd:Vals dvs ds)(hx:fA CX X E)(ha:PA X (e::es) t)(hdb:(x == ("__debug__" : Str))=false:=by decide)(he:starEach (e::es) X.env=(false,eval e X.env)::starEach es X.env:=by rfl)(hpl:(backTo pos (starEach es X.env)).any (·.1)=false:=by rfl):
    PE X (.Call (.Name x p) (e::es) [] pos) (wf sp dvs E t):=by
  intro pins s σ H Q I h
  refine wpAny_Call_Name_kw (ln I hg hm ?_ hdb)
  refine PySem.W.callWith_K (h₀:=X.base) I.ok.mod.kin hk (thn (ha pos pins s σ H _ I h) fun us s1 ⟨vs,H1,I1,r,q⟩=>⟨I1.kIn,?_⟩) he hpl
  exact lF F hr hb hd hx I1 r q
theorem wj{pl:Sem Bool}(he:PE X o ta)(c:Cls X.K C)(hm:Meth X.K C m f)(F:FnOk X.prog X.w X.K X.mg X.base CX k f fd ps sp)(hr:Room k X.A)(hb:Binds X.K fd ps ds)(hd:Vals dvs ds)(hx:fA CX X E)(ha:PA X (e::es) t)(hst:starEach (e::es) X.env=(false,eval e X.env)::starEach es X.env:=by rfl)(hpl:(backTo pos (starEach es X.env)).any (·.1)=false:=by rfl)(ht:eval (.Call (.Attribute o m apos) (e::es) [] pos) X.env=(do
      let ov <- eval o X.env
      standAt apos.atName
      let (f,first) <- holding [ov] (getMethod ov m pl)
      callWith pos f first (backTo pos (starEach (e::es) X.env)) (backToKw pos (keywordEach [] X.env))):=by rfl):
    PE X (.Call (.Attribute o m apos) (e::es) [] pos) (pf C m sp dvs E ta t):=by
  intro pins s σ H Q I h
  refine PySem.W.methodCall_KW (pl:=pl) (thn (he pins s σ H _ I h) fun u s1 ⟨x,H1,I1,rx,a,dx,fs,ex,ea,l,q⟩=>?_) ht
  subst ex
  obtain rfl:u=Value.ref a:=rx
  refine p9 I1 ea c hm l ?_
  refine PySem.W.callWith_K (first:=[.ref a]) (h₀:=X.base) I.ok.mod.kin hm.kp (thn (ha pos pins s1 σ H1 _ I1 q) fun us s2 ⟨vs,H2,I2,r,q2⟩=>⟨I2.kIn,?_⟩) hst hpl
  exact lF (us:=.ref a::us) (vs:=.ref a::vs) F hr hb hd hx I2 (.cons rfl r) q2
theorem wk{pl:Sem Bool}(he:PE X o ta)(c:Cls X.K C)(hm:Meth X.K C m f)(F:FnOk X.prog X.w X.K X.mg X.base CX k f fd ps sp)(hr:Room k X.A)(hb:Binds X.K fd ps ds)(hd:Vals dvs ds)(hx:fA CX X E)(ht:eval (.Call (.Attribute o m apos) [] [] pos) X.env=(do
      let ov <- eval o X.env
      standAt apos.atName
      let (f,first) <- holding [ov] (getMethod ov m pl)
      callWith pos f first (backTo pos (starEach [] X.env)) (backToKw pos (keywordEach [] X.env))):=by rfl):
    PE X (.Call (.Attribute o m apos) [] [] pos) (pf C m sp dvs E ta pc):=by
  intro pins s σ H Q I h
  refine PySem.W.methodCall_KW (pl:=pl) (thn (he pins s σ H _ I h) fun u s1 ⟨x,H1,I1,rx,a,dx,fs,ex,ea,l,q⟩=>?_) ht
  subst ex
  obtain rfl:u=Value.ref a:=rx
  refine p9 I1 ea c hm l ?_
  exact PySem.W.callWith_K0 (first:=[.ref a]) I1.kIn hm.kp (lF (us:=[.ref a]) (vs:=[.ref a]) F hr hb hd hx I1 (.cons rfl .nil) q)
structure Mk (K:PySem.W.Frag) (C f:Addr):Prop where
  makes:PySem.W.makesIn K C=true
  init:PySem.W.findIn K (.ref C) "__init__" = some (some (.ref f))
  fn:PySem.W.isFn K (.ref f)=true
  kp:PySem.W.keepIn K (.ref C)=true
theorem wl{pins:List (Addr × Obj)}{σ:St}{H:Hp}{s:Shared}{Q:VK}{us:List Value}{vs:List V}(M:Mk X.K C f)(F:FnOk X.prog X.w X.K X.mg X.base CX k f fd ps sp)(hr:Room (k+1) X.A)(hb:Binds X.K fd ps ds)(hd:Vals dvs ds)(hx:fA CX X E)(I:Inv X pins σ H s)(r:Vals vs us)(h:∀ x dx,H x=none->H dx=none->dx ≠ x->sp (.ref x::(vs++dvs)) (upd (upd H dx (.own x)) x (.ins C dx [])) (fun v H2=>v=.non/\Q (.ref x) H2) E):
    wpAny (model X.prog X.w) X.A (call (.ref C) us) (EP X pins σ Q) X.xe s:=by
  have hq:=h (s.heap.objs.size+1) s.heap.objs.size (I.hok.fresh (Nat.le_succ _)) (I.hok.fresh (Nat.le_refl _)) (Nat.ne_of_lt (Nat.lt_succ_self _))
  have I2:=Inv.made (C:=C) I
  have r2:Vals (V.ref (s.heap.objs.size+1)::(vs++dvs)) (Value.ref (s.heap.objs.size+1)::(us++ds)):=.cons rfl (r.append hd)
  have hl:(Value.ref (s.heap.objs.size+1)::us++ds).length=ps.length:=by
    have e:=r2.length
    rw[F.len _ _ _ _ hq] at e
    exact e.symm
  refine wpAny_call (vW (f:=f) I.kIn M.makes M.init (beq_iff_eq.mp M.fn) (codeAny_mono (F.run _ X.stack _ _ ⟨Value.ref (s.heap.objs.size+1)::us,[]⟩ (Value.ref (s.heap.objs.size+1)::(us++ds)) _ _ E (hr.make C us [])
    (I2.env0.make C us []) (hb _ (Value.ref (s.heap.objs.size+1)::us) I2.kIn hl) r2 hq) fun r s' hq'=>?_))
  cases r with
  | error e=>exact hx pins σ _ _ e s' I2 hq'
  | ok fl =>
    cases fl with
    | ret u =>
      obtain⟨v,H',I3,rv,ev,q3⟩:=I2.after hq'
      subst ev
      exact⟨rv,⟨V.ref (s.heap.objs.size+1),H',I3,rfl,q3⟩⟩
    | next=>exact False.elim hq'
    | brk=>exact False.elim hq'
    | cont=>exact False.elim hq'
theorem wm(M:Mk X.K C f)(F:FnOk X.prog X.w X.K X.mg X.base CX k f fd ps sp)(hr:Room (k+1) X.A)(hg:Gl X x)(hm:X.mg x=some (.ref C))(hb:Binds X.K fd ps ds)(hd:Vals dvs ds)(hx:fA CX X E)(ha:PA X (e::es) t)(hdb:(x == ("__debug__" : Str))=false:=by decide)(he:starEach (e::es) X.env=(false,eval e X.env)::starEach es X.env:=by rfl)(hpl:(backTo pos (starEach es X.env)).any (·.1)=false:=by rfl):
    PE X (.Call (.Name x p) (e::es) [] pos) (wg C sp dvs E t):=by
  intro pins s σ H Q I h
  refine wpAny_Call_Name_kw (ln I hg hm ?_ hdb)
  refine PySem.W.callWith_K (h₀:=X.base) I.ok.mod.kin M.kp (thn (ha pos pins s σ H _ I h) fun us s1 ⟨vs,H1,I1,r,q⟩=>⟨I1.kIn,?_⟩) he hpl
  exact wl M F hr hb hd hx I1 r q
end
section
variable {X:Cx} {CX:CXT} {k:Nat} {f C:Addr} {fd:FuncData} {ps ks:List Str} {sp:Sp} {E:XK} {x m:Str} {p pos apos kpos:Pos} {e o:Expr} {es:List Expr} {kws:List Keyword} {te ta:TE} {t tk:TA} {nm:Option Str}
structure KBinds (K:PySem.W.Frag) (fd:FuncData) (ps ks:List Str) (g:List Value->List Value->List Value) (gV:List V->List V->List V):Prop where
  to:∀ (s:Shared) (us ws:List Value),K.In s.heap->(g us ws).length=ps.length->BindsTo s fd ⟨us,ks.zip ws⟩ (ps.zip (g us ws))
  rel:∀ {vs:List V} {us:List Value} {zs:List V} {ws:List Value},Vals vs us->Vals zs ws->Vals (gV vs zs) (g us ws)
variable {g:List Value->List Value->List Value} {gV:List V->List V->List V}
end
structure FnScope (N P:List Str) (sc:Scope):Prop where
  kind:sc.kind=.function
  co:sc.isCoroutine=false
  gen:sc.isGenerator=false
  nd:N.Nodup
  pre:N.take P.length=P
  par:∀ x ∈ P,sc.names.lookup x=some .local\/sc.names.lookup x=some .cell
  nofree:∀ y ∈ sc.names,y.2 ≠ .free
theorem ph{kindOf:Str->Option NameKind}{x:Str}:∀ {binds:List (Str × Value)} {m:Str->Option Value},(∀ v,(x,v) ∉ binds)->bindL kindOf binds m x=m x
  | [],_,_=>rfl
  | (n,v)::r,m,h=>by
    unfold bindL
    rw[ph fun w hw=>h w (List.mem_cons_of_mem _ hw)]
    split
    · have:x ≠ n:=by rintro rfl;exact h v List.mem_cons_self
      simp[this]
    · rfl
theorem pj{kindOf:Str->Option NameKind}{x:Str}:∀ {binds:List (Str × Value)} {m:Str->Option Value},(∀ v,(x,v) ∉ binds)->bindC kindOf binds m x=m x
  | [],_,_=>rfl
  | (n,v)::r,m,h=>by
    unfold bindC
    rw[pj fun w hw=>h w (List.mem_cons_of_mem _ hw)]
    split
    · rfl
    · have:x ≠ n:=by rintro rfl;exact h v List.mem_cons_self
      simp[this]
theorem pk{kindOf:Str->Option NameKind}{x:Str}{v:Value}:∀ {P:List Str} {vs:List Value} {i:Nat} {m:Str->Option Value},P.Nodup->P[i]?=some x->vs[i]?=some v->kindOf x=some .local ->
    bindL kindOf (P.zip vs) m x=some v
  | [],_,_,_,_,h,_,_=>by simp at h
  | _::_,[],_,_,_,_,h,_=>by simp at h
  | p::P,w::vs,0,m,nd,h1,h2,hk=>by
    simp at h1 h2;subst h1;subst h2
    show bindL kindOf ((p,w)::P.zip vs) m p=_
    unfold bindL
    rw[ph fun v hv=>(List.nodup_cons.mp nd).1 (List.of_mem_zip hv).1,if_pos hk]
    simp
  | p::P,w::vs,i+1,m,nd,h1,h2,hk=>by
    show bindL kindOf ((p,w)::P.zip vs) m x=_
    unfold bindL
    exact pk (i:=i) (List.nodup_cons.mp nd).2 (by simpa using h1) (by simpa using h2) hk
theorem pv{kindOf:Str->Option NameKind}{x:Str}{v:Value}:∀ {P:List Str} {vs:List Value} {i:Nat} {m:Str->Option Value},P.Nodup->P[i]?=some x->vs[i]?=some v->kindOf x ≠ some .local ->
    bindC kindOf (P.zip vs) m x=some v
  | [],_,_,_,_,h,_,_=>by simp at h
  | _::_,[],_,_,_,_,h,_=>by simp at h
  | p::P,w::vs,0,m,nd,h1,h2,hk=>by
    simp at h1 h2;subst h1;subst h2
    show bindC kindOf ((p,w)::P.zip vs) m p=_
    unfold bindC
    rw[pj fun v hv=>(List.nodup_cons.mp nd).1 (List.of_mem_zip hv).1,if_neg hk]
    simp
  | p::P,w::vs,i+1,m,nd,h1,h2,hk=>by
    show bindC kindOf ((p,w)::P.zip vs) m x=_
    unfold bindC
    exact pv (i:=i) (List.nodup_cons.mp nd).2 (by simpa using h1) (by simpa using h2) hk
def start(N:List Str)(vs:List V):St:=vs.map some++List.replicate (N.length - vs.length) none
def cK(CX:CXT)(P:Program)(w:World)(K:PySem.W.Frag)(mg:Str->Option Value)(base:Heap)(N:List Str)(qual:Str)(scope:Scope)(f:Addr)(cd:Value)(A:Around)(outer:List Env)(s:Shared)(H:Hp)(E:XK):Cx where
  prog:=P
  w:=w
  K:=K
  mg:=mg
  base:=base
  A:=A.deeper (envOfC qual scope s.heap.objs.size f cd)
  N:=N
  s₀:=s
  H₀:=H
  env:=envOfC qual scope s.heap.objs.size f cd
  outer:=outer
  stack:=envOfC qual scope s.heap.objs.size f cd::outer
  ex:=[]
  calm:=true
  fn:=fun _=>true
  pn:=[]
  xe:=fun e s'=>wpAny (model P w) (A.deeper (envOfC qual scope s.heap.objs.size f cd)) (leaving (envOfC qual scope s.heap.objs.size f cd) e) (fun _ s''=>CX outer H s E e s'') (fun e' s''=>CX outer H s E e' s'') s'
theorem pw{sc:Scope}{n:Nat}{x:Str}(h:sc.names.lookup x=some .cell):∃ c,(cellsFrom n sc.names []).lookup x=some c:=by
  have q:=PySem.W.cellsFrom_some sc.names n [] (.inl h)
  exact Option.isSome_iff_exists.mp q
theorem wn{CX:CXT}{P:Program}{w:World}{K:PySem.W.Frag}{mg:Str->Option Value}{base:Heap}{N ps:List Str}{qual:Str}{scope:Scope}{f:Addr}{cd:Value}{A:Around}{outer:List Env}{s s1:Shared}{H:Hp}{E:XK}{us:List Value}{vs:List V}(S:FnScope N ps scope)(hd:A.handled=none)(e0:Env0 P w K mg base A outer s H)(hl:vs.length=ps.length)(r:Vals vs us)(x:InCallC s s.heap.objs.size (bindL (envOfC qual scope s.heap.objs.size f cd).kindOf (ps.zip us) fun _=>none) (cellsFrom (s.heap.objs.size+1) scope.names []) (bindC (envOfC qual scope s.heap.objs.size f cd).kindOf (ps.zip us) fun _=>none) s1):
    Inv (cK CX P w K mg base N qual scope f cd A outer s H E) [] (start N vs) H s1:=by
  have hpl:ps.length<=N.length:=by have:=congrArg List.length S.pre;rw[List.length_take] at this;omega
  obtain⟨h1,tk,rfl,hk⟩:=x.done
  have noA:∀ b:Addr,b ∉ (cK CX P w K mg base N qual scope f cd A outer s H E).ex:=fun b z=>absurd (show b ∈ ([]:List Addr) from z) (by simp)
  refine⟨⟨e0.mod,S.kind,rfl,rfl,Nat.le_refl _,fun y z c h1 h2=>?_,fun y hy=>?_,fun y c _ h=>?_,fun _=>hd,Around.frames_deeper e0.frames,.inr ⟨rfl,rfl⟩,fun b z=>absurd z (noA b),e0.bs,e0.bsz,fun b _ _=>noA b,fun b z=>absurd z (noA b),e0.funs,e0.frf⟩,
    rfl,e0.bare,Un.kept hk,⟨_,x.toInCall.ns,fun i y v h1 h2 h3=>?_⟩,fun y c h=>⟨_,x.cell y c h⟩,e0.hok.fresh (Nat.le_refl _),fun y c h=>?_,fun p hp=>absurd (show p ∈ ([]:List (Addr × Obj)) from hp) (by simp),e0.hok.kept hk,?_⟩
  · exact name_of_addr x.apart (PySem.mem_of_lookup h1) (PySem.mem_of_lookup h2)
  · have hy:scope.names.lookup y=some .cell\/scope.names.lookup y=some .free:=hy
    rcases hy with hy | hy
    · exact pw hy
    · exact absurd rfl (S.nofree _ (PySem.mem_of_lookup hy))
  · exact Nat.le_of_lt (x.above y c (PySem.mem_of_lookup h))
  · have hi:i < vs.length:=by
      unfold start at h2
      by_cases hi:i < vs.length
      · exact hi
      · rw[List.getElem?_append_right (by simpa using hi)] at h2
        rw[List.getElem?_replicate] at h2
        split at h2 <;> cases h2
    have ha:vs[i]?=some v:=by
      unfold start at h2
      rw[List.getElem?_append_left (by simpa using hi),List.getElem?_map] at h2
      cases e:vs[i]? with
      | none=>rw[e] at h2;cases h2
      | some a=>rw[e] at h2;cases h2;rfl
    obtain⟨u,hu,rv⟩:=r.get ha
    have hp:ps[i]?=some y:=by
      rw[<- S.pre,List.getElem?_take_of_lt (by omega)];exact h1
    have ndP:ps.Nodup:=by rw[<- S.pre];exact S.nd.sublist (List.take_sublist _ _)
    refine⟨u,rv,?_⟩
    rcases S.par y (List.mem_of_getElem? hp) with k | k
    · exact .inl ⟨k,pk ndP hp hu k⟩
    · obtain⟨c,e⟩:=pw (n:=s.heap.objs.size+1) k
      refine .inr ⟨.inl k,c,e,?_⟩
      have q:=x.cell y c e
      rw[pv ndP hp hu (by show scope.names.lookup y ≠ _;rw[k];decide)] at q
      exact q
  · exact e0.hok.fresh (Nat.le_of_lt (x.above y c (PySem.mem_of_lookup h)))
  · unfold start
    show _=N.length
    rw[List.length_append,List.length_map,List.length_replicate]
    omega
theorem wo{CX:CXT}{P:Program}{w:World}{K:PySem.W.Frag}{mg:Str->Option Value}{base:Heap}{k:Nat}{f:Addr}{name qual:Str}{params:Arguments}{body:List Stmt}{scope:Scope}{dV kV doc pm cdv ct oc:Value}{an od:Option Addr}{osl:Array (Option Value)}{N ps:List Str}{sp:Sp}(lk:K.lookup f=some ⟨oc,od,.func (PySem.W.fnOf name qual params body scope dV kV doc pm an cdv ct),osl⟩)(hcd:PySem.W.codeIn K cdv qual=true)(S:FnScope N ps scope)(len:∀ vs H Q E,sp vs H Q E->vs.length=ps.length)(hbody:∀ (A:Around) (outer:List Env) (s:Shared) (H:Hp) (vs:List V) (Q:VK) (E:XK),Room k (A.deeper (envOfC qual scope s.heap.objs.size f cdv))->sp vs H Q E ->
      ∃ t,PSs (cK CX P w K mg base N qual scope f cdv A outer s H E) body t/\t { nx:=fun _ H'=>Q .non H',rt:=Q } (start N vs) H):
    FnOk P w K mg base CX (k+1) f (PySem.W.fnOf name qual params body scope dV kV doc pm an cdv ct) ps sp:=by
  refine⟨len,fun A outer s H args us vs Q E hr e0 hb r hsp=>?_⟩
  have hl:=len _ _ _ _ hsp
  have KX:K.In s.heap:=e0.mod.kin.keeps fun b o e=>(e0.bs b o e).1
  have lim:s.heap.NoLimit:=e0.mod.nolimit.keeps fun b o e=>(e0.bs b o e).1
  have hkind:∀ y ∈ ps.zip us,scope.names.lookup y.1=some .local\/(scope.names.lookup y.1=some .cell/\((cellsFrom (s.heap.objs.size+1) scope.names []).lookup y.1).isSome=true):=fun⟨n,v⟩ hy=>by
    rcases S.par n (List.of_mem_zip hy).1 with q | q
    · exact .inl q
    · exact .inr ⟨q,PySem.W.cellsFrom_some _ _ _ (.inl q)⟩
  refine codeAny_call_function hr.depth (KX _ _ lk) rfl S.co S.gen rfl (PySem.W.codeRec_of KX hcd) (hb _ _ _ _ ?_)
  refine wpAny_newFunctionEnv_cells S.kind hkind fun env he s1 x=>?_
  subst he
  refine⟨lim.keeps x.toInCall.keep,codeAny_func ?_⟩
  obtain⟨t,ht,hq⟩:=hbody A outer s H vs Q E (hr.deeper _) hsp
  have I:Inv (cK CX P w K mg base N qual scope f cdv A outer s H E) [] (start N vs) H s1:=wn S hr.hd e0 hl r x
  refine wpAny_mono (ht [] s1 (start N vs) H _ I hq) (fun fl s' hs=>?_) fun e s' hs=>hs
  have fin:∀ {σ':St} {H':Hp} {v:V} {u:Value},Inv (cK CX P w K mg base N qual scope f cdv A outer s H E) [] σ' H' s'->RelV v u->Q v H'->CE outer P w H s Q u s' :=
    fun {σ' H' v u} J rv q=>⟨v,H',J.os,J.bare,J.base,J.hok,rv,q⟩
  cases fl with
  | ret u =>
    obtain⟨v,σ',H',J,rv,q⟩:=hs
    exact fin J rv q
  | next =>
    obtain⟨σ',H',J,q⟩:=hs
    exact fin (v:=V.non) (u:=Value.none) J rfl q
  | brk =>
    obtain⟨_,_,_,q⟩:=hs
    exact False.elim q
  | cont =>
    obtain⟨_,_,_,q⟩:=hs
    exact False.elim q
end L2
namespace L2
open PySem PySem.Spec PyProof.Rows
section
variable {X:Cx} {x:Str} {p pos:Pos} {e:Expr} {es:List Expr} {t:TA} {id T:String} {r:List V->Hp->VK->Prop}
def tCB(r:List V->Hp->VK->Prop)(t:TA):TE:=fun σ H Q=>t σ H fun vs H1=>r vs H1 Q
theorem lG(hc:CallR X (.builtin id) r)(hg:Gl X x)(hm:X.mg x=none)(hv:bootBuiltins x=some (.builtin id))(ha:PA X (e::es) t)(hn:x ≠ "__name__":=by decide)(hdb:(x == ("__debug__" : Str))=false:=by decide)(he:starEach (e::es) X.env=(false,eval e X.env)::starEach es X.env:=by rfl)(hpl:(backTo pos (starEach es X.env)).any (·.1)=false:=by rfl):PE X (.Call (.Name x p) (e::es) [] pos) (tCB r t):=by
  intro pins s σ H Q I h
  refine wpAny_Call_Name_kw (cJ I hg hm hv ?_ hn hdb)
  exact PyProof.Rows.callWith_builtin1 (thn (ha pos pins s σ H _ I h) fun us s1 ⟨vs,H1,I1,r1,q1⟩=>hc pins s1 σ H1 vs us Q I1 r1 q1) he hpl
theorem py(hc:CallR X (.type T) r)(hg:Gl X x)(hm:X.mg x=none)(hv:bootBuiltins x=some (.type T))(ha:PA X (e::es) t)(hn:x ≠ "__name__":=by decide)(hdb:(x == ("__debug__" : Str))=false:=by decide)(he:starEach (e::es) X.env=(false,eval e X.env)::starEach es X.env:=by rfl)(hpl:(backTo pos (starEach es X.env)).any (·.1)=false:=by rfl):PE X (.Call (.Name x p) (e::es) [] pos) (tCB r t):=by
  intro pins s σ H Q I h
  refine wpAny_Call_Name_kw (cJ I hg hm hv ?_ hn hdb)
  exact PyProof.Rows.callWith_type1 (thn (ha pos pins s σ H _ I h) fun us s1 ⟨vs,H1,I1,r1,q1⟩=>hc pins s1 σ H1 vs us Q I1 r1 q1) he hpl
end
end L2
namespace HT
open PySem PyProof.Rows
section
open PySem.SeqAt
open PySem.AutoSeq1 (wpAny_loadPart')
open PySem.MeetsSeq PySem.MeetsSeq2 PySem.MeetsSeq3
end
section
variable {prog:Program} {w:World} {A:Around} {E:Value->Shared->Prop} {s:Shared}
def sIx(n d:Nat):Option Int->Nat
  | none=>d
  | some v=>if v < 0 then (v+(n:Int)).toNat else min v.toNat n
end
end HT
namespace L2
open PySem PySem.Spec PyProof.Rows
abbrev TO:=St->Hp->(Option Int->Hp->Prop)->Prop
def PO(X:Cx)(e:Option Expr)(t:TO):Prop :=
  ∀ (pins:List (Addr × Obj)) (s:Shared) (σ:St) (H:Hp) (Q:Option Int->Hp->Prop),Inv X pins σ H s->t σ H Q ->
    wpAny (model X.prog X.w) X.A (evalPart e X.env) (fun u s'=>∃ o H',Inv X pins σ H' s'/\IsPart u o/\Q o H') X.xe s
def wp:TO:=fun _ H Q=>Q none H
def wq(t:TE):TO:=fun σ H Q=>t σ H fun x H1=>∃ i,x=.int i/\Q (some i) H1
theorem wu{ns:List Int}:∀ {us:List Value},Vals (ns.map V.int) us->IntsAre us ns:=by
  induction ns with
  | nil=>intro us r;rw[List.map_nil] at r;cases r;exact .nil
  | cons n ns ih =>
    intro us r
    rw[List.map_cons] at r
    cases r with
    | cons r1 r2 =>
      obtain⟨t,e⟩:=r1
      subst e
      exact .cons n t (ih r2)
section
variable {X:Cx} {e:Expr} {te:TE} {lo hi:Option Expr} {tl th:TO} {pos p2:Pos}
theorem wv:PO X none wp:=by
  intro pins s σ H Q I h
  rw[evalPart_none]
  exact wpAny_pure ⟨none,H,I,.none,h⟩
theorem pz(h:PE X e te):PO X (some e) (wq te):=by
  intro pins s σ H Q I hw
  rw[evalPart_some]
  refine thn (h pins s σ H _ I hw) fun u s1 ⟨x,H1,I1,r1,q1⟩=>?_
  obtain⟨i,rfl,q⟩:=q1
  obtain⟨t,rfl⟩:=r1
  exact⟨some i,H1,I1,.int i t,q⟩
def SlR(X:Cx)(r:V->Option Int->Option Int->Hp->VK->Prop):Prop :=
  ∀ (pins:List (Addr × Obj)) (s:Shared) (σ:St) (H:Hp) (x:V) (v vl vu:Value) (lo hi:Option Int) (sl:Addr) (Q:VK),Inv X pins σ H s->RelV x v->s.heap.IsSliceOf sl vl vu .none->IsPart vl lo->IsPart vu hi->r x lo hi H Q ->
    ∃ T id,typeLookup (.type T) "__getitem__" = pure (some (.builtin id))/\s.TypeIs v T/\wpAny (model X.prog X.w) X.A (getItem v (.ref sl)) (EP X pins σ Q) X.xe s
theorem SlR.or{r r':V->Option Int->Option Int->Hp->VK->Prop}(h:SlR X r)(h':SlR X r'):SlR X (fun x lo hi H Q=>r x lo hi H Q\/r' x lo hi H Q):=by
  intro pins s σ H x v vl vu lo hi sl Q I rx hs pl pu q
  rcases q with q | q
  · exact h pins s σ H x v vl vu lo hi sl Q I rx hs pl pu q
  · exact h' pins s σ H x v vl vu lo hi sl Q I rx hs pl pu q
def tSl(r:V->Option Int->Option Int->Hp->VK->Prop)(te:TE)(tl th:TO):TE:=fun σ H Q=>te σ H fun x H1=>tl σ H1 fun l H2=>th σ H2 fun u H3=>r x l u H3 Q
theorem pA{r:V->Option Int->Option Int->Hp->VK->Prop}(hr:SlR X r)(he:PE X e te)(hl:PO X lo tl)(hu:PO X hi th):PE X (.Subscript e (.Slice lo hi none p2) pos) (tSl r te tl th):=by
  intro pins s σ H Q I h
  refine Subscript_ (thn (he pins s σ H _ I h) fun v s1 ⟨x,H1,I1,r1,q1⟩=>?_)
  refine wpAny_Slice (thn (hl pins s1 σ H1 _ I1 q1) fun vl s2 ⟨l,H2,I2,pl,q2⟩=>thn (hu pins s2 σ H2 _ I2 q2) fun vu s3 ⟨u,H3,I3,pu,q3⟩=>?_)
  rw[evalPart_none]
  refine wpAny_pure ?_
  have I4:Inv X pins σ H3 { s3 with heap:=s3.heap.push { cls:=.type "slice",data:=.fields #[vl,vu,.none] } }:=I3.kept (t':=s3.toks) fun b ob q=>Heap.get?_push_of_some _ q
  obtain⟨T,id,hT,ht,hg⟩:=hr pins { s3 with heap:=s3.heap.push { cls:=.type "slice",data:=.fields #[vl,vu,.none] } } σ H3 x v vl vu l u s3.heap.objs.size Q I4 r1 (Heap.IsSliceOf.new ..) pl pu q3
  show wpAny (model X.prog X.w) X.A (subscriptTail e (.Slice lo hi none p2) v (.ref s3.heap.objs.size)) (EP X pins σ Q) X.xe { s3 with heap:=s3.heap.push { cls:=.type "slice",data:=.fields #[vl,vu,.none] } }
  exact tail_any (ops:=[.ref s3.heap.objs.size,v]) ht hT hg (by with_unfolding_all rfl)
def gE(xs:List V)(lo hi:Option Int):List V:=(xs.drop (HT.sIx xs.length 0 lo)).take (HT.sIx xs.length xs.length hi - HT.sIx xs.length 0 lo)
theorem ww(xs:List V)(lo hi:Option Int):(gE xs lo hi).length<=xs.length:=by
  unfold gE
  rw[List.length_take,List.length_drop]
  omega
end
end L2
namespace L2
open PySem PySem.Spec PyProof.Rows
def ixN(n:Nat)(i:Int):Option Nat:=if 0<=i then (if i < n then some i.toNat else none) else if -(n:Int)<=i then some (i+n).toNat else none
def atI{α:Type}(xs:List α)(i:Int):Option α:=(ixN xs.length i).bind fun j=>xs[j]?
theorem pB{n:Nat}{i:Int}{j:Nat}(h:ixN n i=some j):seqIndex? i n=some j/\j < n/\-(n:Int)<=i/\i < n:=by
  unfold ixN at h
  by_cases h0:0<=i
  · rw[if_pos h0] at h
    by_cases h1:i < n
    · rw[if_pos h1] at h
      have e:i.toNat=j:=Option.some.inj h
      exact⟨by rw[seqIndex_of h0 h1,e],by omega,by omega,h1⟩
    · rw[if_neg h1] at h;cases h
  · rw[if_neg h0] at h
    by_cases h1:-(n:Int)<=i
    · rw[if_pos h1] at h
      have e:(i+n).toNat=j:=Option.some.inj h
      exact⟨by rw[seqIndex_neg (by omega) h1,e],by omega,h1,by omega⟩
    · rw[if_neg h1] at h;cases h
theorem pC{α:Type}{xs:List α}{i:Int}{v:α}(h:atI xs i=some v):∃ j,seqIndex? i xs.length=some j/\xs[j]?=some v/\j < xs.length/\-(xs.length:Int)<=i/\i < xs.length:=by
  unfold atI at h
  cases e:ixN xs.length i with
  | none=>rw[e] at h;cases h
  | some j =>
    rw[e] at h
    obtain⟨h1,h2,h3,h4⟩:=pB e
    exact⟨j,h1,h,h2,h3,h4⟩
def fC(b:Expr):Prop:=∀ o i,subscripted b false o i=operate [o,i] (getItem o i)
def IxR(X:Cx)(r:R2):Prop :=
  ∀ (value slice:Expr) (pins:List (Addr × Obj)) (s:Shared) (σ:St) (H:Hp) (x y:V) (v u:Value) (Q:VK),Inv X pins σ H s->RelV x v->RelV y u->r x y H Q ->
    subscripted slice false v u=operate [v,u] (getItem v u)->wpAny (model X.prog X.w) X.A (subscriptTail value slice v u) (EP X pins σ Q) X.xe s
def MtR(X:Cx)(id:String)(r:V->List V->Hp->VK->Prop):Prop :=
  ∀ (pins:List (Addr × Obj)) (s:Shared) (σ:St) (H:Hp) (x:V) (xs:List V) (v:Value) (us:List Value) (Q:VK),Inv X pins σ H s->RelV x v->Vals xs us->r x xs H Q ->
    wpAny (model X.prog X.w) X.A (call (.builtin id) (v::us)) (EP X pins σ Q) X.xe s
section
variable {X:Cx} {a b:Expr} {ta tb:TE} {pos:Pos}
theorem IxR.or{r r':R2}(h:IxR X r)(h':IxR X r'):IxR X (fun x y H Q=>r x y H Q\/r' x y H Q):=by
  intro value slice pins s σ H x y v u Q I rx ry q hs
  rcases q with q | q
  · exact h value slice pins s σ H x y v u Q I rx ry q hs
  · exact h' value slice pins s σ H x y v u Q I rx ry q hs
theorem MtR.or{id:String}{r r':V->List V->Hp->VK->Prop}(h:MtR X id r)(h':MtR X id r'):MtR X id (fun x xs H Q=>r x xs H Q\/r' x xs H Q):=by
  intro pins s σ H x xs v us Q I rx rs q
  rcases q with q | q
  · exact h pins s σ H x xs v us Q I rx rs q
  · exact h' pins s σ H x xs v us Q I rx rs q
theorem lH{r:R2}(hr:IxR X r)(ha:PE X a ta)(hb:PE X b tb)(hs:fC b):PE X (.Subscript a b pos) (tOp r ta tb):=by
  intro pins s σ H Q I h
  exact Subscript_ (lw ha hb I h fun v u s2 x y H2 I2 rx ry q=>hr a b pins s2 σ H2 x y v u Q I2 rx ry q (hs _ _))
def wx(K:PySem.W.Frag):R2:=fun x y H Q=>∃ p xs i v,x=.ref p/\y=.int i/\SqL K H p xs/\atI xs i=some v/\Q v H
def wy(K:PySem.W.Frag):R2:=fun x y H Q=>∃ p xs i v,x=.ref p/\y=.int i/\SqT K H p xs/\atI xs i=some v/\Q v H
theorem ix_list:IxR X (wx X.K):=by
  intro value slice pins s σ H x y v u Q I rx ry h hs
  obtain⟨p,xs,i,z,rfl,rfl,hq,he,q⟩:=h
  cases rx
  obtain⟨t,rfl⟩:=ry
  obtain⟨its,r,pl,hz⟩:=I.list hq
  obtain⟨j,h1,h2,h3,h4,h5⟩:=pC he
  obtain⟨w,ew,rw'⟩:=r.get h2
  have hl:=r.length
  have hn:=il
  have fin:EP X pins σ Q w s:=⟨z,H,I,rw',q⟩
  by_cases h0:0<=i
  · have hj:i.toNat=j:=by
      rw[seqIndex_of h0 h5] at h1
      exact Option.some.inj h1
    exact item_listR pl.isList h0 (by omega) (by rw[hj];simpa using ew) fin hs
  · have hj:(i+(its.toArray.size:Int)).toNat=j:=by
      rw[seqIndex_neg (by omega) h4] at h1
      rw[List.size_toArray,<- hl]
      exact Option.some.inj h1
    exact subscriptTail_builtinR (x:=w) pl.isList.typeIs slot_list_getitem.lookup
      (wpAny_getItem_list_neg (Q:=fun r s'=>r=w/\EP X pins σ Q r s') pl.isList (by omega) (by rw[List.size_toArray] <;> omega) (by omega) (by rw[hj];simpa using ew) ⟨rfl,fin⟩) hs
theorem lI:IxR X (wy X.K):=by
  intro value slice pins s σ H x y v u Q I rx ry h hs
  obtain⟨p,xs,i,z,rfl,rfl,hq,he,q⟩:=h
  cases rx
  obtain⟨t,rfl⟩:=ry
  obtain⟨its,r,pl,hz⟩:=I.tuple hq
  obtain⟨j,h1,h2,h3,h4,h5⟩:=pC he
  obtain⟨w,ew,rw'⟩:=r.get h2
  have hl:=r.length
  have hn:=il
  have fin:EP X pins σ Q w s:=⟨z,H,I,rw',q⟩
  exact subscriptTail_builtinR (x:=w) pl.typeIs slot_tuple_getitem.lookup
    (getItem_tuple (j:=j) (Q:=fun r s'=>r=w/\EP X pins σ Q r s') pl (by omega) (by omega) (by rw[List.size_toArray,<- hl];exact h1) (by simpa using ew) ⟨rfl,fin⟩) hs
theorem wz(its:List Value)(n j:Nat)(u:Value):Obj.mapSeq (·.setIfInBounds j u) { cls:=.type "list",data:=.seq its.toArray n }={ cls:=.type "list",data:=.seq (its.set j u).toArray n }:=by
  simp[Obj.mapSeq]
theorem Inv.lst{pins:List (Addr × Obj)}{σ:St}{H:Hp}{s:Shared}{p:Addr}{xs:List V}(I:Inv X pins σ H s)(h:H p=some (.lst xs)):
    ∃ (its:List Value) (n:Nat),Vals xs its/\s.heap.get? p=some { cls:=.type "list",data:=.seq its.toArray n }/\xs.length<=sizeLine:=by
  obtain⟨z,its,n,r,e⟩:=I.hok p _ h
  exact⟨its,n,r,e,z⟩
theorem Inv.lstUpd{pins:List (Addr × Obj)}{σ:St}{H:Hp}{s:Shared}{p:Addr}{xs ys:List V}{its its':List Value}{n n':Nat}{f:Obj->Obj}(I:Inv X pins σ H s)(h:H p=some (.lst xs))(ho:s.heap.get? p=some { cls:=.type "list",data:=.seq its.toArray n })(hf:f { cls:=.type "list",data:=.seq its.toArray n }={ cls:=.type "list",data:=.seq its'.toArray n' })(r:Vals ys its')(hz:ys.length<=sizeLine)(t:Nat):
    Inv X pins σ (upd H p (.lst ys)) { s with heap:=s.heap.update p f,toks:=t }:=by
  have e:(s.heap.update p f).get? p=some { cls:=.type "list",data:=.seq its'.toArray n' }:=by
    rw[Heap.get?_update_self f ho (by rw[hf] <;> rfl),hf]
  refine I.write (x:=p) (e:=p) (by rw[h];trivial) (.inl rfl) (fun b u hb q=>(Heap.get?_update_other _ _ (Ne.symm hb)).trans q) ⟨_,e⟩ ?_
  exact⟨hz,its',n',r,e⟩
def wA:V->V->V->Hp->(Hp->Prop)->Prop:=fun o i v H Q=>∃ p xs k j,o=.ref p/\i=.int k/\H p=some (.lst xs)/\ixN xs.length k=some j/\Q (upd H p (.lst (xs.set j v)))
theorem wB:oF X wA:=by
  intro pins s σ H o i v ov iv u Q I ro ri rv h
  obtain⟨p,xs,k,j,rfl,rfl,hp,hj,q⟩:=h
  cases ro
  obtain⟨t,rfl⟩:=ri
  obtain⟨its,n,r,ho,hz⟩:=I.lst hp
  obtain⟨h1,h2,h3,h4⟩:=pB hj
  have hl:=r.length
  have hn:=il
  have I':Inv X pins σ (upd H p (.lst (xs.set j v))) { s with heap:=s.heap.update p (Obj.mapSeq (·.setIfInBounds j u)) } :=
    I.lstUpd hp ho (wz its n j u) (r.set rv j) (by rw[List.length_set];exact hz) s.toks
  by_cases h0:0<=k
  · have hk:k.toNat=j:=by
      rw[seqIndex_of h0 h4] at h1
      exact Option.some.inj h1
    exact PySem.W.ki_setAt ho h0 (by omega) (by rw[List.size_toArray,<- hl];exact h4) (by rw[hk];exact⟨_,I',q⟩)
  · have hk:(k+(its.toArray.size:Int)).toNat=j:=by
      rw[seqIndex_neg (by omega) h3] at h1
      rw[List.size_toArray,<- hl]
      exact Option.some.inj h1
    exact PySem.W.ki_setBack ho (by omega) (by rw[List.size_toArray,<- hl];exact h3) (by omega) (by rw[hk];exact⟨_,I',q⟩)
theorem wC(lo hi:Option Int)(n:Nat):(sliceBounds lo hi none n).1=((HT.sIx n 0 lo:Nat):Int)/\(sliceBounds lo hi none n).2.1=((HT.sIx n n hi:Nat):Int)/\(sliceBounds lo hi none n).2.2=1:=by
  refine⟨?_,?_,rfl⟩
  · cases lo with
    | none=>simp[sliceBounds,HT.sIx]
    | some i =>
      simp only[sliceBounds,HT.sIx,Option.getD_none,show (1:Int) > 0 by decide,if_true]
      by_cases h:i < 0
      · simp only[h,if_true] <;> omega
      · simp only[h,if_false] <;> omega
  · cases hi with
    | none=>simp[sliceBounds,HT.sIx]
    | some i =>
      simp only[sliceBounds,HT.sIx,Option.getD_none,show (1:Int) > 0 by decide,if_true]
      by_cases h:i < 0
      · simp only[h,if_true] <;> omega
      · simp only[h,if_false] <;> omega
theorem wD(its:List Value)(lo hi:Option Int):slicePick its.toArray lo hi none=((its.drop (HT.sIx its.length 0 lo)).take (HT.sIx its.length its.length hi - HT.sIx its.length 0 lo)).toArray:=by
  obtain⟨h1,h2,h3⟩:=wC lo hi its.toArray.size
  unfold slicePick
  rw[h1,h2,h3]
  simp only[sliceRange_one,pick_run,List.size_toArray] <;> rfl
def wE(K:PySem.W.Frag):V->Option Int->Option Int->Hp->VK->Prop:=fun x lo hi H Q=>∃ a xs,x=.ref a/\SqL K H a xs/\∀ p,H p=none->Q (.ref p) (upd H p (.lst (gE xs lo hi)))
theorem pE:SlR X (wE X.K):=by
  intro pins s σ H x v vl vu lo hi sl Q I rx hs pl pu h
  obtain⟨a,xs,rfl,hx,q⟩:=h
  cases rx
  obtain⟨its,r,ht,hz⟩:=I.list hx
  have hlen:=r.length
  refine⟨"list",_,slot_list_getitem.lookup,ht.isList.typeIs,?_⟩
  refine wpAny_getItem_list_slice ht.isList hs pl pu .none (by simp) ?_ (by rw[List.size_toArray] <;> omega)
  rw[wD,<- hlen]
  refine⟨.ref s.heap.objs.size,_,I.laid (t':=s.toks) (o:=.lst (gE xs lo hi)) (fun b ob q=>Heap.get?_push_of_some _ q) (Nat.le_refl _) ?_,rfl,q _ (I.hok.fresh (Nat.le_refl _))⟩
  exact⟨Nat.le_trans (ww xs lo hi) hz,_,0,(r.drop (HT.sIx xs.length 0 lo)).take (HT.sIx xs.length xs.length hi - HT.sIx xs.length 0 lo),Heap.get?_push_size _ rfl⟩
theorem pF:CallR X (.builtin "len") (fun xs H Q=>∃ p ys,xs=[.ref p]/\(SqL X.K H p ys\/SqT X.K H p ys)/\Q (.int ys.length) H):=by
  intro pins s σ H xs us Q I r h
  obtain⟨p,ys,rfl,hq,q⟩:=h
  obtain⟨u,rfl,rx⟩:=eo r
  cases rx
  have hn:=il
  rcases hq with hq | hq
  · obtain⟨its,r',pl,hz⟩:=I.list hq
    have hlen:=r'.length
    exact Calls.call_len_list pl.isList (by simp only[List.size_toArray] <;> omega) ⟨.int ys.length,H,I.tok _,⟨s.toks+1,by rw[List.size_toArray,hlen]⟩,q⟩
  · obtain⟨its,r',pl,hz⟩:=I.tuple hq
    have hlen:=r'.length
    exact len_tuple pl (by simp only[List.size_toArray] <;> omega) ⟨.int ys.length,H,I.tok _,⟨s.toks+1,by rw[List.size_toArray,hlen]⟩,q⟩
theorem CallR.or{f:Value}{r r':List V->Hp->VK->Prop}(h:CallR X f r)(h':CallR X f r'):CallR X f (fun xs H Q=>r xs H Q\/r' xs H Q):=by
  intro pins s σ H xs us Q I rs q
  rcases q with q | q
  · exact h pins s σ H xs us Q I rs q
  · exact h' pins s σ H xs us Q I rs q
theorem pG:CallR X (.type "list") (fun xs H Q=>∃ p ys,xs=[.ref p]/\(SqL X.K H p ys\/SqT X.K H p ys)/\∀ l,H l=none->Q (.ref l) (upd H l (.lst ys))):=by
  intro pins s σ H xs us Q I r h
  obtain⟨p,ys,rfl,hq,q⟩:=h
  obtain⟨u,rfl,rx⟩:=eo r
  cases rx
  have fin:∀ (its:List Value),Vals ys its->ys.length<=sizeLine->∀ (h':Heap) (c':Nat),(∀ b o',s.heap.get? b=some o'->h'.get? b=some o') ->
      h'.get? s.heap.objs.size=some { cls:=.type "list",dict:=none,data:=.seq its.toArray c',slots:=#[] }->EP X pins σ Q (.ref s.heap.objs.size) { s with heap:=h' }:=fun its r' hz h' c' kp e =>
    ⟨.ref s.heap.objs.size,_,I.laid (t':=s.toks) kp (Nat.le_refl _) (show ObjOk X.prog X.w _ h' _ (.lst ys) from ⟨hz,its,c',r',e⟩),rfl,q _ (I.hok.fresh (Nat.le_refl _))⟩
  rcases hq with hq | hq
  · obtain⟨its,r',pl,hz⟩:=I.list hq
    have hlen:=r'.length
    obtain⟨o,ho,hc,n,hd⟩:=pl.isList
    exact call_list_seq p (.inl rfl) ho hc hd (fun h' c' kp e=>fin its r' hz h' c' kp e) (by simp only[List.size_toArray] <;> omega)
  · obtain⟨its,r',pl,hz⟩:=I.tuple hq
    have hlen:=r'.length
    obtain⟨o,ho,hc,n,hd⟩:=pl
    exact call_list_seq p (.inr rfl) ho hc hd (fun h' c' kp e=>fin its r' hz h' c' kp e) (by simp only[List.size_toArray] <;> omega)
def tyV(K:PySem.W.Frag)(T:String)(x:V)(H:Hp):Prop:=match x with
  | .str _=>T = "str"
  | .int _=>T = "int"
  | .ref p=>(T = "list"/\∃ xs,SqL K H p xs)\/(T = "tuple"/\∃ o,K.lookup p=some o/\o.cls=.type "tuple"/\o.dict=none) \/
      (T = "dict"/\((∃ kvs,H p=some (.dK kvs))\/∃ kvs,H p=some (.dT kvs)))\/(T = "set"/\∃ S n,H p=some (.set S n))
  | _=>False
theorem pH{pins:List (Addr × Obj)}{σ:St}{H:Hp}{s:Shared}{T:String}{x:V}{v:Value}(I:Inv X pins σ H s)(r:RelV x v)(ty:tyV X.K T x H):
    s.TypeIs v T/\∀ a,v=.ref a->∃ ob,s.heap.get? a=some ob/\ob.dict=none:=by
  cases x with
  | str z =>
    obtain⟨t,rfl⟩:=r
    cases (show T = "str" from ty)
    exact⟨typeIs_str s z t,fun _ e=>nomatch e⟩
  | int i =>
    obtain⟨t,rfl⟩:=r
    cases (show T = "int" from ty)
    exact⟨typeIs_int s i t,fun _ e=>nomatch e⟩
  | ref p =>
    cases r
    rcases ty with⟨rfl,xs,hq⟩ | ⟨rfl,o,hk,hc,hd⟩ | ⟨rfl,hk⟩ | ⟨rfl,S,n,hk⟩
    · obtain⟨its,_,pl,_⟩:=I.list hq
      refine⟨pl.isList.typeIs,fun a e=>?_⟩
      cases e
      obtain⟨o,n,e,c,hd,_⟩:=pl
      exact⟨o,e,hd⟩
    · refine⟨⟨o,I.kIn p o hk,hc⟩,fun a e=>?_⟩
      cases e
      exact⟨o,I.kIn _ o hk,hd⟩
    · have z:∃ o,s.heap.get? p=some o/\o.ExactDict:=by
        rcases hk with⟨kvs,hk⟩ | ⟨kvs,hk⟩
        · obtain⟨_,_,_,_,o,_,_,e,ex,_⟩:=I.hok p _ hk
          exact⟨o,e,ex⟩
        · obtain⟨_,_,_,_,o,_,_,e,ex,_⟩:=I.hok p _ hk
          exact⟨o,e,ex⟩
      obtain⟨o,e,ex⟩:=z
      refine⟨⟨o,e,ex.1⟩,fun a e2=>?_⟩
      cases e2
      exact⟨o,e,ex.2.1⟩
    · obtain⟨o,_,_,_,e,ex,_⟩:=I.hok p _ hk
      refine⟨⟨o,e,ex.1⟩,fun a e2=>?_⟩
      cases e2
      exact⟨o,e,ex.2.1⟩
  | _=>exact False.elim ty
def wF(K:PySem.W.Frag)(T:String)(r:V->List V->Hp->VK->Prop)(to:TE):TE:=fun σ H Q=>to σ H fun x H1=>tyV K T x H1/\r x [] H1 Q
def tBM(K:PySem.W.Frag)(T:String)(r:V->List V->Hp->VK->Prop)(to:TE)(t:TA):TE:=fun σ H Q=>to σ H fun x H1=>tyV K T x H1/\t σ H1 fun xs H2=>r x xs H2 Q
variable {o e:Expr} {es:List Expr} {to:TE} {t:TA} {name:Str} {apos cpos:Pos} {T id:String} {r:V->List V->Hp->VK->Prop}
theorem wG(pa:PlainAttrs T)(slot:Slot T name id)(hty:typeOf (.builtin id)=pure (.type "method_descriptor"))(hm:MtR X id r)(ho:PE X o to)(hbase:attributeBase o name X.env (eval o X.env)=eval o X.env:=by rfl)(hline:(apos.endLine == cpos.line)=true:=by rfl):PE X (.Call (.Attribute o name apos) [] [] cpos) (wF X.K T r to):=by
  intro pins s σ H Q I h
  refine wpAny_Call_method0_late hbase hline (thn (ho pins s σ H _ I h) fun v s1 ⟨x,H1,I1,r1,ty,q1⟩=>?_)
  obtain⟨h1,h2⟩:=pH I1 r1 ty
  exact⟨T,id,pa,slot,hty,h1,h2,Calls.callWith_builtin rfl (PySem.evalArgs_none (hm pins s1 σ H1 x [] v [] Q I1 r1 .nil q1))⟩
theorem lJ(pa:PlainAttrs T)(slot:Slot T name id)(hty:typeOf (.builtin id)=pure (.type "method_descriptor"))(hm:MtR X id r)(ho:PE X o to)(ha:PA X (e::es) t)(hbase:attributeBase o name X.env (eval o X.env)=eval o X.env:=by rfl)(hfew:((backTo cpos (starEach (e::es) X.env)).all (fun x=>!x.1) && (backToKw cpos (keywordEach [] X.env)).all (fun x=>x.1.isSome)
      && decide ((e::es).length+([]:List Keyword).length+(if ([]:List Keyword).isEmpty then 0 else 1) < 30))=true:=by rfl)(hline:(apos.endLine == cpos.line)=true:=by rfl)(hs:starEach (e::es) X.env=(false,eval e X.env)::starEach es X.env:=by rfl)(hplain:(backTo cpos (starEach es X.env)).any (·.1)=false:=by rfl):
    PE X (.Call (.Attribute o name apos) (e::es) [] cpos) (tBM X.K T r to t):=by
  intro pins s σ H Q I h
  refine wpAny_Call_method_late hbase hfew hline rfl (thn (ho pins s σ H _ I h) fun v s1 ⟨x,H1,I1,r1,ty,q1⟩=>?_)
  obtain⟨h1,h2⟩:=pH I1 r1 ty
  refine⟨T,id,pa,slot,hty,h1,h2,?_⟩
  have hA:=ha cpos pins s1 σ H1 _ I1 q1
  rw[hs] at hA ⊢
  refine Calls.callWith_builtin (by show (false || (backTo cpos (starEach es X.env)).any (·.1))=false;rw[hplain] <;> rfl) (Calls.evalArgs_plain ?_)
  exact thn hA fun us s2 ⟨vs,H2,I2,r2,q2⟩=>hm pins s2 σ H2 x vs v us Q I2 r1 r2 q2
end
end L2
namespace L2
open PySem PySem.Spec PyProof.Rows
def MtM(X:Cx)(id:String)(r:V->List V->Hp->VK->Prop):Prop :=
  ∀ (pins:List (Addr × Obj)) (s:Shared) (σ:St) (H:Hp) (x:V) (xs:List V) (v:Value) (us:List Value) (Q:VK),Inv X pins σ H s->RelV x v->Vals xs us->r x xs H Q ->
    wpAny (model X.prog X.w) X.A (call (.builtin id) (v::us)) (EP X pins σ Q) X.xe s
theorem Vals.one:∀ {x:V} {us:List Value},Vals [x] us->∃ u,us=[u]/\RelV x u
  | _,_,.cons r .nil=>⟨_,rfl,r⟩
theorem Vals.two:∀ {x y:V} {us:List Value},Vals [x,y] us->∃ u v,us=[u,v]/\RelV x u/\RelV y v
  | _,_,_,.cons r (.cons q .nil)=>⟨_,_,rfl,r,q⟩
theorem Vals.zero:∀ {us:List Value},Vals [] us->us=[]
  | _,.nil=>rfl
theorem Vals.reverse{xs:List V}{us:List Value}(h:Vals xs us):Vals xs.reverse us.reverse:=by
  induction h with
  | nil=>exact .nil
  | cons r t ih=>rw[List.reverse_cons,List.reverse_cons];exact Vals.append ih (.cons r .nil)
theorem Vals.rep{xs:List V}{us:List Value}(h:Vals xs us):∀ k:Nat,Vals (List.replicate k xs).flatten (List.replicate k us).flatten
  | 0=>.nil
  | k+1=>by
    rw[List.replicate_succ,List.replicate_succ,List.flatten_cons,List.flatten_cons]
    exact Vals.append h (Vals.rep h k)
theorem pI(its:List Value):∀ (k:Nat) (acc:List Value),
    List.foldl (fun x1 x2=>x1++x2) acc.toArray (List.replicate k its.toArray)=(acc++(List.replicate k its).flatten).toArray
  | 0,acc=>by simp
  | k + 1,acc=>by
    have e:acc.toArray++its.toArray=(acc++its).toArray:=by simp
    have e2:(acc++its)++(List.replicate k its).flatten=acc++(List.replicate (k+1) its).flatten:=by
      rw[List.replicate_succ,List.flatten_cons,List.append_assoc]
    rw[<- e2,<- pI its k (acc++its),<- e,List.replicate_succ,List.foldl_cons]
section
variable {X:Cx} {pins:List (Addr × Obj)} {σ:St} {H:Hp} {s:Shared} {l b:Addr} {xs ys zs:List V}
theorem Inv.lset{its its':List Value}{n:Nat}{f:Array Value->Array Value}{t':Nat}(I:Inv X pins σ H s)(hH:H l=some (.lst xs))(e:s.heap.get? l=some { cls:=.type "list",data:=.seq its.toArray n })(hf:f its.toArray=its'.toArray)(hv:Vals ys its')(hz:ys.length<=sizeLine):
    Inv X pins σ (upd H l (.lst ys)) { s with heap:=s.heap.update l (Obj.mapSeq f),toks:=t' }:=by
  have q:=PySem.IsL.update e f
  rw[hf] at q
  refine I.write (x:=l) (e:=l) (by rw[hH];exact trivial) (.inl rfl) (fun b' u hb hu=>(Heap.get?_update_other s.heap (Obj.mapSeq f) (Ne.symm hb)).trans hu) ⟨_,q⟩ ?_
  exact⟨hz,its',_,hv,q⟩
theorem Inv.lnew{its:List Value}{t':Nat}(I:Inv X pins σ H s)(hv:Vals ys its)(hz:ys.length<=sizeLine):
    Inv X pins σ (upd H s.heap.objs.size (.lst ys)) { s with heap:=s.heap.push { cls:=.type "list",data:=.seq its.toArray },toks:=t' } :=
  I.laid (fun _ _ q=>Heap.get?_push_of_some _ q) (Nat.le_refl _) ⟨hz,its,0,hv,Heap.get?_push_size _ rfl⟩
theorem Inv.fresh(I:Inv X pins σ H s):H s.heap.objs.size=none:=I.hok.fresh (Nat.le_refl _)
theorem Inv.lstM(I:Inv X pins σ H s)(hH:H l=some (.lst xs)):xs.length<=sizeLine/\∃ (its:List Value) (n:Nat),Vals xs its/\xs.length=its.length/\s.heap.get? l=some { cls:=.type "list",data:=.seq its.toArray n }:=by
  obtain⟨z,its,n,r,e⟩:=I.hok l _ hH
  exact⟨z,its,n,r,r.length,e⟩
theorem wH{n:Nat}(h:n<=sizeLine):Builtin.List.listTooLong n=false:=by
  unfold Builtin.List.listTooLong
  exact decide_eq_false (by omega)
end
section
variable {X:Cx}
def wI:V->List V->Hp->VK->Prop:=fun x vs H Q=>∃ l xs y,x=.ref l/\vs=[y]/\H l=some (.lst xs)/\xs.length < sizeLine/\Q .non (upd H l (.lst (xs++[y])))
theorem lK:MtM X "list.append" wI:=by
  intro pins s σ H x vs v us Q I rx rv h
  obtain⟨l,xs,y,rfl,rfl,hH,hz,q⟩:=h
  cases rx
  obtain⟨u,rfl,ru⟩:=rv.one
  obtain⟨z,its,n,r,hl,e⟩:=I.lstM hH
  refine call_meets F.slot_list_append ⟨_,e,rfl⟩ F.entry_list_append (F.args_list_append_2 _ _) (PySem.list_append l its.toArray n u (by rw[List.size_toArray];omega)) ⟨e,?_⟩
  refine⟨.non,_,I.lset (its':=its++[u]) hH e (by simp) (r.append (.cons ru .nil)) ?_,rfl,q⟩
  rw[List.length_append,List.length_singleton]
  omega
def wJ:V->List V->Hp->VK->Prop:=fun x vs H Q=>∃ l xs,x=.ref l/\vs=[]/\H l=some (.lst xs)/\Q .non (upd H l (.lst xs.reverse))
theorem wK:MtM X "list.reverse" wJ:=by
  intro pins s σ H x vs v us Q I rx rv h
  obtain⟨l,xs,rfl,rfl,hH,q⟩:=h
  cases rx
  have hus:=rv.zero
  subst hus
  obtain⟨z,its,n,r,hl,e⟩:=I.lstM hH
  refine call_meets F.slot_list_reverse ⟨_,e,rfl⟩ F.entry_list_reverse (F.args_list_reverse_1 _) (AutoSeq1.list_reverse_list_0 l its.toArray n (by rw[List.size_toArray];omega)) ⟨e,?_⟩
  refine⟨.non,_,I.lset (its':=its.reverse) hH e (by simp) r.reverse ?_,rfl,q⟩
  rw[List.length_reverse]
  omega
def wL:R2:=fun x y H Q=>∃ l k xs,x=.ref l/\y=.int k/\H l=some (.lst xs)/\-(2 ^ 63)<=k/\k < 2 ^ 63/\xs.length * k.toNat<=sizeLine /\
  ∀ p,H p=none->Q (.ref p) (upd H p (.lst (List.replicate k.toNat xs).flatten))
theorem wM{α:Type}(xs:List α)(k:Nat):(List.replicate k xs).flatten.length=k * xs.length:=by
  induction k with
  | zero=>simp
  | succ k ih=>rw[List.replicate_succ,List.flatten_cons,List.length_append,ih,Nat.succ_mul,Nat.add_comm]
theorem wN:OpR X (binaryOp .Mult) wL:=by
  intro pins s σ H x y v u Q I rx ry h
  obtain⟨l,k,xs,rfl,rfl,hH,h1,h2,hz,q⟩:=h
  cases rx
  obtain⟨t,rfl⟩:=ry
  obtain⟨z,its,n,r,hl,e⟩:=I.lstM hH
  have hlen:its.toArray.size * k.toNat<=sizeLine:=by rw[List.size_toArray,<- hl];exact hz
  have hcap:¬ its.toArray.size * k.toNat > (2 ^ 63 - 1) / 8:=by
    have:(sizeLine:Nat)<=(2 ^ 63 - 1) / 8:=by decide
    omega
  have hfit:¬ (!Builtin.List.listFitsIndex k)=true:=by
    rw[fitsIndex_both h1 h2]
    exact Bool.false_ne_true
  have hlong:¬ Builtin.List.listTooLong (its.toArray.size * k.toNat)=true:=by
    rw[wH hlen]
    exact Bool.false_ne_true
  have hnew:List.foldl (fun x1 x2=>x1++x2) #[] (List.replicate (if its.toArray.isEmpty=true then 0 else k.toNat) its.toArray)=(List.replicate k.toNat its).flatten.toArray:=by
    have f0:∀ m:Nat,List.foldl (fun x1 x2=>x1++x2) #[] (List.replicate m its.toArray)=(List.replicate m its).flatten.toArray:=fun m=>by
      have:=pI its m []
      rw[List.nil_append] at this
      exact this
    rw[f0]
    cases its with
    | nil=>simp
    | cons a r'=>rw[if_neg (by simp)]
  refine wpAny_binaryOp_repeat_ref (T:="list") (U:="int") (by decide) ⟨_,e,rfl⟩ (fun s'=>typeIs_int s' k t) noFill_list_mul F.fills_int_mul F.slot_int_rmul repeat_list F.slot_int_index.lookup
    (call_meets F.slot_int_rmul (typeIs_int s k t) F.entry_int_rmul (F.args_int_rmul_2 _ _) (int___rmul___int_list k t l its.toArray n)
      ⟨e,rfl,⟨_,e,rfl⟩,call_meets F.slot_list_mul ⟨_,e,rfl⟩ F.entry_list_mul (F.args_list_mul_2 _ _) (AutoListH.list___mul___list_int_3 l its.toArray n k t hfit hcap hlong) ⟨e,?_⟩⟩)
  rw[hnew]
  exact⟨.ref _,_,I.lnew (t':=s.toks) (r.rep k.toNat) (by rw[wM,Nat.mul_comm];exact hz),rfl,q _ I.fresh⟩
end
section
variable {prog:Program} {w:World} {A:Around} {E:Value->Shared->Prop} {s:Shared}
set_option maxRecDepth 100000 in
end
section
variable {X:Cx}
end
end L2
namespace Att
open PySem PySem.W PySem.Calls PyProof.Rows
theorem wO{P:Params}{h:Heap}:∀ (ns:List Int) (vs:List Value),WellAll P h vs (ns.map WData.int)->IntsAre vs ns:=by
  intro ns
  induction ns with
  | nil =>
    intro vs w
    rw[List.map_nil] at w
    cases w
    exact .nil
  | cons n ns ih =>
    intro vs w
    rw[List.map_cons] at w
    cases w with
    | cons a b =>
      cases a
      exact .cons _ _ (ih _ b)
theorem wP{l:OpenLaw}{n:Nat}(hn:l.most=some n){P:Params}{h:Heap}{args:List WData}{vals:List Value}(hpre:l.row.toRowW.claim.pre args=true)(hwl:WellAll P h vals args):
    ∃ a vs ns,vals=[Value.ref a]/\args=[WData.list (ns.map WData.int)]/\h.get? a=some { cls:=.type "list",data:=.seq vs.toArray }/\IntsAre vs ns/\ns.length<=n:=by
  have hsh:WShape.hasAll [] args [.list .int]=true:=(pre_splitW hpre).1
  have hc:l.pre.holds [] { args:=args }=true:=(pre_splitW hpre).2
  obtain⟨d,r,rfl,h1,h2⟩:=hasAllW_cons hsh
  obtain rfl:=hasAllW_nil h2
  obtain⟨xs,rfl,h3⟩:=hasW_list h1
  obtain⟨ns,rfl⟩:=items_int h3
  have hlen:ns.length<=n:=by
    unfold OpenLaw.pre at hc
    have h4:(WTm.not (.lt (.lit (.int (n:Int))) (.len (.arg 0)))).holds [] { args:=[.list (ns.map .int)] }=true:=by
      have h4:=(holds_andW hc).1
      rw[hn] at h4
      exact h4
    have h5:=condW_of h4 (w_not (w_lt w_lit (w_len_list (w_arg rfl))))
    rw[List.length_map] at h5
    refine Nat.le_of_not_lt fun q=>?_
    have q':(n:Int) < ((ns.length:Nat):Int):=by omega
    first
      | (rw[decide_eq_true q'] at h5;exact absurd h5 (by decide))
      | (simp at h5;omega)
  cases hwl with
  | cons w1 w2 =>
    cases w2
    cases w1 with
    | list ho hall=>exact⟨_,_,ns,rfl,rfl,ho,wO ns _ hall,hlen⟩
theorem wQ(l:OpenLaw)(args:List WData):l.row.toRowW.claim.post args (.bool true) args=true :=
  postW_of (r:=l.row.toRowW) (X:=(true == true))
    (show WShape.has [] (.bool true) .bool=true by first | rfl | decide | simp[WShape.has,WShape.arms,WShape.armsAll])
    (show (WTm.eq .res (.lit (.bool true))).value [] { args:=args,res:=some (.bool true),after:=args }=some (.bool (true == true)) from w_eq_bool (w_res rfl) w_lit) rfl
theorem attach_call{l:OpenLaw}{n:Nat}{q:Program}{loose:List Str}{XP:(Str->Option Value)->Heap->Prop}{YP:World->Heap->Prop}{d:DefRec}(hn:l.most=some n)(hdf:d.params.defaults=[])(call:∀ (w:World) (s₀ s₁:Shared) (mg mb:Str->Option Value) (fa:Addr) (o:Obj) (pm cd doc:Value) (a:Addr) (vs:List Value) (ns:List Int),
      Ground q loose [] XP w s₀ mg mb s₁.heap->YP w s₁.heap ->
      s₁.heap.get? fa=some o->o.data=.func (docDef d.name d.params d.body d.scope pm cd doc)->s₁.heap.CodeRec cd d.name->mg d.name=some (.ref fa) ->
      s₁.heap.get? a=some { cls:=.type "list",data:=.seq vs.toArray }->IntsAre vs ns->ns.length<=n->s₁.gens = #[] ->
      codeAny (model l.prog w) callerA (.call (.ref fa) ⟨[.ref a],[]⟩) (fun r s'=>r=.ok (.ret (.bool true))/\OldK s₁.heap s'.heap/\s'.os=s₁.os/\AllBare s'.gens) s₁):
    WalkO q loose XP YP l.row.toRowW d [] (fun f vs=>PySem.call f vs):=by
  intro w s₀ s₁ mg mb G Y fa o pm cd doc dV kV ho hd hcd hD hmg hg args vals as hpre hlay hrd hwl hlo
  obtain rfl:dV=.none:=Dflts.none hD hdf
  obtain rfl:kV=.none:=Dflts.noKw hD
  obtain⟨a,vs,ns,rfl,rfl,hobj,hints,hlen⟩:=wP hn hpre hwl
  refine enter_call (codeAny_mono (call w s₀ s₁ mg mb fa o pm cd doc a vs ns G Y ho (fd_plain hd) hcd hmg hobj hints hlen hg) fun r s' hq=>?_)
  obtain⟨rfl,h2,h3,h4⟩:=hq
  exact⟨.inl ⟨.bool true,.bool true,[],rfl,fun _=>rfl,.bool true,wQ l _,fun _=>⟨List.Pairwise.nil,fun _ hm=>(nomatch hm)⟩⟩,h2,h3,h4⟩
section
variable {prog:Program} {w:World} {A:Around} {E:Value->Shared->Prop} {s:Shared} {K:Frag}
end
end Att
namespace L2
open PySem PySem.Spec PyProof.Rows
theorem pJ:∀ {vs:List Value} {ns:List Int},IntsAre vs ns->Vals (ns.map V.int) vs
  | _,_,.nil=>.nil
  | _,_,.cons n t h=>.cons ⟨t,rfl⟩ (pJ h)
def lM(H:Hp):Prop:=∀ b,H b=none\/∃ o xs,H b=some (.frz o (.lst xs))
theorem wR{P:Program}{w:World}{K:PySem.W.Frag}{mg mb:Str->Option Value}{CX:CXT}{k:Nat}{fa a:Addr}{fd:FuncData}{x:Str}{sp:Sp}{s₁:Shared}{vs:List Value}{ns:List Int}(KX:K.In s₁.heap)(hns:s₁.heap.Ns mainGlobals mg)(hb:s₁.heap.Ns builtinsNs mb)(hbb:∀ x:Str,x ≠ "__name__"->mb x=bootBuiltins x)(hlim:s₁.heap.NoLimit)(hg:s₁.gens = #[])(ha:s₁.heap.get? a=some { cls:=.type "list",data:=.seq vs.toArray })(hi:IntsAre vs ns)(hl:ns.length<=sizeLine)(hr:Room k callerA)(F:∀ base:Heap,K.In base->base.Ns mainGlobals mg->FnOk P w K mg base CX k fa fd [x] sp)(hbind:∀ (s:Shared) (u:Value),BindsTo s fd ⟨[u],[]⟩ [(x,u)])(hsp:∀ H:Hp,lM H->SqL K H a (ns.map V.int)->sp [.ref a] H (fun v _=>v=.bl true) fun _ _ _=>False)(hCX:∀ H e s',CX [] H s₁ (fun _ _ _=>False) e s'->False):
    codeAny (model P w) callerA (.call (.ref fa) ⟨[.ref a],[]⟩) (fun r s'=>r=.ok (.ret (.bool true))/\OldK s₁.heap s'.heap/\s'.os=s₁.os/\AllBare s'.gens) s₁:=by
  have rv:=pJ hi
  have lenV:=hi.length
  have core : ∀ H:Hp,lM H->SqL K H a (ns.map V.int)->HOk P w H s₁.heap->(∀ b,H b ≠ none->b=a)->(H a ≠ none->K.lookup a=none) ->
      codeAny (model P w) callerA (.call (.ref fa) ⟨[.ref a],[]⟩) (fun r s'=>r=.ok (.ret (.bool true))/\OldK s₁.heap s'.heap/\s'.os=s₁.os/\AllBare s'.gens) s₁:=by
    intro H hO hS hok hA hK
    have base_of:∀ {b:Addr} {o:Obj},s₁.heap.get? b=some o->H b=none->(dI s₁.heap H).get? b=some o:=fun e n=>uS e n
    have noA:∀ {b:Addr} {o:Obj} {es:Array DictEntry} {ep:Nat},s₁.heap.get? b=some o->o.data=.dict es ep->H b=none:=fun {b o es ep} e d=>by
      cases q:H b with
      | none=>rfl
      | some u =>
        have e':b=a:=hA b (by rw[q];simp)
        subst e'
        rw[ha] at e;cases e
        have d':Data.seq vs.toArray _=Data.dict es ep:=d
        cases d'
    have nsK:∀ {b:Addr} {m:Str->Option Value},s₁.heap.Ns b m->(dI s₁.heap H).Ns b m:=fun {b m} ⟨o,es,ep,e,d,r⟩=>⟨o,es,ep,base_of e (noA e d),d,r⟩
    have hKb:K.In (dI s₁.heap H):=fun b o e=>base_of (KX b o e) (by
      cases q:H b with
      | none=>rfl
      | some u =>
        have e':b=a:=hA b (by rw[q];simp)
        subst e'
        rw[hK (by rw[q];simp)] at e;cases e)
    have hM:Mod K mg (dI s₁.heap H):=⟨hKb,nsK hns,⟨mb,nsK hb,hbb⟩,let ⟨mc,h1,h2⟩:=hlim;⟨mc,nsK h1,h2⟩⟩
    have e0:Env0 P w K mg (dI s₁.heap H) callerA [] s₁ H:=⟨rfl,hM,fun b o e=>uT e,Nat.le_of_eq (uR _ _),trivial,fun b hb=>absurd (show b ∈ ([]:List Addr) from hb) (by simp),hok,.of_eq hg⟩
    refine codeAny_mono ((F _ hKb (nsK hns)).run callerA [] s₁ H ⟨[.ref a],[]⟩ [.ref a] [.ref a] _ _ hr e0 (hbind s₁ (.ref a)) (.cons rfl .nil) (hsp H hO hS)) fun r s' h=>?_
    cases r with
    | error e=>exact (hCX H e s' h).elim
    | ok fl =>
      cases fl with
      | next=>exact False.elim h
      | brk=>exact False.elim h
      | cont=>exact False.elim h
      | ret u =>
        obtain⟨v,H',os,bare,un,hok',r',q⟩:=h
        have q':v=.bl true:=q
        subst q'
        obtain rfl:u=Value.bool true:=r'
        refine⟨rfl,OldK.of_keep fun b o e=>?_,os,bare⟩
        cases q:H b with
        | none=>exact un.keep b o e q (by intro z;exact absurd (show b ∈ ([]:List Addr) from z) (by simp)) (by simp)
        | some u =>
          rcases hO b with z | ⟨ob,xs,z⟩
          · rw[q] at z;cases z
          · have z2:=un.frzs b ob _ z
            obtain⟨e1,_⟩:=hok b _ z
            obtain⟨e2,_⟩:=hok' b _ z2
            rw[e] at e1;cases e1
            exact e2
  cases hk:K.lookup a with
  | some o =>
    have e:=KX a o hk
    rw[ha] at e
    cases e
    refine core (fun _=>none) (fun _=>.inl rfl) (.inr ⟨_,vs.toArray,_,hk,rfl,rfl,rfl,by rw[List.size_toArray,lenV];exact hl,by simpa using rv⟩) (fun b u z=>by have z':(none:Option HO)=some u:=z;cases z') (fun b z=>absurd rfl z) fun z=>absurd rfl z
  | none =>
    refine core (fun b=>if b=a then some (.frz { cls:=.type "list",data:=.seq vs.toArray } (.lst (ns.map V.int))) else none) (fun b=>?_) (.inl (.inr ⟨{ cls:=.type "list",data:=.seq vs.toArray },if_pos rfl⟩)) (fun b u z=>?_) (fun b z=>?_) fun _=>hk
    · by_cases hb:b=a
      · exact .inr ⟨_,_,if_pos hb⟩
      · exact .inl (if_neg hb)
    · by_cases hb:b=a
      · have z':=(if_pos hb).symm.trans z
        cases z'
        subst hb
        exact⟨ha,by rw[List.length_map];exact hl,vs,_,rv,ha⟩
      · have z':=(if_neg hb).symm.trans z
        cases z'
    · by_cases hb:b=a
      · exact hb
      · exact absurd (if_neg hb) z
end L2
namespace L2
open PySem PySem.Spec PyProof.Rows
theorem walk_of{l:PySem.W.OpenLaw}{n k:Nat}{q:Program}{loose:List Str}{XP:(Str->Option Value)->Heap->Prop}{YP:World->Heap->Prop}{d:DefRec}{K:Params->PySem.W.Frag}{CX:World->CXT}{sp:World->Sp}{x:Str}(hn:l.most=some n)(hn2:n<=sizeLine)(hdf:d.params.defaults=[])(hr:Room k callerA)(hY:∀ (w:World) (h:Heap),YP w h->(K w.params).In h)(F:∀ (w:World) (mg:Str->Option Value) (fa:Addr) (h:Heap),(K w.params).In h->h.Ns mainGlobals mg->mg d.name=some (.ref fa) ->
      ∃ fd:FuncData,(∀ (s:Shared) (u:Value),BindsTo s fd ⟨[u],[]⟩ [(x,u)]) /\
        ∀ base:Heap,(K w.params).In base->base.Ns mainGlobals mg->FnOk l.prog w (K w.params) mg base (CX w) k fa fd [x] (sp w))(hsp:∀ (w:World) (H:Hp) (a:Addr) (ns:List Int),ns.length<=n->lM H->SqL (K w.params) H a (ns.map V.int)->sp w [.ref a] H (fun v _=>v=.bl true) fun _ _ _=>False)(hCX:∀ (w:World) (H:Hp) (s:Shared) (e:Value) (s':Shared),CX w [] H s (fun _ _ _=>False) e s'->False):
    PySem.W.WalkO q loose XP YP l.row.toRowW d [] (fun f vs=>PySem.call f vs):=by
  refine Att.attach_call hn hdf fun w s₀ s₁ mg mb fa o pm cd doc a vs ns G Y ho hd hcd hmg hobj hints hlen hg=>?_
  have KX:=hY w _ Y
  obtain⟨fd,hb,hF⟩:=F w mg fa _ KX G.T.g hmg
  exact wR KX G.T.g G.T.b G.T.builtins G.T.nolimit hg hobj hints (Nat.le_trans hlen hn2) hr hF hb (fun H hO hS=>hsp w H a ns hlen hO hS) fun H e s'=>hCX w H s₁ e s'
end L2
namespace L2
open PySem PySem.Spec PyProof.Rows
def dJ(s:Stmt)(j:Nat):Stmt:=match s with
  | .ClassDef _ _ _ body _ _ _ _ _ _ _=>body.getD j (.Pass ⟨0,0,0,0⟩)
  | _=>.Pass ⟨0,0,0,0⟩
def aJ(s:Stmt):Arguments:=match s with
  | .FunctionDef _ a _ _ _ _ _ _ _ _=>a
  | _=>{ posonlyargs:=[],args:=[],vararg:=none,kwonlyargs:=[],kw_defaults:=[],kwarg:=none,defaults:=[] }
def aD(s:Stmt):List Stmt:=match s with
  | .FunctionDef _ _ b _ _ _ _ _ _ _=>b
  | _=>[]
def ai(s:Stmt):Scope:=match s with
  | .FunctionDef _ _ _ _ _ _ sc _ _ _=>sc
  | _=>{ kind:=.function,names:=[],isGenerator:=false,isCoroutine:=false }
abbrev CX0:CXT:=fun _ _ _ _ _ _=>False
abbrev E0:XK:=fun _ _ _=>False
theorem dk{X:Cx}:fA CX0 X E0:=fun _ _ _ _ _ _ _ h=>h.elim
structure Fun (K:PySem.W.Frag) (x qual:Str) (st:Stmt) (f:Addr) (fd:FuncData):Prop where
  ex:∃ (oc:Value) (od:Option Addr) (kV doc pm:Value) (an:Option Addr) (cdv ct:Value) (osl:Array (Option Value)),
    fd=PySem.W.fnOf x qual (aJ st) (aD st) (ai st) .none kV doc pm an cdv ct/\K.lookup f=some ⟨oc,od,.func fd,osl⟩/\PySem.W.codeIn K cdv qual=true
  kp:PySem.W.keepIn K (.ref f)=true
section
variable {P:Program} {w:World} {K:PySem.W.Frag} {mg:Str->Option Value} {base:Heap}
theorem Fun.ok{x qual:Str}{st:Stmt}{f:Addr}{fd:FuncData}{N ps:List Str}{k:Nat}{sp:Sp}(F:Fun K x qual st f fd)(S:FnScope N ps (ai st))(len:∀ vs H Q E,sp vs H Q E->vs.length=ps.length)(hbody:∀ (cdv:Value) (A:Around) (outer:List Env) (s:Shared) (H:Hp) (vs:List V) (Q:VK) (E:XK),Room k (A.deeper (envOfC qual (ai st) s.heap.objs.size f cdv))->sp vs H Q E ->
      ∃ t,PSs (cK CX0 P w K mg base N qual (ai st) f cdv A outer s H E).nox (aD st) t/\t { nx:=fun _ H'=>Q .non H',rt:=Q } (start N vs) H):FnOk P w K mg base CX0 (k+1) f fd ps sp:=by
  obtain⟨oc,od,kV,doc,pm,an,cdv,ct,osl,rfl,lk,hcd⟩:=F.ex
  refine wo lk hcd S len fun A outer s H vs Q E hr hsp=>?_
  obtain⟨t,h,q⟩:=hbody cdv A outer s H vs Q E hr hsp
  exact⟨t,h.nox,q⟩
theorem Fun.binds{x qual:Str}{st:Stmt}{f:Addr}{fd:FuncData}{ps:List Str}(F:Fun K x qual st f fd)(h:∀ (kV doc pm:Value) (an:Option Addr) (cdv ct:Value) (us:List Value),us.length=ps.length->bindArgs (PySem.W.fnOf x qual (aJ st) (aD st) (ai st) .none kV doc pm an cdv ct) ⟨us,[]⟩=pure (ps.zip us)):Binds K fd ps []:=by
  obtain⟨oc,od,kV,doc,pm,an,cdv,ct,osl,rfl,lk,hcd⟩:=F.ex
  exact .all (h kV doc pm an cdv ct)
theorem aB{x qual:Str}{st:Stmt}{f:Addr}{oc:Value}{od an:Option Addr}{osl:Array (Option Value)}{kV doc pm cdv ct:Value}(l:K.lookup f=some ⟨oc,od,.func (PySem.W.fnOf x qual (aJ st) (aD st) (ai st) .none kV doc pm an cdv ct),osl⟩)(c:PySem.W.codeIn K cdv qual=true)(k:PySem.W.keepIn K (.ref f)=true):Fun K x qual st f (PySem.W.fnOf x qual (aJ st) (aD st) (ai st) .none kV doc pm an cdv ct):=⟨⟨oc,od,kV,doc,pm,an,cdv,ct,osl,rfl,l,c⟩,k⟩
end
theorem wS{n:Nat}(h:n<=1000):n < sizeLine:=Nat.lt_of_le_of_lt h (by decide)
section
variable {X:Cx}
end
theorem dL{A B:Prop}(h:B):if false=true then A else B:=by
  rw[if_neg Bool.false_ne_true]
  exact h
theorem dM{A B:Prop}(h:A):if true=true then A else B:=by
  rw[if_pos rfl]
  exact h
def Same(H H':Hp):Prop:=∀ b o,H b=some o->H' b=some o
theorem Same.refl(H:Hp):Same H H:=fun _ _ h=>h
theorem Same.trans{H H1 H2:Hp}(a:Same H H1)(b:Same H1 H2):Same H H2:=fun c o h=>b c o (a c o h)
theorem Same.free{H H':Hp}(e:Same H H'){l:Addr}(h:H' l=Option.none):H l=Option.none:=by
  cases q:H l with
  | none=>rfl
  | some o =>
    rw[e l o q] at h
    cases h
theorem Same.seq{K:PySem.W.Frag}{H H':Hp}{a:Addr}{xs:List V}(e:Same H H')(h:SqL K H a xs):SqL K H' a xs:=by
  rcases h with (h | ⟨o,h⟩) | h
  · exact .inl (.inl (e _ _ h))
  · exact .inl (.inr ⟨o,e _ _ h⟩)
  · exact .inr h
end L2
namespace L2
open PySem PySem.Spec PyProof.Rows
end L2
namespace L2
open PySem PySem.Spec PyProof.Rows
section
variable (P:Program) (w:World)
end
section
variable {P:Program} {w:World} {H H':Hp} {h h':Heap} {a:Addr} {o:HO}
end
section
variable {P:Program} {w:World} {H:Hp} {h h':Heap} {x e:Addr} {o':HO}
end
section
variable {fs fs' ex ex':List Addr} {H H1 H2:Hp} {h h1 h2 h':Heap} {a x e:Addr} {o:HO}
end
end L2
namespace L2
open PySem PySem.Spec PyProof.Rows
section
variable {X:Cx} {pins:List (Addr × Obj)} {σ:List (Option V)} {H H':Hp} {s:Shared} {h':Heap}
end
end L2
namespace L2
open PySem PySem.Spec PyProof.Rows
section
variable {X:Cx}
variable {a b:Expr} {ta tb:TE} {pos:Pos}
variable {tA tB':TT} {aq:List Expr}
end
end L2
namespace L2
open PySem PySem.Spec PyProof.Rows
section
variable {X:Cx} {pins:List (Addr × Obj)} {σ:St} {H:Hp} {s:Shared} {a:Addr} {xs ys:List V}
end
section
variable {X:Cx} {pins:List (Addr × Obj)} {σ:St} {H:Hp} {s:Shared} {E:Value->Shared->Prop}
end
section
variable {X:Cx} {st:Stmt} {aq:List Stmt} {t u:TS} {e:Expr} {te:TE} {pos:Pos}
end
section
variable {X:Cx} {pos:Pos}
end
section
variable {X:Cx} {pos:Pos}
end
end L2
namespace L2
open PySem PySem.Spec PyProof.Rows
section
variable {X:Cx} {tg:Expr}
end
end L2
namespace L2
open PySem PySem.Spec PyProof.Rows
section
variable {X:Cx} {a b c:Expr} {ta tb tc:TE} {pos:Pos}
end
section
variable {X:Cx} {a b c:Expr} {ta tb tc:TE} {pos:Pos}
end
end L2
namespace L2
open PySem PySem.Spec PyProof.Rows
section
variable {prog:Program} {w:World} {A:Around} {E:Value->Shared->Prop} {s:Shared} {K:PySem.W.Frag} {x dx C f:Addr} {mA:Str->Option Value} {name:Str} {v:Value}
end
section
variable {P:Program} {w:World} {H H':Hp} {h h':Heap} {a C dx:Addr} {fs fs':List (Str × V)}
end
section
variable {X:Cx} {pins:List (Addr × Obj)} {σ:St} {H:Hp} {s:Shared} {a C dx:Addr} {fs:List (Str × V)} {f:Str} {v:V} {A:Around} {E:Value->Shared->Prop}
end
section
variable {X:Cx} {o e value:Expr} {f:Str} {pos pos' tpos:Pos} {ta tv:TE}
end
section
variable {X:Cx} {pins:List (Addr × Obj)} {σ:St} {H:Hp} {s:Shared} {A:Around} {E:Value->Shared->Prop} {Q:Value->Shared->Prop} {c:Value} {b:Bool}
end
end L2
namespace L2
open PySem PySem.Spec PyProof.Rows
section
variable {X:Cx} {e:Expr} {es:List Expr} {te:TE} {t:TA} {pos:Pos}
end
section
variable {X:Cx} {pins:List (Addr × Obj)} {σ:St} {H:Hp} {s s':Shared}
end
section
variable {X:Cx} {CX:CXT} {k:Nat} {f C:Addr} {fd:FuncData} {ps:List Str} {sp:Sp} {dvs:List V} {ds:List Value} {E:XK} {x m:Str} {p pos apos:Pos} {e o:Expr} {es:List Expr} {ta:TE} {t:TA}
end
section
variable {X:Cx} {CX:CXT} {k:Nat} {f C:Addr} {fd:FuncData} {ps ks:List Str} {sp:Sp} {E:XK} {x m:Str} {p pos apos kpos:Pos} {e o:Expr} {es:List Expr} {kws:List Keyword} {te ta:TE} {t tk:TA} {nm:Option Str}
variable {g:List Value->List Value->List Value} {gV:List V->List V->List V}
end
end L2
namespace L2
open PySem PySem.Spec PyProof.Rows
section
variable {X:Cx} {x:Str} {p pos:Pos} {e:Expr} {es:List Expr} {t:TA} {id T:String} {r:List V->Hp->VK->Prop}
end
end L2
namespace L2
open PySem PySem.Spec PyProof.Rows
section
variable {κ:Type} [DecidableEq κ]
def bT(kvs:List (κ × V))(k:κ):Option V:=(kvs.find? fun kv=>decide (kv.1=k)).map (·.2)
def bK(kvs:List (κ × V))(k:κ)(v:V):List (κ × V) :=
  if (kvs.any fun kv=>decide (kv.1=k))=true then kvs.map (fun kv=>if kv.1=k then (kv.1,v) else kv) else kvs++[(k,v)]
def pK(kvs:List (κ × V))(k:κ):List (κ × V):=kvs.filter fun kv=>decide (kv.1 ≠ k)
theorem wT{k:κ}:bT ([]:List (κ × V)) k=none:=rfl
theorem jG{p:κ × V}{r:List (κ × V)}{k:κ}(e:p.1=k):bT (p::r) k=some p.2:=by simp[bT,List.find?_cons,e]
theorem jH{p:κ × V}{r:List (κ × V)}{k:κ}(e:¬ p.1=k):bT (p::r) k=bT r k:=by simp[bT,List.find?_cons,e]
theorem lN(k:κ):∀ kvs:List (κ × V),(kvs.any fun kv=>decide (kv.1=k))=(bT kvs k).isSome
  | []=>rfl
  | p::r=>by
    rw[List.any_cons]
    by_cases e:p.1=k
    · simp only[jG e,decide_eq_true e,Bool.true_or,Option.isSome_some]
    · rw[jH e,decide_eq_false e,Bool.false_or];exact lN k r
theorem lO(kvs:List (κ × V))(k:κ)(v:V):(bK kvs k v).length<=kvs.length+1:=by
  unfold bK
  split
  · rw[List.length_map];omega
  · rw[List.length_append,List.length_cons,List.length_nil];omega
theorem wU{kvs:List (κ × V)}{k:κ}(v:V)(h:bT kvs k=none):bK kvs k v=kvs++[(k,v)]:=by
  unfold bK
  rw[lN,h]
  exact if_neg (by decide)
theorem RelO.isSome_eq{o:Option V}{u:Option Value}(r:RelO o u):o.isSome=u.isSome:=by
  cases o with
  | none=>cases u with
    | none=>rfl
    | some _=>exact (show False from r).elim
  | some _=>cases u with
    | none=>exact (show False from r).elim
    | some _=>rfl
theorem RelO.getD{o:Option V}{u:Option Value}{d:V}{d':Value}(r:RelO o u)(rd:RelV d d'):RelV (o.getD d) (u.getD d'):=by
  cases o with
  | none=>cases u with
    | none=>exact rd
    | some _=>exact (show False from r).elim
  | some _=>cases u with
    | none=>exact (show False from r).elim
    | some _=>exact r
theorem KV.val{kvs:List (κ × V)}{vs:List (κ × Value)}(r:KV kvs vs)(k:κ):RelO (bT kvs k) (valueAt vs k):=by
  unfold KV at r
  induction r with
  | nil=>exact True.intro
  | @cons p q ps qs h t ih =>
    obtain⟨h1,h2⟩:=h
    by_cases e:p.1=k
    · have e':q.1=k:=h1.symm.trans e
      have b:valueAt (q::qs) k=some q.2:=by simp[valueAt,List.find?_cons,e']
      rw[jG e,b];exact h2
    · have e':¬ q.1=k:=fun z=>e (h1.trans z)
      have b:valueAt (q::qs) k=valueAt qs k:=by simp[valueAt,List.find?_cons,e']
      rw[jH e,b];exact ih
theorem KV.any{kvs:List (κ × V)}{vs:List (κ × Value)}(r:KV kvs vs)(k:κ):(kvs.any fun kv=>decide (kv.1=k))=vs.any fun kv=>decide (kv.1=k):=by
  unfold KV at r
  induction r with
  | nil=>rfl
  | cons h t ih=>rw[List.any_cons,List.any_cons,ih,h.1]
theorem KV.repl{kvs:List (κ × V)}{vs:List (κ × Value)}(r:KV kvs vs)(k:κ){y:V}{u:Value}(ry:RelV y u):
    KV (kvs.map fun kv=>if kv.1=k then (kv.1,y) else kv) (vs.map fun kv=>if kv.1=k then (kv.1,u) else kv):=by
  unfold KV at r ⊢
  induction r with
  | nil=>exact .nil
  | @cons p q ps qs h t ih =>
    rw[List.map_cons,List.map_cons]
    refine .cons ?_ ih
    obtain⟨h1,h2⟩:=h
    by_cases e:p.1=k
    · rw[if_pos e,if_pos (h1.symm.trans e)];exact⟨h1,ry⟩
    · rw[if_neg e,if_neg (fun z=>e (h1.trans z))];exact⟨h1,h2⟩
theorem KV.put{kvs:List (κ × V)}{vs:List (κ × Value)}(r:KV kvs vs)(k:κ){y:V}{u:Value}(ry:RelV y u):KV (bK kvs k y) (stored vs k u):=by
  unfold bK stored
  rw[r.any k]
  by_cases e:(vs.any fun kv=>decide (kv.1=k))=true
  · rw[if_pos e,if_pos e];exact r.repl k ry
  · rw[if_neg e,if_neg e];exact Paired.snoc r ⟨rfl,ry⟩
theorem KV.drop{kvs:List (κ × V)}{vs:List (κ × Value)}(r:KV kvs vs)(k:κ):KV (pK kvs k) (without vs k):=by
  unfold KV at r ⊢
  unfold pK without
  induction r with
  | nil=>exact .nil
  | @cons p q ps qs h t ih =>
    obtain⟨h1,h2⟩:=h
    rw[List.filter_cons,List.filter_cons]
    by_cases e:p.1=k
    · have a:¬ decide (p.1 ≠ k)=true:=by simp[e]
      have b:¬ decide (q.1 ≠ k)=true:=by simp[h1.symm.trans e]
      rw[if_neg a,if_neg b];exact ih
    · have e':¬ q.1=k:=fun z=>e (h1.trans z)
      have a:decide (p.1 ≠ k)=true:=by simp[e]
      have b:decide (q.1 ≠ k)=true:=by simp[e']
      rw[if_pos a,if_pos b];exact .cons ⟨h1,h2⟩ ih
theorem KV.keys{kvs:List (κ × V)}{vs:List (κ × Value)}(r:KV kvs vs):kvs.map (·.1)=vs.map (·.1):=by
  unfold KV at r
  induction r with
  | nil=>rfl
  | cons h t ih=>rw[List.map_cons,List.map_cons,ih,h.1]
theorem KV.length{kvs:List (κ × V)}{vs:List (κ × Value)}(r:KV kvs vs):kvs.length=vs.length:=Paired.length r
end
theorem jI{P:Program}{w:World}{k:Key}{u:Value}(r:RelV (kV k) u):(cm P w).is k u=true:=by
  cases k with
  | inl i=>obtain⟨t,e⟩:=(show ∃ t,u=Value.int i t from r);subst e;exact uO P w i t
  | inr x=>obtain⟨t,e⟩:=(show ∃ t,u=Value.str x t from r);subst e;exact uP P w x t
theorem pL{P:Program}{w:World}:∀ {ks:List Key} {us:List Value},Vals (ks.map kV) us->ItemsAre (cm P w) ks us
  | [],_,r=>by rw[List.map_nil] at r;cases r;exact .nil
  | k::ks,_,r=>by
    rw[List.map_cons] at r
    cases r with
    | cons h t=>exact .cons (jI h) (pL t)
abbrev KT(H:Hp):List (List Key × V)->List (List Key × Addr × Value)->Prop:=Paired fun p q=>p.1=q.1/\H q.2.1=some (.tup (p.1.map kV))/\RelV p.2 q.2.2
theorem KT.val{H:Hp}{kvs:List (List Key × V)}{xs:List (List Key × Addr × Value)}(r:KT H kvs xs)(k:List Key):RelO (bT kvs k) ((atKey xs k).map (·.2)):=by
  induction r with
  | nil=>exact True.intro
  | @cons p q ps qs h t ih =>
    obtain⟨h1,_,h2⟩:=h
    by_cases e:p.1=k
    · have e':q.1=k:=h1.symm.trans e
      have b:atKey (q::qs) k=some q.2:=by simp[atKey,List.find?_cons,e']
      rw[jG e,b];exact h2
    · have e':¬ q.1=k:=fun z=>e (h1.trans z)
      have b:atKey (q::qs) k=atKey qs k:=by simp[atKey,List.find?_cons,e']
      rw[jH e,b];exact ih
theorem KT.repl{H:Hp}{kvs:List (List Key × V)}{xs:List (List Key × Addr × Value)}(r:KT H kvs xs)(k:List Key){y:V}{u:Value}(ry:RelV y u):
    KT H (kvs.map fun kv=>if kv.1=k then (kv.1,y) else kv) (xs.map (putAt k u)):=by
  induction r with
  | nil=>exact .nil
  | @cons p q ps qs h t ih =>
    rw[List.map_cons,List.map_cons]
    refine .cons ?_ ih
    obtain⟨h1,h2,h3⟩:=h
    unfold putAt
    by_cases e:p.1=k
    · rw[if_pos e,if_pos (h1.symm.trans e)];exact⟨h1,h2,ry⟩
    · rw[if_neg e,if_neg (fun z=>e (h1.trans z))];exact⟨h1,h2,h3⟩
theorem KT.put{H:Hp}{kvs:List (List Key × V)}{xs:List (List Key × Addr × Value)}(r:KT H kvs xs)(k:List Key){b:Addr}{y:V}{u:Value}(hb:H b=some (.tup (k.map kV)))(ry:RelV y u):
    KT H (bK kvs k y) (storedH xs k b u):=by
  have e:(kvs.any fun kv=>decide (kv.1=k))=(atKey xs k).isSome:=by
    rw[lN,(r.val k).isSome_eq,Option.isSome_map]
  unfold bK storedH
  rw[e]
  by_cases q:(atKey xs k).isSome=true
  · rw[if_pos q,if_pos q];exact r.repl k ry
  · rw[if_neg q,if_neg q];exact Paired.snoc r ⟨rfl,hb,ry⟩
theorem KT.keeps{H H':Hp}{kvs:List (List Key × V)}{xs:List (List Key × Addr × Value)}(r:KT H kvs xs)(ht:∀ b ys,H b=some (.tup ys)->H' b=some (.tup ys)):KT H' kvs xs :=
  Paired.mapP r fun _ _ z=>⟨z.1,ht _ _ z.2.1,z.2.2⟩
section
variable {P:Program} {w:World} {H:Hp} {h:Heap} {a:Addr}
theorem pM{u:HO}(ok:HOk P w H h)(e:Rd H a u):ObjOk P w H h a u:=e.ok ok
theorem jJ{kvs:List (Key × V)}(ok:HOk P w H h)(e:Rd H a (.dK kvs)):kvs.length<=sizeLine/\(a == sysModules)=false/\∃ vs,KV kvs vs/\h.DictOf (cm P w) a vs :=
  show ObjOk P w H h a (.dK kvs) from pM ok e
theorem pN{kvs:List (Key × V)}(ok:HOk P w H h)(e:H a=some (.dK kvs)):kvs.length<=sizeLine/\(a == sysModules)=false/\∃ vs,KV kvs vs/\h.DictOf (cm P w) a vs:=jJ ok (.inl e)
theorem lP{ks:List Key}(ok:HOk P w H h)(e:H a=some (.tup (ks.map kV))):(tupleKind (cm P w)).is h ks a:=by
  obtain⟨_,its,r,o,h1,h2,n,h3⟩:=(show ObjOk P w H h a (.tup (ks.map kV)) from ok a _ e)
  exact⟨o,its.toArray,n,h1,h2,h3,by simpa using pL r⟩
theorem lQ{kvs:List (List Key × V)}(ok:HOk P w H h)(e:Rd H a (.dT kvs)):kvs.length<=sizeLine/\(a == sysModules)=false /\
    ∃ xs,KT H kvs xs/\h.DictOfH (tupleKind (cm P w)) a xs:=by
  obtain⟨z,y,xs,r,o,es,ep,h1,h2,h3,h4,h5⟩:=(show ObjOk P w H h a (.dT kvs) from pM ok e)
  refine⟨z,y,xs,r,o,es,ep,h1,h2,h3,h4,fun x hx=>?_,h5⟩
  have all:∀ {l:List (List Key × V)} {m:List (List Key × Addr × Value)},KT H l m->∀ x ∈ m,(tupleKind (cm P w)).is h x.1 x.2.1:=by
    intro l m q
    induction q with
    | nil=>intro x hx;exact nomatch hx
    | @cons p q ps qs hq t ih =>
      intro x hx
      rcases List.mem_cons.mp hx with e | hx
      · subst e
        exact lP ok (by rw[<- hq.1];exact hq.2.1)
      · exact ih x hx
  exact all r x hx
theorem wV{kvs:List (List Key × V)}(ok:HOk P w H h)(e:H a=some (.dT kvs)):kvs.length<=sizeLine/\(a == sysModules)=false /\
    ∃ xs,KT H kvs xs/\h.DictOfH (tupleKind (cm P w)) a xs:=lQ ok (.inl e)
end
def DGet(H:Hp)(a:Addr)(y:V)(r:Option V):Prop :=
  (∃ kvs k,Rd H a (.dK kvs)/\y=kV k/\r=bT kvs k)\/∃ kvs k b,Rd H a (.dT kvs)/\y=.ref b/\H b=some (.tup (k.map kV))/\r=bT kvs k
def DPut(H:Hp)(a:Addr)(y v:V)(H':Hp):Prop :=
  (∃ kvs k,H a=some (.dK kvs)/\y=kV k/\kvs.length < sizeLine/\H'=upd H a (.dK (bK kvs k v))) \/
  ∃ kvs k b,H a=some (.dT kvs)/\y=.ref b/\H b=some (.tup (k.map kV))/\kvs.length < sizeLine/\H'=upd H a (.dT (bK kvs k v))
theorem DGet.k{H:Hp}{a:Addr}{kvs:List (Key × V)}{k:Key}(e:H a=some (.dK kvs)):DGet H a (kV k) (bT kvs k):=.inl ⟨kvs,k,.inl e,rfl,rfl⟩
theorem DGet.t{H:Hp}{a b:Addr}{kvs:List (List Key × V)}{k:List Key}(e:H a=some (.dT kvs))(eb:H b=some (.tup (k.map kV))):DGet H a (.ref b) (bT kvs k):=.inr ⟨kvs,k,b,.inl e,rfl,eb,rfl⟩
theorem DPut.k{H:Hp}{a:Addr}{kvs:List (Key × V)}{k:Key}{v:V}(e:H a=some (.dK kvs))(hl:kvs.length < sizeLine):DPut H a (kV k) v (upd H a (.dK (bK kvs k v))):=.inl ⟨kvs,k,e,rfl,hl,rfl⟩
theorem DPut.t{H:Hp}{a b:Addr}{kvs:List (List Key × V)}{k:List Key}{v:V}(e:H a=some (.dT kvs))(eb:H b=some (.tup (k.map kV)))(hl:kvs.length < sizeLine):
    DPut H a (.ref b) v (upd H a (.dT (bK kvs k v))):=.inr ⟨kvs,k,b,e,rfl,eb,hl,rfl⟩
section
variable {X:Cx} {pins:List (Addr × Obj)} {σ:St} {H:Hp} {s:Shared} {a:Addr} {y v:V} {u r:Value} {o:Option V} {A:Around} {E:Value->Shared->Prop}
theorem Inv.big(I:Inv X pins σ H s):sysModules < s.heap.objs.size:=by
  have h:mainGlobals < s.heap.objs.size:=(I.mod.glob.keeps I.bk).lt
  exact Nat.lt_trans (by decide) h
theorem wW{Q:Value->Shared->Prop}(hu:A.units+1 < cLine)(I:Inv X pins σ H s)(g:DGet H a y (some v))(ry:RelV y u)(h:∀ w' s',Inv X pins σ H s'->RelV v w'->Q w' s'):
    wpAny (model X.prog X.w) A (getItem (.ref a) u) Q E s:=by
  rcases g with⟨kvs,k,e,ey,l⟩ | ⟨kvs,k,b,e,ey,eb,l⟩
  · subst ey
    obtain⟨z,hd,vs,rel,dd⟩:=jJ I.hok e
    obtain⟨w',hw,rw'⟩:=RelO.some_of (v:=v) (o:=valueAt vs k) (by rw[l];exact rel.val k)
    exact wpAny_getItem_of (jI ry) dd.mapOf hw (h w' _ (I.tok _) rw')
  · subst ey
    cases (show u=Value.ref b from ry)
    obtain⟨z,hd,xs,rel,dd⟩:=lQ I.hok e
    obtain⟨w',hw,rw'⟩:=RelO.some_of (v:=v) (o:=(atKey xs k).map (·.2)) (by rw[l];exact rel.val k)
    obtain⟨p,hp,hp2⟩:=Option.map_eq_some_iff.mp hw
    refine wpAny_getItem_heap (tupleKind_room_in1 hu) (lP I.hok eb) dd hp ?_
    rw[hp2]
    exact h w' _ (I.tok _) rw'
theorem lR{h':Heap}{t':Nat}{ob:HO}(I:Inv X pins σ H s)(mu:Mut (H a))(hs:Heap.SameBut a s.heap h')(he:∃ q,h'.get? a=some q)(new:ObjOk X.prog X.w (upd H a ob) h' a ob):
    Inv X pins σ (upd H a ob) { s with heap:=h',toks:=t' } :=
  I.write (x:=a) (e:=a) mu (.inl rfl) (fun b q hb z=>(hs.2 b hb).trans z) he new
theorem pO{P:Program}{w:World}{H':Hp}{h':Heap}{kvs:List (Key × V)}{vs:List (Key × Value)}(z:kvs.length<=sizeLine)(hd:(a == sysModules)=false)(rel:KV kvs vs)(dd:h'.DictOf (cm P w) a vs):
    ObjOk P w H' h' a (.dK kvs):=⟨z,hd,vs,rel,dd⟩
theorem wX{H':Hp}{Q:Unit->Shared->Prop}(hu:A.units+1 < cLine)(I:Inv X pins σ H s)(g:DPut H a y v H')(ry:RelV y u)(rv:RelV v r)(h:∀ s',Inv X pins σ H' s'->Q () s'):
    wpAny (model X.prog X.w) A (setItem (.ref a) u r) Q E s:=by
  rcases g with⟨kvs,k,e,ey,l,eH⟩ | ⟨kvs,k,b,e,ey,eb,l,eH⟩
  · subst ey eH
    obtain⟨z,hd,vs,rel,dd⟩:=pN I.hok e
    have hz:vs.length<=sizeLine:=by rw[<- rel.length];exact z
    have hl:(bK kvs k v).length<=sizeLine:=by have:=lO kvs k v;omega
    refine wpAny_setItem_pairs (hsz:=hz) (jI ry) dd fun h' dd' hs=>h _ ?_
    have he:∃ q,h'.get? a=some q:=let ⟨q,_,_,hq,_⟩:=dd';⟨q,hq⟩
    exact lR I (by rw[e];exact True.intro) hs he (pO hl hd (rel.put k rv) dd')
  · subst ey eH
    cases (show u=Value.ref b from ry)
    obtain⟨z,hd,xs,rel,dd⟩:=wV I.hok e
    have hz:xs.length<=sizeLine:=by rw[<- Paired.length rel];exact z
    have hl:(bK kvs k v).length<=sizeLine:=by have:=lO kvs k v;omega
    refine wpAny_setItem_heap (hsz:=hz) (tupleKind_room_in1 hu) (lP I.hok eb) dd fun h' dd' hs=>h _ ?_
    obtain⟨q,es,ep,hq,h2,h3,h4,_,h5⟩:=dd'
    refine lR I (by rw[e];exact True.intro) hs ⟨q,hq⟩ ⟨hl,hd,_,(rel.put k eb rv).keeps fun c ys ec=>?_,q,es,ep,hq,h2,h3,h4,h5⟩
    rw[aC (uQ ec e (fun z=>nomatch z))]
    exact ec
end
section
variable {X:Cx} {pins:List (Addr × Obj)} {σ:St} {H:Hp} {s:Shared} {a:Addr} {kvs:List (Key × V)} {k:Key} {u:Value} {A:Around} {E:Value->Shared->Prop}
end
def jK(i:Expr):Prop:=∀ ov iv,subscripted i false ov iv=operate [ov,iv] (getItem ov iv)
theorem wY{prog:Program}{w:World}{A:Around}{E:Value->Shared->Prop}{s:Shared}{env:Env}{value slice:Expr}{pos:Pos}{T id:String}{Q:Value->Shared->Prop}(hl:typeLookup (.type T) "__getitem__" = pure (some (.builtin id)))(hs:jK slice)(h:wpAny (model prog w) A (eval value env) (fun o s₁=>wpAny (model prog w) A (eval slice env) (fun i s₂=>s₂.TypeIs o T/\wpAny (model prog w) A (getItem o i) Q E s₂) E s₁) E s):
    wpAny (model prog w) A (eval (.Subscript value slice pos) env) Q E s:=by
  refine Subscript_ (wpAny_mono h (fun o s₁ h₁=>wpAny_mono h₁ (fun i s₂ h₂=>?_) fun _ _ x=>x) fun _ _ x=>x)
  obtain⟨hT,h₂⟩:=h₂
  unfold subscriptTail
  refine wpAny_bind ?_
  rw[getitemInPython_of_ne hT.not_modules]
  refine wpAny_bind (wpAny_specialOf hT hl ?_)
  have fin:wpAny (model prog w) A (subscripted slice false o i) (fun r s₃=>wpAny (model prog w) A (letTemporaryGo value o r >>= fun _=>pure r) Q E s₃) E s₂:=by
    rw[hs o i]
    exact wpAny_operating (wpAny_mono h₂ (fun r s₃ h₃=>wpAny_bind (wpAny_letTemporaryGo (wpAny_pure h₃))) fun _ _ x=>x)
  first
    | exact wpAny_pure (wpAny_bind fin)
    | exact wpAny_bind (wpAny_pure (wpAny_bind fin))
    | exact wpAny_bind fin
theorem wZ{X:Cx}{pins:List (Addr × Obj)}{σ:St}{H:Hp}{s:Shared}{a:Addr}{y:V}{o:Option V}(I:Inv X pins σ H s)(g:DGet H a y o):s.TypeIs (.ref a) "dict":=by
  rcases g with⟨kvs,k,e,_,_⟩ | ⟨kvs,k,b,e,_,_,_⟩
  · obtain⟨_,_,vs,_,dd⟩:=jJ I.hok e
    exact dd.typeIs
  · obtain⟨_,_,xs,_,dd⟩:=lQ I.hok e
    exact dd.typeIs
def xa(td ty:TE):TE:=fun σ H Q=>td σ H fun x H1=>ty σ H1 fun y H2=>∃ a v,x=.ref a/\DGet H2 a y (some v)/\Q v H2
def xb(td ty tv:TE):TS:=fun D σ H=>tv σ H fun v H1=>td σ H1 fun x H2=>ty σ H2 fun y H3=>∃ a H4,x=.ref a/\DPut H3 a y v H4/\D.nx σ H4
section
variable {X:Cx} {o i e value:Expr} {pos pos' tpos:Pos} {td ty tv:TE}
theorem xc(hu:X.A.units+1 < cLine)(ho:PE X o td)(hi:PE X i ty)(hs:jK i):PE X (.Subscript o i pos) (xa td ty):=by
  intro pins s σ H Q I h
  refine wY PySem.F.slot_dict_getitem.lookup hs (thn (ho pins s σ H _ I h) fun u s1 ⟨x,H1,I1,rx,q1⟩=>thn (hi pins s1 σ H1 _ I1 q1) fun iv s2 ⟨y,H2,I2,ry,a,v,ex,g,q2⟩=>?_)
  subst ex
  obtain rfl:u=Value.ref a:=rx
  exact⟨wZ I2 g,wW hu I2 g ry fun w' s3 I3 rw'=>⟨v,H2,I3,rw',q2⟩⟩
theorem xf(hu:X.A.units+1 < cLine)(ho:PE X o td)(hi:PE X i ty)(hv:PE X value tv)(hs:swapsWith value (some (.Subscript o i pos')) pos.line X.env=pure false):
    PS X (.Assign [.Subscript o i pos'] value pos) (xb td ty tv):=by
  intro pins s σ H D I h
  refine wpAny_Assign_Subscript (thn (hv pins s σ H _ I h) fun r s1 ⟨v,H1,I1,rv,q1⟩=>thn (ho pins s1 σ H1 _ I1 q1) fun u s2 ⟨x,H2,I2,rx,q2⟩=>thn (hi pins s2 σ H2 _ I2 q2) fun iv s3 ⟨y,H3,I3,ry,a,H4,ex,g,q3⟩=>?_) hs
  subst ex
  obtain rfl:u=Value.ref a:=rx
  exact wX hu I3 g ry rv fun s4 I4=>⟨σ,H4,I4,q3⟩
end
theorem xg{P:Program}{w:World}{H:Hp}(h:Heap)(hb:sysModules < h.objs.size):ObjOk P w H (h.push { cls:=.type "dict",data:=.dict #[] }) h.objs.size (.dK []) :=
  ⟨Nat.zero_le _,beq_eq_false_iff_ne.mpr (Ne.symm (Nat.ne_of_lt hb)),[],.nil,Heap.DictOf.new h⟩
section
variable {X:Cx} {pos:Pos}
end
def jL:List (TE × TE)->St->Hp->(List (V × V)->Hp->Prop)->Prop
  | [],_,H,Q=>Q [] H
  | (tk,tv)::r,σ,H,Q=>tk σ H fun x H1=>tv σ H1 fun y H2=>jL r σ H2 fun ps H3=>Q ((x,y)::ps) H3
abbrev VV:List (V × V)->List (Value × Value)->Prop:=Paired fun p q=>RelV p.1 q.1/\RelV p.2 q.2
def PPs(X:Cx)(pos:Pos)(keys:List (Option Expr))(values:List Expr)(trs:List (TE × TE)):Prop :=
  ∀ (pins:List (Addr × Obj)) (s:Shared) (σ:St) (H:Hp) (Q:List (V × V)->Hp->Prop),Inv X pins σ H s->jL trs σ H Q ->
    wpAny (model X.prog X.w) X.A (evalPairs (pairTrees keys values X.env pos)) (fun vs s'=>∃ ps H',Inv X pins σ H' s'/\VV ps vs/\Q ps H') X.xe s
theorem xh{X:Cx}{pos:Pos}:PPs X pos [] [] []:=fun pins s σ H Q I h=>pairTrees_nil_walk ⟨[],H,I,.nil,h⟩
theorem xi{X:Cx}{pos:Pos}{k v:Expr}{ks:List (Option Expr)}{vs:List Expr}{tk tv:TE}{trs:List (TE × TE)}(hk:PE X k tk)(hv:PE X v tv)(hr:PPs X pos ks vs trs):
    PPs X pos (some k::ks) (v::vs) ((tk,tv)::trs):=fun pins s σ H Q I h =>
  pairTrees_cons_walk (thn (hk pins s σ H _ I h) fun u s1 ⟨x,H1,I1,rx,q1⟩=>thn (hv pins s1 σ H1 _ I1 q1) fun w2 s2 ⟨y,H2,I2,ry,q2⟩ =>
    thn (hr pins s2 σ H2 _ I2 q2) fun ws s3 ⟨ps,H3,I3,rel,q3⟩=>⟨(x,y)::ps,H3,I3,.cons ⟨rx,ry⟩ rel,q3⟩)
def dN(kvs more:List (Key × V)):List (Key × V):=more.foldl (fun acc kv=>bK acc kv.1 kv.2) kvs
theorem KV.merge:∀ {more:List (Key × V)} {rs:List (Key × Value)} {kvs:List (Key × V)} {vs:List (Key × Value)},KV more rs->KV kvs vs->KV (dN kvs more) (merged vs rs):=by
  intro more rs kvs vs r
  unfold KV at r
  induction r generalizing kvs vs with
  | nil=>intro q;exact q
  | @cons p q ps qs h t ih =>
    intro r0
    have e:KV (bK kvs p.1 p.2) (stored vs q.1 q.2):=by
      have:=r0.put p.1 h.2
      rw[<- h.1];exact this
    exact ih e
theorem pP:∀ (more kvs:List (Key × V)),(dN kvs more).length<=kvs.length+more.length
  | [],kvs=>by show kvs.length<=kvs.length+0;omega
  | p::r,kvs=>by
    have h1:=pP r (bK kvs p.1 p.2)
    have h2:=lO kvs p.1 p.2
    show (dN (bK kvs p.1 p.2) r).length<=_
    rw[List.length_cons];omega
theorem pQ{P:Program}{w:World}:∀ {kvs:List (Key × V)} {ws:List (Value × Value)},VV (kvs.map fun kv=>(kV kv.1,kv.2)) ws->∃ rs,Carries (cm P w) ws rs/\KV kvs rs
  | [],_,r=>by rw[List.map_nil] at r;cases r;exact⟨[],True.intro,.nil⟩
  | p :: kvs,_,r=>by
    rw[List.map_cons] at r
    cases r with
    | @cons a b as bs h t =>
      obtain⟨rs,c,q⟩:=pQ (P:=P) (w:=w) t
      obtain⟨b1,b2⟩:=b
      exact⟨(p.1,b2)::rs,⟨jI h.1,rfl,c⟩,.cons ⟨rfl,h.2⟩ q⟩
def xj(trs:List (TE × TE)):TE:=fun σ H Q=>∀ p,H p=none->jL trs σ (upd H p (.dK [])) fun ps H2=>H2 p=some (.dK [])/\∃ kvs:List (Key × V),ps=kvs.map (fun kv=>(kV kv.1,kv.2))/\kvs.length<=15/\Q (.ref p) (upd H2 p (.dK (dN [] kvs)))
theorem xk{X:Cx}{pos:Pos}{keys:List (Option Expr)}{values:List Expr}{trs:List (TE × TE)}(h:PPs X pos keys values trs)(hall:keys.all (·.isSome)=true)(hl:keys.length=values.length)(h0:keys ≠ [])(h15:keys.length<=15):PE X (.Dict keys values pos) (xj trs):=by
  intro pins s σ H Q I q
  have hn:=I.hok.fresh (Nat.le_refl s.heap.objs.size)
  have I1:=I.laid (a:=s.heap.objs.size) (o:=.dK []) (h':=s.heap.push { cls:=.type "dict",data:=.dict #[] }) (t':=s.toks) (fun _ _ q=>Heap.get?_push_of_some _ q) (Nat.le_refl _) (xg s.heap I.big)
  refine wpAny_Dict_walk (knd:=cm X.prog X.w) hall hl h0 h15 (thn (h pins _ σ _ _ I1 (q _ hn)) fun ws s2 ⟨ps,H2,I2,rel,e,kvs,ep,lk,q2⟩=>?_)
  subst ep
  obtain⟨rs,c,rk⟩:=pQ (P:=X.prog) (w:=X.w) rel
  obtain⟨z,hd,vs0,r0,dd⟩:=pN I2.hok e
  cases r0
  refine⟨rs,c,dd,fun h' dd' hs=>⟨.ref s.heap.objs.size,_,?_,rfl,q2⟩⟩
  have hz:(dN [] kvs).length<=sizeLine:=by
    have h1:=pP kvs []
    rw[List.length_nil] at h1
    rw[sizeLine_eq];omega
  have he:∃ q,h'.get? s.heap.objs.size=some q:=let ⟨q,_,_,hq,_⟩:=dd';⟨q,hq⟩
  exact lR I2 (by rw[e];exact True.intro) hs he (pO hz hd (rk.merge .nil) dd')
structure M1 (X:Cx) (o:Expr) (m:Str) (apos:Pos) (e:Expr) (cpos:Pos):Prop where
  base:attributeBase o m X.env (eval o X.env)=eval o X.env
  few:((backTo cpos (starEach [e] X.env)).all (fun x=>!x.1) && (backToKw cpos (keywordEach [] X.env)).all (fun x=>x.1.isSome)
    && decide (([e]:List Expr).length+([]:List Keyword).length+(if ([]:List Keyword).isEmpty then 0 else 1) < 30))=true
  line:(apos.endLine == cpos.line)=true
  trees:backTo cpos (starEach [e] X.env)=[(false,eval e X.env)]
structure M2 (X:Cx) (o:Expr) (m:Str) (apos:Pos) (e f:Expr) (cpos:Pos):Prop where
  base:attributeBase o m X.env (eval o X.env)=eval o X.env
  few:((backTo cpos (starEach [e,f] X.env)).all (fun x=>!x.1) && (backToKw cpos (keywordEach [] X.env)).all (fun x=>x.1.isSome)
    && decide (([e,f]:List Expr).length+([]:List Keyword).length+(if ([]:List Keyword).isEmpty then 0 else 1) < 30))=true
  line:(apos.endLine == cpos.line)=true
  trees:backTo cpos (starEach [e,f] X.env)=[(false,eval e X.env),(false,eval f X.env)]
section
variable {X:Cx} {pins:List (Addr × Obj)} {σ:St} {H:Hp} {s:Shared} {a:Addr} {y d:V} {u r:Value} {o:Option V} {A:Around} {E:Value->Shared->Prop}
end
section
variable {X:Cx} {o e f:Expr} {apos cpos:Pos} {td ty tx:TE}
end
section
variable {X:Cx} {pins:List (Addr × Obj)} {σ:St} {H:Hp} {s:Shared} {a:Addr} {kvs:List (Key × V)} {A:Around} {E:Value->Shared->Prop}
end
section
variable {X:Cx} {pins:List (Addr × Obj)} {σ:St} {H:Hp} {s:Shared} {a:Addr} {y:V} {u:Value} {A:Around} {E:Value->Shared->Prop}
end
end L2
namespace Att
open PySem PySem.W PySem.Calls PyProof.Rows
section
variable {prog:Program} {w:World} {A:Around} {E:Value->Shared->Prop} {s:Shared} {K:Frag}
end
end Att
namespace L2
open PySem PySem.Spec PyProof.Rows
end L2
namespace L2
open PySem PySem.Spec PyProof.Rows
end L2
namespace L2
open PySem PySem.Spec PyProof.Rows
section
variable {P:Program} {w:World} {K:PySem.W.Frag} {mg:Str->Option Value} {base:Heap}
end
section
variable {X:Cx}
end
section
variable {κ:Type} [DecidableEq κ]
end
end L2
namespace VL
open PySem PySem.Spec PyProof.Rows L2
abbrev St:=L2.St
inductive D where
  | non | bl (b:Bool) | int (i:Int) | str (x:Str) | lst (xs:List D) | tup (xs:List D)
  | scr (ns:List Int)
  | dct (fz:Bool) (kvs:List (Int × Int))
  | ptr (a:Nat)
def im(kvs:List (Int × Int)):List (Key × V):=kvs.map fun p=>(Sum.inl p.1,V.int p.2)
def DRd(H:Hp)(a:Addr)(fz:Bool)(kvs:List (Int × Int)):Prop:=(fz=true/\∃ o,H a=some (.frz o (.dK (im kvs))))\/(fz=false/\H a=some (.dK (im kvs)))
theorem DRd.same{H H':Hp}{a:Addr}{fz:Bool}{kvs:List (Int × Int)}(e:Same H H')(h:DRd H a fz kvs):DRd H' a fz kvs:=by
  rcases h with⟨z,o,h⟩ | ⟨z,h⟩
  · exact .inl ⟨z,o,e _ _ h⟩
  · exact .inr ⟨z,e _ _ h⟩
theorem DRd.rd{H:Hp}{a:Addr}{fz:Bool}{kvs:List (Int × Int)}(h:DRd H a fz kvs):Rd H a (.dK (im kvs)):=by
  rcases h with⟨_,o,h⟩ | ⟨_,h⟩
  · exact .inr ⟨o,h⟩
  · exact .inl h
mutual
inductive Rep (K:PySem.W.Frag) (H:Hp):V->D->Prop where
  | non:Rep K H V.non D.non
  | bl (b:Bool):Rep K H (V.bl b) (D.bl b)
  | int (i:Int):Rep K H (V.int i) (D.int i)
  | str (x:Str):Rep K H (V.str x) (D.str x)
  | lst {a:Addr} {xs:List V} {ds:List D}:Rd H a (.lst xs)->Reps K H xs ds->Rep K H (V.ref a) (D.lst ds)
  | tup {a:Addr} {xs:List V} {ds:List D}:Rd H a (.tup xs)->Reps K H xs ds->Rep K H (V.ref a) (D.tup ds)
  | scr {a:Addr} {ns:List Int}:SqL K H a (ns.map V.int)->Rep K H (V.ref a) (D.scr ns)
  | dct {a:Addr} {fz:Bool} {kvs:List (Int × Int)}:DRd H a fz kvs->Rep K H (V.ref a) (D.dct fz kvs)
  | ptr (a:Addr):Rep K H (V.ref a) (D.ptr a)
inductive Reps (K:PySem.W.Frag) (H:Hp):List V->List D->Prop where
  | nil:Reps K H [] []
  | cons {v:V} {d:D} {vs:List V} {ds:List D}:Rep K H v d->Reps K H vs ds->Reps K H (v::vs) (d::ds)
end
theorem cL{H H':Hp}{a:Addr}{u:HO}(e:Same H H')(h:Rd H a u):Rd H' a u:=by
  rcases h with h | ⟨o,h⟩
  · exact .inl (e _ _ h)
  · exact .inr ⟨o,e _ _ h⟩
theorem fD{H:Hp}{a:Addr}{xs ys:List V}(h:Rd H a (.lst xs))(h':Rd H a (.lst ys)):xs=ys:=by
  rcases h with h | ⟨o,h⟩ <;> rcases h' with h' | ⟨o',h'⟩ <;> rw[h] at h' <;> cases h' <;> rfl
theorem jM{H:Hp}{a:Addr}{xs ys:List V}(h:Rd H a (.tup xs))(h':Rd H a (.tup ys)):xs=ys:=by
  rcases h with h | ⟨o,h⟩ <;> rcases h' with h' | ⟨o',h'⟩ <;> rw[h] at h' <;> cases h' <;> rfl
theorem pR{H:Hp}{a:Addr}{xs ys:List V}(h:Rd H a (.lst xs))(h':Rd H a (.tup ys)):False:=by
  rcases h with h | ⟨o,h⟩ <;> rcases h' with h' | ⟨o',h'⟩ <;> rw[h] at h' <;> cases h'
theorem ay{K:PySem.W.Frag}{H H':Hp}(e:Same H H'){v:V}{d:D}(h:Rep K H v d):Rep K H' v d :=
  Rep.rec (motive_1:=fun v d _=>Rep K H' v d) (motive_2:=fun vs ds _=>Reps K H' vs ds)
    .non (fun b=>.bl b) (fun i=>.int i) (fun x=>.str x) (fun h _ ih=>.lst (cL e h) ih) (fun h _ ih=>.tup (cL e h) ih) (fun h=>.scr (e.seq h)) (fun h=>.dct (h.same e)) (fun a=>.ptr a)
    .nil (fun _ _ ih1 ih2=>.cons ih1 ih2) h
theorem aH{K:PySem.W.Frag}{H H':Hp}(e:Same H H'){vs:List V}{ds:List D}(h:Reps K H vs ds):Reps K H' vs ds :=
  Reps.rec (motive_1:=fun v d _=>Rep K H' v d) (motive_2:=fun vs ds _=>Reps K H' vs ds)
    .non (fun b=>.bl b) (fun i=>.int i) (fun x=>.str x) (fun h _ ih=>.lst (cL e h) ih) (fun h _ ih=>.tup (cL e h) ih) (fun h=>.scr (e.seq h)) (fun h=>.dct (h.same e)) (fun a=>.ptr a)
    .nil (fun _ _ ih1 ih2=>.cons ih1 ih2) h
section
variable {K:PySem.W.Frag} {H:Hp}
theorem Reps.length:∀ {vs:List V} {ds:List D},Reps K H vs ds->vs.length=ds.length
  | [],_,h=>by cases h;rfl
  | _::vs,_,h=>by cases h with | cons _ t=>simp[Reps.length t]
theorem Reps.append:∀ {vs ws:List V} {ds es:List D},Reps K H vs ds->Reps K H ws es->Reps K H (vs++ws) (ds++es)
  | [],_,_,_,h,h2=>by cases h;exact h2
  | _::_,_,_,_,h,h2=>by cases h with | cons a t=>exact .cons a (Reps.append t h2)
theorem Reps.get:∀ {vs:List V} {ds:List D} {i:Nat} {d:D},Reps K H vs ds->ds[i]?=some d->∃ v,vs[i]?=some v/\Rep K H v d
  | [],_,_,_,h,e=>by cases h;simp at e
  | _::_,_,0,_,h,e=>by cases h with | cons a t=>simp at e;subst e;exact⟨_,rfl,a⟩
  | _ :: _,_,i+1,_,h,e=>by
    cases h with
    | cons a t =>
      obtain⟨v,e1,r⟩:=Reps.get (i:=i) t (by simpa using e)
      exact⟨v,by simpa using e1,r⟩
theorem Reps.getV:∀ {vs:List V} {ds:List D} {i:Nat} {v:V},Reps K H vs ds->vs[i]?=some v->∃ d,ds[i]?=some d/\Rep K H v d
  | [],_,_,_,h,e=>by simp at e
  | _::_,_,0,_,h,e=>by cases h with | cons a t=>simp at e;subst e;exact⟨_,rfl,a⟩
  | _ :: _,_,i+1,_,h,e=>by
    cases h with
    | cons a t =>
      obtain⟨v,e1,r⟩:=Reps.getV (i:=i) t (by simpa using e)
      exact⟨v,by simpa using e1,r⟩
theorem Reps.take:∀ {vs:List V} {ds:List D} (n:Nat),Reps K H vs ds->Reps K H (vs.take n) (ds.take n)
  | _,_,0,_=>by simpa using Reps.nil
  | [],_,n+1,h=>by cases h;simpa using Reps.nil
  | _::_,_,n+1,h=>by cases h with | cons a t=>exact .cons a (Reps.take n t)
theorem Reps.drop:∀ {vs:List V} {ds:List D} (n:Nat),Reps K H vs ds->Reps K H (vs.drop n) (ds.drop n)
  | _,_,0,h=>by simpa using h
  | [],_,n+1,h=>by cases h;simpa using Reps.nil
  | _::_,_,n+1,h=>by cases h with | cons a t=>exact Reps.drop n t
theorem Reps.set{v:V}{d:D}(r:Rep K H v d):∀ {vs:List V} {ds:List D} (i:Nat),Reps K H vs ds->Reps K H (vs.set i v) (ds.set i d)
  | [],_,_,h=>by cases h;simpa using Reps.nil
  | _::_,_,0,h=>by cases h with | cons a t=>exact .cons r t
  | _::_,_,i+1,h=>by cases h with | cons a t=>exact .cons a (Reps.set r i t)
theorem Reps.reverse:∀ {vs:List V} {ds:List D},Reps K H vs ds->Reps K H vs.reverse ds.reverse
  | [],_,h=>by cases h;exact .nil
  | _::_,_,h=>by
    cases h with
    | cons a t=>rw[List.reverse_cons,List.reverse_cons];exact Reps.append (Reps.reverse t) (.cons a .nil)
theorem Reps.ints:∀ ns:List Int,Reps K H (ns.map V.int) (ns.map D.int)
  | []=>.nil
  | n::ns=>.cons (.int n) (Reps.ints ns)
theorem Reps.rep{vs:List V}{ds:List D}(h:Reps K H vs ds):∀ k:Nat,Reps K H (List.replicate k vs).flatten (List.replicate k ds).flatten
  | 0=>.nil
  | k+1=>by rw[List.replicate_succ,List.replicate_succ,List.flatten_cons,List.flatten_cons];exact h.append (Reps.rep h k)
end
noncomputable def ao(H:Hp)(A:Addr->Prop):Hp:=fun b=>@ite _ (A b) (Classical.propDecidable _) none (H b)
theorem xl{H:Hp}{A:Addr->Prop}{b:Addr}(h:A b):ao H A b=none:=by unfold ao;rw[if_pos h]
theorem bg{H:Hp}{A:Addr->Prop}{b:Addr}(h:¬ A b):ao H A b=H b:=by unfold ao;rw[if_neg h]
theorem cw{H:Hp}{A:Addr->Prop}{b:Addr}{o:HO}(h:ao H A b=some o):¬ A b/\H b=some o:=by
  by_cases q:A b
  · rw[xl q] at h;cases h
  · rw[bg q] at h;exact⟨q,h⟩
theorem aM(H:Hp)(A:Addr->Prop):Same (ao H A) H:=fun _ _ h=>(cw h).2
theorem bU{H H':Hp}{A B:Addr->Prop}(e:Same H H')(s:∀ b,B b->A b):Same (ao H A) (ao H' B):=fun b o h=>by
  obtain⟨n,h⟩:=cw h
  rw[bg fun q=>n (s b q)]
  exact e b o h
theorem pS{H H':Hp}{A:Addr->Prop}(e:Same H H')(n:∀ b,A b->H b=none):Same H (ao H' A):=fun b o h=>by
  rw[bg fun q=>by rw[n b q] at h;cases h]
  exact e b o h
abbrev cV:Addr->Prop:=fun _=>False
theorem gF(H:Hp):Same H (ao H cV):=pS (fun _ _ h=>h) fun _ h=>h.elim
theorem bh{H:Hp}{p:Addr}(h:H p=none)(o:HO):Same H (upd H p o):=fun b u q=>by rw[aC (bQ q h)];exact q
def Dom(H:Hp)(A:Addr->Prop):Prop:=∀ b,A b->H b ≠ none
theorem Dom.mono{H H':Hp}{A:Addr->Prop}(d:Dom H A)(e:Same H H'):Dom H' A:=fun b h n=>d b h (e.free n)
theorem Dom.none(H:Hp):Dom H cV:=fun _ h=>h.elim
theorem Dom.not_new{H:Hp}{A:Addr->Prop}{l:Addr}(d:Dom H A)(h:H l=Option.none):¬ A l:=fun q=>d l q h
def b0:D->Bool
  | .lst _=>false
  | .tup _=>false
  | .scr _=>false
  | .dct _ _=>false
  | .ptr _=>false
  | _=>true
theorem io{K:PySem.W.Frag}{H H':Hp}{v:V}{d:D}(s:b0 d=true)(h:Rep K H v d):Rep K H' v d:=by
  cases h with
  | non=>exact .non
  | bl b=>exact .bl b
  | int i=>exact .int i
  | str x=>exact .str x
  | lst _ _=>cases s
  | tup _ _=>cases s
  | scr _=>cases s
  | dct _=>cases s
  | ptr a=>cases s
end VL
namespace VL
open PySem PySem.Spec PyProof.Rows L2
abbrev ae:=List (Option D)
abbrev FE:=ae->Option D
inductive Es where
  | full (j:Nat)
  | el (j:Nat)
def EnvR(K:PySem.W.Frag)(H:Hp)(σ:St)(ρ:ae):Prop:=∀ (i:Nat) (d:D),ρ[i]?=some (some d)->∃ v,σ[i]?=some (some v)/\Rep K H v d
theorem EnvR.mono{K:PySem.W.Frag}{H H':Hp}{σ:St}{ρ:ae}(h:EnvR K H σ ρ)(e:Same H H'):EnvR K H' σ ρ:=fun i d q=>by
  obtain⟨v,h1,h2⟩:=h i d q
  exact⟨v,h1,ay e h2⟩
def xm:D->Option Unit
  | .scr _=>some ()
  | .dct _ _=>some ()
  | .ptr _=>some ()
  | _=>none
def ElR(K:PySem.W.Frag)(H:Hp)(A:Addr->Prop)(v:V)(d:D):Prop :=
  (b0 d=true\/∃ u,xm d=some u)\/∃ p xs ds,v=V.ref p/\((d=.lst ds/\Rd H p (.lst xs))\/(d=.tup ds/\Rd H p (.tup xs)))/\Reps K (ao H A) xs ds
def Av(K:PySem.W.Frag)(H:Hp)(σ:St)(ρ:ae)(A:Addr->Prop):Es->Prop
  | .full j=>∀ v d,σ[j]?=some (some v)->ρ[j]?=some (some d)->Rep K (ao H A) v d
  | .el j=>∀ v d,σ[j]?=some (some v)->ρ[j]?=some (some d)->ElR K H A v d
theorem bD{H H':Hp}{A:Addr->Prop}(e:Same H H'):Same (ao H A) (ao H' A):=bU e fun _ h=>h
theorem ElR.mono{K:PySem.W.Frag}{H H':Hp}{A:Addr->Prop}{v:V}{d:D}(e:Same H H')(h:ElR K H A v d):ElR K H' A v d:=by
  rcases h with h | ⟨p,xs,ds,h1,h2,h3⟩
  · exact .inl h
  · refine .inr ⟨p,xs,ds,h1,?_,aH (bD e) h3⟩
    rcases h2 with⟨h2,h4⟩ | ⟨h2,h4⟩
    · exact .inl ⟨h2,cL e h4⟩
    · exact .inr ⟨h2,cL e h4⟩
theorem Av.mono{K:PySem.W.Frag}{H H':Hp}{σ:St}{ρ:ae}{A:Addr->Prop}{x:Es}(e:Same H H')(h:Av K H σ ρ A x):Av K H' σ ρ A x:=by
  cases x with
  | full j=>exact fun v d h1 h2=>ay (bD e) (h v d h1 h2)
  | el j=>exact fun v d h1 h2=>(h v d h1 h2).mono e
theorem Rep.el{K:PySem.W.Frag}{H:Hp}{A:Addr->Prop}{v:V}{d:D}(h:Rep K (ao H A) v d):ElR K H A v d:=by
  cases h with
  | non=>exact .inl (.inl rfl)
  | bl b=>exact .inl (.inl rfl)
  | int i=>exact .inl (.inl rfl)
  | str x=>exact .inl (.inl rfl)
  | lst h1 h2=>exact .inr ⟨_,_,_,rfl,.inl ⟨rfl,cL (aM H A) h1⟩,h2⟩
  | tup h1 h2=>exact .inr ⟨_,_,_,rfl,.inr ⟨rfl,cL (aM H A) h1⟩,h2⟩
  | scr h1=>exact .inl (.inr ⟨_,rfl⟩)
  | dct h1=>exact .inl (.inr ⟨_,rfl⟩)
  | ptr a=>exact .inl (.inr ⟨_,rfl⟩)
structure Post (K:PySem.W.Frag) (σ:St) (ρ:ae) (H:Hp) (es:List Es) (d:D) (v:V) (H':Hp):Prop where
  same:Same H H'
  rep:Rep K H' v d
  av:∀ A,Dom H A->(∀ e ∈ es,Av K H σ ρ A e)->Rep K (ao H' A) v d
structure PostF (K:PySem.W.Frag) (σ:St) (ρ:ae) (H:Hp) (es:List Es) (d:D) (v:V) (H':Hp):Prop where
  same:Same H H'
  new:∃ l xs ds,v=V.ref l/\d=.lst ds/\H l=none/\H' l=some (.lst xs)/\∀ A,Dom H A->(∀ e ∈ es,Av K H σ ρ A e)->Reps K (ao H' fun b=>A b\/b=l) xs ds
theorem Av.none{K:PySem.W.Frag}{H:Hp}{σ:St}{ρ:ae}(hE:EnvR K H σ ρ)(e:Es):Av K H σ ρ cV e:=by
  have full:∀ (j:Nat) (v:V) (d:D),σ[j]?=some (some v)->ρ[j]?=some (some d)->Rep K (ao H cV) v d:=fun j v d h1 h2=>by
    obtain⟨v',h3,h4⟩:=hE j d h2
    rw[h1] at h3;cases h3
    exact ay (gF H) h4
  cases e with
  | full j=>exact full j
  | el j=>exact fun v d h1 h2=>(full j v d h1 h2).el
theorem PostF.post{K:PySem.W.Frag}{σ:St}{ρ:ae}{H:Hp}{es:List Es}{d:D}{v:V}{H':Hp}(h:PostF K σ ρ H es d v H')(hE:EnvR K H σ ρ):Post K σ ρ H es d v H':=by
  obtain⟨l,xs,ds,rfl,rfl,hl,hl',h3⟩:=h.new
  have av:∀ A,Dom H A->(∀ e ∈ es,Av K H σ ρ A e)->Rep K (ao H' A) (V.ref l) (.lst ds):=fun A hA ha =>
    .lst (.inl (by rw[bg (hA.not_new hl)];exact hl')) (aH (bU (fun _ _ q=>q) fun b q=>.inl q) (h3 A hA ha))
  exact⟨h.same,ay (aM H' _) (av cV (Dom.none H) fun e _=>Av.none hE e),av⟩
def tv(K:PySem.W.Frag)(f:FE)(es:List Es):TE:=fun σ H Q=>∃ ρ d,EnvR K H σ ρ/\f ρ=some d/\∀ v H',Post K σ ρ H es d v H'->Q v H'
def tvF(K:PySem.W.Frag)(f:FE)(es:List Es):TE:=fun σ H Q=>∃ ρ d,EnvR K H σ ρ/\f ρ=some d/\∀ v H',PostF K σ ρ H es d v H'->Q v H'
def tvT(K:PySem.W.Frag)(f:ae->Option Bool):TT:=fun σ H Q=>∃ ρ b,EnvR K H σ ρ/\f ρ=some b/\∀ H',Same H H'->Q b H'
abbrev FEs:=ae->Option (List D)
structure Posts (K:PySem.W.Frag) (σ:St) (ρ:ae) (H:Hp) (es:List Es) (ds:List D) (vs:List V) (H':Hp):Prop where
  same:Same H H'
  rep:Reps K H' vs ds
  av:∀ A,Dom H A->(∀ e ∈ es,Av K H σ ρ A e)->Reps K (ao H' A) vs ds
def tvA(K:PySem.W.Frag)(f:FEs)(es:List Es):TA:=fun σ H Q=>∃ ρ ds,EnvR K H σ ρ/\f ρ=some ds/\∀ vs H',Posts K σ ρ H es ds vs H'->Q vs H'
abbrev VE(X:Cx)(e:Expr)(f:FE)(es:List Es):Prop:=PE X e (tv X.K f es)
abbrev VF(X:Cx)(e:Expr)(f:FE)(es:List Es):Prop:=PE X e (tvF X.K f es)
abbrev VT(X:Cx)(e:Expr)(f:ae->Option Bool):Prop:=PT X e (tvT X.K f)
abbrev VW(X:Cx)(e:Expr)(f:ae->Option Bool):Prop:=PW X e (tvT X.K f)
abbrev VA(X:Cx)(e:List Expr)(f:FEs)(es:List Es):Prop:=PA X e (tvA X.K f es)
theorem aI{X:Cx}{e:Expr}{t t':TE}(h:PE X e t)(i:∀ σ H Q,t' σ H Q->t σ H Q):PE X e t':=fun pins s σ H Q I q=>h pins s σ H Q I (i σ H Q q)
theorem dO{X:Cx}{e:Expr}{t t':TT}(h:PT X e t)(i:∀ σ H Q,t' σ H Q->t σ H Q):PT X e t':=fun pins s σ H Q I q=>h pins s σ H Q I (i σ H Q q)
theorem pT{X:Cx}{e:Expr}{t t':TT}(h:PW X e t)(i:∀ σ H Q,t' σ H Q->t σ H Q):PW X e t':=fun w pins s σ H Q I q=>h w pins s σ H Q I (i σ H Q q)
theorem jN{X:Cx}{e:List Expr}{t t':TA}(h:PA X e t)(i:∀ σ H Q,t' σ H Q->t σ H Q):PA X e t':=fun pos pins s σ H Q I q=>h pos pins s σ H Q I (i σ H Q q)
section
variable {X:Cx} {a b c:Expr} {es ea eb ec:List Es} {fa fb fc:FE} {pos:Pos}
theorem VF.ve{f:FE}(h:VF X a f es):VE X a f es:=aI h fun σ H Q ⟨ρ,d,hE,hf,hQ⟩=>⟨ρ,d,hE,hf,fun v H' p=>hQ v H' (p.post hE)⟩
def aa(i:Nat):FE:=fun ρ=>(ρ[i]?).getD none
theorem fE{i:Nat}{ρ:ae}{d:D}(h:aa i ρ=some d):ρ[i]?=some (some d):=by
  unfold aa at h
  cases e:ρ[i]? with
  | none=>rw[e] at h;cases h
  | some o=>rw[e] at h;simp only[Option.getD_some] at h;rw[h]
theorem xn(i:Nat){x:Str}{pos:Pos}(hN:X.N[i]?=some x:=by rfl)(hv:Vis X.env.scope x:=by first | exact Or.inl rfl | exact Or.inr (Or.inl rfl) | exact Or.inr (Or.inr rfl))(hd:(x == ("__debug__" : Str))=false:=by decide)(hcd:(x == ("__classdict__" : Str))=false:=by decide):VE X (.Name x pos) (aa i) [.full i] :=
  aI (fw hN hv hd hcd) fun σ H Q ⟨ρ,d,hE,hf,hQ⟩=>by
    have h:=fE hf
    obtain⟨v,hv,r⟩:=hE i d h
    exact⟨v,hv,hQ v H ⟨Same.refl H,r,fun A _ av=>av (.full i) (List.mem_singleton.mpr rfl) v d hv h⟩⟩
def eC(d:D):FE:=fun _=>some d
theorem jO{e:Expr}{v:V}{d:D}(h:PE X e (tC v))(r:∀ H,Rep X.K H v d):VE X e (eC d) [] :=
  aI h fun σ H Q ⟨ρ,d',hE,hf,hQ⟩=>by
    cases hf
    exact hQ v H ⟨Same.refl H,r H,fun A _ _=>r _⟩
theorem xo{i j pos}:VE X (.Constant (.int i) j pos) (eC (.int i)) []:=jO oy fun _=>.int i
theorem xp{i j pos}:VE X (.Constant (.bool i) j pos) (eC (.bl i)) []:=jO uX fun _=>.bl i
theorem gG{j pos}:VE X (.Constant .none j pos) (eC .non) []:=jO uY fun _=>.non
theorem xq{x:Str}{i:Int}{t:Tok}{pos:Pos}(hm:X.mg x=some (.int i t))(hg:Gl X x:=by rfl)(hd:(x == ("__debug__" : Str))=false:=by decide):VE X (.Name x pos) (eC (.int i)) [] :=
  jO (uZ (v:=.int i) hg hm ⟨t,rfl⟩ hd) fun _=>.int i
def e2(g:D->D->Option D)(a b:FE):FE:=fun ρ=>(a ρ).bind fun x=>(b ρ).bind fun y=>g x y
def e1(g:D->Option D)(a:FE):FE:=fun ρ=>(a ρ).bind g
theorem bind_some{α β:Type}{o:Option α}{f:α->Option β}{b:β}(h:o.bind f=some b):∃ a,o=some a/\f a=some b:=by
  cases o with
  | none=>cases h
  | some a=>exact⟨a,rfl,h⟩
theorem Post.up{K:PySem.W.Frag}{σ:St}{ρ:ae}{H H1 H2:Hp}{es:List Es}{d:D}{v:V}(h:Post K σ ρ H es d v H1)(e:Same H1 H2):Post K σ ρ H es d v H2 :=
  ⟨h.same.trans e,ay e h.rep,fun A hA ha=>ay (bD e) (h.av A hA ha)⟩
theorem Post.down{K:PySem.W.Frag}{σ:St}{ρ:ae}{H H1 H2:Hp}{es:List Es}{d:D}{v:V}(h:Post K σ ρ H1 es d v H2)(e:Same H H1):Post K σ ρ H es d v H2 :=
  ⟨e.trans h.same,h.rep,fun A hA ha=>h.av A (hA.mono e) fun x hx=>(ha x hx).mono e⟩
def OpV(K:PySem.W.Frag)(r:R2)(g:D->D->Option D):Prop :=
  ∀ (x y:V) (H:Hp) (dx dy d:D) (Q:VK),Rep K H x dx->Rep K H y dy->g dx dy=some d ->
    (∀ v H',Same H H'->Rep K H' v d->(∀ A,Dom H A->Rep K (ao H A) x dx->Rep K (ao H A) y dy->Rep K (ao H' A) v d)->Q v H')->r x y H Q
def UnV(K:PySem.W.Frag)(r:V->Hp->VK->Prop)(g:D->Option D):Prop :=
  ∀ (x:V) (H:Hp) (dx d:D) (Q:VK),Rep K H x dx->g dx=some d ->
    (∀ v H',Same H H'->Rep K H' v d->(∀ A,Dom H A->Rep K (ao H A) x dx->Rep K (ao H' A) v d)->Q v H')->r x H Q
theorem lS{K:PySem.W.Frag}{r:R2}{g:D->D->Option D}(hr:OpV K r g){σ:St}{H:Hp}{Q:VK}(h:tv K (e2 g fa fb) (ea++eb) σ H Q):tOp r (tv K fa ea) (tv K fb eb) σ H Q:=by
  obtain⟨ρ,d,hE,hf,hQ⟩:=h
  obtain⟨dx,h1,hf⟩:=bind_some hf
  obtain⟨dy,h2,hf⟩:=bind_some hf
  refine⟨ρ,dx,hE,h1,fun x H1 p1=>⟨ρ,dy,hE.mono p1.same,h2,fun y H2 p2=>?_⟩⟩
  have q1:=p1.up p2.same
  have q2:=p2.down p1.same
  refine hr x y H2 dx dy d Q q1.rep q2.rep hf fun v H' e r' av=>hQ v H' ⟨q1.same.trans e,r',fun A hA ha=>?_⟩
  exact av A (hA.mono q1.same) (q1.av A hA fun z hz=>ha z (List.mem_append_left _ hz)) (q2.av A hA fun z hz=>ha z (List.mem_append_right _ hz))
theorem xr{K:PySem.W.Frag}{r:V->Hp->VK->Prop}{g:D->Option D}(hr:UnV K r g){σ:St}{H:Hp}{Q:VK}(h:tv K (e1 g fa) ea σ H Q):tUn r (tv K fa ea) σ H Q:=by
  obtain⟨ρ,d,hE,hf,hQ⟩:=h
  obtain⟨dx,h1,hf⟩:=bind_some hf
  refine⟨ρ,dx,hE,h1,fun x H1 p1=>?_⟩
  exact hr x H1 dx d Q p1.rep hf fun v H' e r' av=>hQ v H' ⟨p1.same.trans e,r',fun A hA ha=>av A (hA.mono p1.same) (p1.av A hA ha)⟩
theorem xt{op:Operator}{r:R2}{g:D->D->Option D}(ho:OpR X (binaryOp op) r)(hr:OpV X.K r g)(ha:VE X a fa ea)(hb:VE X b fb eb):VE X (.BinOp a op b pos) (e2 g fa fb) (ea++eb) :=
  aI (jD ho ha hb) fun _ _ _ h=>lS hr h
theorem jP{f:FE}(h:VE X a f es)(hs:∀ ρ d,f ρ=some d->b0 d=true):VE X a f [] :=
  aI h fun σ H Q ⟨ρ,d,hE,hf,hQ⟩=>⟨ρ,d,hE,hf,fun v H' p=>hQ v H' ⟨p.same,p.rep,fun A _ _=>io (hs ρ d hf) p.rep⟩⟩
theorem pU{g:D->D->Option D}(h:∀ x y d,g x y=some d->b0 d=true)(fa fb:FE)(ρ:ae)(d:D)(e:e2 g fa fb ρ=some d):b0 d=true:=by
  obtain⟨x,_,e⟩:=bind_some e
  obtain⟨y,_,e⟩:=bind_some e
  exact h x y d e
theorem xu{g:D->Option D}(h:∀ x d,g x=some d->b0 d=true)(fa:FE)(ρ:ae)(d:D)(e:e1 g fa ρ=some d):b0 d=true:=by
  obtain⟨x,_,e⟩:=bind_some e
  exact h x d e
def gI(C:Int->Int->Prop)[∀ i j,Decidable (C i j)](k:Int->Int->D):D->D->Option D
  | .int i,.int j=>if C i j then some (k i j) else none
  | _,_=>none
theorem ip{C C':Int->Int->Prop}[∀ i j,Decidable (C' i j)]{k:Int->Int->D}{kv:Int->Int->V}(K:PySem.W.Frag)(hC:∀ i j,C' i j->C i j)(hk:∀ i j H,Rep K H (kv i j) (k i j)):OpV K (rI C kv) (gI C' k):=by
  intro x y H dx dy d Q rx ry hg hQ
  cases rx <;> cases ry <;> try (unfold gI at hg;cases hg;done)
  rename_i i j
  by_cases c:C' i j
  · simp only[gI,if_pos c] at hg
    cases hg
    exact⟨i,j,rfl,rfl,hC i j c,hQ _ H (Same.refl H) (hk i j H) fun A _ _ _=>hk i j _⟩
  · simp only[gI,if_neg c] at hg
    cases hg
theorem iq{C':Int->Int->Prop}[∀ i j,Decidable (C' i j)]{k:Int->Int->D}{kv:Int->Int->V}(K:PySem.W.Frag)(hk:∀ i j H,Rep K H (kv i j) (k i j)):OpV K (rI0 kv) (gI C' k):=by
  intro x y H dx dy d Q rx ry hg hQ
  cases rx <;> cases ry <;> try (unfold gI at hg;cases hg;done)
  rename_i i j
  by_cases c:C' i j
  · simp only[gI,if_pos c] at hg
    cases hg
    exact⟨i,j,rfl,rfl,hQ _ H (Same.refl H) (hk i j H) fun A _ _ _=>hk i j _⟩
  · simp only[gI,if_neg c] at hg
    cases hg
abbrev ir(_ _:Int):Prop:=True
def small(i:Int):Prop:=-18446744073709551616 < i/\i < 18446744073709551616
instance (i:Int):Decidable (small i):=inferInstanceAs (Decidable (_/\_))
def mid(i:Int):Prop:=i.natAbs.log2 < 4000
instance (i:Int):Decidable (mid i):=inferInstanceAs (Decidable (_ < _))
def okMul(i j:Int):Prop:=small i\/small j\/(mid i/\mid j)
instance (i j:Int):Decidable (okMul i j):=inferInstanceAs (Decidable (_\/_))
def iu(_ j:Int):Prop:=0 < j/\mid j
instance (i j:Int):Decidable (iu i j):=inferInstanceAs (Decidable (_/\_))
def jQ(_ j:Int):Prop:=0 < j
instance (i j:Int):Decidable (jQ i j):=inferInstanceAs (Decidable (_ < _))
def iw(i j:Int):Prop:=(0<=j/\j<=1000000)/\small i
instance (i j:Int):Decidable (iw i j):=inferInstanceAs (Decidable (_/\_))
theorem pV{i:Int}(h:mid i):Builtin.Int.intBits i<=4000:=by
  unfold Builtin.Int.intBits
  split
  · exact Nat.zero_le _
  · exact h
theorem okMul.ok{i j:Int}(h:okMul i j):IntMulOk i j:=by
  rcases h with h | h | ⟨h1,h2⟩
  · exact .of_left (intBits_le_64 h.1 h.2)
  · exact .of_right (intBits_le_64 h.1 h.2)
  · exact PyProof.Rows.mulOk_of_bits (pV h1) (pV h2) (by decide)
abbrev b8:=gI ir fun i j=>.int (i+j)
abbrev bZ:=gI ir fun i j=>.int (i - j)
abbrev ce:=gI okMul fun i j=>.int (i * j)
abbrev gH:=gI iu fun i j=>.int (i / j)
abbrev dP:=gI jQ fun i j=>.int (i % j)
abbrev gJ:=gI iw fun i j=>.int (i ^ j.toNat)
theorem iy{C:Int->Int->Prop}[∀ i j,Decidable (C i j)]{k:Int->Int->D}(hk:∀ i j,b0 (k i j)=true)(x y d:D)(h:gI C k x y=some d):b0 d=true:=by
  unfold gI at h
  split at h
  · split at h
    · cases h;exact hk _ _
    · cases h
  · cases h
theorem pW:OpR X (binaryOp .Mult) (rI okMul fun i j=>.int (i * j)):=opI fun _ _ _ _ _ _ _ hc q=>mul_int q hc.ok
theorem xv:OpR X (binaryOp .FloorDiv) (rI iu fun i j=>.int (i / j)):=opI fun i j _ _ _ _ _ hc q=>by
  have h1:(0:Int) < j:=hc.1
  have h2:j.natAbs.log2 < 4000:=hc.2
  exact floordiv_int (by omega) (by rw[Int.fdiv_eq_ediv_of_nonneg i (by omega)];exact q) (.inl (PyProof.noPylong_of_log2 (by omega)))
theorem xw:OpR X (binaryOp .Pow) (rI iw fun i j=>.int (i ^ j.toNat)):=opI fun i j _ _ _ _ _ hc q=>by
  have h1:-18446744073709551616 < i/\i < 18446744073709551616:=hc.2
  exact pow_int_small hc.1.1 hc.1.2 (by omega) q
theorem gK{op:Operator}{r:R2}{C:Int->Int->Prop}[∀ i j,Decidable (C i j)]{k:Int->Int->D}(ho:OpR X (binaryOp op) r)(hr:OpV X.K r (gI C k))(hk:∀ i j,b0 (k i j)=true)(ha:VE X a fa ea)(hb:VE X b fb eb):
    VE X (.BinOp a op b pos) (e2 (gI C k) fa fb) []:=jP (xt ho hr ha hb) (pU (iy hk) fa fb)
theorem xx(ha:VE X a fa ea)(hb:VE X b fb eb):VE X (.BinOp a .Add b pos) (e2 b8 fa fb) []:=gK oQ (iq X.K fun _ _ _=>.int _) (fun _ _=>rfl) ha hb
theorem xy(ha:VE X a fa ea)(hb:VE X b fb eb):VE X (.BinOp a .Sub b pos) (e2 bZ fa fb) []:=gK oR (iq X.K fun _ _ _=>.int _) (fun _ _=>rfl) ha hb
theorem xz(ha:VE X a fa ea)(hb:VE X b fb eb):VE X (.BinOp a .Mult b pos) (e2 ce fa fb) []:=gK pW (ip X.K (fun _ _ h=>h) fun _ _ _=>.int _) (fun _ _=>rfl) ha hb
theorem xA(ha:VE X a fa ea)(hb:VE X b fb eb):VE X (.BinOp a .FloorDiv b pos) (e2 gH fa fb) []:=gK xv (ip X.K (fun _ _ h=>h) fun _ _ _=>.int _) (fun _ _=>rfl) ha hb
theorem xB(ha:VE X a fa ea)(hb:VE X b fb eb):VE X (.BinOp a .Mod b pos) (e2 dP fa fb) []:=gK vK (ip X.K (fun _ _ h=>h) fun _ _ _=>.int _) (fun _ _=>rfl) ha hb
theorem xC(ha:VE X a fa ea)(hb:VE X b fb eb):VE X (.BinOp a .Pow b pos) (e2 gJ fa fb) []:=gK xw (ip X.K (fun _ _ h=>h) fun _ _ _=>.int _) (fun _ _=>rfl) ha hb
def cW:D->Option D
  | .int i=>some (.int (-i))
  | _=>none
theorem xD(x d:D)(h:cW x=some d):b0 d=true:=by
  cases x <;> simp only[cW] at h <;> cases h
  rfl
theorem xE(ha:VE X a fa ea):VE X (.UnaryOp .USub a pos) (e1 cW fa) [] :=
  jP (es:=ea) (aI (vJ vL ha) fun _ _ _ h=>xr (fun x H dx d Q rx hg hQ=>by
    cases rx <;> simp only[cW] at hg <;> cases hg
    exact⟨_,rfl,hQ _ H (Same.refl H) (.int _) fun A _ _=>.int _⟩) h) (xu xD fa)
abbrev leI:=gI ir fun i j=>.bl (decide (i<=j))
abbrev gtI:=gI ir fun i j=>.bl (decide (j < i))
abbrev geI:=gI ir fun i j=>.bl (decide (j<=i))
theorem iz{op:CmpOp}{r:R2}{g:D->D->Option D}(ho:OpR X (compareOp op) r)(hr:OpV X.K r g)(ha:VE X a fa ea)(hb:VE X b fb eb)(hm:behindInMarks op b=false)(hs:∀ x y d,g x y=some d->b0 d=true):
    VE X (.Compare a [op] [b] pos) (e2 g fa fb) []:=jP (es:=ea++eb) (aI (oW ho ha hb hm) fun _ _ _ h=>lS hr h) (pU hs fa fb)
def tru:D->Option Bool
  | .bl b=>some b
  | .int i=>some (i != 0)
  | .non=>some false
  | .lst xs=>some (!xs.isEmpty)
  | .tup xs=>some (!xs.isEmpty)
  | .str _=>none
  | .scr ns=>some (!ns.isEmpty)
  | .dct _ _=>none
  | .ptr _=>none
def eT(f:FE):ae->Option Bool:=fun ρ=>(f ρ).bind fun d=>match d with | .bl b=>some b | _=>none
theorem iA{op:CmpOp}{r:R2}{g:D->D->Option D}(ho:OpR X (compareOp op) r)(hr:OpV X.K r g)(ha:VE X a fa ea)(hb:VE X b fb eb)(hm:behindInMarks op b=false):VT X (.Compare a [op] [b] pos) (eT (e2 g fa fb)) :=
  dO (jE ho ha hb hm) fun σ H Q ⟨ρ,b,hE,hf,hQ⟩=>by
    obtain⟨d,h1,h2⟩:=bind_some hf
    refine lS hr ⟨ρ,d,hE,h1,fun v H' p=>?_⟩
    cases d <;> simp only at h2 <;> cases h2
    cases p.rep
    exact⟨b,rfl,hQ H' p.same⟩
theorem gL{C':Int->Int->Prop}[∀ i j,Decidable (C' i j)]{k:Int->Int->Bool}(K:PySem.W.Frag):OpV K (rI0 fun i j=>.bl (k i j)) (gI C' fun i j=>.bl (k i j)):=iq K fun _ _ _=>.bl _
theorem xF(ha:VE X a fa ea)(hb:VE X b fb eb):VE X (.Compare a [.LtE] [b] pos) (e2 leI fa fb) []:=iz lA (gL X.K) ha hb (cB _) (iy fun _ _=>rfl)
theorem xG(ha:VE X a fa ea)(hb:VE X b fb eb):VE X (.Compare a [.Gt] [b] pos) (e2 gtI fa fb) []:=iz oT (gL X.K) ha hb (cB _) (iy fun _ _=>rfl)
theorem xH(ha:VE X a fa ea)(hb:VE X b fb eb):VE X (.Compare a [.GtE] [b] pos) (e2 geI fa fb) []:=iz vM (gL X.K) ha hb (cB _) (iy fun _ _=>rfl)
theorem xI(ha:VE X a fa ea)(hb:VE X b fb eb):VT X (.Compare a [.Gt] [b] pos) (eT (e2 gtI fa fb)):=iA oT (gL X.K) ha hb (cB _)
def e3c(g g':D->D->Option D)(a b c:FE):FE:=fun ρ=>(a ρ).bind fun x=>(b ρ).bind fun y=>(g x y).bind fun z=>match z with
  | .bl true=>(c ρ).bind fun w=>g' y w
  | .bl false=>some (.bl false)
  | _=>none
theorem xJ{K:PySem.W.Frag}{r r':R2}{g g':D->D->Option D}(hr:OpV K r g)(hr':OpV K r' g')(hs:∀ x y d,g' x y=some d->b0 d=true){σ:St}{H:Hp}{Q:VK}(h:tv K (e3c g g' fa fb fc) [] σ H Q):
    oX r r' (tv K fa ea) (tv K fb eb) (tv K fc ec) σ H Q:=by
  obtain⟨ρ,d,hE,hf,hQ⟩:=h
  obtain⟨dx,h1,hf⟩:=bind_some hf
  obtain⟨dy,h2,hf⟩:=bind_some hf
  obtain⟨dz,h3,hf⟩:=bind_some hf
  refine⟨ρ,dx,hE,h1,fun x H1 p1=>⟨ρ,dy,hE.mono p1.same,h2,fun y H2 p2=>?_⟩⟩
  have q1:=p1.up p2.same
  have q2:=p2.down p1.same
  refine hr x y H2 dx dy dz _ q1.rep q2.rep h3 fun v H3 e3 r3 _=>?_
  have e03:=q1.same.trans e3
  cases dz with
  | bl k =>
    cases r3
    refine⟨k,rfl,?_⟩
    cases k with
    | false=>cases hf;exact dL (hQ _ H3 ⟨e03,.bl _,fun A _ _=>.bl _⟩)
    | true =>
      obtain⟨dw,h4,hf⟩:=bind_some hf
      refine dM ⟨ρ,dw,hE.mono e03,h4,fun w H4 p4=>?_⟩
      refine hr' y w H4 dy dw d Q (ay (e3.trans p4.same) q2.rep) p4.rep hf fun v' H' e r' _=>hQ v' H' ⟨(e03.trans p4.same).trans e,r',fun A _ _=>io (hs _ _ _ hf) r'⟩
  | _=>cases hf
theorem xK{op op':CmpOp}{r r':R2}{g g':D->D->Option D}(ho:OpR X (compareOp op) r)(ho':OpR X (compareOp op') r')(hr:OpV X.K r g)(hr':OpV X.K r' g')(hs:∀ x y d,g' x y=some d->b0 d=true)(ha:VE X a fa ea)(hb:VE X b fb eb)(hc:VE X c fc ec)(hm:lastMarks [op,op'] [b,c]=false:=by with_unfolding_all rfl):VE X (.Compare a [op,op'] [b,c] pos) (e3c g g' fa fb fc) [] :=
  aI (vO ho ho' ha hb hc hm) fun _ _ _ h=>xJ hr hr' hs h
theorem xL(ha:VE X a fa ea)(hb:VE X b fb eb)(hc:VE X c fc ec)(hm:lastMarks [.LtE,.LtE] [b,c]=false:=by with_unfolding_all rfl):VE X (.Compare a [.LtE,.LtE] [b,c] pos) (e3c leI leI fa fb fc) []:=xK lA lA (gL X.K) (gL X.K) (iy fun _ _=>rfl) ha hb hc hm
def dQ(f:FE):ae->Option Bool:=fun ρ=>(f ρ).bind tru
theorem pX{K:PySem.W.Frag}{H:Hp}{v:V}{d:D}{k:Bool}(r:Rep K H v d)(h:tru d=some k):lB K v H k:=by
  cases r with
  | non=>cases h;rfl
  | bl b=>cases h;rfl
  | int i=>cases h;rfl
  | str x=>cases h
  | lst h1 h2 =>
    cases h
    refine .inl ⟨_,.inl h1,?_⟩
    cases h2 <;> rfl
  | tup h1 h2 =>
    cases h
    refine .inr (.inl ⟨_,.inl h1,?_⟩)
    cases h2 <;> rfl
  | @scr a ns h1 =>
    cases h
    exact .inl ⟨_,h1,by cases ns <;> rfl⟩
  | dct h1=>cases h
  | ptr a=>cases h
theorem xM{f:FE}(h:VE X a f es)(he:∀ whole,isTrue a X.env whole=(do let v <- whole;standAt a.pos;holding [v] (truthy v)):=by intro _;rfl):VT X a (dQ f) :=
  dO (oZ h he) fun σ H Q ⟨ρ,b,hE,hf,hQ⟩=>by
    obtain⟨d,h1,h2⟩:=bind_some hf
    exact⟨ρ,d,hE,h1,fun v H' p=>⟨b,pX p.rep h2,hQ H' p.same⟩⟩
def bOr(f g:ae->Option Bool):ae->Option Bool:=fun ρ=>(f ρ).bind fun b=>if b=true then some true else g ρ
def er(f:ae->Option Bool):ae->Option Bool:=fun ρ=>(f ρ).map (!·)
variable {ta tb:ae->Option Bool} {aq:List Expr}
theorem xN(ha:VT X a ta):VW X (.BoolOp .Or [a] pos) ta:=v8 ha
theorem xO(ha:VT X a ta)(hb:VW X (.BoolOp .Or (b::aq) pos) tb):VW X (.BoolOp .Or (a::b::aq) pos) (bOr ta tb) :=
  pT (vc ha hb) fun σ H Q ⟨ρ,b,hE,hf,hQ⟩=>by
    obtain⟨k,h1,h2⟩:=bind_some hf
    refine⟨ρ,k,hE,h1,fun H1 e1=>?_⟩
    cases k with
    | false=>exact dL ⟨ρ,b,hE.mono e1,h2,fun H2 e2=>hQ H2 (e1.trans e2)⟩
    | true=>cases h2;exact dM (hQ H1 e1)
theorem xP(h:VW X a ta):VT X a ta:=h.pt
theorem xQ(ha:VT X a ta):VT X (.UnaryOp .Not a pos) (er ta) :=
  dO (oz ha) fun σ H Q ⟨ρ,b,hE,hf,hQ⟩=>by
    unfold er at hf
    cases h1:ta ρ with
    | none=>rw[h1] at hf;cases hf
    | some k=>rw[h1] at hf;cases hf;exact⟨ρ,k,hE,h1,hQ⟩
def cg(f g:FE):FE:=fun ρ=>(f ρ).bind fun d=>match d with | .bl true=>g ρ | .bl false=>some (.bl false) | _=>none
def gM(f:FE):FE:=fun ρ=>(f ρ).bind fun d=>match d with | .bl b=>some (.bl (!b)) | _=>none
theorem xR{op}{f:FE}(h:VE X a f es):VE X (.BoolOp op [a] pos) f es:=oA h
theorem xS(ha:VE X a fa ea)(hb:VE X (.BoolOp .And (b::aq) pos) fb eb):VE X (.BoolOp .And (a::b::aq) pos) (cg fa fb) eb :=
  aI (oB ha hb) fun σ H Q ⟨ρ,d,hE,hf,hQ⟩=>by
    obtain⟨k,h1,h2⟩:=bind_some hf
    refine⟨ρ,k,hE,h1,fun x H1 p1=>?_⟩
    cases k with
    | bl b =>
      cases p1.rep
      refine⟨b,rfl,?_⟩
      cases b with
      | true=>exact dM ⟨ρ,d,hE.mono p1.same,h2,fun v H2 p2=>hQ v H2 (p2.down p1.same)⟩
      | false=>cases h2;exact dL (hQ _ H1 ⟨p1.same,.bl _,fun A _ _=>.bl _⟩)
    | _=>cases h2
theorem xT(ha:VE X a fa ea):VE X (.UnaryOp .Not a pos) (gM fa) [] :=
  aI (vg ha) fun σ H Q ⟨ρ,d,hE,hf,hQ⟩=>by
    obtain⟨k,h1,h2⟩:=bind_some hf
    refine⟨ρ,k,hE,h1,fun x H1 p1=>?_⟩
    cases k with
    | bl b =>
      cases p1.rep
      cases h2
      exact⟨b,rfl,hQ _ H1 ⟨p1.same,.bl _,fun A _ _=>.bl _⟩⟩
    | _=>cases h2
def ar:FEs:=fun _=>some []
def ag(f:FE)(g:FEs):FEs:=fun ρ=>(f ρ).bind fun d=>(g ρ).bind fun ds=>some (d::ds)
theorem xU:VA X [] ar []:=jN cC fun σ H Q ⟨ρ,ds,hE,hf,hQ⟩=>by
  cases hf
  exact hQ [] H ⟨Same.refl H,.nil,fun _ _ _=>.nil⟩
theorem xV{xs:List Expr}{fs:FEs}(ha:VE X a fa ea)(hr:VA X xs fs eb)(hs:starEach (a::xs) X.env=(false,eval a X.env)::starEach xs X.env:=by rfl):VA X (a::xs) (ag fa fs) (ea++eb) :=
  jN (cq ha hr hs) fun σ H Q ⟨ρ,ds,hE,hf,hQ⟩=>by
    obtain⟨d,h1,hf⟩:=bind_some hf
    obtain⟨dr,h2,hf⟩:=bind_some hf
    cases hf
    refine⟨ρ,d,hE,h1,fun v H1 p1=>⟨ρ,dr,hE.mono p1.same,h2,fun vs H2 p2=>hQ _ H2 ⟨p1.same.trans p2.same,.cons (ay p2.same p1.rep) p2.rep,fun A hA hz=>?_⟩⟩⟩
    exact .cons (ay (bD p2.same) (p1.av A hA fun z q=>hz z (List.mem_append_left _ q))) (p2.av A (hA.mono p1.same) fun z q=>(hz z (List.mem_append_right _ q)).mono p1.same)
def ci(f:FEs):FE:=fun ρ=>(f ρ).bind fun ds=>if ds.length<=1000 then some (.lst ds) else none
def iB(f:FEs):FE:=fun ρ=>(f ρ).bind fun ds=>if ds.length<=1000 then some (.tup ds) else none
theorem iC{n:Nat}(h:n<=1000):n<=sizeLine:=Nat.le_of_lt (wS h)
theorem ca{α:Type}{c:Prop}[Decidable c]{a b:α}(h:(if c then some a else none)=some b):c/\a=b:=by
  by_cases q:c
  · rw[if_pos q] at h;exact⟨q,Option.some.inj h⟩
  · rw[if_neg q] at h;cases h
theorem xW{xs:List Expr}{fs:FEs}(h:VA X xs fs es):VF X (.List xs pos) (ci fs) es :=
  aI (jF h) fun σ H Q ⟨ρ,d,hE,hf,hQ⟩=>by
    obtain⟨ds,h1,hf⟩:=bind_some hf
    obtain⟨hl,rfl⟩:=ca hf
    refine⟨ρ,ds,hE,h1,fun vs H1 p=>⟨by rw[p.rep.length];exact iC hl,fun l hl1=>hQ _ _ ⟨p.same.trans (bh hl1 _),⟨l,vs,ds,rfl,rfl,p.same.free hl1,b9,fun A hA hz=>?_⟩⟩⟩⟩
    refine aH (fun b o q=>?_) (p.av A hA hz)
    obtain⟨n,q⟩:=cw q
    have ne:b ≠ l:=bQ q hl1
    rw[bg (fun z=>z.elim n ne),aC ne]
    exact q
theorem xX{xs:List Expr}{fs:FEs}{x1}(h:VA X xs fs es):VE X (.Tuple xs x1 pos) (iB fs) es :=
  aI (pe h) fun σ H Q ⟨ρ,d,hE,hf,hQ⟩=>by
    obtain⟨ds,h1,hf⟩:=bind_some hf
    obtain⟨hl,rfl⟩:=ca hf
    refine⟨ρ,ds,hE,h1,fun vs H1 p=>⟨by rw[p.rep.length];exact iC hl,fun l hl1=>hQ _ _ ⟨p.same.trans (bh hl1 _),.tup (.inl b9) (aH (bh hl1 _) p.rep),fun A hA hz=>?_⟩⟩⟩
    have hA1:=hA.mono p.same
    refine .tup (.inl ?_) (aH (bD (bh hl1 _)) (p.av A hA hz))
    rw[bg (hA1.not_new hl1)]
    exact b9
end
end VL
namespace VL
open PySem PySem.Spec PyProof.Rows L2
structure PostB (K:PySem.W.Frag) (σ:St) (ρ:ae) (H:Hp) (es:List Es) (d:D) (v:V) (H':Hp):Prop where
  same:Same H H'
  rep:Rep K H' v d
  av:∀ A,Dom H A->(∀ e ∈ es,Av K H σ ρ A e)->ElR K H' A v d
def tvB(K:PySem.W.Frag)(f:FE)(es:List Es):TE:=fun σ H Q=>∃ ρ d,EnvR K H σ ρ/\f ρ=some d/\∀ v H',PostB K σ ρ H es d v H'->Q v H'
abbrev VB(X:Cx)(e:Expr)(f:FE)(es:List Es):Prop:=PE X e (tvB X.K f es)
theorem PostB.up{K:PySem.W.Frag}{σ:St}{ρ:ae}{H H1 H2:Hp}{es:List Es}{d:D}{v:V}(h:PostB K σ ρ H es d v H1)(e:Same H1 H2):PostB K σ ρ H es d v H2 :=
  ⟨h.same.trans e,ay e h.rep,fun A hA ha=>(h.av A hA ha).mono e⟩
theorem PostB.down{K:PySem.W.Frag}{σ:St}{ρ:ae}{H H1 H2:Hp}{es:List Es}{d:D}{v:V}(h:PostB K σ ρ H1 es d v H2)(e:Same H H1):PostB K σ ρ H es d v H2 :=
  ⟨e.trans h.same,h.rep,fun A hA ha=>h.av A (hA.mono e) fun x hx=>(ha x hx).mono e⟩
section
variable {X:Cx} {a b c:Expr} {es ea eb ec:List Es} {fa fb fc:FE} {pos p2:Pos}
theorem VE.vb(h:VE X a fa es):VB X a fa es:=aI h fun σ H Q ⟨ρ,d,hE,hf,hQ⟩=>⟨ρ,d,hE,hf,fun v H' p=>hQ v H' ⟨p.same,p.rep,fun A hA ha=>(p.av A hA ha).el⟩⟩
theorem xY(i:Nat){x:Str}{pos:Pos}(hN:X.N[i]?=some x:=by rfl)(hv:Vis X.env.scope x:=by first | exact Or.inl rfl | exact Or.inr (Or.inl rfl) | exact Or.inr (Or.inr rfl))(hd:(x == ("__debug__" : Str))=false:=by decide)(hcd:(x == ("__classdict__" : Str))=false:=by decide):VB X (.Name x pos) (aa i) [.el i] :=
  aI (fw hN hv hd hcd) fun σ H Q ⟨ρ,d,hE,hf,hQ⟩=>by
    have h:=fE hf
    obtain⟨v,hv,r⟩:=hE i d h
    exact⟨v,hv,hQ v H ⟨Same.refl H,r,fun A _ av=>av (.el i) (List.mem_singleton.mpr rfl) v d hv h⟩⟩
def items:D->Option (List D)
  | .lst ds=>some ds
  | .tup ds=>some ds
  | .scr ns=>some (ns.map .int)
  | _=>none
theorem jR{K:PySem.W.Frag}{H:Hp}{v:V}{d:D}{ds:List D}(r:Rep K H v d)(h:items d=some ds):∃ p xs,v=V.ref p/\(SqL K H p xs\/SqT K H p xs)/\Reps K H xs ds/\∀ A,ElR K H A v d->Reps K (ao H A) xs ds:=by
  cases r with
  | @lst p xs ds' h1 h2 =>
    cases h
    refine⟨p,xs,rfl,.inl (.inl h1),h2,fun A e=>?_⟩
    rcases e with (e | ⟨_,e⟩) | ⟨q,ys,es',e,⟨e1,e2⟩ | ⟨e1,e2⟩,e3⟩
    · cases e
    · cases e
    · cases e;cases e1;rw[fD h1 e2];exact e3
    · cases e1
  | @tup p xs ds' h1 h2 =>
    cases h
    refine⟨p,xs,rfl,.inr (.inl h1),h2,fun A e=>?_⟩
    rcases e with (e | ⟨_,e⟩) | ⟨q,ys,es',e,⟨e1,e2⟩ | ⟨e1,e2⟩,e3⟩
    · cases e
    · cases e
    · cases e1
    · cases e;cases e1;rw[jM h1 e2];exact e3
  | @scr p ns h1=>cases h;exact⟨p,_,rfl,.inl h1,Reps.ints ns,fun A _=>Reps.ints ns⟩
  | _=>cases h
def cr:D->Bool
  | .tup _=>true
  | _=>false
theorem dR{K:PySem.W.Frag}{H:Hp}{v:V}{d:D}{ds:List D}(r:Rep K H v d)(h:items d=some ds)(n:cr d=false):∃ p xs,v=V.ref p/\SqL K H p xs/\Reps K H xs ds/\∀ A,ElR K H A v d->Reps K (ao H A) xs ds:=by
  cases r with
  | @lst p xs ds' h1 h2 =>
    cases h
    refine⟨p,xs,rfl,.inl h1,h2,fun A e=>?_⟩
    rcases e with (e | ⟨_,e⟩) | ⟨q,ys,es',e,⟨e1,e2⟩ | ⟨e1,e2⟩,e3⟩
    · cases e
    · cases e
    · cases e;cases e1;rw[fD h1 e2];exact e3
    · cases e1
  | @scr p ns h1=>cases h;exact⟨p,_,rfl,h1,Reps.ints ns,fun A _=>Reps.ints ns⟩
  | tup _ _=>cases n
  | _=>cases h
theorem lT{K:PySem.W.Frag}{H:Hp}{v:V}{ds:List D}(r:Rep K H v (.lst ds)):∃ p xs,v=V.ref p/\Rd H p (.lst xs)/\Reps K H xs ds/\∀ A,ElR K H A v (.lst ds)->Reps K (ao H A) xs ds:=by
  cases r with
  | @lst p xs _ h1 h2 =>
    refine⟨p,xs,rfl,h1,h2,fun A e=>?_⟩
    rcases e with (e | ⟨_,e⟩) | ⟨q,ys,es',e,⟨e1,e2⟩ | ⟨e1,e2⟩,e3⟩
    · cases e
    · cases e
    · cases e;cases e1;rw[fD h1 e2];exact e3
    · cases e1
def ixD:D->D->Option D
  | x,.int i=>(items x).bind fun ds=>atI ds i
  | _,_=>none
theorem jS{K:PySem.W.Frag}{H:Hp}{xs:List V}{ds:List D}{i:Int}{d:D}(r:Reps K H xs ds)(h:atI ds i=some d):∃ v,atI xs i=some v/\Rep K H v d:=by
  unfold atI at h ⊢
  rw[r.length]
  obtain⟨j,h1,h2⟩:=bind_some h
  obtain⟨v,h3,h4⟩:=r.get h2
  exact⟨v,by rw[h1];exact h3,h4⟩
theorem xZ(ha:VB X a fa ea)(hb:VE X b fb eb)(hs:fC b):VE X (.Subscript a b pos) (e2 ixD fa fb) ea :=
  aI (lH (ix_list.or lI) ha hb hs) fun σ H Q ⟨ρ,d,hE,hf,hQ⟩=>by
    obtain⟨dx,h1,hf⟩:=bind_some hf
    obtain⟨dy,h2,hf⟩:=bind_some hf
    refine⟨ρ,dx,hE,h1,fun x H1 p1=>⟨ρ,dy,hE.mono p1.same,h2,fun y H2 p2=>?_⟩⟩
    have q1:=p1.up p2.same
    cases dy with
    | int i =>
      cases p2.rep
      obtain⟨ds,h3,h4⟩:=bind_some hf
      obtain⟨p,xs,rfl,hp,hx,hA⟩:=jR q1.rep h3
      obtain⟨v,h5,h6⟩:=jS hx h4
      have fin:Q v H2:=hQ v H2 ⟨q1.same,h6,fun A hD hz=>by
        obtain⟨v',h7,h8⟩:=jS (hA A (q1.av A hD hz)) h4
        rw[h5] at h7;cases h7;exact h8⟩
      rcases hp with hp | hp
      · exact .inl ⟨p,xs,i,v,rfl,rfl,hp,h5,fin⟩
      · exact .inr ⟨p,xs,i,v,rfl,rfl,hp,h5,fin⟩
    | _=>cases hf
theorem fF{K:PySem.W.Frag}{σ:St}{ρ:ae}{H H1:Hp}{es:List Es}{xs:List V}{ds:List D}{l:Addr}(e:Same H H1)(hl:H1 l=none)(h:∀ A,Dom H A->(∀ z ∈ es,Av K H σ ρ A z)->Reps K (ao H1 A) xs ds):PostF K σ ρ H es (.lst ds) (.ref l) (upd H1 l (.lst xs)):=by
  refine⟨e.trans (bh hl _),⟨l,xs,ds,rfl,rfl,e.free hl,b9,fun A hA hz=>?_⟩⟩
  refine aH (fun b o q=>?_) (h A hA hz)
  obtain⟨n,q⟩:=cw q
  have ne:b ≠ l:=bQ q hl
  rw[bg (fun z=>z.elim n ne),aC ne]
  exact q
def cX{α:Type}(xs:List α)(lo hi:Option Int):List α:=(xs.drop (HT.sIx xs.length 0 lo)).take (HT.sIx xs.length xs.length hi - HT.sIx xs.length 0 lo)
theorem pY{K:PySem.W.Frag}{H:Hp}{xs:List V}{ds:List D}(r:Reps K H xs ds)(lo hi:Option Int):Reps K H (gE xs lo hi) (cX ds lo hi):=by
  unfold gE cX
  rw[r.length]
  exact (r.drop _).take _
abbrev FO:=ae->Option (Option Int)
def tvO(K:PySem.W.Frag)(f:FO):TO:=fun σ H Q=>∃ ρ o,EnvR K H σ ρ/\f ρ=some o/\∀ H',Same H H'->Q o H'
abbrev VO(X:Cx)(e:Option Expr)(f:FO):Prop:=PO X e (tvO X.K f)
theorem ya{e:Option Expr}{t t':TO}(h:PO X e t)(i:∀ σ H Q,t' σ H Q->t σ H Q):PO X e t':=fun pins s σ H Q I q=>h pins s σ H Q I (i σ H Q q)
def gN(f:FE):FO:=fun ρ=>(f ρ).bind fun d=>match d with | .int i=>some (some i) | _=>none
theorem yb(h:VE X a fa ea):VO X (some a) (gN fa):=ya (pz h) fun σ H Q ⟨ρ,o,hE,hf,hQ⟩=>by
  obtain⟨d,h1,hf⟩:=bind_some hf
  refine⟨ρ,d,hE,h1,fun v H' p=>?_⟩
  cases d <;> simp only at hf <;> cases hf
  cases p.rep
  exact⟨_,rfl,hQ H' p.same⟩
def eSl(fa:FE)(lo hi:FO):FE:=fun ρ=>(fa ρ).bind fun x=>(lo ρ).bind fun l=>(hi ρ).bind fun h=>if cr x=true then none else (items x).bind fun ds=>some (.lst (cX ds l h))
theorem yc{lo hi:Option Expr}{flo fhi:FO}(ha:VB X a fa ea)(hl:VO X lo flo)(hh:VO X hi fhi):VF X (.Subscript a (.Slice lo hi none p2) pos) (eSl fa flo fhi) ea :=
  aI (pA pE ha hl hh) fun σ H Q ⟨ρ,d,hE,hf,hQ⟩=>by
    obtain⟨dx,h1,hf⟩:=bind_some hf
    obtain⟨l,h2,hf⟩:=bind_some hf
    obtain⟨h,h3,hf⟩:=bind_some hf
    refine⟨ρ,dx,hE,h1,fun x H1 p1=>⟨ρ,l,hE.mono p1.same,h2,fun H2 e2=>⟨ρ,h,hE.mono (p1.same.trans e2),h3,fun H3 e3=>?_⟩⟩⟩
    have q:=p1.up (e2.trans e3)
    cases ht:cr dx with
    | true=>rw[if_pos ht] at hf;cases hf
    | false =>
      rw[if_neg (by rw[ht];exact Bool.false_ne_true)] at hf
      obtain⟨ds,h4,hf⟩:=bind_some hf
      cases hf
      obtain⟨p,xs,rfl,hp,hx,hA⟩:=dR q.rep h4 ht
      exact⟨p,xs,rfl,hp,fun r hr=>hQ _ _ (fF q.same hr fun A hD hz=>pY (hA A (q.av A hD hz)) l h)⟩
def yd:R2:=fun x y H Q=>∃ l b xs zs,x=.ref l/\y=.ref b/\Rd H l (.lst xs)/\Rd H b (.lst zs)/\xs.length+zs.length<=sizeLine/\∀ p,H p=none->Q (.ref p) (upd H p (.lst (xs++zs)))
theorem pZ{pins:List (Addr × Obj)}{σ:St}{H:Hp}{s:Shared}{l:Addr}{xs:List V}(I:Inv X pins σ H s)(h:Rd H l (.lst xs)):xs.length<=sizeLine/\∃ (its:List Value) (n:Nat),Vals xs its/\xs.length=its.length/\s.heap.get? l=some { cls:=.type "list",data:=.seq its.toArray n }:=by
  obtain⟨z,its,n,r,e⟩:=h.ok I.hok
  exact⟨z,its,n,r,r.length,e⟩
theorem ye:OpR X (binaryOp .Add) yd:=by
  intro pins s σ H x y v u Q I rx ry h
  obtain⟨l,b,xs,zs,rfl,rfl,hH,hB,hz,q⟩:=h
  cases rx
  cases ry
  obtain⟨z,its,n,r,hl,e⟩:=pZ I hH
  obtain⟨z2,its2,n2,r2,hl2,e2⟩:=pZ I hB
  refine PySem.P.add_list e e2 ?_ (by rw[List.size_toArray,List.size_toArray];omega)
  have ea:its.toArray++its2.toArray=(its++its2).toArray:=by simp
  rw[ea]
  exact⟨.ref _,_,I.lnew (t':=s.toks) (r.append r2) (by rw[List.length_append];omega),rfl,q _ I.fresh⟩
def eu:D->D->Option D
  | .lst xs,.lst ys=>if xs.length+ys.length<=100000 then some (.lst (xs++ys)) else none
  | _,_=>none
theorem q5{n:Nat}(h:n<=100000):n<=sizeLine:=Nat.le_trans h (by decide)
theorem yf(ha:VB X a fa ea)(hb:VB X b fb eb):VF X (.BinOp a .Add b pos) (e2 eu fa fb) (ea++eb) :=
  aI (jD ye ha hb) fun σ H Q ⟨ρ,d,hE,hf,hQ⟩=>by
    obtain⟨dx,h1,hf⟩:=bind_some hf
    obtain⟨dy,h2,hf⟩:=bind_some hf
    refine⟨ρ,dx,hE,h1,fun x H1 p1=>⟨ρ,dy,hE.mono p1.same,h2,fun y H2 p2=>?_⟩⟩
    have q1:=p1.up p2.same
    have q2:=p2.down p1.same
    cases dx with
    | lst ds =>
      cases dy with
      | lst es' =>
        obtain⟨hl,rfl⟩:=ca hf
        obtain⟨p,xs,rfl,hp,hx,hA⟩:=lT q1.rep
        obtain⟨p',ys,rfl,hp',hy,hA'⟩:=lT q2.rep
        refine⟨p,p',xs,ys,rfl,rfl,hp,hp',by rw[hx.length,hy.length];exact q5 hl,fun r hr=>hQ _ _ (fF q1.same hr fun A hD hz=>?_)⟩
        exact (hA A (q1.av A hD fun z w=>hz z (List.mem_append_left _ w))).append (hA' A (q2.av A hD fun z w=>hz z (List.mem_append_right _ w)))
      | _=>cases hf
    | _=>cases hf
def iD:D->D->Option D
  | .lst xs,.int k=>if xs.length * k.toNat<=100000/\k < 100000/\-100000 < k then some (.lst (List.replicate k.toNat xs).flatten) else none
  | _,_=>none
theorem yg(ha:VF X a fa ea)(hb:VE X b fb eb):VF X (.BinOp a .Mult b pos) (e2 iD fa fb) ea :=
  aI (jD wN ha hb) fun σ H Q ⟨ρ,d,hE,hf,hQ⟩=>by
    obtain⟨dx,h1,hf⟩:=bind_some hf
    obtain⟨dy,h2,hf⟩:=bind_some hf
    refine⟨ρ,dx,hE,h1,fun x H1 p1=>⟨ρ,dy,hE.mono p1.same,h2,fun y H2 p2=>?_⟩⟩
    obtain⟨l,xs,ds,rfl,rfl,hl0,hl1,hA⟩:=p1.new
    cases dy with
    | int k =>
      cases p2.rep
      obtain⟨⟨hl,hk1,hk2⟩,rfl⟩:=ca hf
      have hx:Reps X.K H1 xs ds:=aH (aM _ _) (hA cV (Dom.none H) fun e _=>Av.none hE e)
      refine⟨l,k,xs,rfl,rfl,p2.same _ _ hl1,by omega,by omega,by rw[hx.length];exact q5 hl,fun r hr=>hQ _ _ (fF (p1.same.trans p2.same) hr fun A hD hz=>?_)⟩
      exact (aH (bU p2.same fun _ q=>.inl q) (hA A hD hz)).rep k.toNat
    | _=>cases hf
def bz:D->Option D:=fun d=>(items d).bind fun ds=>some (.int ds.length)
def aL(g:D->Option D):List D->Option D
  | [x]=>g x
  | _=>none
def cM(g:D->D->Option D):List D->Option D
  | [x,y]=>g x y
  | _=>none
def eA(f:List D->Option D)(as:FEs):FE:=fun ρ=>(as ρ).bind f
def fG(K:PySem.W.Frag)(r:List V->Hp->VK->Prop)(g:List D->Option D):Prop :=
  ∀ (xs:List V) (H:Hp) (ds:List D) (d:D) (Q:VK),Reps K H xs ds->g ds=some d->(∀ v,(∀ H',Rep K H' v d)->Q v H)->r xs H Q
theorem iE{x:Str}{p:Pos}{id:String}{r:List V->Hp->VK->Prop}{g:List D->Option D}{xs:List Expr}{as:FEs}(hc:CallR X (.builtin id) r)(hv:fG X.K r g)(hm:X.mg x=none)(hb:bootBuiltins x=some (.builtin id))(ha:VA X (a::xs) as es)(hg:Gl X x:=by rfl)(hn:x ≠ "__name__":=by decide)(hdb:(x == ("__debug__" : Str))=false:=by decide)(he:starEach (a::xs) X.env=(false,eval a X.env)::starEach xs X.env:=by rfl)(hpl:(backTo pos (starEach xs X.env)).any (·.1)=false:=by rfl):
    VE X (.Call (.Name x p) (a::xs) [] pos) (eA g as) [] :=
  aI (lG hc hg hm hb ha hn hdb he hpl) fun σ H Q ⟨ρ,d,hE,hf,hQ⟩=>by
    obtain⟨ds,h1,hf⟩:=bind_some hf
    exact⟨ρ,ds,hE,h1,fun vs H1 p=>hv vs H1 ds d Q p.rep hf fun v hr=>hQ v H1 ⟨p.same,hr _,fun A _ _=>hr _⟩⟩
theorem ez{K:PySem.W.Frag}{H:Hp}{vs:List V}{d:D}(h:Reps K H vs [d]):∃ v,vs=[v]/\Rep K H v d:=by
  cases h with
  | cons h1 h2=>cases h2;exact⟨_,rfl,h1⟩
theorem lU{K:PySem.W.Frag}{H:Hp}{vs:List V}{d e:D}(h:Reps K H vs [d,e]):∃ v w,vs=[v,w]/\Rep K H v d/\Rep K H w e:=by
  cases h with
  | cons h1 h2 =>
    cases h2 with
    | cons h3 h4=>cases h4;exact⟨_,_,rfl,h1,h3⟩
theorem jT{g:D->Option D}{ds:List D}{d:D}(h:aL g ds=some d):∃ x,ds=[x]/\g x=some d:=by
  match ds,h with
  | [x],h=>exact⟨x,rfl,h⟩
theorem q9{g:D->D->Option D}{ds:List D}{d:D}(h:cM g ds=some d):∃ x y,ds=[x,y]/\g x y=some d:=by
  match ds,h with
  | [x,y],h=>exact⟨x,y,rfl,h⟩
theorem qa:fG X.K (fun xs H Q=>∃ p ys,xs=[.ref p]/\(SqL X.K H p ys\/SqT X.K H p ys)/\Q (.int ys.length) H) (aL bz):=by
  intro xs H ds d Q r hg hQ
  obtain⟨x,rfl,hg1⟩:=jT hg
  obtain⟨v,rfl,r1⟩:=ez r
  obtain⟨es,h1,hg2⟩:=bind_some hg1
  cases hg2
  obtain⟨p,ys,rfl,hp,hx,_⟩:=jR r1 h1
  exact⟨p,ys,rfl,hp,hQ _ fun H'=>by rw[hx.length];exact .int _⟩
theorem yh{p:Pos}{as:FEs}(ml:X.mg "len" = none)(ha:VA X [a] as es)(hg:Gl X "len":=by rfl)(he:starEach [a] X.env=(false,eval a X.env)::starEach [] X.env:=by rfl)(hpl:(backTo pos (starEach [] X.env)).any (·.1)=false:=by rfl):
    VE X (.Call (.Name "len" p) [a] [] pos) (eA (aL bz) as) []:=iE pF qa ml PySem.boot_len ha hg (by decide) (by decide) he hpl
def dS:D->Option D:=fun d=>(items d).bind fun ds=>some (.lst ds)
theorem yi{p:Pos}(ml:X.mg "list" = none)(ha:VB X a fa ea)(hg:Gl X "list":=by rfl)(he:starEach [a] X.env=(false,eval a X.env)::starEach [] X.env:=by rfl)(hpl:(backTo pos (starEach [] X.env)).any (·.1)=false:=by rfl):
    VF X (.Call (.Name "list" p) [a] [] pos) (e1 dS fa) ea :=
  aI (py pG hg ml (by decide +kernel) (cq ha cC he) (by decide) (by decide) he hpl) fun σ H Q ⟨ρ,d,hE,hf,hQ⟩=>by
    obtain⟨dx,h1,hf⟩:=bind_some hf
    obtain⟨ds,h2,hf⟩:=bind_some hf
    cases hf
    refine⟨ρ,dx,hE,h1,fun x H1 p1=>?_⟩
    obtain⟨p,xs,rfl,hp,hx,hA⟩:=jR p1.rep h2
    exact⟨p,xs,rfl,hp,fun l hl=>hQ _ _ (fF p1.same hl fun A hD hz=>hA A (p1.av A hD hz))⟩
def fH:List D->Option (List Int)
  | []=>some []
  | .int i::r=>(fH r).map (i::·)
  | _::_=>none
theorem qb:∀ {ds:List D} {ns:List Int},fH ds=some ns->ds=ns.map D.int
  | [],ns,h=>by cases h;rfl
  | .int i::r,ns,h=>by
    simp only[fH] at h
    cases e:fH r with
    | none=>rw[e] at h;cases h
    | some ms=>rw[e] at h;cases h;rw[qb e];rfl
  | .non::_,_,h=>by cases h
  | .bl _::_,_,h=>by cases h
  | .str _::_,_,h=>by cases h
  | .lst _::_,_,h=>by cases h
  | .tup _::_,_,h=>by cases h
  | .scr _::_,_,h=>by cases h
theorem qc{K:PySem.W.Frag}{H:Hp}:∀ {ns:List Int} {xs:List V},Reps K H xs (ns.map D.int)->xs=ns.map V.int
  | [],xs,h=>by cases h;rfl
  | n::ns,xs,h=>by
    cases h with
    | cons h1 h2=>cases h1;rw[qc h2];rfl
theorem qd(hc:X.calm=true):CallR X (.builtin "sum") (fun xs H Q=>∃ (p:Addr) (ns:List Int),xs=[.ref p]/\SqL X.K H p (ns.map V.int)/\Q (.int ns.sum) H):=by
  intro pins s σ H xs us Q I r h
  obtain⟨p,ns,rfl,hp,q⟩:=h
  obtain⟨u,rfl,ru⟩:=eo r
  cases ru
  obtain⟨its,rv,pl,hz⟩:=I.list hp
  have hi:=wu rv
  obtain⟨ys,e⟩:=hi.allInts.items
  have hl:=pl.isList
  rw[e] at hl
  refine sum_intListG (I.ok.hd hc) hl fun h' tk t' hk=>?_
  have e2:preSum (numAt ys) ys.size=ns.sum:=by
    rw[preSum_eq,List.take_of_length_le (by simp),<- hi.numsOf]
    rw[show its=its.toArray.toList from rfl,e,nums_intItems]
  rw[e2]
  exact⟨.int ns.sum,H,I.kept (t':=tk) hk,⟨_,rfl⟩,q⟩
def cN:D->Option D:=fun d=>if cr d=true then none else (items d).bind fun ds=>(fH ds).bind fun ns=>some (.int ns.sum)
theorem qe:fG X.K (fun xs H Q=>∃ (p:Addr) (ns:List Int),xs=[.ref p]/\SqL X.K H p (ns.map V.int)/\Q (.int ns.sum) H) (aL cN):=by
  intro xs H ds d Q r hg hQ
  obtain⟨x,rfl,hg1⟩:=jT hg
  obtain⟨v,rfl,r1⟩:=ez r
  unfold cN at hg1
  cases ht:cr x with
  | true=>rw[if_pos ht] at hg1;cases hg1
  | false =>
    rw[if_neg (by rw[ht];exact Bool.false_ne_true)] at hg1
    obtain⟨es,h1,hg2⟩:=bind_some hg1
    obtain⟨ns,h2,hg3⟩:=bind_some hg2
    cases hg3
    obtain⟨p,ys,rfl,hp,hx,_⟩:=dR r1 h1 ht
    rw[qb h2] at hx
    rw[qc hx] at hp
    exact⟨p,ns,rfl,hp,hQ _ fun H'=>.int _⟩
theorem yj{p:Pos}{as:FEs}(hc:X.calm=true)(ml:X.mg "sum" = none)(ha:VA X [a] as es)(hg:Gl X "sum":=by rfl)(he:starEach [a] X.env=(false,eval a X.env)::starEach [] X.env:=by rfl)(hpl:(backTo pos (starEach [] X.env)).any (·.1)=false:=by rfl):
    VE X (.Call (.Name "sum" p) [a] [] pos) (eA (aL cN) as) []:=iE (qd hc) qe ml PyProof.Rows.boot_sum ha hg (by decide) (by decide) he hpl
def fI:D->D->Option D
  | .int i,.int j=>some (.int (if j > i then j else i))
  | _,_=>none
def fJ:D->D->Option D
  | .int i,.int j=>some (.int (if j < i then j else i))
  | _,_=>none
theorem yk:fG X.K (fun xs H Q=>∃ i j,xs=[.int i,.int j]/\Q (.int (if j > i then j else i)) H) (cM fI):=by
  intro xs H ds d Q r hg hQ
  obtain⟨x,y,rfl,hg1⟩:=q9 hg
  obtain⟨v,w,rfl,r1,r2⟩:=lU r
  clear hg r
  cases r1 <;> cases r2 <;> simp only[fI] at hg1 <;> cases hg1
  exact⟨_,_,rfl,hQ _ fun H'=>.int _⟩
theorem yl:fG X.K (fun xs H Q=>∃ i j,xs=[.int i,.int j]/\Q (.int (if j < i then j else i)) H) (cM fJ):=by
  intro xs H ds d Q r hg hQ
  obtain⟨x,y,rfl,hg1⟩:=q9 hg
  obtain⟨v,w,rfl,r1,r2⟩:=lU r
  clear hg r
  cases r1 <;> cases r2 <;> simp only[fJ] at hg1 <;> cases hg1
  exact⟨_,_,rfl,hQ _ fun H'=>.int _⟩
theorem ym{p:Pos}{as:FEs}(hc:X.calm=true)(ml:X.mg "max" = none)(ha:VA X [a,b] as es)(hg:Gl X "max":=by rfl)(he:starEach [a,b] X.env=(false,eval a X.env)::starEach [b] X.env:=by rfl)(hpl:(backTo pos (starEach [b] X.env)).any (·.1)=false:=by rfl):
    VE X (.Call (.Name "max" p) [a,b] [] pos) (eA (cM fI) as) []:=iE (vR hc) yk ml PyProof.Rows.boot_max ha hg (by decide) (by decide) he hpl
theorem yn{p:Pos}{as:FEs}(hc:X.calm=true)(ml:X.mg "min" = none)(ha:VA X [a,b] as es)(hg:Gl X "min":=by rfl)(he:starEach [a,b] X.env=(false,eval a X.env)::starEach [b] X.env:=by rfl)(hpl:(backTo pos (starEach [b] X.env)).any (·.1)=false:=by rfl):
    VE X (.Call (.Name "min" p) [a,b] [] pos) (eA (cM fJ) as) []:=iE (vS hc) yl ml PyProof.Rows.boot_min ha hg (by decide) (by decide) he hpl
def tyD:D->String
  | .non=>"NoneType" | .bl _=>"bool" | .int _=>"int" | .str _=>"str" | .lst _=>"list" | .tup _=>"tuple" | .scr _=>"list" | .dct _ _=>"dict" | .ptr _=>"list"
def eB(T:String)(t:String):Bool:=t == T || (T == "int" && t == "bool")
end
end VL
namespace VL
open PySem PySem.Spec PyProof.Rows L2
inductive Out where
  | nx (ρ:ae)
  | rt (d:D)
  | bk (ρ:ae)
  | ct (ρ:ae)
abbrev FS:=ae->Option Out
def yo(σ:St)(O:List Nat):Addr->Prop:=fun a=>∃ i ∈ O,σ[i]?=some (some (V.ref a))
structure Fr0 where
  H0:Hp
  PA:(Addr->Prop)->Prop
  n:Nat
  dom:∀ A,PA A->Dom H0 A
  none:PA cV
structure Hd where
  P:Hp->Prop
  up:∀ H H',Same H H'->P H->P H'
def HdOk(K:PySem.W.Frag)(H:Hp)(p:Hd):Prop:=p.P H
theorem HdOk.mono{K:PySem.W.Frag}{H H':Hp}{p:Hd}(e:Same H H')(h:HdOk K H p):HdOk K H' p:=p.up H H' e h
def hdL(K:PySem.W.Frag)(q:Addr)(xs:List V)(ds:List D):Hd:=⟨fun H=>SqL K H q xs/\Reps K H xs ds,fun _ _ e h=>⟨e.seq h.1,aH e h.2⟩⟩
def hdD(q:Addr)(o:Obj)(kvs:List (Int × Int)):Hd:=⟨fun H=>H q=some (.frz o (.dK (im kvs))),fun _ _ e h=>e _ _ h⟩
def OwnC(K:PySem.W.Frag)(H:Hp)(o:HO)(d:D):Prop:=(∃ xs ds,o=.lst xs/\d=.lst ds/\Reps K H xs ds)\/∃ kvs,o=.dK (im kvs)/\d=.dct false kvs
theorem OwnC.mono{K:PySem.W.Frag}{H H':Hp}{o:HO}{d:D}(e:Same H H')(h:OwnC K H o d):OwnC K H' o d:=by
  rcases h with⟨xs,ds,h1,h2,h3⟩ | h
  · exact .inl ⟨xs,ds,h1,h2,aH e h3⟩
  · exact .inr h
theorem OwnC.rep{K:PySem.W.Frag}{H H':Hp}{a:Addr}{o:HO}{d:D}(ha:H a=some o)(h:OwnC K H' o d)(e:Same H' H):Rep K H (.ref a) d:=by
  rcases h with⟨xs,ds,rfl,rfl,h3⟩ | ⟨kvs,rfl,rfl⟩
  · exact .lst (.inl ha) (aH e h3)
  · exact .dct (.inr ⟨rfl,ha⟩)
theorem OwnC.el{K:PySem.W.Frag}{H:Hp}{A:Addr->Prop}{a:Addr}{o:HO}{d:D}(ha:H a=some o)(h:OwnC K (ao H A) o d):ElR K H A (.ref a) d:=by
  rcases h with⟨xs,ds,rfl,rfl,h3⟩ | ⟨kvs,rfl,rfl⟩
  · exact .inr ⟨a,xs,ds,rfl,.inl ⟨rfl,.inl ha⟩,h3⟩
  · exact .inl (.inr ⟨_,rfl⟩)
def Off(σ:St)(O:List Nat)(A:Addr->Prop):Addr->Prop:=fun b=>yo σ O b\/A b
structure EnvO (K:PySem.W.Frag) (F:Fr0) (held:List Hd) (O:List Nat) (σ:St) (ρ:ae) (H:Hp):Prop where
  same:Same F.H0 H
  lσ:σ.length=F.n
  lρ:ρ.length=F.n
  val:∀ i d,ρ[i]?=some (some d)->i ∉ O->∃ v,σ[i]?=some (some v)/\∀ A,F.PA A->Rep K (ao H (Off σ O A)) v d
  hld:∀ p ∈ held,∀ A,F.PA A->HdOk K (ao H (Off σ O A)) p
  own:∀ i ∈ O,∃ a o d,σ[i]?=some (some (V.ref a))/\ρ[i]?=some (some d)/\H a=some o/\F.H0 a=Option.none/\∀ A,F.PA A->OwnC K (ao H (Off σ O A)) o d
  inj:∀ i ∈ O,∀ j ∈ O,∀ a,σ[i]?=some (some (V.ref a))->σ[j]?=some (some (V.ref a))->i=j
section
variable {K:PySem.W.Frag} {F:Fr0} {held:List Hd} {O O':List Nat} {σ:St} {ρ:ae} {H H':Hp}
theorem EnvO.envR(h:EnvO K F held O σ ρ H):EnvR K H σ ρ:=fun i d e=>by
  by_cases hi:i ∈ O
  · obtain⟨a,xs,ds,h1,h2,h3,_,h5⟩:=h.own i hi
    rw[h2] at e;cases e
    exact⟨_,h1,(h5 _ F.none).rep h3 (aM _ _)⟩
  · obtain⟨v,h1,h2⟩:=h.val i d e hi
    exact⟨v,h1,ay (aM _ _) (h2 _ F.none)⟩
theorem iF(hs:∀ i ∈ O',i ∈ O){A:Addr->Prop}:∀ b,Off σ O' A b->Off σ O A b:=fun b h=>by
  rcases h with⟨i,hi,e⟩ | h
  · exact .inl ⟨i,hs i hi,e⟩
  · exact .inr h
theorem EnvO.weaken(h:EnvO K F held O σ ρ H)(hs:∀ i ∈ O',i ∈ O):EnvO K F held O' σ ρ H:=by
  have up:∀ {A:Addr->Prop},Same (ao H (Off σ O A)) (ao H (Off σ O' A)):=bU (fun _ _ q=>q) (iF hs)
  refine⟨h.same,h.lσ,h.lρ,fun i d e hi=>?_,fun p hp A hA=>(h.hld p hp A hA).mono up,fun i hi=>?_,fun i hi j hj=>h.inj i (hs i hi) j (hs j hj)⟩
  · by_cases hi':i ∈ O
    · obtain⟨a,xs,ds,h1,h2,h3,h4,h5⟩:=h.own i hi'
      rw[h2] at e;cases e
      refine⟨_,h1,fun A hA=>(h5 A hA).rep ?_ up⟩
      rw[bg]
      · exact h3
      · rintro (⟨j,hj,ej⟩ | q)
        · exact hi (h.inj i hi' j (hs j hj) a h1 ej ▸ hj)
        · exact F.dom A hA a q h4
    · obtain⟨v,h1,h2⟩:=h.val i d e hi'
      exact⟨v,h1,fun A hA=>ay up (h2 A hA)⟩
  · obtain⟨a,xs,ds,h1,h2,h3,h4,h5⟩:=h.own i (hs i hi)
    exact⟨a,xs,ds,h1,h2,h3,h4,fun A hA=>(h5 A hA).mono up⟩
theorem EnvO.up(h:EnvO K F held O σ ρ H)(e:Same H H'):EnvO K F held O σ ρ H' :=
  ⟨h.same.trans e,h.lσ,h.lρ,fun i d q hi=>let ⟨v,h1,h2⟩:=h.val i d q hi;⟨v,h1,fun A hA=>ay (bD e) (h2 A hA)⟩,fun p hp A hA=>(h.hld p hp A hA).mono (bD e),
    fun i hi=>let ⟨a,xs,ds,h1,h2,h3,h4,h5⟩:=h.own i hi;⟨a,xs,ds,h1,h2,e _ _ h3,h4,fun A hA=>(h5 A hA).mono (bD e)⟩,h.inj⟩
theorem EnvO.dom(h:EnvO K F held O σ ρ H){A:Addr->Prop}(hA:F.PA A):Dom H (Off σ O A):=fun b q=>by
  rcases q with⟨i,hi,e⟩ | q
  · obtain⟨a,xs,ds,h1,h2,h3,_⟩:=h.own i hi
    rw[e] at h1;cases h1
    rw[h3];exact fun z=>nomatch z
  · exact ((F.dom A hA).mono h.same) b q
def fK(O:List Nat):Es->Bool
  | .full j=>!O.contains j
  | .el _=>true
theorem EnvO.av(h:EnvO K F held O σ ρ H){A:Addr->Prop}(hA:F.PA A){e:Es}(he:fK O e=true):Av K H σ ρ (Off σ O A) e:=by
  have out:∀ (j:Nat) (v:V) (d:D),j ∉ O->σ[j]?=some (some v)->ρ[j]?=some (some d)->Rep K (ao H (Off σ O A)) v d:=fun j v d hj h1 h2=>by
    obtain⟨v',h3,h4⟩:=h.val j d h2 hj
    rw[h1] at h3;cases h3
    exact h4 A hA
  cases e with
  | full j=>exact fun v d=>out j v d (by simpa [fK] using he)
  | el j =>
    intro v d h1 h2
    by_cases hj:j ∈ O
    · obtain⟨a,xs,ds,h3,h4,h5,_,h6⟩:=h.own j hj
      rw[h1] at h3;cases h3
      rw[h2] at h4;cases h4
      exact (h6 A hA).el h5
    · exact (out j v d hj h1 h2).el
def bE(O:List Nat)(es:List Es):List Nat:=O.filter fun i=>es.all (fK [i])
theorem jU{es:List Es}:∀ i ∈ bE O es,i ∈ O:=fun i h=>(List.mem_filter.mp h).1
theorem lV{es:List Es}{e:Es}(he:e ∈ es):fK (bE O es) e=true:=by
  cases e with
  | el j=>rfl
  | full j =>
    show (!(bE O es).contains j)=true
    rw[Bool.not_eq_true',Bool.eq_false_iff]
    intro q
    have q':=List.contains_iff_mem.mp q
    have:=List.all_eq_true.mp (List.mem_filter.mp q').2 _ he
    simp[fK] at this
theorem EnvO.eval(h:EnvO K F held O σ ρ H){es:List Es}{d:D}{v:V}(p:Post K σ ρ H es d v H'):EnvO K F held (bE O es) σ ρ H'/\∀ A,F.PA A->Rep K (ao H' (Off σ (bE O es) A)) v d:=by
  have h1:=h.weaken (O':=bE O es) jU
  exact⟨h1.up p.same,fun A hA=>p.av _ (h1.dom hA) fun e he=>h1.av hA (lV he)⟩
theorem qf{i:Nat}{v:Option V}{A:Addr->Prop}(hi:i ∉ O)(b:Addr):Off (σ.set i v) O A b ↔ Off σ O A b:=by
  have:∀ j ∈ O,(σ.set i v)[j]?=σ[j]?:=fun j hj=>List.getElem?_set_ne (fun (e:i=j)=>hi (e ▸ hj))
  constructor
  · rintro (⟨j,hj,e⟩ | q)
    · exact .inl ⟨j,hj,by rw[this j hj] at e;exact e⟩
    · exact .inr q
  · rintro (⟨j,hj,e⟩ | q)
    · exact .inl ⟨j,hj,by rw[this j hj];exact e⟩
    · exact .inr q
theorem EnvO.set(h:EnvO K F held O σ ρ H){i:Nat}{v:V}{d:D}(hi:i ∉ O)(hv:∀ A,F.PA A->Rep K (ao H (Off σ O A)) v d):EnvO K F held O (σ.set i (some v)) (ρ.set i (some d)) H:=by
  have ne:∀ {j:Nat},j ∈ O->i ≠ j:=fun hj e=>hi (e ▸ hj)
  have up:∀ {A:Addr->Prop},Same (ao H (Off σ O A)) (ao H (Off (σ.set i (some v)) O A)):=bU (fun _ _ q=>q) fun b q=>(qf hi b).mp q
  refine⟨h.same,by rw[List.length_set];exact h.lσ,by rw[List.length_set];exact h.lρ,fun j e q hj=>?_,fun p hp A hA=>(h.hld p hp A hA).mono up,fun j hj=>?_,fun j hj k hk a e1 e2=>?_⟩
  · by_cases e1:j=i
    · subst e1
      have hl:j < ρ.length:=by
        have:=(List.getElem?_eq_some_iff.mp q).1
        rwa [List.length_set] at this
      rw[List.getElem?_set_self hl] at q
      cases q
      exact⟨v,List.getElem?_set_self (by rw[h.lσ,<- h.lρ];exact hl),fun A hA=>ay up (hv A hA)⟩
    · rw[List.getElem?_set_ne (Ne.symm e1)] at q
      obtain⟨v',h1,h2⟩:=h.val j e q hj
      exact⟨v',by rw[List.getElem?_set_ne (Ne.symm e1)];exact h1,fun A hA=>ay up (h2 A hA)⟩
  · obtain⟨a,xs,ds,h1,h2,h3,h4,h5⟩:=h.own j hj
    exact⟨a,xs,ds,by rw[List.getElem?_set_ne (ne hj)];exact h1,by rw[List.getElem?_set_ne (ne hj)];exact h2,h3,h4,fun A hA=>(h5 A hA).mono up⟩
  · rw[List.getElem?_set_ne (ne hj)] at e1
    rw[List.getElem?_set_ne (ne hk)] at e2
    exact h.inj j hj k hk a e1 e2
theorem EnvO.setF(h:EnvO K F held O σ ρ H){es:List Es}{i:Nat}{v:V}{d:D}(p:PostF K σ ρ H es d v H')(hn:i < F.n)(hi:i ∉ O)(he:∀ e ∈ es,fK O e=true):EnvO K F held (i::O) (σ.set i (some v)) (ρ.set i (some d)) H':=by
  obtain⟨l,xs,ds,rfl,rfl,hl,hl',hr⟩:=p.new
  have ne:∀ {j:Nat},j ∈ O->i ≠ j:=fun hj e=>hi (e ▸ hj)
  have at_i:(σ.set i (some (V.ref l)))[i]?=some (some (V.ref l)):=List.getElem?_set_self (by rw[h.lσ];exact hn)
  have off:∀ {A:Addr->Prop} (b:Addr),Off (σ.set i (some (V.ref l))) (i::O) A b ↔ (Off σ O A b\/b=l):=fun {A} b=>by
    constructor
    · rintro (⟨j,hj,e⟩ | q)
      · rcases List.mem_cons.mp hj with e1 | hj
        · subst e1;rw[at_i] at e;cases e;exact .inr rfl
        · rw[List.getElem?_set_ne (ne hj)] at e;exact .inl (.inl ⟨j,hj,e⟩)
      · exact .inl (.inr q)
    · rintro ((⟨j,hj,e⟩ | q) | rfl)
      · exact .inl ⟨j,List.mem_cons_of_mem _ hj,by rw[List.getElem?_set_ne (ne hj)];exact e⟩
      · exact .inr q
      · exact .inl ⟨i,List.mem_cons_self,at_i⟩
  have up:∀ {A:Addr->Prop},Same (ao H (Off σ O A)) (ao H' (Off (σ.set i (some (V.ref l))) (i::O) A)):=fun {A} b o q=>by
    obtain⟨n,q⟩:=cw q
    rw[bg fun z=>((off b).mp z).elim n (bQ q hl)]
    exact p.same b o q
  refine⟨h.same.trans p.same,by rw[List.length_set];exact h.lσ,by rw[List.length_set];exact h.lρ,fun j e q hj=>?_,fun z hz A hA=>(h.hld z hz A hA).mono up,fun j hj=>?_,fun j hj k hk a e1 e2=>?_⟩
  · have e1:j ≠ i:=fun e=>hj (e ▸ List.mem_cons_self)
    rw[List.getElem?_set_ne (Ne.symm e1)] at q
    obtain⟨v',h1,h2⟩:=h.val j e q fun z=>hj (List.mem_cons_of_mem _ z)
    exact⟨v',by rw[List.getElem?_set_ne (Ne.symm e1)];exact h1,fun A hA=>ay up (h2 A hA)⟩
  · by_cases e1:j=i
    · subst e1
      refine⟨l,_,_,at_i,List.getElem?_set_self (by rw[h.lρ];exact hn),hl',h.same.free hl,fun A hA=>.inl ⟨xs,ds,rfl,rfl,?_⟩⟩
      exact aH (bU (fun _ _ q=>q) fun b q=>(off b).mp q) (hr _ (h.dom hA) fun e q=>h.av hA (he e q))
    · have hj:j ∈ O:=(List.mem_cons.mp hj).resolve_left e1
      obtain⟨a,ys,es',h1,h2,h3,h4,h5⟩:=h.own j hj
      exact⟨a,ys,es',by rw[List.getElem?_set_ne (Ne.symm e1)];exact h1,by rw[List.getElem?_set_ne (Ne.symm e1)];exact h2,p.same _ _ h3,h4,fun A hA=>(h5 A hA).mono up⟩
  · have key:∀ {m:Nat} {b:Addr},m ∈ O->(σ.set i (some (V.ref l)))[m]?=some (some (V.ref b))->b ≠ l:=fun {m b} hm e z=>by
      subst z
      rw[List.getElem?_set_ne (ne hm)] at e
      obtain⟨a',_,_,h1,_,h3,_⟩:=h.own m hm
      rw[e] at h1;cases h1
      rw[hl] at h3;cases h3
    rcases List.mem_cons.mp hj with e3 | hj' <;> rcases List.mem_cons.mp hk with e4 | hk'
    · rw[e3,e4]
    · rw[e3,at_i] at e1;cases e1;exact absurd rfl (key hk' e2)
    · rw[e4,at_i] at e2;cases e2;exact absurd rfl (key hj' e1)
    · rw[List.getElem?_set_ne (ne hj')] at e1
      rw[List.getElem?_set_ne (ne hk')] at e2
      exact h.inj j hj' k hk' a e1 e2
theorem EnvO.putC(h:EnvO K F held O σ ρ H){i:Nat}{a:Addr}{o':HO}{d':D}(hi:i ∈ O)(ha:σ[i]?=some (some (V.ref a)))(hr:∀ A,F.PA A->OwnC K (ao H (Off σ O A)) o' d'):
    EnvO K F held O σ (ρ.set i (some d')) (upd H a o'):=by
  obtain⟨a',xs,ds,h1,h2,h3,h4,h5⟩:=h.own i hi
  rw[ha] at h1;cases h1
  have up:∀ {A:Addr->Prop},Same (ao H (Off σ O A)) (ao (upd H a o') (Off σ O A)):=fun {A} b o q=>by
    obtain⟨n,q⟩:=cw q
    have ne:b ≠ a:=fun e=>n (.inl ⟨i,hi,e ▸ ha⟩)
    rw[bg n,aC ne]
    exact q
  have hl:i < ρ.length:=(List.getElem?_eq_some_iff.mp h2).1
  refine⟨fun b o q=>?_,h.lσ,by rw[List.length_set];exact h.lρ,fun j e q hj=>?_,fun p hp A hA=>(h.hld p hp A hA).mono up,fun j hj=>?_,h.inj⟩
  · rw[aC (bQ q h4)]
    exact h.same b o q
  · have e1:j ≠ i:=fun e=>hj (e ▸ hi)
    rw[List.getElem?_set_ne (Ne.symm e1)] at q
    obtain⟨v',k1,k2⟩:=h.val j e q hj
    exact⟨v',k1,fun A hA=>ay up (k2 A hA)⟩
  · by_cases e1:j=i
    · subst e1
      exact⟨a,_,_,ha,List.getElem?_set_self hl,b9,h4,fun A hA=>(hr A hA).mono up⟩
    · obtain⟨b,zs,es',k1,k2,k3,k4,k5⟩:=h.own j hj
      have ne:b ≠ a:=fun e=>e1 (h.inj j hj i hi a (e ▸ k1) ha)
      exact⟨b,zs,es',k1,by rw[List.getElem?_set_ne (Ne.symm e1)];exact k2,by rw[aC ne];exact k3,k4,fun A hA=>(k5 A hA).mono up⟩
theorem EnvO.put(h:EnvO K F held O σ ρ H){i:Nat}{a:Addr}{ys:List V}{es:List D}(hi:i ∈ O)(ha:σ[i]?=some (some (V.ref a)))(hr:∀ A,F.PA A->Reps K (ao H (Off σ O A)) ys es):
    EnvO K F held O σ (ρ.set i (some (.lst es))) (upd H a (.lst ys)):=h.putC hi ha fun A hA=>.inl ⟨ys,es,rfl,rfl,hr A hA⟩
theorem EnvO.ownL(h:EnvO K F held O σ ρ H){i:Nat}(hi:i ∈ O){ds0:List D}(hd:ρ[i]?=some (some (.lst ds0))):∃ a xs ds,σ[i]?=some (some (V.ref a))/\ρ[i]?=some (some (.lst ds))/\H a=some (.lst xs)/\F.H0 a=Option.none/\∀ A,F.PA A->Reps K (ao H (Off σ O A)) xs ds:=by
  obtain⟨a,o,d,h1,h2,h3,h4,h5⟩:=h.own i hi
  rw[hd] at h2;cases h2
  rcases h5 _ F.none with⟨xs,ds,rfl,e,_⟩ | ⟨kvs,_,e⟩
  · cases e
    refine⟨a,xs,ds0,h1,hd,h3,h4,fun A hA=>?_⟩
    rcases h5 A hA with⟨xs',ds',e1,e2,h6⟩ | ⟨kvs,e1,_⟩
    · cases e1;cases e2;exact h6
    · cases e1
  · cases e
theorem EnvO.hold{p:Hd}(h:EnvO K F held O σ ρ H)(hv:∀ A,F.PA A->HdOk K (ao H (Off σ O A)) p):EnvO K F (p::held) O σ ρ H :=
  ⟨h.same,h.lσ,h.lρ,h.val,fun q hq=>(List.mem_cons.mp hq).elim (fun e=>e ▸ hv) (h.hld q),h.own,h.inj⟩
theorem EnvO.unhold{p:Hd}(h:EnvO K F (p::held) O σ ρ H):EnvO K F held O σ ρ H:=⟨h.same,h.lσ,h.lρ,h.val,fun q hq=>h.hld q (List.mem_cons_of_mem _ hq),h.own,h.inj⟩
end
structure Ret (K:PySem.W.Frag) (F:Fr0) (fr:Bool) (d:D) (v:V) (H':Hp):Prop where
  same:Same F.H0 H'
  rep:∀ A,F.PA A->Rep K (ao H' A) v d
  new:fr=true->∃ l xs ds,v=V.ref l/\d=.lst ds/\F.H0 l=none/\H' l=some (.lst xs)/\∀ A,F.PA A->Reps K (ao H' fun b=>A b\/b=l) xs ds
def tsP(K:PySem.W.Frag)(F:Fr0)(held:List Hd)(O' OL:List Nat)(fr:Bool)(De:Ends):Out->Prop
  | .nx ρ'=>∀ σ' H',EnvO K F held O' σ' ρ' H'->De.nx σ' H'
  | .bk ρ'=>∀ σ' H',EnvO K F held OL σ' ρ' H'->De.bk σ' H'
  | .ct ρ'=>∀ σ' H',EnvO K F held OL σ' ρ' H'->De.ct σ' H'
  | .rt d=>∀ v H',Ret K F fr d v H'->De.rt v H'
def ts(K:PySem.W.Frag)(F:Fr0)(held:List Hd)(O O' OL:List Nat)(fr:Bool)(f:FS):TS:=fun De σ H=>∃ ρ o,EnvO K F held O σ ρ H/\f ρ=some o/\tsP K F held O' OL fr De o
abbrev VS(X:Cx)(F:Fr0)(O:List Nat)(st:Stmt)(f:FS)(O' OL:List Nat)(fr:Bool):Prop:=∀ held,PS X st (ts X.K F held O O' OL fr f)
abbrev VSs(X:Cx)(F:Fr0)(O:List Nat)(st:List Stmt)(f:FS)(O' OL:List Nat)(fr:Bool):Prop:=∀ held,PSs X st (ts X.K F held O O' OL fr f)
theorem be{X:Cx}{e:Stmt}{t t':TS}(h:PS X e t)(i:∀ De σ H,t' De σ H->t De σ H):PS X e t':=fun pins s σ H De I q=>h pins s σ H De I (i De σ H q)
theorem cY{X:Cx}{e:List Stmt}{t t':TS}(h:PSs X e t)(i:∀ De σ H,t' De σ H->t De σ H):PSs X e t':=fun pins s σ H De I q=>h pins s σ H De I (i De σ H q)
section
variable {X:Cx} {F:Fr0} {O O1 O2 O' OL:List Nat} {fr:Bool} {f g:FS} {st:Stmt} {aq:List Stmt} {pos:Pos} {e:Expr} {fe:FE} {es:List Es}
def iG:FS:=fun ρ=>some (.nx ρ)
def aN(f g:FS):FS:=fun ρ=>(f ρ).bind fun o=>match o with
  | .nx ρ'=>g ρ'
  | .rt d=>some (.rt d)
  | .bk ρ'=>some (.bk ρ')
  | .ct ρ'=>some (.ct ρ')
theorem yp:VSs X F O [] iG O OL fr:=fun held=>cY oC fun De σ H ⟨ρ,o,hE,hf,hQ⟩=>by cases hf;exact hQ σ H hE
theorem yq(h1:VS X F O st f O1 OL fr)(h2:VSs X F O1 aq g O2 OL fr):VSs X F O (st::aq) (aN f g) O2 OL fr:=fun held=>cY (ig (h1 held) (h2 held)) fun De σ H ⟨ρ,o,hE,hf,hQ⟩=>by
  obtain⟨o1,h1,hf⟩:=bind_some hf
  refine⟨ρ,o1,hE,h1,?_⟩
  cases o1 with
  | nx ρ'=>exact fun σ' H' hE'=>⟨ρ',o,hE',hf,hQ⟩
  | rt d=>cases hf;exact hQ
  | bk ρ'=>cases hf;exact hQ
  | ct ρ'=>cases hf;exact hQ
theorem yr(h1:VS X F O st f O1 OL fr):VSs X F O [st] f O1 OL fr:=fun held=>cY (lq (h1 held)) fun De σ H h=>h
theorem iH(h:VSs X F O aq f O1 OL fr)(hs:∀ i ∈ O',i ∈ O1):VSs X F O aq f O' OL fr:=fun held=>cY (h held) fun De σ H ⟨ρ,o,hE,hf,hQ⟩=>⟨ρ,o,hE,hf,by
  cases o with
  | nx ρ'=>exact fun σ' H' hE'=>hQ σ' H' (hE'.weaken hs)
  | rt d=>exact hQ
  | bk ρ'=>exact hQ
  | ct ρ'=>exact hQ⟩
def sIf(t:ae->Option Bool)(f g:FS):FS:=fun ρ=>(t ρ).bind fun b=>if b=true then f ρ else g ρ
theorem yt{c:Expr}{tc:ae->Option Bool}{a b:List Stmt}(hc:VT X c tc)(ha:VSs X F O a f O1 OL fr)(hb:VSs X F O b g O2 OL fr)(h1:∀ i ∈ O',i ∈ O1:=by decide)(h2:∀ i ∈ O',i ∈ O2:=by decide):VS X F O (.If c a b pos) (sIf tc f g) O' OL fr:=fun held =>
  be (oE hc (iH ha h1 held) (iH hb h2 held)) fun De σ H ⟨ρ,o,hE,hf,hQ⟩=>by
    obtain⟨k,h1,hf⟩:=bind_some hf
    refine⟨ρ,k,hE.envR,h1,fun H1 e1=>?_⟩
    cases k with
    | true=>exact dM ⟨ρ,o,hE.up e1,hf,hQ⟩
    | false=>exact dL ⟨ρ,o,hE.up e1,hf,hQ⟩
def aQ(f:FE):FS:=fun ρ=>(f ρ).map .rt
theorem lW{f:FE}{ρ:ae}{o:Out}(h:aQ f ρ=some o):∃ d,f ρ=some d/\o=.rt d:=by
  unfold aQ at h
  cases e:f ρ with
  | none=>rw[e] at h;cases h
  | some d=>rw[e] at h;cases h;exact⟨d,rfl,rfl⟩
theorem lX{σ:St}{A:Addr->Prop}{H:Hp}:Same (ao H (Off σ O A)) (ao H A):=bU (fun _ _ q=>q) fun _ q=>.inr q
theorem yu(he:VE X e fe es):VS X F O (.Return (some e) pos) (aQ fe) O' OL false:=fun held=>be (gC he) fun De σ H ⟨ρ,o,hE,hf,hQ⟩=>by
  obtain⟨d,h1,rfl⟩:=lW hf
  refine⟨ρ,d,hE.envR,h1,fun v H' p=>hQ v H' ?_⟩
  obtain⟨hE',hr⟩:=hE.eval p
  exact⟨hE'.same,fun A hA=>ay lX (hr A hA),fun z=>nomatch z⟩
theorem yv(he:VF X e fe es):VS X F O (.Return (some e) pos) (aQ fe) O' OL fr:=fun held=>be (gC he) fun De σ H ⟨ρ,o,hE,hf,hQ⟩=>by
  obtain⟨d,h1,rfl⟩:=lW hf
  refine⟨ρ,d,hE.envR,h1,fun v H' p=>hQ v H' ?_⟩
  obtain⟨hE',hr⟩:=hE.eval (p.post hE.envR)
  refine⟨hE'.same,fun A hA=>ay lX (hr A hA),fun _=>?_⟩
  obtain⟨l,xs,ds,e1,e2,hl,hl',hA⟩:=p.new
  have h1:=hE.weaken (O':=bE O es) jU
  exact⟨l,xs,ds,e1,e2,hE.same.free hl,hl',fun A hPA=>aH (bU (fun _ _ q=>q) fun b q=>q.elim (fun z=>.inl (.inr z)) .inr) (hA _ (h1.dom hPA) fun e he=>h1.av hPA (lV he))⟩
def eL(f:FE):FE:=fun ρ=>(f ρ).bind fun d=>match d with
  | .lst ds=>some (.lst ds)
  | _=>none
theorem yw{f:FE}{ρ:ae}{d:D}(h:eL f ρ=some d):∃ ds,d=.lst ds/\f ρ=some (.lst ds):=by
  obtain⟨x,h1,h2⟩:=bind_some h
  cases x with
  | lst ds=>cases h2;exact⟨ds,rfl,h1⟩
  | _=>cases h2
theorem yx(i:Nat){x:Str}{p2:Pos}(hi:i ∈ O:=by decide)(hN:X.N[i]?=some x:=by rfl)(hv:Vis X.env.scope x:=by first | exact Or.inl rfl | exact Or.inr (Or.inl rfl) | exact Or.inr (Or.inr rfl))(hd:(x == ("__debug__" : Str))=false:=by decide)(hcd:(x == ("__classdict__" : Str))=false:=by decide):VS X F O (.Return (some (.Name x p2)) pos) (aQ (eL (aa i))) O' OL fr:=fun held=>be (gC (fw hN hv hd hcd)) fun De σ H ⟨ρ,o,hE,hf,hQ⟩=>by
  obtain⟨d,h1,rfl⟩:=lW hf
  obtain⟨ds0,e0,h10⟩:=yw h1
  subst e0
  have h2:=fE h10
  obtain⟨a,xs,ds,k1,k2,k3,k4,k5⟩:=hE.ownL hi h2
  rw[k2] at h2;cases h2
  refine⟨_,k1,hQ _ H ⟨hE.same,fun A hA=>?_,fun _=>⟨a,xs,_,rfl,rfl,k4,k3,fun A hA=>?_⟩⟩⟩
  · refine .lst (.inl ?_) (aH lX (k5 A hA))
    rw[bg fun q=>F.dom A hA a q k4]
    exact k3
  · exact aH (bU (fun _ _ q=>q) fun b q=>q.elim .inr fun z=>.inl ⟨i,hi,z ▸ k1⟩) (k5 A hA)
def bf(i:Nat)(f:FE):FS:=fun ρ=>(f ρ).map fun d=>.nx (ρ.set i (some d))
theorem jV{i:Nat}{f:FE}{ρ:ae}{o:Out}(h:bf i f ρ=some o):∃ d,f ρ=some d/\o=.nx (ρ.set i (some d)):=by
  unfold bf at h
  cases e:f ρ with
  | none=>rw[e] at h;cases h
  | some d=>rw[e] at h;cases h;exact⟨d,rfl,rfl⟩
def gO(O:List Nat)(i:Nat):List Nat:=O.filter fun j=>j != i
theorem jW{i:Nat}:∀ j ∈ gO O i,j ∈ O:=fun j h=>(List.mem_filter.mp h).1
theorem qg{i:Nat}:i ∉ gO O i:=fun h=>by simpa using (List.mem_filter.mp h).2
theorem yy(i:Nat){x:Str}{p2:Pos}(hN:X.N.Nodup)(he:VE X e fe es)(hi:X.N[i]?=some x:=by rfl)(hx:Loc X.env.scope x:=by first | exact Or.inl rfl | exact Or.inr rfl)(hs:swapsWith e (some (.Name x p2)) pos.line X.env=pure false:=by rfl)(hfn:X.fn x=true\/X.env.scope.names.lookup x=some .local:=by first | exact .inl rfl | exact .inr rfl):VS X F O (.Assign [.Name x p2] e pos) (bf i fe) (gO (bE O es) i) OL fr:=fun held =>
  be (jz hN hi hx he hs hfn) fun De σ H ⟨ρ,o,hE,hf,hQ⟩=>by
    obtain⟨d,h1,rfl⟩:=jV hf
    refine⟨ρ,d,hE.envR,h1,fun v H' p=>hQ _ _ ?_⟩
    obtain⟨hE',hr⟩:=hE.eval p
    exact (hE'.weaken jW).set qg fun A hA=>ay (bU (fun _ _ q=>q) (iF jW)) (hr A hA)
theorem yz(i:Nat){x:Str}{p2:Pos}(hN:X.N.Nodup)(he:VF X e fe es)(hn:i < F.n)(hi:X.N[i]?=some x:=by rfl)(hx:Loc X.env.scope x:=by first | exact Or.inl rfl | exact Or.inr rfl)(hs:swapsWith e (some (.Name x p2)) pos.line X.env=pure false:=by rfl)(hfn:X.fn x=true\/X.env.scope.names.lookup x=some .local:=by first | exact .inl rfl | exact .inr rfl):VS X F O (.Assign [.Name x p2] e pos) (bf i fe) (i::gO (bE O es) i) OL fr:=fun held =>
  be (jz hN hi hx he hs hfn) fun De σ H ⟨ρ,o,hE,hf,hQ⟩=>by
    obtain⟨d,h1,rfl⟩:=jV hf
    refine⟨ρ,d,hE.envR,h1,fun v H' p=>hQ _ _ ?_⟩
    refine (hE.weaken fun j hj=>jU j (jW j hj)).setF p hn qg fun z hz=>?_
    have:=lV (O:=O) hz
    cases z with
    | el j=>rfl
    | full j =>
      simp only[fK,Bool.not_eq_true',List.contains_eq_mem,decide_eq_false_iff_not] at this ⊢
      exact fun q=>this (jW j q)
end
end VL
namespace VL
open PySem PySem.Spec PyProof.Rows L2
section
variable {X:Cx} {F:Fr0} {O O1 O2 O' OL:List Nat} {fr:Bool} {f g:FS} {st:Stmt} {aq:List Stmt} {pos p2 p3:Pos} {e a b:Expr} {fe fa fb:FE} {es ea eb:List Es}
def iI(i:Nat)(f:FE):FS:=fun ρ=>(aa i ρ).bind fun x=>match x with
  | .lst ds=>(f ρ).bind fun d=>if ds.length < 100000 then some (.nx (ρ.set i (some (.lst (ds++[d]))))) else none
  | _=>none
theorem yA(i:Nat){x:Str}{ap cp:Pos}(he:VE X e fe es)(hi:i ∈ bE O es:=by decide)(hN:X.N[i]?=some x:=by rfl)(hv:Vis X.env.scope x:=by first | exact Or.inl rfl | exact Or.inr (Or.inl rfl) | exact Or.inr (Or.inr rfl))(hd:(x == ("__debug__" : Str))=false:=by decide)(hcd:(x == ("__classdict__" : Str))=false:=by decide)(hbase:attributeBase (.Name x p2) "append" X.env (eval (.Name x p2) X.env)=eval (.Name x p2) X.env:=by rfl)(hfew:((backTo cp (starEach [e] X.env)).all (fun x=>!x.1) && (backToKw cp (keywordEach [] X.env)).all (fun x=>x.1.isSome)
      && decide (([e]:List Expr).length+([]:List Keyword).length+(if ([]:List Keyword).isEmpty then 0 else 1) < 30))=true:=by rfl)(hline:(ap.endLine == cp.line)=true:=by rfl)(hs:starEach [e] X.env=(false,eval e X.env)::starEach [] X.env:=by rfl)(hplain:(backTo cp (starEach [] X.env)).any (·.1)=false:=by rfl)(hsw:swapsWith (.Call (.Attribute (.Name x p2) "append" ap) [e] [] cp) none pos.line X.env=pure false:=by rfl):
    VS X F O (.Expr (.Call (.Attribute (.Name x p2) "append" ap) [e] [] cp) pos) (iI i fe) (bE O es) OL fr:=fun held =>
  be (jx (lJ PySem.F.plainAttrs_list PySem.F.slot_list_append PySem.F.type_list_append lK (fw hN hv hd hcd) (cq he cC hs) hbase hfew hline hs hplain) hsw) fun De σ H ⟨ρ,o,hE,hf,hQ⟩=>by
    obtain⟨x,h1,hf⟩:=bind_some hf
    have h1:=fE h1
    obtain⟨ds0,rfl⟩:∃ ds0,x=.lst ds0:=by cases x <;> first | exact⟨_,rfl⟩ | cases hf
    obtain⟨a,xs,ds,k1,k2,k3,k4,k5⟩:=hE.ownL (jU i hi) h1
    rw[k2] at h1;cases h1
    obtain⟨d,h2,hf⟩:=bind_some hf
    obtain⟨hl,rfl⟩:=ca hf
    refine⟨_,k1,.inl ⟨rfl,xs,.inl (.inl k3)⟩,ρ,d,hE.envR,h2,fun v H1 p=>?_⟩
    obtain⟨hE1,hr⟩:=hE.eval p
    obtain⟨a',ys,ds',m1,m2,m3,m4,m5⟩:=hE1.ownL hi k2
    rw[k1] at m1;cases m1
    rw[k2] at m2;cases m2
    have e3:=p.same _ _ k3
    have e4:xs=ys:=by rw[m3] at e3;cases e3;rfl
    subst e4
    have len:=(m5 _ F.none).length
    refine⟨a,xs,v,rfl,rfl,m3,Nat.lt_of_lt_of_le (show xs.length < 100000 by omega) (by decide),hQ σ _ ?_⟩
    exact hE1.put hi k1 fun A hA=>(m5 A hA).append (.cons (hr A hA) .nil)
def iJ(is:List Nat)(f:FE):FS:=fun ρ=>(f ρ).bind fun d=>match d with
  | .tup ds=>if ds.length=is.length then some (.nx ((is.zip ds).foldl (fun r p=>r.set p.1 (some p.2)) ρ)) else none
  | _=>none
inductive Tgs (X:Cx):List Expr->List Nat->Prop where
  | nil:Tgs X [] []
  | cons {i:Nat} {x:Str} {p:Pos} {es:List Expr} {is:List Nat} (hi:X.N[i]?=some x) (hx:Loc X.env.scope x) (hf:X.fn x=true\/X.env.scope.names.lookup x=some .local) (t:Tgs X es is)
      (hs:(assignEach (.Name x p::es) X.env).map (·.2)=assign (.Name x p) X.env::(assignEach es X.env).map (·.2)):Tgs X (.Name x p::es) (i::is)
def gP:List Nat->TGs
  | []=>oG
  | i::is=>oH (bq i) (gP is)
theorem Tgs.ok(hN:X.N.Nodup):∀ {es:List Expr} {is:List Nat},Tgs X es is->PGs X es (gP is)
  | _,_,.nil=>vt
  | _,_,.cons hi hx hf t hs=>vz (bu hN hi hx hf) (Tgs.ok hN t) hs
theorem qh{K:PySem.W.Frag}{held:List Hd}{Q:St->Hp->Prop}:∀ {is:List Nat} {xs:List V} {ds:List D} {σ:St} {ρ:ae} {H:Hp},EnvO K F held O σ ρ H->(∀ i ∈ is,i ∉ O)->is.length=ds.length->(∀ A,F.PA A->Reps K (ao H (Off σ O A)) xs ds) ->
    (∀ σ' H',EnvO K F held O σ' ((is.zip ds).foldl (fun r p=>r.set p.1 (some p.2)) ρ) H'->Q σ' H')->gP is xs σ H Q
  | [],xs,ds,σ,ρ,H,hE,_,hl,hr,hQ=>by
    cases ds with
    | nil=>cases hr _ F.none;exact⟨rfl,hQ σ H hE⟩
    | cons _ _=>cases hl
  | i :: is,xs,ds,σ,ρ,H,hE,hO,hl,hr,hQ=>by
    cases ds with
    | nil=>cases hl
    | cons d ds =>
      cases xs with
      | nil=>cases hr _ F.none
      | cons v xs =>
        have hi:=hO i List.mem_cons_self
        have h1:∀ A,F.PA A->Rep K (ao H (Off σ O A)) v d:=fun A hA=>by cases hr A hA with | cons h _=>exact h
        have h2:∀ A,F.PA A->Reps K (ao H (Off (σ.set i (some v)) O A)) xs ds:=fun A hA=>aH (bU (fun _ _ q=>q) fun b q=>(qf hi b).mp q) (by cases hr A hA with | cons _ h=>exact h)
        exact⟨v,xs,rfl,qh (hE.set hi h1) (fun j hj=>hO j (List.mem_cons_of_mem _ hj)) (by simpa using hl) h2 hQ⟩
theorem lY{K:PySem.W.Frag}{H:Hp}{v:V}{ds:List D}(r:Rep K H v (.tup ds)):∃ p xs,v=V.ref p/\Rd H p (.tup xs)/\Reps K H xs ds:=by
  cases r with
  | @tup p xs _ h1 h2=>exact⟨p,xs,rfl,h1,h2⟩
theorem qi{K:PySem.W.Frag}{H:Hp}{A:Addr->Prop}{p:Addr}{xs:List V}{ds:List D}(h1:Rd H p (.tup xs))(r:Rep K (ao H A) (.ref p) (.tup ds)):Reps K (ao H A) xs ds:=by
  cases r with
  | tup h2 h3=>rw[jM h1 (cL (aM H A) h2)];exact h3
theorem yB(is:List Nat){ts:List Expr}{k:Nat}(hc:X.calm=true)(hN:X.N.Nodup)(he:VE X e fe es)(ht:Tgs X ts is)(hO:∀ i ∈ is,i ∉ O')(hO2:∀ i ∈ O',i ∈ bE O es)(hn:(assignEach ts X.env).length=is.length:=by rfl)(hst:(assignEach ts X.env).findIdx? (·.1)=none:=by rfl)(hs:swapsWithSole [.Tuple ts k p2] e pos.line X.env=pure false:=by rfl)(hw:swappedStores [.Tuple ts k p2] e X.env=pure none:=by rfl)(h1:(assignEach [.Tuple ts k p2] X.env).map (·.2)=[assign (.Tuple ts k p2) X.env]:=by rfl):VS X F O (.Assign [.Tuple ts k p2] e pos) (iJ is fe) O' OL fr:=fun held =>
  be (lu he (ij hc (Tgs.ok hN ht) hn hst) hs hw h1) fun De σ H ⟨ρ,o,hE,hf,hQ⟩=>by
    obtain⟨d,h2,hf⟩:=bind_some hf
    refine⟨ρ,d,hE.envR,h2,fun v H1 p=>?_⟩
    obtain⟨hE1,hr⟩:=hE.eval p
    cases d with
    | tup ds =>
      obtain⟨hl,rfl⟩:=ca hf
      obtain⟨q,xs,rfl,hq,hx⟩:=lY p.rep
      have up:∀ {A:Addr->Prop},Same (ao H1 (Off σ (bE O es) A)) (ao H1 (Off σ O' A)):=bU (fun _ _ q=>q) (iF hO2)
      refine⟨q,xs,rfl,.inl hq,by rw[hx.length];exact hl,qh (hE1.weaken hO2) hO hl.symm (fun A hA=>aH up (qi hq (hr A hA))) hQ⟩
    | _=>cases hf
def bn(body:D->FS):List D->FS
  | [],ρ=>some (.nx ρ)
  | x::r,ρ=>(body x ρ).bind fun o=>match o with
    | .nx ρ'=>bn body r ρ'
    | .ct ρ'=>bn body r ρ'
    | .bk ρ'=>some (.nx ρ')
    | .rt d=>some (.rt d)
theorem iK{body:D->FS}{x:D}{r:List D}{ρ:ae}:bn body (x::r) ρ=(body x ρ).bind fun o=>match o with
    | .nx ρ'=>bn body r ρ'
    | .ct ρ'=>bn body r ρ'
    | .bk ρ'=>some (.nx ρ')
    | .rt d=>some (.rt d):=rfl
theorem lZ{K:PySem.W.Frag}{held held':List Hd}{De:Ends}{d:D}{ds:List D}{o:Out}{ρ:ae}{body:D->FS}{N:St->Hp->Prop}{o1:Out}{OL':List Nat}(h1:body d ρ=some o1)(hf:bn body (d::ds) ρ=some o)(hQ:tsP K F held OL OL' fr De o)(hh:∀ σ ρ H,EnvO K F held' OL σ ρ H->EnvO K F held OL σ ρ H)(hN:∀ σ' H' ρ',EnvO K F held' OL σ' ρ' H'->bn body ds ρ'=some o->N σ' H'):tsP K F held' OL OL fr { De with nx:=N,ct:=N,bk:=De.nx } o1:=by
  rw[iK,h1] at hf
  cases o1 with
  | nx ρ'=>exact fun σ' H' hE'=>hN σ' H' ρ' hE' hf
  | ct ρ'=>exact fun σ' H' hE'=>hN σ' H' ρ' hE' hf
  | bk ρ'=>cases hf;exact fun σ' H' hE'=>hQ σ' H' (hh _ _ _ hE')
  | rt d'=>cases hf;exact hQ
theorem qj{K:PySem.W.Frag}{H:Hp}{v:V}{d:D}{ds:List D}{σ:St}(hr:∀ A,F.PA A->Rep K (ao H (Off σ O A)) v d)(hds:items d=some ds)(ht:cr d=false):
    ∃ q xs,v=V.ref q/\∀ A,F.PA A->HdOk K (ao H (Off σ O A)) (hdL K q xs ds):=by
  have h0:=hr _ F.none
  cases h0 with
  | @lst q xs ds' h1 h2 =>
    cases hds
    refine⟨q,xs,rfl,fun A hA=>?_⟩
    cases hr A hA with
    | @lst _ ys _ h3 h4 =>
      have e:=fD (cL (aM _ _) h1) (cL (aM _ _) h3)
      subst e
      exact⟨.inl h3,h4⟩
  | @scr q ns h1 =>
    cases hds
    refine⟨q,ns.map V.int,rfl,fun A hA=>?_⟩
    cases hr A hA with
    | scr h3=>exact⟨h3,Reps.ints ns⟩
  | tup _ _=>cases ht
  | _=>cases hds
def iL(t:Nat)(it:FE)(tb:FS):FS:=fun ρ=>(it ρ).bind fun d=>if cr d=true then none else (items d).bind fun ds=>bn (fun x ρ=>tb (ρ.set t (some x))) ds ρ
theorem yC(t:Nat){x:Str}{iter:Expr}{body:List Stmt}{fi:FE}{ei:List Es}{tb:FS}(Ol:List Nat)(hN:X.N.Nodup)(hc:X.calm=true)(hi:VE X iter fi ei)(hb:VSs X F Ol body tb O2 Ol fr)(h1:∀ i ∈ Ol,i ∈ bE O ei:=by decide)(h2:∀ i ∈ Ol,i ∈ O2:=by decide)(h3:t ∉ Ol:=by decide)(hp:PassesOwn (model X.prog X.w) X.A X.env X.xe:=by exact PassesOwn.never)(hxN:X.N[t]?=some x:=by rfl)(hx:Loc X.env.scope x:=by first | exact Or.inl rfl | exact Or.inr rfl)(hfn:X.fn x=true\/X.env.scope.names.lookup x=some .local:=by first | exact .inl rfl | exact .inr rfl)(hs:∀ x,foldedSetIterable iter X.env x=pure x:=by intro _;rfl):VS X F O (.For (.Name x p2) iter body [] pos) (iL t fi tb) Ol OL fr:=fun held=>by
  have hb':PSs X body (fun De σ H=>∃ p:Hd,ts X.K F (p::held) Ol Ol Ol fr tb De σ H):=fun pins s σ H De I ⟨p,h⟩=>iH hb h2 (p::held) pins s σ H De I h
  refine be (fy hp hc (gD hi) (bu hN hxN hx hfn) hb' hs) fun De σ H h=>?_
  obtain⟨ρ,o,hE,hf,hQ⟩:=h
  obtain⟨d,hd,hf⟩:=bind_some hf
  cases ht:cr d with
  | true=>rw[if_pos ht] at hf;cases hf
  | false =>
    rw[if_neg (by rw[ht];exact Bool.false_ne_true)] at hf
    obtain⟨ds,hds,hf⟩:=bind_some hf
    refine⟨ρ,d,hE.envR,hd,fun v H1 p=>?_⟩
    obtain⟨hE1,hr⟩:=hE.eval p
    have hE2:=hE1.weaken h1
    have hr2:∀ A,F.PA A->Rep X.K (ao H1 (Off σ Ol A)) v d:=fun A hA=>ay (bU (fun _ _ q=>q) (iF h1)) (hr A hA)
    obtain⟨q,xs,rfl,hq⟩:=qj hr2 hds ht
    have len:xs.length=ds.length:=(hq _ F.none).2.length
    refine⟨q,rfl,⟨xs,(aM _ _).seq (hq _ F.none).1⟩,?_⟩
    refine oN (K:=X.K) (a:=q) (xs:=xs) (g:=bq t) (tb:=fun De σ H=>∃ p:Hd,ts X.K F (p::held) Ol Ol Ol fr tb De σ H) (D:=De) (fun i σ' H'=>∃ ρ',EnvO X.K F (hdL X.K q xs ds::held) Ol σ' ρ' H'/\bn (fun x ρ=>tb (ρ.set t (some x))) (ds.drop i) ρ'=some o) ⟨ρ,hE2.hold hq,by simpa using hf⟩ ?_ ?_ ?_
    · rintro i σ' H' _ ⟨ρ',hE',_⟩
      exact (aM _ _).seq (hE'.hld _ List.mem_cons_self _ F.none).1
    · rintro i y σ' H' hy ⟨ρ',hE',hf'⟩
      obtain⟨dy,h4,_⟩:=(hE'.hld _ List.mem_cons_self _ F.none).2.getV hy
      have h5:∀ A,F.PA A->Rep X.K (ao H' (Off σ' Ol A)) y dy:=fun A hA=>by
        obtain⟨dy',h6,h7⟩:=(hE'.hld _ List.mem_cons_self A hA).2.getV hy
        rw[h4] at h6;cases h6;exact h7
      have hi':i < ds.length:=(List.getElem?_eq_some_iff.mp h4).1
      have ed:ds.drop i=dy::ds.drop (i+1):=by
        rw[List.drop_eq_getElem_cons hi']
        have e2:ds[i]=dy:=(List.getElem?_eq_some_iff.mp h4).2
        rw[e2]
      rw[ed] at hf'
      have hf2:=hf'
      rw[iK] at hf2
      obtain⟨o1,h8,_⟩:=bind_some hf2
      refine⟨hdL X.K q xs ds,ρ'.set t (some dy),o1,hE'.set h3 h5,h8,?_⟩
      exact lZ h8 hf' hQ (fun _ _ _ z=>z.unhold) fun σ'' H'' ρ'' hE'' hf''=>⟨ρ'',hE'',hf''⟩
    · rintro σ' H' ⟨ρ',hE',hf'⟩
      rw[len,List.drop_length] at hf'
      cases hf'
      exact hQ σ' H' hE'.unhold
def cj(lo:Int)(n:Nat):List D:=(List.range n).map fun (k:Nat)=>.int (lo+k)
theorem yD{lo:Int}{n i:Nat}(h:i < n):(cj lo n).drop i=.int (lo+i)::(cj lo n).drop (i+1):=by
  have hl:i < (cj lo n).length:=by simpa [cj] using h
  rw[List.drop_eq_getElem_cons hl]
  simp[cj]
def okR(j:Int):Prop:=-4611686018427387904<=j/\j < 4611686018427387904
instance (j:Int):Decidable (okR j):=inferInstanceAs (Decidable (_/\_))
def gQ(t:Nat)(as:FEs)(tb:FS):FS:=fun ρ=>(as ρ).bind fun ds=>match ds with
  | [.int j]=>if okR j then bn (fun x ρ=>tb (ρ.set t (some x))) (cj 0 j.toNat) ρ else none
  | _=>none
theorem yE{K:PySem.W.Frag}{held:List Hd}{De:Ends}{o:Out}{ρ:ae}{σ:St}{H:Hp}{lo:Int}{n t:Nat}{Ol OL':List Nat}{tb:FS}(hE:EnvO K F held Ol σ ρ H)(h3:t ∉ Ol)(hf:bn (fun x ρ=>tb (ρ.set t (some x))) (cj lo n) ρ=some o)(hQ:tsP K F held Ol OL' fr De o):
    ∃ W:Nat->Nat->St->Hp->Prop,(∃ m,W 0 m σ H)/\∀ i m σ H,W i m σ H ->
      ((Itr lo n).stop i H/\De.nx σ H)\/((Itr lo n).go i H/\∃ N:St->Hp->Prop,(∀ σ' H',N σ' H'->∃ m',m' < m/\W (i+1) m' σ' H')/\∀ x H',(Itr lo n).yld i H x H'->bq t x σ H' fun σ2 H2=>ts K F held Ol Ol Ol fr tb { De with nx:=N,ct:=N,bk:=De.nx } σ2 H2):=by
  refine oO (lo:=lo) (n:=n) (g:=bq t) (tb:=ts K F held Ol Ol Ol fr tb) (D:=De) (fun i σ' H'=>∃ ρ',EnvO K F held Ol σ' ρ' H'/\bn (fun x ρ=>tb (ρ.set t (some x))) ((cj lo n).drop i) ρ'=some o) ⟨ρ,hE,by simpa using hf⟩ ?_ ?_
  · rintro i σ' H' hi ⟨ρ',hE',hf'⟩
    rw[yD hi] at hf'
    have hf2:=hf'
    rw[iK] at hf2
    obtain⟨o1,h8,_⟩:=bind_some hf2
    refine⟨ρ'.set t (some (.int (lo+i))),o1,hE'.set h3 fun A hA=>.int _,h8,?_⟩
    exact lZ h8 hf' hQ (fun _ _ _ z=>z) fun σ'' H'' ρ'' hE'' hf''=>⟨ρ'',hE'',hf''⟩
  · rintro σ' H' ⟨ρ',hE',hf'⟩
    rw[List.drop_eq_nil_of_le (by simp[cj])] at hf'
    cases hf'
    exact hQ σ' H' hE'
theorem EnvO.evals{K:PySem.W.Frag}{held:List Hd}{σ:St}{ρ:ae}{H H':Hp}(h:EnvO K F held O σ ρ H){ds:List D}{vs:List V}(p:Posts K σ ρ H es ds vs H'):EnvO K F held O σ ρ H':=h.up p.same
theorem yF(t:Nat){x:Str}{a:Expr}{body:List Stmt}{as:FEs}{ei:List Es}{tb:FS}{pr pn:Pos}(Ol:List Nat)(hN:X.N.Nodup)(hc:X.calm=true)(mr:X.mg "range" = none)(hi:VA X [a] as ei)(hb:VSs X F Ol body tb O2 Ol fr)(h1:∀ i ∈ Ol,i ∈ O:=by decide)(h2:∀ i ∈ Ol,i ∈ O2:=by decide)(h3:t ∉ Ol:=by decide)(hp:PassesOwn (model X.prog X.w) X.A X.env X.xe:=by exact PassesOwn.never)(hg:Gl X "range":=by rfl)(hst:starEach [a] X.env=[(false,eval a X.env)]:=by rfl)(hxN:X.N[t]?=some x:=by rfl)(hx:Loc X.env.scope x:=by first | exact Or.inl rfl | exact Or.inr rfl)(hfn:X.fn x=true\/X.env.scope.names.lookup x=some .local:=by first | exact .inl rfl | exact .inr rfl)(hs:∀ x,foldedSetIterable (.Call (.Name "range" pn) [a] [] pr) X.env x=pure x:=by intro _;rfl):VS X F O (.For (.Name x p2) (.Call (.Name "range" pn) [a] [] pr) body [] pos) (gQ t as tb) Ol OL fr:=fun held=>by
  refine be (fy hp hc (jB hg mr hi hst) (bu hN hxN hx hfn) (iH hb h2 held) hs) fun De σ H h=>?_
  obtain⟨ρ,o,hE,hf,hQ⟩:=h
  obtain⟨ds,hd,hf⟩:=bind_some hf
  refine⟨ρ,ds,hE.envR,hd,fun vs H1 p=>?_⟩
  have hE1:=(hE.evals p).weaken h1
  match ds,hf,p with
  | [.int j],hf,p =>
    by_cases hj:okR j
    · simp only[if_pos hj] at hf
      obtain⟨v,rfl,r⟩:=ez p.rep
      cases r
      exact⟨j,rfl,hj.1,hj.2,yE hE1 h3 hf hQ⟩
    · simp only[if_neg hj] at hf
      cases hf
end
structure RetC (K:PySem.W.Frag) (H:Hp) (vs:List V) (ds:List D) (fr:Bool) (d:D) (v:V) (H':Hp):Prop where
  same:Same H H'
  rep:∀ A,Dom H A->Reps K (ao H A) vs ds->Rep K (ao H' A) v d
  new:fr=true->∃ l xs es,v=V.ref l/\d=.lst es/\H l=none/\H' l=some (.lst xs)/\∀ A,Dom H A->Reps K (ao H A) vs ds->Reps K (ao H' fun b=>A b\/b=l) xs es
def spF(K:PySem.W.Frag)(G:List D->Option D)(fr:Bool):Sp:=fun vs H Q _=>∃ ds d,Reps K H vs ds/\G ds=some d/\∀ v H',RetC K H vs ds fr d v H'->Q v H'
def mkF(fr:Bool)(np n:Nat)(body:FS):List D->Option D:=fun ds=>if ds.length=np then (body (ds.map some++List.replicate (n - np) none)).bind fun o=>match o with
  | .rt d=>some d
  | .nx _=>if fr=true then none else some .non
  | _=>none
  else none
theorem yG{P:Program}{w:World}{K:PySem.W.Frag}{mg:Str->Option Value}{base:Heap}{x qual:Str}{st:Stmt}{f:Addr}{fd:FuncData}{N ps:List Str}{k:Nat}{fr:Bool}{body:FS}{O' OL:List Nat}(Fn:Fun K x qual st f fd)(S:FnScope N ps (ai st))(h:∀ (cdv:Value) (A:Around) (outer:List PySem.Env) (s:Shared) (H:Hp) (E:XK) (F:Fr0),F.n=N.length->Room k (A.deeper (envOfC qual (ai st) s.heap.objs.size f cdv)) ->
      VSs (cK CX0 P w K mg base N qual (ai st) f cdv A outer s H E).nox F [] (aD st) body O' OL fr):
    FnOk P w K mg base CX0 (k+1) f fd ps (spF K (mkF fr ps.length N.length body) fr):=by
  have hpl:ps.length<=N.length:=by have:=congrArg List.length S.pre;rw[List.length_take] at this;omega
  refine Fn.ok S (fun vs H Q E h=>?_) (fun cdv A outer s H vs Q E hr h'=>?_)
  · obtain⟨ds,d,r,hg,_⟩:=h
    unfold mkF at hg
    by_cases hl:ds.length=ps.length
    · rw[r.length,hl]
    · rw[if_neg hl] at hg;cases hg
  · obtain⟨ds,d,r,hg,hQ⟩:=h'
    unfold mkF at hg
    by_cases hl:ds.length=ps.length
    · rw[if_pos hl] at hg
      obtain⟨o,ho,hg⟩:=bind_some hg
      let F:Fr0:=⟨H,fun A=>Dom H A/\Reps K (ao H A) vs ds,N.length,fun A h=>h.1,⟨Dom.none H,aH (gF H) r⟩⟩
      refine⟨_,h cdv A outer s H E F rfl hr [],ds.map some++List.replicate (N.length - ps.length) none,o,?_,ho,?_⟩
      · have lv:=r.length
        have get:∀ (i:Nat) (d:D),(ds.map some++List.replicate (N.length - ps.length) none)[i]?=some (some d)->ds[i]?=some d:=fun i d q=>by
          by_cases hi:i < ds.length
          · rw[List.getElem?_append_left (by simpa using hi),List.getElem?_map] at q
            cases e:ds[i]? with
            | none=>rw[e] at q;cases q
            | some z=>rw[e] at q;simpa using q
          · rw[List.getElem?_append_right (by simpa using hi),List.getElem?_replicate] at q
            split at q <;> cases q
        refine⟨Same.refl H,?_,?_,fun i d q _=>?_,fun p hp=>absurd hp (by simp),fun i hi=>absurd hi (by simp),fun i hi=>absurd hi (by simp)⟩
        · show (L2.start N vs).length=N.length
          unfold L2.start
          rw[List.length_append,List.length_map,List.length_replicate]
          omega
        · show _=N.length
          rw[List.length_append,List.length_map,List.length_replicate]
          omega
        · have h1:=get i d q
          obtain⟨v,h2,_⟩:=r.get h1
          refine⟨v,?_,fun A hA=>?_⟩
          · unfold L2.start
            have hi:i < vs.length:=(List.getElem?_eq_some_iff.mp h2).1
            rw[List.getElem?_append_left (by simpa using hi),List.getElem?_map,h2]
            rfl
          · obtain⟨v',h3,h4⟩:=hA.2.get h1
            rw[h2] at h3;cases h3
            exact ay (bU (fun _ _ z=>z) fun b z=>z.elim (fun⟨_,hj,_⟩=>absurd hj (by simp)) id) h4
      · cases o with
        | rt d' =>
          cases hg
          exact fun v H' rt=>hQ v H' ⟨rt.same,fun A hA hr=>rt.rep A ⟨hA,hr⟩,fun e=>let ⟨l,xs,es,e1,e2,e3,e4,e5⟩:=rt.new e;⟨l,xs,es,e1,e2,e3,e4,fun A hA hr=>e5 A ⟨hA,hr⟩⟩⟩
        | nx ρ' =>
          cases fr with
          | true=>cases hg
          | false =>
            cases hg
            exact fun σ' H' hE=>hQ _ H' ⟨hE.same,fun A hA hr=>.non,fun e=>nomatch e⟩
        | _=>cases hg
    · rw[if_neg hl] at hg;cases hg
section
variable {X:Cx} {k:Nat} {f:Addr} {fd:FuncData} {ps:List Str} {G:List D->Option D} {fr:Bool} {x:Str} {p pos:Pos} {e:Expr} {es':List Expr} {as:FEs} {es:List Es}
theorem yH(Gk:FnOk X.prog X.w X.K X.mg X.base CX0 k f fd ps (spF X.K G fr))(hr:Room k X.A)(hm:X.mg x=some (.ref f))(hk:PySem.W.keepIn X.K (.ref f)=true)(hb:Binds X.K fd ps [])(ha:VA X (e::es') as es)(hg:Gl X x:=by rfl)(hdb:(x == ("__debug__" : Str))=false:=by decide)(he:starEach (e::es') X.env=(false,eval e X.env)::starEach es' X.env:=by rfl)(hpl:(backTo pos (starEach es' X.env)).any (·.1)=false:=by rfl):
    VE X (.Call (.Name x p) (e::es') [] pos) (eA G as) es :=
  aI (fB Gk hr hg hm hk hb .nil dk ha hdb he hpl) fun σ H Q ⟨ρ,d,hE,hf,hQ⟩=>by
    obtain⟨ds,h1,hf⟩:=bind_some hf
    refine⟨ρ,ds,hE,h1,fun vs H1 p=>?_⟩
    show spF X.K G fr (vs++[]) H1 Q E0
    rw[List.append_nil]
    refine⟨ds,d,p.rep,hf,fun v H' r=>hQ v H' ⟨p.same.trans r.same,ay (aM _ _) (r.rep cV (Dom.none _) (aH (gF _) p.rep)),fun A hA hz=>r.rep A (hA.mono p.same) (p.av A hA hz)⟩⟩
theorem yI(Gk:FnOk X.prog X.w X.K X.mg X.base CX0 k f fd ps (spF X.K G true))(hr:Room k X.A)(hm:X.mg x=some (.ref f))(hk:PySem.W.keepIn X.K (.ref f)=true)(hb:Binds X.K fd ps [])(ha:VA X (e::es') as es)(hg:Gl X x:=by rfl)(hdb:(x == ("__debug__" : Str))=false:=by decide)(he:starEach (e::es') X.env=(false,eval e X.env)::starEach es' X.env:=by rfl)(hpl:(backTo pos (starEach es' X.env)).any (·.1)=false:=by rfl):
    VF X (.Call (.Name x p) (e::es') [] pos) (eA G as) es :=
  aI (fB Gk hr hg hm hk hb .nil dk ha hdb he hpl) fun σ H Q ⟨ρ,d,hE,hf,hQ⟩=>by
    obtain⟨ds,h1,hf⟩:=bind_some hf
    refine⟨ρ,ds,hE,h1,fun vs H1 p=>?_⟩
    show spF X.K G true (vs++[]) H1 Q E0
    rw[List.append_nil]
    refine⟨ds,d,p.rep,hf,fun v H' r=>hQ v H' ⟨p.same.trans r.same,?_⟩⟩
    obtain⟨l,xs,es,e1,e2,e3,e4,e5⟩:=r.new rfl
    exact⟨l,xs,es,e1,e2,p.same.free e3,e4,fun A hA hz=>e5 A (hA.mono p.same) (p.av A hA hz)⟩
end
end VL
namespace VL
open PySem PySem.Spec PyProof.Rows L2
theorem m6(env:PySem.Env):∀ (names:List (Str × NameKind)) (acc:List (Str × Addr)),(∀ x ∈ names,x.2=.free->∃ c,env.cells.lookup x.1=some c) ->
    ∃ cl,(forIn names acc fun x r=>(if (x.2 == NameKind.free)=true then (do let c <- cellOf env x.1;pure (ForInStep.yield ((x.1,c)::r))) else pure (ForInStep.yield r):Sem (ForInStep (List (Str × Addr)))))=pure cl /\
      (∀ x c,cl.lookup x=some c->acc.lookup x=some c\/env.cells.lookup x=some c)/\(∀ x,(∃ c,acc.lookup x=some c)->∃ c,cl.lookup x=some c)/\(∀ x ∈ names,x.2=.free->∃ c,cl.lookup x.1=some c)
  | [],acc,_=>⟨acc,rfl,fun _ _ h=>.inl h,fun _ h=>h,fun _ h=>nomatch h⟩
  | (n, k)::r,acc,h=>by
    have hr:∀ x ∈ r,x.2=.free->∃ c,env.cells.lookup x.1=some c:=fun x hx=>h x (List.mem_cons_of_mem _ hx)
    by_cases hk:k=.free
    · subst hk
      obtain⟨c,hc⟩:=h (n,.free) List.mem_cons_self rfl
      obtain⟨cl,e,h1,h2,h3⟩:=m6 env r ((n,c)::acc) hr
      refine⟨cl,?_,fun x c' hx=>?_,fun x ⟨c',hx⟩=>?_,fun x hx hf=>?_⟩
      · rw[List.forIn_cons]
        have e1:cellOf env n=pure c:=by unfold cellOf;rw[hc]
        simp only[beq_self_eq_true,if_true,e1,pure_bind]
        exact e
      · rcases h1 x c' hx with q | q
        · rw[List.lookup_cons] at q
          cases hxn:x == n with
          | true =>
            rw[hxn] at q
            have e2:x=n:=by simpa using hxn
            cases q
            rw[e2]
            exact .inr hc
          | false=>rw[hxn] at q;exact .inl q
        · exact .inr q
      · refine h2 x ?_
        rw[List.lookup_cons]
        cases x == n with
        | true=>exact⟨_,rfl⟩
        | false=>exact⟨c',hx⟩
      · rcases List.mem_cons.mp hx with q | q
        · subst q
          refine h2 n ⟨c,?_⟩
          rw[List.lookup_cons]
          simp
        · exact h3 x q hf
    · obtain⟨cl,e,h1,h2,h3⟩:=m6 env r acc hr
      refine⟨cl,?_,h1,h2,fun x hx hf=>?_⟩
      · rw[List.forIn_cons]
        have e1:(k == NameKind.free)=false:=by simpa using hk
        simp only[e1,Bool.false_eq_true,if_false,pure_bind]
        exact e
      · rcases List.mem_cons.mp hx with q | q
        · subst q;exact absurd hf hk
        · exact h3 x q hf
theorem m7{scope:Scope}{env:PySem.Env}(h:∀ x ∈ scope.names,x.2=.free->∃ c,env.cells.lookup x.1=some c):
    ∃ cl,closureFor scope env=pure cl/\(∀ x c,cl.lookup x=some c->env.cells.lookup x=some c)/\(∀ x ∈ scope.names,x.2=.free->∃ c,cl.lookup x.1=some c):=by
  obtain⟨cl,e,h1,h2,h3⟩:=m6 env scope.names [] h
  refine⟨cl,?_,fun x c q=>(h1 x c q).resolve_left (fun z=>by simp at z),h3⟩
  simp only[closureFor]
  rw[e]
  first | rfl | simp
section
variable {prog:Program} {w:World} {A:Around} {R:Result->Shared->Prop} {s:Shared}
theorem yJ{elt target iter:Expr}{ifs:List Expr}{scope:Scope}{pos:Pos}{it acc:Value}{env:PySem.Env}(I:Nat->Shared->Prop)(turn : ∀ n s,I n s->wpAny (model prog w) A (pyNext it) (fun r s₁=>match r with
      | none=>R (.ok .next) s₁
      | some v=>wpAny (model prog w) A (letOwnedTupleGo target it v) (fun _ s₁'=>wpAny (model prog w) A (assign target env v) (fun _ s₂ =>
          wpAny (model prog w) A (forIn ifs true fun c r=>if r=true then do let ok <- isTrue c env (eval c env);pure (ForInStep.yield ok) else pure (ForInStep.yield r)) (fun ok s₃ =>
            if ok=true then wpAny (model prog w) A (eval elt env) (fun x s₄ =>
              wpAny (model prog w) A (call (.builtin "list.append") [acc,x]) (fun _ s₅=>∃ m,m < n/\I m s₅) (fun _ _=>False) s₄) (fun _ _=>False) s₃
            else ∃ m,m < n/\I m s₃) (fun _ _=>False) s₂) (fun _ _=>False) s₁') (fun _ _=>False) s₁) (fun _ _=>False) s)(n:Nat)(h:I n s):codeAny (model prog w) A (.compLoop (.ListComp elt [⟨target,iter,ifs,0⟩] scope pos) 0 it acc env) R s:=by
  refine codeAny_loop rfl I (fun n s hI=>?_) n h
  show wpAny _ A ((compTurn (.ListComp elt [⟨target,iter,ifs,0⟩] scope pos) 0 it acc env).onRaise (fun x=>do noteFrame x env;theTreesLotGoes x)) _ _ s
  refine wpAny_noted ?_
  rw[compTurn_list]
  refine wpAny_bind (wpAny_standAt (wpAny_bind (wpAny_mono (turn n s hI) (fun r s₁ h₁=>?_) fun _ _ h'=>h'.elim)))
  cases r with
  | none=>exact wpAny_pure h₁
  | some v =>
    refine wpAny_bind (wpAny_mono h₁ (fun _ s₁' h₁'=>?_) fun _ _ h'=>h'.elim)
    refine wpAny_bind (wpAny_mono h₁' (fun _ s₂ h₂=>wpAny_bind (wpAny_mono h₂ (fun ok s₃ h₃=>?_) fun _ _ h'=>h'.elim)) fun _ _ h'=>h'.elim)
    cases ok with
    | false=>exact wpAny_pure ⟨rfl,h₃⟩
    | true =>
      exact wpAny_bind (wpAny_bind (wpAny_mono h₃ (fun x s₄ h₄=>wpAny_bind (wpAny_mono h₄ (fun _ s₅ h₅=>wpAny_pure (wpAny_pure ⟨rfl,h₅⟩)) fun _ _ h'=>h'.elim)) fun _ _ h'=>h'.elim))
end
def blk(X:Cx)(N:List Str)(s:Shared)(H:Hp)(scope:Scope)(cl:List (Str × Addr))(ex:List Addr):Cx :=
  { X with N:=N,s₀:=s,H₀:=H,env:=compEnvC scope cl s.heap.objs.size X.env,outer:=X.stack,ex:=ex,fn:=fun _=>false,pn:=[],xe:=fun _ _=>False }
structure BlkOk (X:Cx) (scope:Scope) (own:List Str) (caps:List Nat) (cn:List Str):Prop where
  kind:scope.kind=.function
  nocell:∀ x ∈ scope.names,x.2 ≠ .cell
  locals:∀ x ∈ scope.names,x.2=.local->scope.names.lookup x.1=some .local
  free:∀ x ∈ scope.names,x.2=.free->(X.env.kindOf x.1=some .cell\/X.env.kindOf x.1=some .free)
  names:caps.map (fun j=>X.N[j]?)=cn.map some
  capf:∀ x ∈ cn,scope.names.lookup x=some .free
  nd:(own++cn).Nodup
theorem m8{env:PySem.Env}:∀ {names:List (Str × NameKind)} {x:Str} {k:NameKind},(names.map fun (n,k)=>if (k == NameKind.free && env.scope.kind == .function && env.kindOf n == some .cell) then (n,NameKind.cell) else (n,k)).lookup x=some k ->
    (∀ y ∈ names,y.2 ≠ .cell)->(k=.cell\/k=.free)->(x,NameKind.free) ∈ names
  | [],_,_,h,_,_=>by simp at h
  | (n, k')::r,x,k,h,hc,hk=>by
    have ih:=@m8 env r x k
    have h:List.lookup x ((if (k' == NameKind.free && env.scope.kind == .function && env.kindOf n == some .cell)=true then (n,NameKind.cell) else (n,k'))::(r.map fun (n,k)=>if (k == NameKind.free && env.scope.kind == .function && env.kindOf n == some .cell) then (n,NameKind.cell) else (n,k)))=some k:=h
    have hr:∀ y ∈ r,y.2 ≠ .cell:=fun y hy=>hc y (List.mem_cons_of_mem _ hy)
    by_cases hcd:(k' == NameKind.free && env.scope.kind == .function && env.kindOf n == some .cell)=true
    · have hk':k'=.free:=by
        rw[Bool.and_eq_true,Bool.and_eq_true] at hcd
        simpa using hcd.1.1
      rw[if_pos hcd,List.lookup_cons] at h
      cases hx:x == n with
      | true =>
        have e:x=n:=by simpa using hx
        rw[e,hk'];exact List.mem_cons_self
      | false=>rw[hx] at h;exact List.mem_cons_of_mem _ (ih h hr hk)
    · rw[if_neg hcd,List.lookup_cons] at h
      cases hx:x == n with
      | true =>
        have e:x=n:=by simpa using hx
        rw[hx] at h
        cases h
        rcases hk with hk | hk
        · exact absurd hk (hc (n,k') List.mem_cons_self)
        · rw[e,<- hk];exact List.mem_cons_self
      | false=>rw[hx] at h;exact List.mem_cons_of_mem _ (ih h hr hk)
theorem qk{env:PySem.Env}:∀ {names:List (Str × NameKind)} {x:Str},names.lookup x=some .free ->
    (names.map fun (n,k)=>if (k == NameKind.free && env.scope.kind == .function && env.kindOf n == some .cell) then (n,NameKind.cell) else (n,k)).lookup x ≠ some .local
  | [],_,h=>by simp at h
  | (n,k)::r,x,h=>by
    have ih:=@qk env r x
    show List.lookup x ((if (k == NameKind.free && env.scope.kind == .function && env.kindOf n == some .cell)=true then (n,NameKind.cell) else (n,k))::(r.map fun (n,k)=>if (k == NameKind.free && env.scope.kind == .function && env.kindOf n == some .cell) then (n,NameKind.cell) else (n,k))) ≠ some .local
    rw[List.lookup_cons] at h
    by_cases hcd:(k == NameKind.free && env.scope.kind == .function && env.kindOf n == some .cell)=true
    · rw[if_pos hcd,List.lookup_cons]
      cases hx:x == n with
      | true=>exact fun z=>by cases z
      | false=>rw[hx] at h;exact ih h
    · rw[if_neg hcd,List.lookup_cons]
      cases hx:x == n with
      | true=>rw[hx] at h;cases h;exact fun z=>by cases z
      | false=>rw[hx] at h;exact ih h
section
variable {X:Cx} {pins:List (Addr × Obj)} {σ:St} {H:Hp} {s:Shared} {scope:Scope} {own cn:List Str} {caps:List Nat} {cl:List (Str × Addr)} {ex:List Addr}
def ck(σ:St)(caps:List Nat):St:=caps.map fun j=>(σ[j]?).getD none
theorem yK(I:L2.Inv X pins σ H s)(B:BlkOk X scope own caps cn)(hcl:∀ x c,cl.lookup x=some c->X.env.cells.lookup x=some c)(hha:∀ x ∈ scope.names,x.2=.free->∃ c,cl.lookup x.1=some c)(hex:∀ b ∈ ex,bI X pins H b/\b < s.heap.objs.size){h₁:Heap}{tk:Nat}(hns:h₁.Ns s.heap.objs.size (fun _=>none))(hk:∀ b o,s.heap.get? b=some o->h₁.get? b=some o):
    L2.Inv (blk X (own++cn) s H scope cl ex) [] (List.replicate own.length none++ck σ caps) H { s with heap:=h₁,toks:=tk }:=by
  have hcap:cn.length=caps.length:=by have:=congrArg List.length B.names;simpa using this.symm
  refine⟨⟨I.ok.mod,B.kind,I.ok.glob,I.ok.blt,Nat.le_refl _,fun x y c h1 h2=>I.ok.inj x y c (hcl x c h1) (hcl y c h2),fun x hx=>?_,fun x c h=>(nomatch h),I.ok.hd,I.ok.frames,.inl rfl,fun b hb=>?_,fun b o e=>I.bs b o e,Nat.le_trans I.ok.bsz I.sz,fun b o e hb=>?_,fun b hb hfs=>?_,I.stack,I.stkFree⟩,
    rfl,I.bare,Un.kept hk,⟨_,hns,fun i x v h1 h2 h3=>?_⟩,fun x c h=>?_,I.hok.fresh (Nat.le_refl _),fun x c h=>I.freeC x c (hcl x c h),fun p hp=>absurd hp (by simp[blk]),I.hok.kept hk,?_⟩
  · have hx':(relabel scope X.env).names.lookup x=some .cell\/(relabel scope X.env).names.lookup x=some .free:=hx
    have m:(x,NameKind.free) ∈ scope.names:=by
      rcases hx' with q | q
      · exact m8 q B.nocell (.inl rfl)
      · exact m8 q B.nocell (.inr rfl)
    exact hha _ m rfl
  · obtain⟨f,lt⟩:=hex b hb
    exact⟨Nat.ne_of_lt lt,fun x c h=>f.2.2.2.2.1 x c (hcl x c h)⟩
  · obtain⟨f,lt⟩:=hex b hb
    rcases f.2.2.2.1 with q | q
    · exact I.ok.noex b o e q
    · exact absurd (Nat.lt_of_lt_of_le (Heap.lt_size e) I.ok.bsz) (Nat.not_lt.mpr q)
  · obtain⟨f,lt⟩:=hex b hb
    rcases List.mem_cons.mp (I.stkSub b hfs) with q | q
    · exact f.2.1 q
    · exact f.2.2.1 q
  ·
    have hlen:(List.replicate own.length (none:Option V)).length=own.length:=List.length_replicate
    by_cases hi:i < own.length
    · rw[List.getElem?_append_left (by rw[hlen];exact hi),List.getElem?_replicate,if_pos hi] at h2
      cases h2
    · rw[List.getElem?_append_right (by rw[hlen];omega),hlen] at h2
      have h1':cn[i - own.length]?=some x:=by
        have h1'':(own++cn)[i]?=some x:=h1
        rwa [List.getElem?_append_right (by omega)] at h1''
      unfold ck at h2
      rw[List.getElem?_map] at h2
      cases hj:caps[i - own.length]? with
      | none=>rw[hj] at h2;cases h2
      | some j =>
        rw[hj] at h2
        have hN:X.N[j]?=some x:=by
          have q:=congrArg (fun l=>l[i - own.length]?) B.names
          simp only[List.getElem?_map,hj,h1',Option.map_some] at q
          exact Option.some.inj q
        have hσ:σ[j]?=some (some v):=by
          simp only[Option.map_some,Option.some.injEq] at h2
          cases e:σ[j]? with
          | none=>rw[e] at h2;cases h2
          | some o=>rw[e] at h2;simp only[Option.getD_some] at h2;rw[h2]
        have hxf:scope.names.lookup x=some .free:=B.capf x (List.mem_of_getElem? h1')
        have hkind:=B.free (x,.free) (PySem.mem_of_lookup hxf) rfl
        have hvis:Vis X.env.scope x:=hkind.elim (fun q=>.inr (.inl q)) fun q=>.inr (.inr q)
        obtain⟨m,hm,hl⟩:=I.loc
        obtain⟨u,r,look⟩:=hl j x v hN hσ hvis
        rcases look with⟨hloc,_⟩ | ⟨_,c,hc,hcell⟩
        · rcases hkind with q | q <;> rw[q] at hloc <;> cases hloc
        · obtain⟨c',hc'⟩:=hha (x,.free) (PySem.mem_of_lookup hxf) rfl
          have e:=hcl x c' hc'
          rw[hc] at e;cases e
          refine⟨u,r,.inr ⟨?_,c,hc',?_⟩⟩
          · rcases h3 with q | q | q
            · exfalso
              have:(relabel scope X.env).names.lookup x=some .local:=q
              unfold relabel at this
              have z:=@qk X.env scope.names x hxf
              exact z this
            · exact .inl q
            · exact .inr q
          · obtain⟨oc,ho,hd⟩:=hcell
            exact⟨oc,hk _ _ ho,hd⟩
  · obtain⟨v,oc,ho,hd⟩:=I.cell x c (hcl x c h)
    exact⟨v,oc,hk _ _ ho,hd⟩
  · show (List.replicate own.length none++ck σ caps).length=(own++cn).length
    simp[ck,hcap]
end
end VL
namespace VL
open PySem PySem.Spec PyProof.Rows L2
theorem Inv.track{X:Cx}{pins:List (Addr × Obj)}{σ:St}{H:Hp}{s:Shared}{d:Addr}{ys:List V}{its:List Value}{n:Nat}(I:L2.Inv X pins σ H s)(e:s.heap.get? d=some { cls:=.type "list",data:=.seq its.toArray n })(hv:Vals ys its)(hz:ys.length<=sizeLine)(f:bI X pins H d)(f3:X.s₀.heap.objs.size<=d):L2.Inv X pins σ (upd H d (.lst ys)) s:=by
  obtain⟨f0,f1,f2,_,f4,f5⟩:=f
  have old:∀ b o,X.s₀.heap.get? b=some o->b ≠ d:=fun b o q z=>absurd (Nat.lt_of_lt_of_le (Heap.lt_size q) (by rw[z];exact f3)) (Nat.lt_irrefl _)
  have nd:∀ b u,H b=some u->b ≠ d:=fun b u q z=>by rw[z,f0] at q;cases q
  refine⟨I.ok,I.os,I.bare,⟨I.base.keep,I.base.slot,fun b o q n hx=>?_,I.base.there,fun b xs q=>?_,fun b o u q=>?_,fun b ps q=>?_⟩,I.loc,I.cell,?_,fun x c q=>?_,fun p hp=>?_,fun b o q=>?_,I.len⟩
  · rw[aC (old b o q)];exact I.base.free b o q n hx
  · have z:=I.base.tups b xs q;rw[aC (nd b _ z)];exact z
  · have z:=I.base.frzs b o u q;rw[aC (nd b _ z)];exact z
  · obtain⟨more,z⟩:=I.base.tbls b ps q;exact⟨more,by rw[aC (nd b _ z)];exact z⟩
  · rw[aC (Ne.symm f1)];exact I.free
  · rw[aC (f4 x c q)];exact I.freeC x c q
  · obtain⟨k1,k2,k3,k4,k5⟩:=I.pin p hp
    exact⟨k1,by rw[aC (f5 p hp)];exact k2,k3,k4,k5⟩
  · by_cases hb:b=d
    · subst hb
      rw[b9] at q;cases q
      exact⟨hz,its,n,hv,e⟩
    · rw[aC hb] at q
      refine (I.hok b o q).stay (fun c v _ z=>z) (fun c z=>?_) fun c xs z=>?_
      · rw[aC (nd c _ z)];exact z
      · rw[aC (nd c _ z)];exact z
def PTs(X:Cx)(ifs:List Expr)(t:TT):Prop :=
  ∀ (pins:List (Addr × Obj)) (s:Shared) (σ:St) (H:Hp) (Q:Bool->Hp->Prop),L2.Inv X pins σ H s->t σ H Q ->
    wpAny (model X.prog X.w) X.A (forIn ifs true fun c r=>if r=true then do let ok <- isTrue c X.env (eval c X.env);pure (ForInStep.yield ok) else pure (ForInStep.yield r)) (TP X pins σ Q) X.xe s
theorem iM{X:Cx}:PTs X [] (fun _ H Q=>Q true H):=fun pins s σ H Q I h=>wpAny_tests_nil ⟨H,I,h⟩
theorem yL{X:Cx}{c:Expr}{t:TT}(h:PT X c t):PTs X [c] t:=fun pins s σ H Q I hq=>wpAny_tests_one (h pins s σ H Q I hq)
def gR(nown:Nat)(caps:List Nat)(wi:TI)(g:TG)(tt:TT)(te:TE):TE:=fun σ H Q=>wi σ H fun J H1=>∃ W:Nat->Nat->List V->St->Hp->Prop,
  (∃ m, W 0 m [] (List.replicate nown none++ck σ caps) H1)/\∀ i m ys σb H2,W i m ys σb H2->ys.length < sizeLine /\
    ((J.stop i H2/\∀ d,H2 d=none->Q (.ref d) (upd H2 d (.lst ys))) \/
     (J.go i H2/\∀ x H3,J.yld i H2 x H3->g x σb H3 fun σb' H4=>tt σb' H4 fun b H5 =>
        if b=true then te σb' H5 fun y H6=>∃ m',m' < m/\W (i+1) m' (ys++[y]) σb' H6 else ∃ m',m' < m/\W (i+1) m' ys σb' H5))
section
variable {X:Cx} {elt tg iter:Expr} {ifs:List Expr} {scope:Scope} {own cn:List Str} {caps:List Nat} {wi:TI} {g:TG} {tt:TT} {te:TE} {pos:Pos}
structure After (X:Cx) (pins:List (Addr × Obj)) (σ:St) (H:Hp) (d c:Addr) (ys:List V) (s:Shared):Prop where
  inv:L2.Inv X pins σ (upd H d (.lst ys)) s
  ns:∃ m,s.heap.Ns c m
  new:H d=none
  cf:bI X pins (upd H d (.lst ys)) c
theorem yM(B:BlkOk X scope own caps cn)(hc:X.calm=true)(hg:∀ s H cl ex,PG (blk X (own++cn) s H scope cl ex) tg g)(ht:∀ s H cl ex,PTs (blk X (own++cn) s H scope cl ex) ifs tt)(he:∀ s H cl ex,PE (blk X (own++cn) s H scope cl ex) elt te){pins:List (Addr × Obj)}{s3:Shared}{σ:St}{H2:Hp}{Q:VK}{it d:Addr}{fp:List Addr}{tn:Nat->Heap->Prop}{J:It}{W:Nat->Nat->List V->St->Hp->Prop}{m0 tk:Nat}{h₁:Heap}(I3:L2.Inv X pins σ H2 s3){cl:List (Str × Addr)}(hcl:∀ x c,cl.lookup x=some c->X.env.cells.lookup x=some c)(hha:∀ x ∈ scope.names,x.2=.free->∃ c,cl.lookup x.1=some c)(T:Turn X.prog X.w X.K tg J fp it tn)(st:tn 0 s3.heap)(f2:∀ b ∈ fp,bI X pins H2 b)(fpd:bI X pins H2 d)(fd3:X.s₀.heap.objs.size<=d)(dnf:∀ b ∈ fp,b ≠ d)(hd3:s3.heap.get? d=some { cls:=.type "list",data:=.seq #[] 0 })(w0:W 0 m0 [] (List.replicate own.length none++ck σ caps) H2)(turn : ∀ i m ys σb H2,W i m ys σb H2->ys.length < sizeLine /\
      ((J.stop i H2/\∀ d,H2 d=none->Q (.ref d) (upd H2 d (.lst ys))) \/
       (J.go i H2/\∀ x H3,J.yld i H2 x H3->g x σb H3 fun σb' H4=>tt σb' H4 fun b H5 =>
          if b=true then te σb' H5 fun y H6=>∃ m',m' < m/\W (i+1) m' (ys++[y]) σb' H6 else ∃ m',m' < m/\W (i+1) m' ys σb' H5)))(hns:h₁.Ns s3.heap.objs.size (fun _=>none))(hk:∀ b o,s3.heap.get? b=some o->h₁.get? b=some o){RR:Value->Addr->Result->Shared->Prop}(hRR:∀ d c ys H' s',After X pins σ H' d c ys s'->Q (.ref d) (upd H' d (.lst ys))->RR (.ref d) c (.ok .next) s'):
    codeAny (model X.prog X.w) X.A (.compStart (.ListComp elt [⟨tg,iter,ifs,0⟩] scope pos) 0 (.ref it) (.ref d) (compEnvC scope cl s3.heap.objs.size X.env)) (RR (.ref d) s3.heap.objs.size) { s3 with heap:=h₁,toks:=tk }:=by
  have lt3:∀ b ∈ d::fp,b < s3.heap.objs.size:=fun b hb=>by
    rcases List.mem_cons.mp hb with e | hb
    · rw[e];exact Heap.lt_size hd3
    · obtain⟨o,e,_⟩:=T.obj _ _ st b hb;exact Heap.lt_size e
  have fex:∀ b ∈ d::fp,bI X pins H2 b:=fun b hb=>(List.mem_cons.mp hb).elim (fun e=>e ▸ fpd) (f2 b)
  have IB:=yK (ex:=d::fp) (tk:=tk) I3 B hcl hha (fun b hb=>⟨fex b hb,lt3 b hb⟩) hns hk
  have fpB:∀ {P:List (Addr × Obj)} {H':Hp},(∀ b ∈ fp,H' b=none)->(∀ p ∈ P,p.1=d)->∀ b ∈ fp,bI (blk X (own++cn) s3 H2 scope cl (d::fp)) P H' b:=fun {P H'} hn hP b hb=>by
    refine⟨hn b hb,Nat.ne_of_lt (lt3 b (List.mem_cons_of_mem _ hb)),fun z=>?_,.inl (List.mem_cons_of_mem _ hb),fun x c q=>(f2 b hb).2.2.2.2.1 x c (hcl x c q),fun p hp=>?_⟩
    · rcases List.mem_cons.mp (I3.stkSub b z) with q | q
      · exact (f2 b hb).2.1 q
      · exact (f2 b hb).2.2.1 q
    · have hp':p ∈ P:=by simpa [blk] using hp
      rw[hP p hp'];exact Ne.symm (dnf b hb)
  have dB:∀ {P:List (Addr × Obj)} {H':Hp},H' d=none->(∀ p ∈ P,p.1 ∈ fp)->bI (blk X (own++cn) s3 H2 scope cl (d::fp)) P H' d:=fun {P H'} hn hP=>by
    refine⟨hn,Nat.ne_of_lt (lt3 d List.mem_cons_self),fun z=>?_,.inl List.mem_cons_self,fun x c q=>fpd.2.2.2.2.1 x c (hcl x c q),fun p hp=>?_⟩
    · rcases List.mem_cons.mp (I3.stkSub d z) with q | q
      · exact fpd.2.1 q
      · exact fpd.2.2.1 q
    · have hp':p ∈ P:=by simpa [blk] using hp
      exact fun e=>dnf p.1 (hP p hp') e
  have loop:∀ s':Shared,s'={ s3 with heap:=h₁,toks:=tk }->codeAny (model X.prog X.w) X.A (.compLoop (.ListComp elt [⟨tg,iter,ifs,0⟩] scope pos) 0 (.ref it) (.ref d) (compEnvC scope cl s3.heap.objs.size X.env)) (RR (.ref d) s3.heap.objs.size) s':=by
    rintro s' rfl
    refine yJ (fun n s'=>∃ (i:Nat) (ys:List V) (σb:St) (H':Hp) (its:List Value) (nn:Nat),L2.Inv (blk X (own++cn) s3 H2 scope cl (d::fp)) [] σb H' s'/\tn i s'.heap/\(∀ b ∈ fp,H' b=none)/\H' d=none/\s'.heap.get? d=some { cls:=.type "list",data:=.seq its.toArray nn }/\Vals ys its/\W i n ys σb H') ?_ m0
      ⟨0,[],_,H2,[],0,IB,T.keep _ _ _ st fun b _ o e=>hk b o e,fun b hb=>(f2 b hb).1,fpd.1,hk _ _ hd3,.nil,w0⟩
    rintro n s4 ⟨i,ys,σb,H',its,nn,I4,st4,fr4,hd4,o4,r4,w4⟩
    have I4p:L2.Inv (blk X (own++cn) s3 H2 scope cl (d::fp)) [(d,{ cls:=.type "list",data:=.seq its.toArray nn })] σb H' s4:=I4.pins_of fun p hp=>by
      have e:p=(d,{ cls:=.type "list",data:=.seq its.toArray nn }):=by simpa using hp
      subst e
      obtain⟨a0,a1,a2,_⟩:=dB (P:=[]) hd4 (by simp)
      exact⟨o4,a0,a1,a2,fun v z=>by cases z⟩
    obtain⟨hys,alt⟩:=turn i n ys σb H' w4
    rcases alt with⟨stop,q⟩ | ⟨go,step⟩
    · refine thn (T.done (blk X (own++cn) s3 H2 scope cl (d::fp)) rfl rfl rfl hc i [(d,{ cls:=.type "list",data:=.seq its.toArray nn })] s4 σb H' _ I4p (fpB fr4 (by simp)) st4 stop) fun r s5 ⟨hr,I5⟩=>?_
      subst hr
      obtain⟨o5,_⟩:=I5.pin (d,{ cls:=.type "list",data:=.seq its.toArray nn }) (by simp[blk])
      have IX:L2.Inv X pins σ H' s5:=I3.call' (ch:=d::fp) I5.os I5.base I5.hok I5.bare fun b hb=>⟨(fex b hb).2.2.2.1,(fex b hb).2.1,(fex b hb).2.2.2.2.1,(fex b hb).2.2.2.2.2⟩
      have fpd':bI X pins H' d:=⟨hd4,fpd.2⟩
      have IT:=Inv.track IX o5 r4 (Nat.le_of_lt hys) fpd' fd3
      refine hRR d s3.heap.objs.size ys H' s5 ⟨IT,?_,hd4,?_⟩ (q d hd4)
      · obtain⟨m,hm,_⟩:=I5.loc;exact⟨m,hm⟩
      · have cf:H' s3.heap.objs.size=none:=I5.free
        refine I3.fpOk (Nat.le_refl _) ?_
        rw[aC (Ne.symm (Nat.ne_of_lt (lt3 d List.mem_cons_self)))]
        exact cf
    · refine thn (T.item (blk X (own++cn) s3 H2 scope cl (d::fp)) rfl rfl rfl hc i [(d,{ cls:=.type "list",data:=.seq its.toArray nn })] s4 σb H' _ I4p (fpB fr4 (by simp)) st4 go) fun r s5 ⟨u,hr,h5⟩=>?_
      subst hr
      refine thn h5 fun _ s6 ⟨x,H6,I6,r6,y6,st6,fr6⟩=>?_
      have I6':=I6.pinned (fpB fr6 (by simp)) (T.obj _ _ st6)
      refine thn (hg s3 H2 cl (d::fp) _ s6 σb H6 x u _ I6' r6 (step x H6 y6)) fun _ s7 ⟨σ7,H7,I7,q7⟩=>?_
      refine thn (ht s3 H2 cl (d::fp) _ s7 σ7 H7 _ I7 q7) fun b s8 ⟨H8,I8,q8⟩=>?_
      have fin:∀ {H9:Hp} {s9:Shared},L2.Inv (blk X (own++cn) s3 H2 scope cl (d::fp)) ([(d,{ cls:=.type "list",data:=.seq its.toArray nn })]++ik fp s6.heap) σ7 H9 s9 ->
          L2.Inv (blk X (own++cn) s3 H2 scope cl (d::fp)) [] σ7 H9 s9/\tn (i+1) s9.heap/\(∀ b ∈ fp,H9 b=none)/\H9 d=none/\s9.heap.get? d=some { cls:=.type "list",data:=.seq its.toArray nn }:=fun {H9 s9} I9=>by
        have pd:=I9.pin (d,{ cls:=.type "list",data:=.seq its.toArray nn }) (by simp[blk])
        refine⟨I9.pins_of fun p hp=>absurd hp (by simp),T.keep _ _ _ st6 fun b hb o e=>(I9.pin (b,o) (List.mem_append_right _ (List.mem_append_right _ (jC hb e)))).1,fun b hb=>?_,pd.2.1,pd.1⟩
        obtain⟨o,e,_⟩:=T.obj _ _ st6 b hb
        exact (I9.pin (b,o) (List.mem_append_right _ (List.mem_append_right _ (jC hb e)))).2.1
      cases b with
      | false =>
        obtain⟨m',hm,w'⟩:=q8
        obtain⟨k1,k2,k3,k4,k5⟩:=fin I8
        exact⟨m',hm,i+1,ys,σ7,H8,its,nn,k1,k2,k3,k4,k5,r4,w'⟩
      | true =>
        refine thn (he s3 H2 cl (d::fp) _ s8 σ7 H8 _ I8 q8) fun v s9 ⟨y,H9,I9,r9,m',hm,w'⟩=>?_
        obtain⟨k1,k2,k3,k4,k5⟩:=fin I9
        have lv:=r4.length
        refine call_meets F.slot_list_append ⟨_,k5,rfl⟩ F.entry_list_append (F.args_list_append_2 _ _) (PySem.list_append d its.toArray nn v (by rw[List.size_toArray];omega)) ⟨k5,?_⟩
        have up:=PySem.IsL.update k5 (fun a=>a.push v)
        have ep:its.toArray.push v=(its++[v]).toArray:=by simp
        rw[ep] at up
        refine⟨m',hm,i+1,ys++[y],σ7,H9,its++[v],_,?_,?_,k3,k4,up,r4.append (.cons r9 .nil),w'⟩
        · exact k1.turned (it:=d) (fun b o hb e=>(Heap.get?_update_other s9.heap _ (Ne.symm hb)).trans e) k4 (dB (P:=[]) k4 (by simp)).2.1 (.inl List.mem_cons_self) (dB (P:=[]) k4 (by simp)).2.2.2.2.1 fun p hp=>absurd hp (by simp[blk])
        · exact T.keep _ _ _ k2 fun b hb o e=>(Heap.get?_update_other s9.heap _ (Ne.symm (dnf b hb))).trans e
  exact codeAny_compStart_list (loop _ rfl) (T.self X.A 0 _ _ _ (T.keep _ _ _ st fun b _ o e=>hk b o e) (loop _ rfl))
theorem m9(B:BlkOk X scope own caps cn)(hc:X.calm=true)(hi:PI X tg iter wi)(hg:∀ s H cl ex,PG (blk X (own++cn) s H scope cl ex) tg g)(ht:∀ s H cl ex,PTs (blk X (own++cn) s H scope cl ex) ifs tt)(he:∀ s H cl ex,PE (blk X (own++cn) s H scope cl ex) elt te){pins:List (Addr × Obj)}{s:Shared}{σ:St}{H:Hp}{Q:VK}(I:L2.Inv X pins σ H s)(h:gR own.length caps wi g tt te σ H Q){cl:List (Str × Addr)}(hcl:∀ x c,cl.lookup x=some c->X.env.cells.lookup x=some c)(hha:∀ x ∈ scope.names,x.2=.free->∃ c,cl.lookup x.1=some c){RR:Value->Addr->Result->Shared->Prop}(hRR:∀ d c ys H' s',After X pins σ H' d c ys s'->Q (.ref d) (upd H' d (.lst ys))->RR (.ref d) c (.ok .next) s'):
    wpAny (model X.prog X.w) X.A (eval iter X.env) (fun x s₁=>wpAny (model X.prog X.w) X.A (pyIter x) (fun it s₂=>wpAny (model X.prog X.w) X.A (newList []) (fun acc s₃ =>
      wpAny (model X.prog X.w) X.A (newFunctionEnv scope X.env.globals cl [] X.env.qual none .none (some X.env)) (fun cenv s₄ =>
        codeAny (model X.prog X.w) X.A (.compStart (.ListComp elt [⟨tg,iter,ifs,0⟩] scope pos) 0 it acc { cenv with scope:=relabel scope X.env }) (RR acc cenv.locals) s₄) X.xe s₃) X.xe s₂) X.xe s₁) X.xe s:=by
  refine thn (hi pins s σ H _ I h) fun x s1 h1=>thn h1 fun itv s2 h2=>?_
  obtain⟨it,fp,tn,J,H2,rfl,I2,T,st2,f2,W,⟨m0,w0⟩,turn⟩:=h2
  refine wpAny_newObj_type (wpAny_newFunctionEnv B.nocell (by intro y hy;simp at hy) (fun h₁ hns₁ hsb₁=>?_) B.kind)
  dsimp only at hns₁ hsb₁ ⊢
  generalize hd:s2.heap.objs.size=d at hns₁ hsb₁ ⊢
  have hfd:H2 d=none:=by rw[<- hd];exact I2.hok.fresh (Nat.le_refl _)
  have fpd:bI X pins H2 d:=I2.fpOk (by rw[hd];exact Nat.le_refl _) hfd
  have fpl:∀ b ∈ fp,b < s2.heap.objs.size:=fun b hb=>by obtain⟨o,e,_⟩:=T.obj _ _ st2 b hb;exact Heap.lt_size e
  have dnf:∀ b ∈ fp,b ≠ d:=fun b hb e=>absurd (fpl b hb) (by rw[e,hd];exact Nat.lt_irrefl _)
  have I3:L2.Inv X pins σ H2 { s2 with heap:=s2.heap.push { cls:=.type "list",dict:=none,data:=.seq ([]:List Value).toArray } }:=I2.kept (t':=s2.toks) fun b o e=>Heap.get?_push_of_some _ e
  exact yM (s3:={ s2 with heap:=s2.heap.push { cls:=.type "list",dict:=none,data:=.seq ([]:List Value).toArray } }) B hc hg ht he I3 hcl hha T (T.keep _ _ _ st2 fun b _ o e=>Heap.get?_push_of_some _ e) f2 fpd (by rw[<- hd];exact I2.sz) dnf
    (by rw[<- hd];exact Heap.get?_push_size _ rfl) w0 turn hns₁ (fun b o e=>hsb₁.extBut b o (Nat.ne_of_lt (Heap.lt_size e)) (Heap.get?_push_of_some _ e)) hRR
end
end VL
namespace VL
open PySem PySem.Spec PyProof.Rows L2
structure PostI (K:PySem.W.Frag) (σ:St) (ρ:ae) (H:Hp) (es:List Es) (ds:List D) (J:It) (H1:Hp):Prop where
  same:Same H H1
  go:∀ (i:Nat) (d:D) (H':Hp),ds[i]?=some d->Same H1 H'->J.go i H'/\∀ x H'',J.yld i H' x H''->Same H' H''/\Rep K H'' x d/\∀ A,Dom H A->(∀ e ∈ es,Av K H σ ρ A e)->Rep K (ao H'' A) x d
  stop:∀ H',Same H1 H'->J.stop ds.length H'
def tvI(K:PySem.W.Frag)(f:FEs)(es:List Es):TI:=fun σ H R=>∃ ρ ds,EnvR K H σ ρ/\f ρ=some ds/\∀ J H1,PostI K σ ρ H es ds J H1->R J H1
abbrev VI(X:Cx)(tg iter:Expr)(f:FEs)(es:List Es):Prop:=PI X tg iter (tvI X.K f es)
theorem jX{X:Cx}{tg e:Expr}{t t':TI}(h:PI X tg e t)(i:∀ σ H R,t' σ H R->t σ H R):PI X tg e t':=fun pins s σ H R I q=>h pins s σ H R I (i σ H R q)
section
variable {X:Cx} {tg iter a b:Expr} {fa fi:FE} {as:FEs} {es ea ei:List Es} {pr pn:Pos}
def cO(f:FE):FEs:=fun ρ=>(f ρ).bind fun d=>if cr d=true then none else items d
theorem yN(h:VB X iter fi ei):VI X tg iter (cO fi) ei:=jX (gD h) fun σ H R ⟨ρ,ds,hE,hf,hR⟩=>by
  obtain⟨d,h1,hf⟩:=bind_some hf
  cases ht:cr d with
  | true=>rw[if_pos ht] at hf;cases hf
  | false =>
    rw[if_neg (by rw[ht];exact Bool.false_ne_true)] at hf
    refine⟨ρ,d,hE,h1,fun v H1 p=>?_⟩
    obtain⟨q,xs,rfl,hq,hx,hA⟩:=dR p.rep hf ht
    have len:=hx.length
    refine⟨q,rfl,⟨xs,hq⟩,hR _ _ ⟨p.same,fun i d' H' hd e=>?_,fun H' e=>⟨xs,e.seq hq,by omega⟩⟩⟩
    obtain⟨x,h2,h3⟩:=hx.get hd
    refine⟨⟨xs,x,e.seq hq,h2⟩,fun y H'' ⟨eq,hy⟩=>?_⟩
    subst eq
    have e2:=hy xs (e.seq hq)
    rw[h2] at e2;cases e2
    refine⟨Same.refl _,ay e h3,fun A hD hz=>?_⟩
    obtain⟨x',h4,h5⟩:=(hA A (p.av A hD hz)).get hd
    rw[h2] at h4;cases h4
    exact ay (bD e) h5
theorem yO{K:PySem.W.Frag}{σ:St}{ρ:ae}{H H1:Hp}{lo:Int}{n:Nat}(e:Same H H1):PostI K σ ρ H [] (cj lo n) (Itr lo n) H1:=by
  refine⟨e,fun i d H' hd _=>?_,fun H' _=>?_⟩
  · have hi:i < n:=by
      have:=(List.getElem?_eq_some_iff.mp hd).1
      simpa [cj] using this
    have ed:d=.int (lo+i):=by
      have:=(List.getElem?_eq_some_iff.mp hd).2
      rw[<- this];simp[cj]
    subst ed
    refine⟨hi,fun x H'' ⟨e1,e2⟩=>?_⟩
    subst e1 e2
    exact⟨Same.refl _,.int _,fun A _ _=>.int _⟩
  · show n<=(cj lo n).length
    simp[cj]
def iR1(as:FEs):FEs:=fun ρ=>(as ρ).bind fun ds=>match ds with
  | [.int j]=>if okR j then some (cj 0 j.toNat) else none
  | _=>none
theorem yP(mr:X.mg "range" = none)(hi:VA X [a] as ei)(hg:Gl X "range":=by rfl)(hst:starEach [a] X.env=[(false,eval a X.env)]:=by rfl):VI X tg (.Call (.Name "range" pn) [a] [] pr) (iR1 as) [] :=
  jX (jB hg mr hi hst) fun σ H R ⟨ρ,ds,hE,hf,hR⟩=>by
    obtain⟨vs,h1,hf⟩:=bind_some hf
    refine⟨ρ,vs,hE,h1,fun xs H1 p=>?_⟩
    match vs,hf,p with
    | [.int j],hf,p =>
      obtain⟨hj,rfl⟩:=ca hf
      obtain⟨v,rfl,r⟩:=ez p.rep
      cases r
      exact⟨j,rfl,hj.1,hj.2,hR _ _ (yO p.same)⟩
end
def aX{α:Type}(σ:List (Option α))(is:List Nat)(xs:List α):List (Option α):=(is.zip xs).foldl (fun r p=>r.set p.1 (some p.2)) σ
structure TgV (K:PySem.W.Frag) (g:TG) (is:List Nat) (un:D->Option (List D)):Prop where
  ok:∀ (x:V) (σ:St) (H:Hp) (Q:St->Hp->Prop) (d:D) (ds:List D),Rep K H x d->un d=some ds->(∀ xs:List V,Reps K H xs ds->(∀ A,Rep K (ao H A) x d->Reps K (ao H A) xs ds)->Q (aX σ is xs) H)->g x σ H Q
  len:∀ d ds,un d=some ds->ds.length=is.length
def un1(d:D):Option (List D):=some [d]
theorem df{K:PySem.W.Frag}(t:Nat):TgV K (bq t) [t] un1 where
  ok:=fun x σ H Q d ds r hd h=>by
    cases hd
    exact h [x] (.cons r .nil) fun A r'=>.cons r' .nil
  len:=fun d ds h=>by cases h;rfl
def unT(n:Nat):D->Option (List D)
  | .tup ds=>if ds.length=n then some ds else none
  | _=>none
theorem ql{Q:St->Hp->Prop}{H:Hp}:∀ {is:List Nat} {xs:List V} {σ:St},is.length=xs.length->Q (aX σ is xs) H->gP is xs σ H Q
  | [],[],_,_,h=>⟨rfl,h⟩
  | [],_::_,_,h,_=>by cases h
  | _::_,[],_,h,_=>by cases h
  | i::is,x::xs,σ,hl,h=>⟨x,xs,rfl,ql (σ:=σ.set i (some x)) (by simpa using hl) h⟩
theorem ma{K:PySem.W.Frag}(is:List Nat):TgV K (oI K is.length (gP is)) is (unT is.length) where
  ok:=fun x σ H Q d ds r hd h=>by
    cases d with
    | tup es =>
      obtain⟨hl,rfl⟩:=ca hd
      obtain⟨p,xs,rfl,hp,hx⟩:=lY r
      have len:=hx.length
      exact⟨p,xs,rfl,.inl hp,by omega,ql (by omega) (h xs hx fun A r'=>qi hp r')⟩
    | _=>cases hd
  len:=fun d ds h=>by
    cases d with
    | tup es=>obtain⟨hl,rfl⟩:=ca h;exact hl
    | _=>cases h
def aW(nown:Nat)(caps:List Nat)(ρ:ae):ae:=List.replicate nown none++caps.map fun j=>(ρ[j]?).getD none
theorem jY{P:Nat->V->D->Prop}:∀ {is:List Nat} {xs:List V} {ds:List D} {σ:St} {ρ:ae},σ.length=ρ.length->xs.length=ds.length->(∀ (j:Nat) v d,σ[j]?=some (some v)->ρ[j]?=some (some d)->P j v d) ->
    (∀ (k:Nat) j v d,is[k]?=some j->xs[k]?=some v->ds[k]?=some d->P j v d)->∀ (j:Nat) v d,(aX σ is xs)[j]?=some (some v)->(aX ρ is ds)[j]?=some (some d)->P j v d
  | [],_,_,_,_,_,_,h0,_=>by simpa [aX] using h0
  | i::is,[],[],_,_,_,_,h0,_=>by simpa [aX] using h0
  | i::is,[],_::_,_,_,_,h,_,_=>by cases h
  | i::is,_::_,[],_,_,_,h,_,_=>by cases h
  | i :: is,x::xs,d::ds,σ,ρ,hl,hx,h0,h1=>by
    refine jY (is:=is) (xs:=xs) (ds:=ds) (σ:=σ.set i (some x)) (ρ:=ρ.set i (some d)) (by simpa using hl) (by simpa using hx) (fun j v d' e1 e2=>?_) fun k j v d' a1 a2 a3=>h1 (k+1) j v d' (by simpa using a1) (by simpa using a2) (by simpa using a3)
    by_cases hj:j=i
    · subst hj
      have l1:j < σ.length:=by have:=(List.getElem?_eq_some_iff.mp e1).1;simpa using this
      rw[List.getElem?_set_self l1] at e1
      rw[List.getElem?_set_self (by omega)] at e2
      cases e1;cases e2
      exact h1 0 j x d rfl rfl rfl
    · rw[List.getElem?_set_ne (Ne.symm hj)] at e1 e2
      exact h0 j v d' e1 e2
theorem qm{α β:Type}:∀ {is:List Nat} {xs:List α} {ds:List β} {σ:List (Option α)} {ρ:List (Option β)},σ.length=ρ.length->xs.length=ds.length->(∀ (j:Nat) d,ρ[j]?=some (some d)->∃ v,σ[j]?=some (some v)) ->
    ∀ (j:Nat) d,(aX ρ is ds)[j]?=some (some d)->∃ v,(aX σ is xs)[j]?=some (some v)
  | [],_,_,_,_,_,_,h0=>by simpa [aX] using h0
  | i::is,[],[],_,_,_,_,h0=>by simpa [aX] using h0
  | i::is,[],_::_,_,_,_,h,_=>by cases h
  | i::is,_::_,[],_,_,_,h,_=>by cases h
  | i :: is,x::xs,d::ds,σ,ρ,hl,hx,h0=>by
    refine qm (is:=is) (xs:=xs) (ds:=ds) (σ:=σ.set i (some x)) (ρ:=ρ.set i (some d)) (by simpa using hl) (by simpa using hx) fun j d' e2=>?_
    by_cases hj:j=i
    · subst hj
      have l1:j < ρ.length:=by have:=(List.getElem?_eq_some_iff.mp e2).1;simpa using this
      exact⟨x,List.getElem?_set_self (by omega)⟩
    · rw[List.getElem?_set_ne (Ne.symm hj)] at e2 ⊢
      exact h0 j d' e2
theorem qp{α:Type}:∀ {is:List Nat} {xs:List α} {σ:List (Option α)},(aX σ is xs).length=σ.length
  | [],_,_=>by simp[aX]
  | _::_,[],_=>by simp[aX]
  | i::is,x::xs,σ=>by
    have:=qp (is:=is) (xs:=xs) (σ:=σ.set i (some x))
    simpa [aX] using this
theorem qr{α:Type}{n:Nat}:∀ {is:List Nat} {xs:List α} {σ:List (Option α)},(∀ i ∈ is,i < n)->∀ j,n<=j->(aX σ is xs)[j]?=σ[j]?
  | [],_,_,_,_,_=>by simp[aX]
  | _::_,[],_,_,_,_=>by simp[aX]
  | i::is,x::xs,σ,h,j,hj=>by
    have:=qr (is:=is) (xs:=xs) (σ:=σ.set i (some x)) (fun k hk=>h k (List.mem_cons_of_mem _ hk)) j hj
    have hi:=h i List.mem_cons_self
    rw[List.getElem?_set_ne (by omega)] at this
    simpa [aX] using this
def esC(nown:Nat)(caps:List Nat)(ei:List Es):List Es->List Es
  | []=>[]
  | .full j::r=>(if j < nown then ei else [.full (caps.getD (j - nown) 0)])++esC nown caps ei r
  | .el j::r=>(if j < nown then ei else [.el (caps.getD (j - nown) 0)])++esC nown caps ei r
theorem jZ{nown:Nat}{caps:List Nat}{ei:List Es}:∀ {ee:List Es} {e:Es},e ∈ ee->(∀ j,e=.full j\/e=.el j->j < nown)->∀ z ∈ ei,z ∈ esC nown caps ei ee
  | .full j::r,e,he,hj,z,hz=>by
    rcases List.mem_cons.mp he with q | q
    · have:=hj j (.inl q)
      show z ∈ (if j < nown then ei else _)++_
      rw[if_pos this];exact List.mem_append_left _ hz
    · exact List.mem_append_right _ (jZ q hj z hz)
  | .el j::r,e,he,hj,z,hz=>by
    rcases List.mem_cons.mp he with q | q
    · have:=hj j (.inr q)
      show z ∈ (if j < nown then ei else _)++_
      rw[if_pos this];exact List.mem_append_left _ hz
    · exact List.mem_append_right _ (jZ q hj z hz)
theorem md{nown:Nat}{caps:List Nat}{ei:List Es}{j:Nat}(hj:¬ j < nown):∀ {ee:List Es},Es.full j ∈ ee->Es.full (caps.getD (j - nown) 0) ∈ esC nown caps ei ee
  | .full k::r,he=>by
    rcases List.mem_cons.mp he with q | q
    · cases q
      show _ ∈ (if j < nown then ei else _)++_
      rw[if_neg hj];exact List.mem_append_left _ List.mem_cons_self
    · exact List.mem_append_right _ (md hj q)
  | .el k::r,he=>by
    rcases List.mem_cons.mp he with q | q
    · cases q
    · exact List.mem_append_right _ (md hj q)
theorem me{nown:Nat}{caps:List Nat}{ei:List Es}{j:Nat}(hj:¬ j < nown):∀ {ee:List Es},Es.el j ∈ ee->Es.el (caps.getD (j - nown) 0) ∈ esC nown caps ei ee
  | .full k::r,he=>by
    rcases List.mem_cons.mp he with q | q
    · cases q
    · exact List.mem_append_right _ (me hj q)
  | .el k::r,he=>by
    rcases List.mem_cons.mp he with q | q
    · cases q
      show _ ∈ (if j < nown then ei else _)++_
      rw[if_neg hj];exact List.mem_append_left _ List.mem_cons_self
    · exact List.mem_append_right _ (me hj q)
def cZ(g:D->Option (Option D)):List D->Option (List D)
  | []=>some []
  | x::r=>(g x).bind fun o=>(cZ g r).bind fun ds=>some (match o with | some d=>d::ds | none=>ds)
def dm(is:List Nat)(un:D->Option (List D))(c:ae->Option Bool)(fe:FE)(ρ:ae):D->Option (Option D):=fun d=>(un d).bind fun ds=>(c (aX ρ is ds)).bind fun b=>if b=true then (fe (aX ρ is ds)).map some else some none
def br(nown:Nat)(caps:List Nat)(is:List Nat)(un:D->Option (List D))(fi:FEs)(c:ae->Option Bool)(fe:FE):FE:=fun ρ=>(fi ρ).bind fun ds=>if ds.length < 100000 then (cZ (dm is un c fe (aW nown caps ρ)) ds).map .lst else none
def bL:ae->Option Bool:=fun _=>some true
theorem yQ{K:PySem.W.Frag}{nown:Nat}{caps is:List Nat}{un:D->Option (List D)}{fi:FEs}{ei ee:List Es}{g:TG}{c:ae->Option Bool}{fe:FE}(hg:TgV K g is un)(his:∀ i ∈ is,i < nown){σ:St}{H:Hp}{Q:VK}(h:tvF K (br nown caps is un fi c fe) (esC nown caps ei ee) σ H Q):gR nown caps (tvI K fi ei) g (tvT K c) (tv K fe ee) σ H Q:=by
  obtain⟨ρ,dd,hE,hf,hQ⟩:=h
  obtain⟨ds,h1,hf⟩:=bind_some hf
  by_cases hl:ds.length < 100000
  · rw[if_pos hl] at hf
    cases htot:cZ (dm is un c fe (aW nown caps ρ)) ds with
    | none=>rw[htot] at hf;cases hf
    | some tot =>
      rw[htot] at hf
      cases hf
      refine⟨ρ,ds,hE,h1,fun J H1 p=>?_⟩
      refine⟨fun i m ys σb H2=>m=ds.length - i/\i<=ds.length/\Same H1 H2/\(σb.length=nown+caps.length/\∀ k,nown<=k->σb[k]?=(ck σ caps)[k - nown]?) /\
        ∃ done aq,cZ (dm is un c fe (aW nown caps ρ)) (ds.drop i)=some aq/\tot=done++aq/\done.length<=i/\Reps K H2 ys done/\∀ A,Dom H A->(∀ e ∈ esC nown caps ei ee,Av K H σ ρ A e)->Reps K (ao H2 A) ys done,?_,?_⟩
      · refine⟨ds.length,by simp,Nat.zero_le _,Same.refl _,⟨by simp[ck],fun k hk=>?_⟩,[],tot,by simpa using htot,rfl,Nat.le_refl _,.nil,fun _ _ _=>.nil⟩
        rw[List.getElem?_append_right (by simpa using hk)]
        simp
      · rintro i m ys σb H2 ⟨rfl,hi,e2,⟨hlen,hcap⟩,done,aq,hgo,htot',hdl,hr,hA⟩
        have lys:=hr.length
        refine⟨Nat.lt_of_lt_of_le (show ys.length < 100000 by omega) (by decide),?_⟩
        by_cases hlt:i < ds.length
        · obtain⟨d,hd⟩:∃ d,ds[i]?=some d:=⟨ds[i],by simp[hlt]⟩
          have ed:ds.drop i=d::ds.drop (i+1):=by
            rw[List.drop_eq_getElem_cons hlt]
            have q:=(List.getElem?_eq_some_iff.mp hd).2
            rw[q]
          rw[ed] at hgo
          obtain⟨o,ho,hgo⟩:=bind_some hgo
          obtain⟨rest',hgo',hgo⟩:=bind_some hgo
          cases hgo
          obtain⟨ts,hun,ho⟩:=bind_some ho
          obtain⟨b,hb,ho⟩:=bind_some ho
          obtain⟨jg,jy⟩:=p.go i d H2 hd e2
          refine .inr ⟨jg,fun x H3 y=>?_⟩
          obtain⟨e3,rx,ax⟩:=jy x H3 y
          refine hg.ok x σb H3 _ d ts rx hun fun xs rxs axs=>?_
          have e13:Same H H3:=(p.same.trans e2).trans e3
          have lx:=rxs.length
          have lts:=hg.len d ts hun
          have lb:σb.length=(aW nown caps ρ).length:=by rw[hlen];simp[aW]
          have base:∀ (j:Nat) v d',σb[j]?=some (some v)->(aW nown caps ρ)[j]?=some (some d')->¬ j < nown/\∃ k,caps[j - nown]?=some k/\σ[k]?=some (some v)/\ρ[k]?=some (some d'):=fun j v d' q1 q2=>by
            by_cases hj:j < nown
            · unfold aW at q2
              rw[List.getElem?_append_left (by simpa using hj),List.getElem?_replicate,if_pos hj] at q2
              cases q2
            · rw[hcap j (by omega)] at q1
              unfold aW at q2
              rw[List.getElem?_append_right (by simp;omega)] at q2
              simp only[List.length_replicate,List.getElem?_map] at q2
              unfold ck at q1
              rw[List.getElem?_map] at q1
              cases hk:caps[j - nown]? with
              | none=>rw[hk] at q1;cases q1
              | some k =>
                rw[hk] at q1 q2
                refine⟨hj,k,rfl,?_,?_⟩
                · simp only[Option.map_some,Option.some.injEq] at q1
                  cases e:σ[k]? with
                  | none=>rw[e] at q1;cases q1
                  | some o'=>rw[e] at q1;simp only[Option.getD_some] at q1;rw[q1]
                · simp only[Option.map_some,Option.some.injEq] at q2
                  cases e:ρ[k]? with
                  | none=>rw[e] at q2;cases q2
                  | some o'=>rw[e] at q2;simp only[Option.getD_some] at q2;rw[q2]
          have hE':EnvR K H3 (aX σb is xs) (aX (aW nown caps ρ) is ts):=fun j d' q=>by
            obtain⟨v,hv⟩:=qm lb lx (fun j' d'' q'=>by
              by_cases hj:j' < nown
              · unfold aW at q'
                rw[List.getElem?_append_left (by simpa using hj),List.getElem?_replicate,if_pos hj] at q'
                cases q'
              · have q0:=q'
                unfold aW at q'
                rw[List.getElem?_append_right (by simp;omega)] at q'
                simp only[List.length_replicate,List.getElem?_map] at q'
                cases hk:caps[j' - nown]? with
                | none=>rw[hk] at q';cases q'
                | some k =>
                  rw[hk] at q'
                  simp only[Option.map_some,Option.some.injEq] at q'
                  cases e:ρ[k]? with
                  | none=>rw[e] at q';cases q'
                  | some o' =>
                    rw[e] at q'
                    simp only[Option.getD_some] at q'
                    subst q'
                    obtain⟨v,hv,_⟩:=hE k d'' e
                    refine⟨v,?_⟩
                    rw[hcap j' (by omega)]
                    unfold ck
                    rw[List.getElem?_map,hk]
                    simp[hv]) j d' q
            refine⟨v,hv,jY (P:=fun _ v d=>Rep K H3 v d) lb lx (fun j v d' q1 q2=>?_) (fun k j v d' a1 a2 a3=>?_) j v d' hv q⟩
            · obtain⟨_,k,_,k1,k2⟩:=base j v d' q1 q2
              obtain⟨v',k3,k4⟩:=hE k d' k2
              rw[k1] at k3;cases k3
              exact ay e13 k4
            · obtain⟨v',k3,k4⟩:=rxs.get a3
              rw[a2] at k3;cases k3
              exact k4
          have av:∀ A,Dom H A->(∀ e ∈ esC nown caps ei ee,Av K H σ ρ A e)->∀ H5,Same H3 H5->∀ e ∈ ee,Av K H5 (aX σb is xs) (aX (aW nown caps ρ) is ts) A e:=fun A hD hz H5 e5 e he=>by
            have item:(∀ z ∈ ei,z ∈ esC nown caps ei ee)->Reps K (ao H3 A) xs ts:=fun hsub=>axs A (ax A hD fun z hz'=>hz z (hsub z hz'))
            refine Av.mono e5 ?_
            cases e with
            | full j0 =>
              intro v d' q1 q2
              refine jY (P:=fun j v d=>j=j0->Rep K (ao H3 A) v d) lb lx (fun j v d' q3 q4 ej=>?_) (fun k j v d' a1 a2 a3 ej=>?_) j0 v d' q1 q2 rfl
              · rw[<- ej] at he
                obtain⟨hj,k,hk,k1,k2⟩:=base j v d' q3 q4
                have:=hz _ (md hj he)
                rw[List.getD_eq_getElem?_getD,hk] at this
                exact ay (bD e13) (this v d' k1 k2)
              · rw[<- ej] at he
                have hj:=his j (List.mem_of_getElem? a1)
                obtain⟨v',k3,k4⟩:=(item (jZ he fun j' hj'=>by rcases hj' with q | q <;> cases q;exact hj)).get a3
                rw[a2] at k3;cases k3
                exact k4
            | el j0 =>
              intro v d' q1 q2
              refine jY (P:=fun j v d=>j=j0->ElR K H3 A v d) lb lx (fun j v d' q3 q4 ej=>?_) (fun k j v d' a1 a2 a3 ej=>?_) j0 v d' q1 q2 rfl
              · rw[<- ej] at he
                obtain⟨hj,k,hk,k1,k2⟩:=base j v d' q3 q4
                have:=hz _ (me hj he)
                rw[List.getD_eq_getElem?_getD,hk] at this
                exact (this v d' k1 k2).mono e13
              · rw[<- ej] at he
                have hj:=his j (List.mem_of_getElem? a1)
                obtain⟨v',k3,k4⟩:=(item (jZ he fun j' hj'=>by rcases hj' with q | q <;> cases q;exact hj)).get a3
                rw[a2] at k3;cases k3
                exact k4.el
          have shape:(aX σb is xs).length=nown+caps.length/\∀ k,nown<=k->(aX σb is xs)[k]?=(ck σ caps)[k - nown]?:=⟨by rw[qp];exact hlen,fun k hk=>by rw[qr his k hk];exact hcap k hk⟩
          refine⟨_,b,hE',hb,fun H5 e5=>?_⟩
          have e25:Same H2 H5:=e3.trans e5
          cases b with
          | false =>
            cases ho
            refine dL ⟨ds.length - (i+1),by omega,rfl,hlt,e2.trans e25,shape,done,rest',hgo',htot',by omega,aH e25 hr,fun A hD hz=>aH (bD e25) (hA A hD hz)⟩
          | true =>
            have ho':(fe (aX (aW nown caps ρ) is ts)).map some=some o:=ho
            cases hfe:fe (aX (aW nown caps ρ) is ts) with
            | none=>rw[hfe] at ho';cases ho'
            | some dv =>
              rw[hfe] at ho'
              cases ho'
              refine dM ⟨_,dv,hE'.mono e5,hfe,fun v H6 p6=>?_⟩
              have e26:Same H2 H6:=e25.trans p6.same
              refine⟨ds.length - (i+1),by omega,rfl,hlt,e2.trans e26,shape,done++[dv],rest',hgo',by rw[htot'];simp,by simp;omega,(aH e26 hr).append (.cons p6.rep .nil),fun A hD hz=>?_⟩
              exact (aH (bD e26) (hA A hD hz)).append (.cons (p6.av A (hD.mono (e13.trans e5)) (av A hD hz H5 e5)) .nil)
        · have ei':i=ds.length:=by omega
          subst ei'
          rw[List.drop_length] at hgo
          cases hgo
          rw[List.append_nil] at htot'
          subst htot'
          exact .inl ⟨p.stop H2 e2,fun d hd=>hQ _ _ (fF (p.same.trans e2) hd fun A hD hz=>hA A hD hz)⟩
  · rw[if_neg hl] at hf;cases hf
end VL
namespace VL
open PySem PySem.Spec PyProof.Rows L2
def b2z(b:Bool):Int:=if b then 1 else 0
def fL:D->D->Bool
  | .non,.non=>true
  | .bl a,.bl b=>a == b
  | .int i,.int j=>i == j
  | .str x,.str y=>x == y
  | .bl a,.int j=>b2z a == j
  | .int i,.bl b=>i == b2z b
  | _,_=>false
def aO:Nat->D->D->Bool
  | k+1,.lst xs,.lst ys=>xs.length == ys.length && (xs.zip ys).all fun p=>aO k p.1 p.2
  | k+1,.tup xs,.tup ys=>xs.length == ys.length && (xs.zip ys).all fun p=>aO k p.1 p.2
  | _,d,e=>fL d e
def aU:Nat->D->Bool
  | _,.scr _=>false
  | _,.dct _ _=>false
  | _,.ptr _=>false
  | 0,.lst _=>false
  | 0,.tup _=>false
  | k+1,.lst xs=>xs.all (aU k)
  | k+1,.tup xs=>xs.all (aU k)
  | _,_=>true
structure Cmp3 (A:Around) (s:Shared) (v u:Value) (b:Bool):Prop where
  eq:SeqAt.EqAt A s v u b
  rc:SeqAt.RcAt A s v u b
  ne:SeqAt.RcNeAt A s v u (!b)
theorem mf(f:D->D->Bool):∀ (xs ys:List D),xs.length=ys.length ->
    (List.range xs.length).all (fun j=>match xs[j]?,ys[j]? with | some a,some b=>f a b | _,_=>false)=(xs.zip ys).all fun p=>f p.1 p.2
  | [],[],_=>rfl
  | [],_::_,h=>by cases h
  | _::_,[],h=>by cases h
  | x::xs,y::ys,h=>by
    have ih:=mf f xs ys (by simpa using h)
    rw[List.length_cons,List.range_succ_eq_map,List.all_cons,List.all_map,List.zip_cons_cons,List.all_cons,<- ih]
    simp[Function.comp_def]
def mh:D->Bool
  | .scr _=>true
  | .dct _ _=>true
  | .ptr _=>true
  | _=>false
def k0:D->D->Bool
  | .lst _,.lst _=>true
  | .tup _,.tup _=>true
  | _,_=>false
theorem qt{X:Cx}{pins:List (Addr × Obj)}{σ:St}{H:Hp}{s:Shared}(I:L2.Inv X pins σ H s)(A:Around)(v u:V)(vv uu:Value)(d e:D)(hu:A.units < cLine)(nd:mh d=false)(ne:mh e=false)(nl:k0 d e=false)(rd:Rep X.K H v d)(re:Rep X.K H u e)(rv:RelV v vv)(ru:RelV u uu):Cmp3 A s vv uu (fL d e):=by
  cases rd with
  | scr _=>cases nd
  | dct _=>cases nd
  | ptr _=>cases nd
  | non =>
    cases rv
    cases re with
    | scr _=>cases ne
    | dct _=>cases ne
    | ptr _=>cases ne
    | non =>
      cases ru
      exact⟨.same _,.none_none,.none_none⟩
    | bl b2 =>
      cases ru
      exact⟨.none_bool b2,.none_bool b2,.none_bool b2⟩
    | int i2 =>
      obtain⟨t2,rfl⟩:=ru
      exact⟨.none_int i2 t2,.none_int i2 t2,.none_int i2 t2⟩
    | str x2 =>
      obtain⟨t2,rfl⟩:=ru
      exact⟨.none_str x2 t2,.none_str x2 t2,.none_str x2 t2⟩
    | @lst p2 xs2 ds2 h2 r2 =>
      cases ru;obtain⟨its2,q2,pl2,z2⟩:=I.list (.inl h2);have l2:=pl2.isList
      exact⟨.none_list l2 hu,.none_list l2 hu,.none_list l2 hu⟩
    | @tup p2 xs2 ds2 h2 r2 =>
      cases ru;obtain⟨its2,q2,l2,z2⟩:=I.tuple (.inl h2)
      exact⟨.none_tuple l2 hu,.none_tuple l2 hu,.none_tuple l2 hu⟩
  | bl b1 =>
    cases rv
    cases re with
    | scr _=>cases ne
    | dct _=>cases ne
    | ptr _=>cases ne
    | non =>
      cases ru
      exact⟨.bool_none b1,.bool_none b1,.bool_none b1⟩
    | bl b2 =>
      cases ru
      exact⟨.bool_bool b1 b2,.bool_bool b1 b2,.bool_bool b1 b2⟩
    | int i2 =>
      obtain⟨t2,rfl⟩:=ru
      exact⟨.bool_int b1 i2 t2,.bool_int b1 i2 t2,.bool_int b1 i2 t2⟩
    | str x2 =>
      obtain⟨t2,rfl⟩:=ru
      exact⟨.bool_str b1 x2 t2,.bool_str b1 x2 t2,.bool_str b1 x2 t2⟩
    | @lst p2 xs2 ds2 h2 r2 =>
      cases ru;obtain⟨its2,q2,pl2,z2⟩:=I.list (.inl h2);have l2:=pl2.isList
      exact⟨.bool_list b1 l2 hu,.bool_list b1 l2 hu,.bool_list b1 l2 hu⟩
    | @tup p2 xs2 ds2 h2 r2 =>
      cases ru;obtain⟨its2,q2,l2,z2⟩:=I.tuple (.inl h2)
      exact⟨.bool_tuple b1 l2 hu,.bool_tuple b1 l2 hu,.bool_tuple b1 l2 hu⟩
  | int i1 =>
    obtain⟨t1,rfl⟩:=rv
    cases re with
    | scr _=>cases ne
    | dct _=>cases ne
    | ptr _=>cases ne
    | non =>
      cases ru
      exact⟨.int_none i1 t1,.int_none i1 t1,.int_none i1 t1⟩
    | bl b2 =>
      cases ru
      exact⟨.int_bool i1 t1 b2,.int_bool i1 t1 b2,.int_bool i1 t1 b2⟩
    | int i2 =>
      obtain⟨t2,rfl⟩:=ru
      exact⟨.int_int i1 t1 i2 t2,.int_int i1 t1 i2 t2,.int_int i1 t1 i2 t2⟩
    | str x2 =>
      obtain⟨t2,rfl⟩:=ru
      exact⟨.int_str i1 t1 x2 t2,.int_str i1 t1 x2 t2,.int_str i1 t1 x2 t2⟩
    | @lst p2 xs2 ds2 h2 r2 =>
      cases ru;obtain⟨its2,q2,pl2,z2⟩:=I.list (.inl h2);have l2:=pl2.isList
      exact⟨.int_list i1 t1 l2 hu,.int_list i1 t1 l2 hu,.int_list i1 t1 l2 hu⟩
    | @tup p2 xs2 ds2 h2 r2 =>
      cases ru;obtain⟨its2,q2,l2,z2⟩:=I.tuple (.inl h2)
      exact⟨.int_tuple i1 t1 l2 hu,.int_tuple i1 t1 l2 hu,.int_tuple i1 t1 l2 hu⟩
  | str x1 =>
    obtain⟨t1,rfl⟩:=rv
    cases re with
    | scr _=>cases ne
    | dct _=>cases ne
    | ptr _=>cases ne
    | non =>
      cases ru
      exact⟨.str_none x1 t1,.str_none x1 t1,.str_none x1 t1⟩
    | bl b2 =>
      cases ru
      exact⟨.str_bool x1 t1 b2,.str_bool x1 t1 b2,.str_bool x1 t1 b2⟩
    | int i2 =>
      obtain⟨t2,rfl⟩:=ru
      exact⟨.str_int x1 t1 i2 t2,.str_int x1 t1 i2 t2,.str_int x1 t1 i2 t2⟩
    | str x2 =>
      obtain⟨t2,rfl⟩:=ru
      exact⟨.str_str x1 t1 x2 t2,.str_str x1 t1 x2 t2,.str_str x1 t1 x2 t2⟩
    | @lst p2 xs2 ds2 h2 r2 =>
      cases ru;obtain⟨its2,q2,pl2,z2⟩:=I.list (.inl h2);have l2:=pl2.isList
      exact⟨.str_list x1 t1 l2 hu,.str_list x1 t1 l2 hu,.str_list x1 t1 l2 hu⟩
    | @tup p2 xs2 ds2 h2 r2 =>
      cases ru;obtain⟨its2,q2,l2,z2⟩:=I.tuple (.inl h2)
      exact⟨.str_tuple x1 t1 l2 hu,.str_tuple x1 t1 l2 hu,.str_tuple x1 t1 l2 hu⟩
  | @lst p1 xs1 ds1 h1 r1 =>
    cases rv;obtain⟨its1,q1,pl1,z1⟩:=I.list (.inl h1);have l1:=pl1.isList
    cases re with
    | scr _=>cases ne
    | dct _=>cases ne
    | ptr _=>cases ne
    | non =>
      cases ru
      exact⟨.list_none l1 hu,.list_none l1 hu,.list_none l1 hu⟩
    | bl b2 =>
      cases ru
      exact⟨.list_bool b2 l1 hu,.list_bool b2 l1 hu,.list_bool b2 l1 hu⟩
    | int i2 =>
      obtain⟨t2,rfl⟩:=ru
      exact⟨.list_int i2 t2 l1 hu,.list_int i2 t2 l1 hu,.list_int i2 t2 l1 hu⟩
    | str x2 =>
      obtain⟨t2,rfl⟩:=ru
      exact⟨.list_str x2 t2 l1 hu,.list_str x2 t2 l1 hu,.list_str x2 t2 l1 hu⟩
    | lst _ _=>cases nl
    | @tup p2 xs2 ds2 h2 r2 =>
      cases ru;obtain⟨its2,q2,l2,z2⟩:=I.tuple (.inl h2)
      exact⟨.list_tuple l1 l2 hu,.list_tuple l1 l2 hu,.list_tuple l1 l2 hu⟩
  | @tup p1 xs1 ds1 h1 r1 =>
    cases rv;obtain⟨its1,q1,l1,z1⟩:=I.tuple (.inl h1)
    cases re with
    | scr _=>cases ne
    | dct _=>cases ne
    | ptr _=>cases ne
    | non =>
      cases ru
      exact⟨.tuple_none l1 hu,.tuple_none l1 hu,.tuple_none l1 hu⟩
    | bl b2 =>
      cases ru
      exact⟨.tuple_bool b2 l1 hu,.tuple_bool b2 l1 hu,.tuple_bool b2 l1 hu⟩
    | int i2 =>
      obtain⟨t2,rfl⟩:=ru
      exact⟨.tuple_int i2 t2 l1 hu,.tuple_int i2 t2 l1 hu,.tuple_int i2 t2 l1 hu⟩
    | str x2 =>
      obtain⟨t2,rfl⟩:=ru
      exact⟨.tuple_str x2 t2 l1 hu,.tuple_str x2 t2 l1 hu,.tuple_str x2 t2 l1 hu⟩
    | @lst p2 xs2 ds2 h2 r2 =>
      cases ru;obtain⟨its2,q2,pl2,z2⟩:=I.list (.inl h2);have l2:=pl2.isList
      exact⟨.tuple_list l1 l2 hu,.tuple_list l1 l2 hu,.tuple_list l1 l2 hu⟩
    | tup _ _=>cases nl
theorem qu{K:PySem.W.Frag}:∀ (k:Nat) (H:Hp) {xs:List V} {j:Nat} {d e:D},(∃ v,xs[j]?=some v/\Rep K H v d)->(∃ v,xs[j]?=some v/\Rep K H v e)->aU k d=true->aU k e=true->aO k d e=true:=by
  intro k H
  have main:∀ (k:Nat) {v:V} {d e:D},Rep K H v d->Rep K H v e->aU k d=true->aU k e=true->aO k d e=true:=by
    intro k
    induction k with
    | zero =>
      intro v d e h1 h2 f1 f2
      cases h1 <;> cases h2 <;> first | (cases f1;done) | (cases f2;done) | simp[aO,fL]
    | succ k ih =>
      intro v d e h1 h2 f1 f2
      have seq:∀ {xs:List V} {ds es:List D},Reps K H xs ds->Reps K H xs es->ds.all (aU k)=true->es.all (aU k)=true->(ds.length == es.length && (ds.zip es).all fun p=>aO k p.1 p.2)=true:=by
        intro xs ds es r1 r2 g1 g2
        rw[Bool.and_eq_true]
        refine⟨by rw[<- r1.length,r2.length];simp,List.all_eq_true.mpr fun z hz=>?_⟩
        obtain⟨j,hj,ej⟩:=List.getElem_of_mem hz
        have ej':(ds.zip es)[j]?=some z:=by rw[List.getElem?_eq_getElem hj,ej]
        rw[List.getElem?_zip_eq_some] at ej'
        obtain⟨a,a1,a2⟩:=r1.get ej'.1
        obtain⟨b,b1,b2⟩:=r2.get ej'.2
        rw[a1] at b1;cases b1
        exact ih a2 b2 (List.all_eq_true.mp g1 _ (List.mem_of_getElem? ej'.1)) (List.all_eq_true.mp g2 _ (List.mem_of_getElem? ej'.2))
      cases h1 with
      | lst a1 a2 =>
        cases h2 with
        | lst b1 b2=>rw[fD a1 b1] at a2;exact seq a2 b2 f1 f2
        | tup b1 b2=>exact (pR a1 b1).elim
        | scr _=>cases f2
        | dct _=>cases f2
        | ptr _=>cases f2
      | tup a1 a2 =>
        cases h2 with
        | tup b1 b2=>rw[jM a1 b1] at a2;exact seq a2 b2 f1 f2
        | lst b1 b2=>exact (pR b1 a1).elim
        | scr _=>cases f2
        | dct _=>cases f2
        | ptr _=>cases f2
      | scr _=>cases f1
      | dct _=>cases f1
      | ptr _=>cases f1
      | _=>cases h2;simp[aO,fL]
  intro xs j d e ⟨v,h1,r1⟩ ⟨w,h2,r2⟩ f1 f2
  rw[h1] at h2;cases h2
  exact main k r1 r2 f1 f2
theorem qv{k:Nat}{d e:D}(h:k0 d e=false):aO k d e=fL d e:=by
  cases k <;> cases d <;> cases e <;> first | rfl | cases h
theorem kc{k:Nat}{d:D}(h:aU k d=true):mh d=false:=by
  cases d <;> first | rfl | (cases k <;> cases h)
theorem qw{X : Cx}{pins:List (Addr × Obj)}{σ:St}{H:Hp}{s:Shared}(I:L2.Inv X pins σ H s):∀ (k:Nat) (A:Around) (v u:V) (vv uu:Value) (d e:D),A.units+k < cLine->aU k d=true->aU k e=true ->
    Rep X.K H v d->Rep X.K H u e->RelV v vv->RelV u uu->Cmp3 A s vv uu (aO k d e):=by
  intro k
  induction k with
  | zero =>
    intro A v u vv uu d e hA fd fe rd re rv ru
    have nb:k0 d e=false:=by
      cases d <;> cases e <;> first | rfl | cases fd
    rw[qv nb]
    exact qt I A v u vv uu d e (by omega) (kc fd) (kc fe) nb rd re rv ru
  | succ k ih =>
    intro A v u vv uu d e hA fd fe rd re rv ru
    have hu:A.units < cLine:=by omega
    have hin:A.in1.units+k < cLine:=by show A.units+1+k < cLine;omega
    cases nb:k0 d e with
    | false =>
      rw[qv nb]
      exact qt I A v u vv uu d e hu (kc fd) (kc fe) nb rd re rv ru
    | true =>
      have items:∀ {ds es:List D} {xs ys:List V} {its its2:List Value},ds.all (aU k)=true->es.all (aU k)=true->Reps X.K H xs ds->Reps X.K H ys es->Vals xs its->Vals ys its2 ->
          ∀ j (h1:j < its.toArray.size) (h2:j < its2.toArray.size),SeqAt.EqAt A.in1 s its.toArray[j] its2.toArray[j] (match ds[j]?,es[j]? with | some a,some b=>aO k a b | _,_=>false):=by
        intro ds es xs ys its its2 hd he rx ry vx vy j h1 h2
        have lx:=rx.length
        have ly:=ry.length
        have mx:=vx.length
        have my:=vy.length
        have k1:j < ds.length:=by simp only[List.size_toArray] at h1;omega
        have k2:j < es.length:=by simp only[List.size_toArray] at h2;omega
        obtain⟨a,ea⟩:∃ a,ds[j]?=some a:=⟨_,List.getElem?_eq_getElem k1⟩
        obtain⟨b,eb⟩:∃ b,es[j]?=some b:=⟨_,List.getElem?_eq_getElem k2⟩
        obtain⟨x,ex,qx⟩:=rx.get ea
        obtain⟨y,ey,qy⟩:=ry.get eb
        obtain⟨w1,e1,r1⟩:=vx.get ex
        obtain⟨w2,e2,r2⟩:=vy.get ey
        have f1:its.toArray[j]=w1:=by have:=(List.getElem?_eq_some_iff.mp e1).2;simpa using this
        have f2:its2.toArray[j]=w2:=by have:=(List.getElem?_eq_some_iff.mp e2).2;simpa using this
        rw[f1,f2,ea,eb]
        exact (ih A.in1 x y w1 w2 a b hin (List.all_eq_true.mp hd a (List.mem_of_getElem? ea)) (List.all_eq_true.mp he b (List.mem_of_getElem? eb)) qx qy r1 r2).eq
      cases rd with
      | @lst p xs ds h1 h2 =>
        cases rv
        cases re with
        | @lst q ys es h3 h4 =>
          cases ru
          obtain⟨its,vx,pl,hz⟩:=I.list (.inl h1)
          obtain⟨its2,vy,pl2,hz2⟩:=I.list (.inl h3)
          have e1:its.toArray.size=ds.length:=by rw[List.size_toArray,<- vx.length,h2.length]
          have e2:its2.toArray.size=es.length:=by rw[List.size_toArray,<- vy.length,h4.length]
          have core:SeqAt.RcAt A s (.ref p) (.ref q) (aO (k+1) (.lst ds) (.lst es))/\SeqAt.RcNeAt A s (.ref p) (.ref q) (!aO (k+1) (.lst ds) (.lst es)):=by
            by_cases hl:ds.length=es.length
            · have val:aO (k+1) (.lst ds) (.lst es)=(List.range its.toArray.size).all (fun j=>match ds[j]?,es[j]? with | some a,some b=>aO k a b | _,_=>false):=by
                rw[e1,mf (aO k) ds es hl]
                show (ds.length == es.length && _)=_
                rw[hl];simp
              rw[val]
              exact⟨.lists pl.isList pl2.isList (by omega) hu (items fd fe h2 h4 vx vy),.lists pl.isList pl2.isList (by omega) hu (items fd fe h2 h4 vx vy)⟩
            · have val:aO (k+1) (.lst ds) (.lst es)=false:=by
                show (ds.length == es.length && _)=false
                rw[show (ds.length == es.length)=false by simpa using hl];rfl
              rw[val]
              have hne:(its.toArray.size != its2.toArray.size)=true:=by rw[e1,e2];simpa using hl
              exact⟨.lists_lengths pl.isList pl2.isList hne hu,.lists_lengths pl.isList pl2.isList hne hu⟩
          refine⟨?_,core.1,core.2⟩
          by_cases hpq:p=q
          · subst hpq
            have ev:aO (k+1) (.lst ds) (.lst es)=true:=by
              have exy:=fD h1 h3
              subst exy
              show (ds.length == es.length && (ds.zip es).all fun p=>aO k p.1 p.2)=true
              rw[Bool.and_eq_true]
              refine⟨by rw[<- h2.length,h4.length];simp,List.all_eq_true.mpr fun z hz=>?_⟩
              obtain⟨j,hj,ej⟩:=List.getElem_of_mem hz
              have ej':(ds.zip es)[j]?=some z:=by rw[List.getElem?_eq_getElem hj,ej]
              rw[List.getElem?_zip_eq_some] at ej'
              exact qu k H (h2.get ej'.1) (h4.get ej'.2) (List.all_eq_true.mp fd _ (List.mem_of_getElem? ej'.1)) (List.all_eq_true.mp fe _ (List.mem_of_getElem? ej'.2))
            rw[ev]
            exact .same _
          · exact .of_refs hpq core.1
        | tup _ _=>cases nb
        | _=>cases nb
      | @tup p xs ds h1 h2 =>
        cases rv
        cases re with
        | @tup q ys es h3 h4 =>
          cases ru
          obtain⟨its,vx,pl,hz⟩:=I.tuple (.inl h1)
          obtain⟨its2,vy,pl2,hz2⟩:=I.tuple (.inl h3)
          have e1:its.toArray.size=ds.length:=by rw[List.size_toArray,<- vx.length,h2.length]
          have e2:its2.toArray.size=es.length:=by rw[List.size_toArray,<- vy.length,h4.length]
          have core:SeqAt.RcAt A s (.ref p) (.ref q) (aO (k+1) (.tup ds) (.tup es))/\SeqAt.RcNeAt A s (.ref p) (.ref q) (!aO (k+1) (.tup ds) (.tup es)):=by
            have val:aO (k+1) (.tup ds) (.tup es)=((List.range (min its.toArray.size its2.toArray.size)).all (fun j=>match ds[j]?,es[j]? with | some a,some b=>aO k a b | _,_=>false) && its.toArray.size == its2.toArray.size):=by
              rw[e1,e2]
              by_cases hl:ds.length=es.length
              · rw[<- hl,Nat.min_self,mf (aO k) ds es hl]
                show (ds.length == es.length && _)=_
                rw[hl];simp
              · show (ds.length == es.length && _)=_
                rw[show (ds.length == es.length)=false by simpa using hl];simp
            rw[val]
            exact⟨.tuples pl pl2 hu (items fd fe h2 h4 vx vy),.tuples pl pl2 hu (items fd fe h2 h4 vx vy)⟩
          refine⟨?_,core.1,core.2⟩
          by_cases hpq:p=q
          · subst hpq
            have ev:aO (k+1) (.tup ds) (.tup es)=true:=by
              have exy:=jM h1 h3
              subst exy
              show (ds.length == es.length && (ds.zip es).all fun p=>aO k p.1 p.2)=true
              rw[Bool.and_eq_true]
              refine⟨by rw[<- h2.length,h4.length];simp,List.all_eq_true.mpr fun z hz=>?_⟩
              obtain⟨j,hj,ej⟩:=List.getElem_of_mem hz
              have ej':(ds.zip es)[j]?=some z:=by rw[List.getElem?_eq_getElem hj,ej]
              rw[List.getElem?_zip_eq_some] at ej'
              exact qu k H (h2.get ej'.1) (h4.get ej'.2) (List.all_eq_true.mp fd _ (List.mem_of_getElem? ej'.1)) (List.all_eq_true.mp fe _ (List.mem_of_getElem? ej'.2))
            rw[ev]
            exact .same _
          · exact .of_refs hpq core.1
        | lst _ _=>cases nb
        | _=>cases nb
      | _=>cases e <;> cases nb
end VL
namespace VL
open PySem PySem.Spec PyProof.Rows L2
section
variable {X:Cx} {a b c:Expr} {es ea eb:List Es} {fa fb:FE} {pos p p2:Pos} {k:Nat}
def qz(K:PySem.W.Frag):R2:=fun x y H Q=>∃ d e,Rep K H x d/\Rep K H y e/\aU 4 d=true/\aU 4 e=true/\Q (.bl (aO 4 d e)) H
def qA(K:PySem.W.Frag):R2:=fun x y H Q=>∃ d e,Rep K H x d/\Rep K H y e/\aU 4 d=true/\aU 4 e=true/\Q (.bl (!aO 4 d e)) H
theorem kd(hr:Room k X.A):OpR X (compareOp .Eq) (qz X.K):=by
  intro pins s σ H x y v u Q I rx ry h
  obtain⟨d,e,r1,r2,f1,f2,q⟩:=h
  have hu:=hr.units
  exact (qw I 4 X.A x y v u d e (by omega) f1 f2 r1 r2 rx ry).rc X.prog X.w X.xe _ ⟨.bl _,H,I,rfl,q⟩
theorem qB(hr:Room k X.A):OpR X (compareOp .NotEq) (qA X.K):=by
  intro pins s σ H x y v u Q I rx ry h
  obtain⟨d,e,r1,r2,f1,f2,q⟩:=h
  have hu:=hr.units
  exact (qw I 4 X.A x y v u d e (by omega) f1 f2 r1 r2 rx ry).ne X.prog X.w X.xe _ ⟨.bl _,H,I,rfl,q⟩
def eqD(d e:D):Option D:=if aU 4 d=true/\aU 4 e=true then some (.bl (aO 4 d e)) else none
def neD(d e:D):Option D:=if aU 4 d=true/\aU 4 e=true then some (.bl (!aO 4 d e)) else none
theorem kf(K:PySem.W.Frag):OpV K (qz K) eqD:=by
  intro x y H dx dy d Q rx ry hg hQ
  obtain⟨⟨h1,h2⟩,rfl⟩:=ca hg
  exact⟨dx,dy,rx,ry,h1,h2,hQ _ H (Same.refl H) (.bl _) fun A _ _ _=>.bl _⟩
theorem qC(K:PySem.W.Frag):OpV K (qA K) neD:=by
  intro x y H dx dy d Q rx ry hg hQ
  obtain⟨⟨h1,h2⟩,rfl⟩:=ca hg
  exact⟨dx,dy,rx,ry,h1,h2,hQ _ H (Same.refl H) (.bl _) fun A _ _ _=>.bl _⟩
theorem yR(x y d:D)(h:eqD x y=some d):b0 d=true:=by obtain⟨_,rfl⟩:=ca h;rfl
theorem yS(hr:Room k X.A)(ha:VE X a fa ea)(hb:VE X b fb eb):VE X (.Compare a [.Eq] [b] pos) (e2 eqD fa fb) []:=iz (kd hr) (kf X.K) ha hb (cB _) yR
theorem yT(hr:Room k X.A)(ha:VE X a fa ea)(hb:VE X b fb eb):VT X (.Compare a [.Eq] [b] pos) (eT (e2 eqD fa fb)):=iA (kd hr) (kf X.K) ha hb (cB _)
theorem yU(hr:Room k X.A)(ha:VE X a fa ea)(hb:VE X b fb eb):VT X (.Compare a [.NotEq] [b] pos) (eT (e2 neD fa fb)):=iA (qB hr) (qC X.K) ha hb (cB _)
theorem qD(K:PySem.W.Frag)(d:D):PySem.W.kitOne K (.type (tyD d)) (.type "int")=some (eB "int" (tyD d)):=by
  cases d <;> first | rfl | kernel_rfl
theorem mj(K:PySem.W.Frag)(d:D):PySem.W.kitOne K (.type (tyD d)) (.type "bool")=some (eB "bool" (tyD d)):=by
  cases d <;> first | rfl | kernel_rfl
def mk:D->Bool
  | .ptr _=>true
  | _=>false
theorem yV{T:String}(hk:∀ K d,PySem.W.kitOne K (.type (tyD d)) (.type T)=some (eB T (tyD d))):CallR X (.builtin "isinstance") (fun xs H Q=>∃ x d,xs=[x,.ty T]/\Rep X.K H x d/\mk d=false/\Q (.bl (eB T (tyD d))) H):=by
  intro pins s σ H xs us Q I r h
  obtain⟨x,d,rfl,rx,np,q⟩:=h
  obtain⟨u,w,rfl,ru,rw'⟩:=lC r
  cases rw'
  have fin:∀ tk,EP X pins σ Q (.bool (eB T (tyD d))) { s with toks:=tk }:=fun tk=>⟨.bl _,H,I.tok tk,rfl,q⟩
  have e:=hk X.K d
  cases rx with
  | non=>cases ru;exact PySem.W.kia_one PySem.W.kitx_none I.kIn True.intro e (fun z=>nomatch z) fin
  | bl b=>cases ru;exact PySem.W.kia_one PySem.W.kitx_bool I.kIn True.intro e (fun z=>nomatch z) fin
  | int i=>obtain⟨t,rfl⟩:=ru;exact PySem.W.kia_one PySem.W.kitx_int I.kIn True.intro e (fun z=>nomatch z) fin
  | str i=>obtain⟨t,rfl⟩:=ru;exact PySem.W.kia_one PySem.W.kitx_str I.kIn True.intro e (fun z=>nomatch z) fin
  | lst h1 h2 =>
    cases ru
    obtain⟨its,_,⟨o,n,e1,e2,_⟩,_⟩:=I.list (.inl h1)
    exact PySem.W.kia_one PySem.W.kitx_list I.kIn ⟨o,e1,e2⟩ e (fun z=>nomatch z) fin
  | scr h1 =>
    cases ru
    obtain⟨its,_,⟨o,n,e1,e2,_⟩,_⟩:=I.list h1
    exact PySem.W.kia_one PySem.W.kitx_list I.kIn ⟨o,e1,e2⟩ e (fun z=>nomatch z) fin
  | tup h1 h2 =>
    cases ru
    obtain⟨its,_,⟨o,e1,e2,_⟩,_⟩:=I.tuple (.inl h1)
    exact PySem.W.kia_one PySem.W.kitx_tuple I.kIn ⟨o,e1,e2⟩ e (fun z=>nomatch z) fin
  | dct h1 =>
    cases ru
    obtain⟨_,_,vs,_,o,es,ep,e1,e2,_⟩:=jJ I.hok h1.rd
    exact PySem.W.kia_one PySem.W.kitx_dict I.kIn ⟨o,e1,e2.1⟩ e (fun z=>nomatch z) fin
  | ptr a=>cases np
def d9(T:String):D->Option D:=fun d=>if mk d=true then none else some (.bl (eB T (tyD d)))
theorem yW{T:Str}{TS:String}(hk:∀ K d,PySem.W.kitOne K (.type (tyD d)) (.type TS)=some (eB TS (tyD d)))(hT:bootBuiltins T=some (.type TS))(mi:X.mg "isinstance" = none)(mt:X.mg T=none)(ha:VE X a fa ea)(hg:Gl X "isinstance":=by rfl)(hgT:Gl X T:=by rfl)(hn:T ≠ "__name__":=by decide)(hd:(T == ("__debug__" : Str))=false:=by decide)(hs:starEach [a,.Name T p2] X.env=(false,eval a X.env)::starEach [.Name T p2] X.env:=by rfl)(hs2:starEach [.Name T p2] X.env=(false,eval (.Name T p2) X.env)::starEach [] X.env:=by rfl)(hpl:(backTo pos (starEach [.Name T p2] X.env)).any (·.1)=false:=by rfl):
    VE X (.Call (.Name "isinstance" p) [a,.Name T p2] [] pos) (e1 (d9 TS) fa) [] :=
  aI (lG (yV hk) hg mi (by decide +kernel) (cq ha (cq (v4 (v:=.ty TS) hgT mt hT rfl hn hd) cC hs2) hs) (by decide) (by decide) hs hpl) fun σ H Q ⟨ρ,d,hE,hf,hQ⟩=>by
    obtain⟨dx,h1,hf⟩:=bind_some hf
    cases np:mk dx with
    | true=>simp only[d9,np] at hf;cases hf
    | false =>
    simp only[d9,np] at hf
    cases hf
    exact⟨ρ,dx,hE,h1,fun x H1 p1=>⟨x,dx,rfl,p1.rep,np,hQ _ H1 ⟨p1.same,.bl _,fun A _ _=>.bl _⟩⟩⟩
def fM:List D->Option (List Bool)
  | []=>some []
  | .bl b::r=>(fM r).map (b::·)
  | _::_=>none
theorem qE:∀ {ds:List D} {bs:List Bool},fM ds=some bs->ds=bs.map D.bl
  | [],bs,h=>by cases h;rfl
  | .bl i::r,bs,h=>by
    simp only[fM] at h
    cases e:fM r with
    | none=>rw[e] at h;cases h
    | some ms=>rw[e] at h;cases h;rw[qE e];rfl
  | .non::_,_,h=>by cases h
  | .int _::_,_,h=>by cases h
  | .str _::_,_,h=>by cases h
  | .lst _::_,_,h=>by cases h
  | .tup _::_,_,h=>by cases h
  | .scr _::_,_,h=>by cases h
theorem qF{K:PySem.W.Frag}{H:Hp}:∀ {bs:List Bool} {xs:List V},Reps K H xs (bs.map D.bl)->xs=bs.map V.bl
  | [],xs,h=>by cases h;rfl
  | n::ns,xs,h=>by
    cases h with
    | cons h1 h2=>cases h1;rw[qF h2];rfl
theorem yX{bs:List Bool}{us:List Value}(h:Vals (bs.map V.bl) us):us=bs.map Value.bool:=by
  induction bs generalizing us with
  | nil=>cases h;rfl
  | cons b r ih =>
    cases h with
    | cons h1 h2=>cases h1;rw[ih h2];rfl
theorem yY(bs:List Bool):((List.range bs.length).all fun i=>(bs[i]?).getD true)=bs.all id:=by
  rw[Bool.eq_iff_iff,List.all_eq_true,List.all_eq_true]
  constructor
  · intro h b hb
    obtain⟨i,hi,rfl⟩:=List.getElem_of_mem hb
    have:=h i (List.mem_range.mpr hi)
    simpa [List.getElem?_eq_getElem hi] using this
  · intro h i hi
    have hi':=List.mem_range.mp hi
    simpa [List.getElem?_eq_getElem hi'] using h _ (List.getElem_mem hi')
theorem yZ(hc:X.calm=true):CallR X (.builtin "all") (fun xs H Q=>∃ (q:Addr) (bs:List Bool),xs=[.ref q]/\SqL X.K H q (bs.map V.bl)/\Q (.bl (bs.all id)) H):=by
  intro pins s σ H xs us Q I r h
  obtain⟨q,bs,rfl,hq,hQ⟩:=h
  obtain⟨u,rfl,ru⟩:=eo r
  cases ru
  obtain⟨its,rv,pl,hz⟩:=I.list hq
  have ei:=yX rv
  have hl:=pl.isList
  have hlt:q < s.heap.objs.size:=by obtain⟨_,e,_⟩:=hl;exact Heap.lt_size e
  refine call_all_walk (wpAny_pyIter_list hl ⟨s.heap.objs.size,[s.heap.objs.size,q],[s.heap.objs.size],its.toArray.size,_,_,fun i=>(bs[i]?).getD true,rfl,Walks.list (A:=X.A.in1) (I.ok.hd hc) _ q (Nat.ne_of_lt hlt) its.toArray,
    ⟨⟨_,Heap.get?_push_size _ rfl,rfl,rfl⟩,hl.push _⟩,fun i v s' Q' E' hP hQ'=>?_,fun h' tk hk=>?_⟩)
  · have hP':its[i]?=some v:=by simpa using hP
    rw[ei,List.getElem?_map] at hP'
    cases e:bs[i]? with
    | none=>rw[e] at hP';cases hP'
    | some b =>
      rw[e] at hP'
      cases hP'
      simp only[e,Option.getD_some] at hQ'
      exact wpAny_truthy_bool hQ'
  · have e:its.toArray.size=bs.length:=by rw[List.size_toArray,ei,List.length_map]
    rw[e,yY]
    refine⟨.bl _,H,I.kept (t':=tk) fun b o z=>hk b o (fun hm=>?_) (Heap.get?_push_of_some _ z),rfl,hQ⟩
    rw[List.mem_singleton.mp hm] at z
    exact Nat.lt_irrefl _ (Heap.lt_size z)
def eD(g:List Bool->Bool):D->Option D
  | .lst ds=>(fM ds).bind fun bs=>some (.bl (g bs))
  | _=>none
theorem za(g:List Bool->Bool):fG X.K (fun xs H Q=>∃ (q:Addr) (bs:List Bool),xs=[.ref q]/\SqL X.K H q (bs.map V.bl)/\Q (.bl (g bs)) H) (aL (eD g)):=by
  intro xs H ds d Q r hg hQ
  obtain⟨x,rfl,hg1⟩:=jT hg
  obtain⟨v,rfl,r1⟩:=ez r
  cases x with
  | lst es =>
    obtain⟨bs,h2,hg3⟩:=bind_some hg1
    cases hg3
    obtain⟨q,ys,rfl,hq,hx,_⟩:=lT r1
    rw[qE h2] at hx
    rw[qF hx] at hq
    exact⟨q,bs,rfl,.inl hq,hQ _ fun H'=>.bl _⟩
  | _=>cases hg1
theorem zb{as:FEs}(hc:X.calm=true)(ml:X.mg "all" = none)(ha:VA X [a] as es)(hg:Gl X "all":=by rfl)(he:starEach [a] X.env=(false,eval a X.env)::starEach [] X.env:=by rfl)(hpl:(backTo pos (starEach [] X.env)).any (·.1)=false:=by rfl):
    VE X (.Call (.Name "all" p) [a] [] pos) (eA (aL (eD fun bs=>bs.all id)) as) []:=iE (yZ hc) (za _) ml PyProof.Rows.boot_all ha hg (by decide) (by decide) he hpl
end
section
variable {X:Cx} {elt tg iter:Expr} {ifs:List Expr} {scope:Scope} {own cn:List Str} {caps is:List Nat} {g:TG} {un:D->Option (List D)} {fi:FEs} {ei ee:List Es} {c:ae->Option Bool} {fe:FE} {pos spos p2:Pos}
theorem cP{X:Cx}:PTs X [] (tvT X.K bL):=fun pins s σ H Q I h=>by
  obtain⟨ρ,b,_,hb,hQ⟩:=h
  cases hb
  exact iM pins s σ H Q I (hQ H (Same.refl H))
theorem zc{X:Cx}{e:Expr}{f:ae->Option Bool}(h:VT X e f):PTs X [e] (tvT X.K f):=yL h
theorem zd(B:BlkOk X scope own caps cn)(hc:X.calm=true)(hi:VI X tg iter fi ei)(hg:∀ s H cl ex,PG (blk X (own++cn) s H scope cl ex) tg g)(hgv:TgV X.K g is un)(his:∀ i ∈ is,i < own.length)(ht:∀ s H cl ex,PTs (blk X (own++cn) s H scope cl ex) ifs (tvT X.K c))(he:∀ s H cl ex,VE (blk X (own++cn) s H scope cl ex) elt fe ee)(hs:∀ x,foldedSetIterable iter X.env x=pure x:=by intro _;rfl):
    VF X (.ListComp elt [⟨tg,iter,ifs,0⟩] scope pos) (br own.length caps is un fi c fe) (esC own.length caps ei ee):=by
  intro pins s σ H Q I h
  obtain⟨cl,hclos,hcl,hha⟩:=m7 (scope:=scope) (env:=X.env) fun x hx hf=>I.ok.has x.1 (B.free x hx hf)
  rw[eval_ListComp]
  refine wpAny_comprehension_free (use:=none) rfl hs hclos B.kind B.locals (m9 B hc hi hg ht he I (yQ hgv his h) hcl hha (RR:=fun acc C=>compPost (model X.prog X.w) X.A X.xe none (EP X pins σ Q) acc C) fun d c ys H' s' af q=>?_)
  obtain⟨m,hm⟩:=af.ns
  obtain⟨f0,f1,_,f3,f4,f5⟩:=af.cf
  refine⟨m,hm,fun h' sb=>⟨.ref d,_,af.inv.turned (t':=s'.toks) (it:=c) (fun b o hb e=>(sb.2 b hb).trans e) f0 f1 f3 f4 f5,rfl,q⟩⟩
end
end VL
namespace VL
open PySem PySem.Spec PyProof.Rows L2
def Def(P:Program)(w:World)(K:PySem.W.Frag)(mg:Str->Option Value)(base:Heap)(x:Str)(k:Nat)(ps:List Str)(G:List D->Option D)(fr:Bool):Prop :=
  ∃ f fd,FnOk P w K mg base CX0 k f fd ps (spF K G fr)/\mg x=some (.ref f)/\PySem.W.keepIn K (.ref f)=true/\Binds K fd ps []
def scF(G:List D->Option D):List D->Option D:=fun ds=>(G ds).bind fun d=>if b0 d=true then some d else none
theorem qG{G:List D->Option D}{ds:List D}{d:D}(h:scF G ds=some d):G ds=some d/\b0 d=true:=by
  obtain⟨e,h1,h2⟩:=bind_some h
  obtain⟨h3,rfl⟩:=ca h2
  exact⟨h1,h3⟩
section
variable {P:Program} {w:World} {K:PySem.W.Frag} {mg:Str->Option Value} {base:Heap} {x:Str} {j k:Nat} {ps:List Str} {G:List D->Option D} {fr:Bool}
theorem Def.sc(h:Def P w K mg base x k ps G fr):Def P w K mg base x k ps (scF G) fr :=
  let ⟨f,fd,F,m,kp,b⟩:=h
  ⟨f,fd,F.imp fun vs H Q E ⟨ds,d,r,hg,q⟩=>⟨ds,d,r,(qG hg).1,q⟩,m,kp,b⟩
theorem Def.mono(h:Def P w K mg base x j ps G fr)(hk:j<=k:=by decide):Def P w K mg base x k ps G fr :=
  let ⟨f,fd,F,m,kp,b⟩:=h
  ⟨f,fd,F.mono hk,m,kp,b⟩
theorem ze{np n:Nat}{qual:Str}{st:Stmt}{f:Addr}{fd:FuncData}{N:List Str}{body:FS}(O' OL:List Nat)(h1:ps.length=np)(h2:N.length=n)(h3:G=mkF fr np n body)(Fn:Fun K x qual st f fd)(S:FnScope N ps (ai st))(h:∀ (cdv:Value) (A:Around) (outer:List PySem.Env) (s:Shared) (H:Hp) (E:XK) (F:Fr0),F.n=n->Room k (A.deeper (envOfC qual (ai st) s.heap.objs.size f cdv)) ->
      VSs (cK CX0 P w K mg base N qual (ai st) f cdv A outer s H E).nox F [] (aD st) body O' OL fr):
    FnOk P w K mg base CX0 (k+1) f fd ps (spF K G fr):=by
  subst h1 h2 h3
  exact yG Fn S h
end
section
variable {X:Cx} {k:Nat} {ps:List Str} {G:List D->Option D} {fr:Bool} {x:Str} {p pos:Pos} {e:Expr} {es':List Expr} {as:FEs} {es:List Es}
theorem qH(d:Def X.prog X.w X.K X.mg X.base x k ps G fr)(hr:Room k X.A)(ha:VA X (e::es') as es)(hg:Gl X x:=by rfl)(hdb:(x == ("__debug__" : Str))=false:=by decide)(he:starEach (e::es') X.env=(false,eval e X.env)::starEach es' X.env:=by rfl)(hpl:(backTo pos (starEach es' X.env)).any (·.1)=false:=by rfl):
    VE X (.Call (.Name x p) (e::es') [] pos) (eA G as) es :=
  let ⟨_,_,F,m,kp,b⟩:=d
  yH F hr m kp b ha hg hdb he hpl
theorem zf(d:Def X.prog X.w X.K X.mg X.base x k ps G true)(hr:Room k X.A)(ha:VA X (e::es') as es)(hg:Gl X x:=by rfl)(hdb:(x == ("__debug__" : Str))=false:=by decide)(he:starEach (e::es') X.env=(false,eval e X.env)::starEach es' X.env:=by rfl)(hpl:(backTo pos (starEach es' X.env)).any (·.1)=false:=by rfl):
    VF X (.Call (.Name x p) (e::es') [] pos) (eA G as) es :=
  let ⟨_,_,F,m,kp,b⟩:=d
  yI F hr m kp b ha hg hdb he hpl
theorem zg(d:Def X.prog X.w X.K X.mg X.base x k ps (scF G) fr)(hr:Room k X.A)(ha:VA X (e::es') as es)(hg:Gl X x:=by rfl)(hdb:(x == ("__debug__" : Str))=false:=by decide)(he:starEach (e::es') X.env=(false,eval e X.env)::starEach es' X.env:=by rfl)(hpl:(backTo pos (starEach es' X.env)).any (·.1)=false:=by rfl):
    VE X (.Call (.Name x p) (e::es') [] pos) (eA (scF G) as) [] :=
  jP (qH d hr ha hg hdb he hpl) fun ρ d h=>by
    obtain⟨ds,_,h2⟩:=bind_some h
    exact (qG h2).2
end
def mm:D->Bool
  | .non=>true
  | _=>false
def cQ:D->Option D:=fun d=>some (.bl (mm d))
def dq:D->Option D:=fun d=>some (.bl (!mm d))
def mn:D->D->Option D
  | d,.non=>cQ d
  | _,_=>none
def mo:D->D->Option D
  | d,.non=>dq d
  | _,_=>none
theorem qI{K:PySem.W.Frag}{H:Hp}{v:V}{d:D}(r:Rep K H v d):decide (v=.non)=mm d:=by
  cases r <;> rfl
theorem qJ(K:PySem.W.Frag):OpV K (fun x y H Q=>y=.non/\Q (.bl (decide (x=.non))) H) mn:=fun x y H dx dy d Q rx ry hg q=>by
  cases dy <;> first | (cases hg;done) | skip
  cases ry
  have hg:some (D.bl _)=some d:=hg
  cases hg
  refine⟨rfl,q _ _ (Same.refl H) ?_ fun A _ _ _=>?_⟩ <;> (rw[qI rx];exact .bl _)
theorem qK(K:PySem.W.Frag):OpV K (fun x y H Q=>y=.non/\Q (.bl (!decide (x=.non))) H) mo:=fun x y H dx dy d Q rx ry hg q=>by
  cases dy <;> first | (cases hg;done) | skip
  cases ry
  have hg:some (D.bl _)=some d:=hg
  cases hg
  refine⟨rfl,q _ _ (Same.refl H) ?_ fun A _ _ _=>?_⟩ <;> (rw[qI rx];exact .bl _)
section
variable {X:Cx} {a b:Expr} {fa fb:FE} {ea eb:List Es} {pos p2:Pos}
theorem zh(x y d:D)(h:mo x y=some d):b0 d=true:=by
  cases y <;> first | (cases h;done) | (have h:some (D.bl _)=some d:=h;cases h;rfl)
theorem zi(fa:FE):e2 mn fa (eC .non)=e1 cQ fa:=by
  funext ρ
  unfold e2 e1 eC
  cases fa ρ <;> rfl
theorem qL(fa:FE):e2 mo fa (eC .non)=e1 dq fa:=by
  funext ρ
  unfold e2 e1 eC
  cases fa ρ <;> rfl
theorem zj{j}(ha:VE X a fa ea):VT X (.Compare a [.Is] [.Constant .none j p2] pos) (eT (e1 cQ fa)):=by
  rw[<- zi];exact iA oU (qJ X.K) ha gG (cB _)
theorem zk{j}(ha:VE X a fa ea):VE X (.Compare a [.IsNot] [.Constant .none j p2] pos) (e1 dq fa) []:=by
  rw[<- qL];exact iz oV (qK X.K) ha gG (cB _) zh
theorem zl{j}(ha:VE X a fa ea):VT X (.Compare a [.IsNot] [.Constant .none j p2] pos) (eT (e1 dq fa)):=by
  rw[<- qL];exact iA oV (qK X.K) ha gG (cB _)
end
end VL
namespace VL
open PySem PySem.Spec PyProof.Rows L2
def bM(d:D):Option (List D):=if cr d=true then none else items d
def iN(t:Nat)(it:FE)(tb:FS):FS:=fun ρ=>(it ρ).bind fun d=>(bM d).bind fun ds=>bn (fun x ρ=>tb (ρ.set t (some x))) ds.reverse ρ
def kg:D->Option D:=fun d=>(bM d).bind fun ds=>some (.lst ds.reverse)
def eE(ds:List D):List D:=ds.zipIdx.map fun p=>.tup [.int (p.2:Nat),p.1]
def eF(ds es:List D):List D:=(ds.zip es).map fun p=>.tup [p.1,p.2]
def iO(a:FE):FEs:=fun ρ=>(a ρ).bind fun d=>(bM d).bind fun ds=>some (eE ds)
def gS(a b:FE):FEs:=fun ρ=>(a ρ).bind fun d=>(b ρ).bind fun e=>(bM d).bind fun ds=>(bM e).bind fun es=>some (eF ds es)
end VL
namespace VL
open PySem PySem.Spec PyProof.Rows L2
theorem mq{X:Cx}{pins:List (Addr × Obj)}{σ:St}{H:Hp}{s:Shared}{h':Heap}{t':Nat}{ch:List Addr}(I:Inv X pins σ H s)(k:∀ b o,b ∉ ch->s.heap.get? b=some o->h'.get? b=some o)(hf:∀ b ∈ ch,bI X pins H b):
    Inv X pins σ H { s with heap:=h',toks:=t' }:=by
  have nit:∀ b u,H b=some u->b ∉ ch:=fun b u e z=>by rw[(hf b z).1] at e;cases e
  have hL:X.env.locals ∉ ch:=fun z=>(hf _ z).2.1 rfl
  refine I.step (g':=s.gens) (d':=s.drawn) (ch:=ch) (fun b hb=>?_) (fun b o _ _ hc e _=>k b o hc e) (fun b o _ _ hc e _=>⟨o.slots,k b o hc e⟩) (fun _ _ _ _ n=>n)
    (fun b o hc e=>⟨o,k b o hc e⟩) (fun _ _ e=>e) (fun _ _ _ e=>e) (fun b ps e=>⟨#[],by rw[e];simp⟩) (fun m hm=>?_) (fun b u e=>?_) I.bare
  · obtain⟨f0,f1,f2,f3,f4,f5⟩:=hf b hb
    exact⟨f3,f1,f4,f5⟩
  · obtain⟨o,es,ep,ho,r⟩:=hm
    exact⟨o,es,ep,k _ o hL ho,r⟩
  · refine (I.hok b u e).stay (fun c v hc q=>k c v ?_ q) (fun _ q=>q) fun _ _ q=>q
    rcases hc with z | z
    · rw[z];exact nit b u e
    · exact nit c _ z
theorem kh{X:Cx}{pins:List (Addr × Obj)}{σ:St}{H:Hp}{s:Shared}{T:Addr}{o:HO}(I:Inv X pins σ H s)(hf:bI X pins H T)(new:ObjOk X.prog X.w (upd H T o) s.heap T o):Inv X pins σ (upd H T o) s:=by
  obtain⟨f0,f1,f2,f3,f4,f5⟩:=hf
  have key:=I.step (h':=s.heap) (H':=upd H T o) (g':=s.gens) (d':=s.drawn) (t':=s.toks) (ch:=[T]) (fun b hb=>?_) (fun b o _ _ hc e _=>e) (fun b o _ _ hc e _=>⟨o.slots,e⟩) (fun b o' hc e n=>by rw[aC (by simpa using hc)];exact n)
    (fun b o hc e=>⟨o,e⟩) (fun b xs e=>by rw[aC (bQ e f0)];exact e) (fun b o u e=>by rw[aC (bQ e f0)];exact e) (fun b ps e=>⟨#[],by rw[aC (bQ e f0),e];simp⟩) (fun m hm=>hm) (fun b u e=>?_) I.bare
  · exact key
  · have e:b=T:=by simpa using hb
    subst e
    exact⟨f3,f1,f4,f5⟩
  · by_cases hb:b=T
    · subst hb;rw[b9] at e;cases e;exact new
    · rw[aC hb] at e
      exact (I.hok b u e).stay (fun c v _ q=>q) (fun c q=>by rw[aC (bQ q f0)];exact q) fun c xs q=>by rw[aC (bQ q f0)];exact q
def Itv(K:PySem.W.Frag)(a:Addr)(n:Nat):It :=
  ⟨fun i H=>∃ xs x,SqL K H a xs/\xs.length=n/\i < n/\xs[n - 1 - i]?=some x,fun i H x H'=>H'=H/\∀ xs,SqL K H a xs->xs[n - 1 - i]?=some x,fun i H=>i=n⟩
theorem zm{P:Program}{w:World}{K:PySem.W.Frag}{tg:Expr}(a it:Addr)(n:Nat):Turn P w K tg (Itv K a n) [it] it (fun i h=>h.IsRevIter it a ((n:Int) - 1 - (i:Nat))) where
  mem:=by simp
  obj:=fun i h st b hb=>by
    have e:b=it:=by simpa using hb
    subst e
    obtain⟨o,e,c,d⟩:=st
    exact⟨o,e,fun v z=>by rw[d] at z;cases z⟩
  keep:=fun i h h' st k=>st.at fun o e=>k it (by simp) o e
  item:=by
    intro X hP hw hK hc i pins s σ H E I hf st hg
    subst hP hw hK
    obtain⟨xs,x,hq,hn,hi,hx⟩:=hg
    obtain⟨its,rv,p,hz⟩:=I.list hq
    obtain⟨u,hu,ru⟩:=rv.get hx
    obtain⟨f0,f1,f2,f3,f4,f5⟩:=hf it (by simp)
    have st':s.heap.IsRevIter it a ((n - 1 - i:Nat):Int):=by
      have e:((n - 1 - i:Nat):Int)=(n:Int) - 1 - (i:Nat):=by omega
      rw[e];exact st
    refine wpAny_pyNext_rev_item st' p.isList (x:=u) (by simpa using hu) fun h' st2 sb=>?_
    have I1:Inv X pins σ H { s with heap:=h' }:=I.turned (t':=s.toks) (fun b o hb e=>(sb.2 b hb).trans e) f0 f1 f3 f4 f5
    obtain⟨o,e,c,d⟩:=id st2
    refine⟨u,rfl,jA (s:={ s with heap:=h' }) e c d (by decide) ⟨x,H,I1,ru,⟨rfl,fun ys hy=>by rw[I.list_inj hy hq];exact hx⟩,?_,fun b hb=>(hf b hb).1⟩⟩
    have e:(n:Int) - 1 - ((i+1:Nat):Int)=((n - 1 - i:Nat):Int) - 1:=by omega
    show h'.IsRevIter it a ((n:Int) - 1 - ((i+1:Nat):Int))
    rw[e];exact st2
  done:=by
    intro X hP hw hK hc i pins s σ H E I hf st hg
    subst hP hw hK
    have hg:i=n:=hg
    subst hg
    obtain⟨f0,f1,f2,f3,f4,f5⟩:=hf it (by simp)
    have st':s.heap.IsRevIter it a (-1):=by
      have e:(-1:Int)=(i:Int) - 1 - (i:Nat):=by omega
      rw[e];exact st
    exact wpAny_pyNext_rev_end (I.ok.hd hc) st' fun h' eb=>⟨rfl,I.turned (t':=s.toks) (fun b o hb e=>eb b o hb e) f0 f1 f3 f4 f5⟩
  self:=fun _ _ _ _ _ st h=>wpAny_pyIter_revIter st h
def Ite(K:PySem.W.Frag)(a:Addr):It :=
  ⟨fun i H=>∃ xs x,SqL K H a xs/\xs[i]?=some x,fun i H x H'=>∃ T y,H T=none/\x=.ref T/\H'=upd H T (.tup [.int (i:Nat),y])/\∀ xs,SqL K H a xs->xs[i]?=some y,fun i H=>∃ xs,SqL K H a xs/\xs.length<=i⟩
theorem ki{X:Cx}{pins:List (Addr × Obj)}{σ:St}{H:Hp}{s:Shared}(I:Inv X pins σ H s):bI X pins H s.heap.objs.size:=I.fpOk (Nat.le_refl _) (I.hok.fresh (Nat.le_refl _))
theorem zn{P:Program}{w:World}{K:PySem.W.Frag}{elts:List Expr}{ek:Nat}{ep:Pos}(a e it:Addr)(hei:e ≠ it):Turn P w K (.Tuple elts ek ep) (Ite K a) [e,it] e (fun i h=>(∃ old,IsEnum h e it (i:Nat) old)/\h.IsListIter it a i) where
  mem:=by simp
  obj := fun i h st b hb=>by
    obtain⟨⟨old,he⟩,hit⟩:=st
    have e:b=e\/b=it:=by simpa using hb
    rcases e with rfl | rfl
    · exact⟨_,he,fun v z=>by have z':Data.fields _=Data.cell v:=z;cases z'⟩
    · obtain⟨o,e,c,d⟩:=hit
      exact⟨o,e,fun v z=>by rw[d] at z;cases z⟩
  keep:=fun i h h' st k=>⟨let ⟨old,he⟩:=st.1;⟨old,k e (by simp) _ he⟩,st.2.at fun o q=>k it (by simp) o q⟩
  item:=by
    intro X hP hw hK hc i pins s σ H E I hf st hg
    subst hP hw hK
    obtain⟨⟨old,he⟩,hit⟩:=st
    obtain⟨xs,x,hq,hx⟩:=hg
    obtain⟨its,rv,p,hz⟩:=I.list hq
    obtain⟨u,hu,ru⟩:=rv.get hx
    have fT:=ki I
    have hsz:∀ b ∈ [e,it],b < s.heap.objs.size:=fun b hb=>by
      have:b=e\/b=it:=by simpa using hb
      rcases this with rfl | rfl
      · exact Heap.lt_size he
      · obtain⟨o,q,_⟩:=hit;exact Heap.lt_size q
    refine wpAny_pyNext_enum_item he hit p.isList (x:=u) (by simpa using hu) hei fun h' ho hit' hT hs' hk=>?_
    refine⟨_,rfl,wpAny_letOwnedTupleGo_enum (s:={ s with heap:=h',toks:=s.toks+1 }) ho fun h2 he2 hs2=>?_⟩
    have hT2:h2.get? s.heap.objs.size=some { cls:=.type "tuple",data:=.seq #[.int i s.toks,u] }:=(hs2.2 _ (Nat.ne_of_gt (hsz e (by simp)))).trans hT
    have I1:Inv X pins σ H { s with heap:=h2,toks:=s.toks+1 }:=mq I (fun b o hb q=>(hs2.2 b fun z=>hb (by simp[z])).trans (hk b o (fun z=>hb (by simp[z])) (fun z=>hb (by simp[z])) q)) hf
    have I2:=kh (o:=.tup [.int (i:Nat),x]) I1 fT ⟨show 2<=sizeLine by decide,[.int i s.toks,u],.cons ⟨_,rfl⟩ (.cons ru .nil),⟨_,hT2,rfl,_,rfl⟩⟩
    refine⟨.ref s.heap.objs.size,_,I2,rfl,⟨s.heap.objs.size,x,fT.1,rfl,rfl,fun ys hy=>by rw[I.list_inj hy hq];exact hx⟩,⟨⟨u,?_⟩,?_⟩,fun b hb=>?_⟩
    · have q:((i+1:Nat):Int)=(i:Int)+1:=by omega
      show IsEnum h2 e it ((i+1:Nat):Int) u
      rw[q];exact he2
    · exact hit'.at fun o q=>(hs2.2 it hei.symm).trans q
    · rw[aC (Nat.ne_of_lt (hsz b hb))];exact (hf b hb).1
  done:=by
    intro X hP hw hK hc i pins s σ H E I hf st hg
    subst hP hw hK
    obtain⟨⟨old,he⟩,hit⟩:=st
    obtain⟨xs,hq,hx⟩:=hg
    obtain⟨its,rv,p,hz⟩:=I.list hq
    have hl:=rv.length
    obtain⟨f0,f1,f2,f3,f4,f5⟩:=hf it (by simp)
    exact wpAny_pyNext_enum_end (I.ok.hd hc) he hit p.isList (Array.getElem?_eq_none (by simp;omega)) fun h' eb=>⟨rfl,I.turned (t':=s.toks) (fun b o hb e=>eb b o hb e) f0 f1 f3 f4 f5⟩
  self:=fun _ _ _ _ _ st h=>let ⟨⟨_,he⟩,_⟩:=st;wpAny_pyIter_enum he h
def Itz(K:PySem.W.Frag)(l1 l2:Addr):It :=
  ⟨fun i H=>∃ xs ys x y,SqL K H l1 xs/\SqL K H l2 ys/\xs[i]?=some x/\ys[i]?=some y,
   fun i H v H'=>∃ T x y,H T=none/\v=.ref T/\H'=upd H T (.tup [x,y])/\∀ xs ys,SqL K H l1 xs->SqL K H l2 ys->xs[i]?=some x/\ys[i]?=some y,
   fun i H=>∃ xs ys,SqL K H l1 xs/\SqL K H l2 ys/\(xs.length<=i\/ys.length<=i)⟩
theorem zo{P:Program}{w:World}{K:PySem.W.Frag}{elts:List Expr}{ek:Nat}{ep:Pos}(l1 l2 z TI TO i1 i2:Addr)(D:ZipApart z TI TO i1 i2 l1 l2):
    Turn P w K (.Tuple elts ek ep) (Itz K l1 l2) [z,TI,TO,i1,i2] z (fun i h=>IsZip h z TI TO .none/\IsPair h TI (.ref i1) (.ref i2)/\(∃ a b,IsPair h TO a b)/\h.IsListIter i1 l1 i/\h.IsListIter i2 l2 i) where
  mem:=by simp
  obj := fun i h st b hb=>by
    obtain⟨hz,hTI,⟨a,b',hTO⟩,h1,h2⟩:=st
    have e:b=z\/b=TI\/b=TO\/b=i1\/b=i2:=by simpa using hb
    rcases e with rfl | rfl | rfl | rfl | rfl
    · exact⟨_,hz,fun v z=>by have z':Data.fields _=Data.cell v:=z;cases z'⟩
    · exact⟨_,hTI,fun v z=>by have z':Data.seq _ _=Data.cell v:=z;cases z'⟩
    · exact⟨_,hTO,fun v z=>by have z':Data.seq _ _=Data.cell v:=z;cases z'⟩
    · obtain⟨o,e,c,d⟩:=h1
      exact⟨o,e,fun v z=>by rw[d] at z;cases z⟩
    · obtain⟨o,e,c,d⟩:=h2
      exact⟨o,e,fun v z=>by rw[d] at z;cases z⟩
  keep:=fun i h h' st k=>by
    obtain⟨hz,hTI,⟨a,b',hTO⟩,h1,h2⟩:=st
    exact⟨k z (by simp) _ hz,k TI (by simp) _ hTI,⟨a,b',k TO (by simp) _ hTO⟩,h1.at fun o q=>k i1 (by simp) o q,h2.at fun o q=>k i2 (by simp) o q⟩
  item:=by
    intro X hP hw hK hc i pins s σ H E I hf st hg
    subst hP hw hK
    obtain⟨hz,hTI,⟨a,b',hTO⟩,h1,h2⟩:=st
    obtain⟨xs,ys,x,y,hq1,hq2,hx,hy⟩:=hg
    obtain⟨its1,rv1,p1,hz1⟩:=I.list hq1
    obtain⟨its2,rv2,p2,hz2⟩:=I.list hq2
    obtain⟨u,hu,ru⟩:=rv1.get hx
    obtain⟨v,hv,rv⟩:=rv2.get hy
    have fT:=ki I
    have hsz:∀ b ∈ [z,TI,TO,i1,i2],b < s.heap.objs.size:=fun b hb=>by
      have e:b=z\/b=TI\/b=TO\/b=i1\/b=i2:=by simpa using hb
      rcases e with rfl | rfl | rfl | rfl | rfl
      · exact Heap.lt_size hz
      · exact Heap.lt_size hTI
      · exact Heap.lt_size hTO
      · obtain⟨o,q,_⟩:=h1;exact Heap.lt_size q
      · obtain⟨o,q,_⟩:=h2;exact Heap.lt_size q
    refine wpAny_pyNext_zip_item D hz hTI hTO h1 h2 p1.isList p2.isList (x:=u) (y:=v) (by simpa using hu) (by simpa using hv) fun h' hz' hTO' h1' h2' hT hs' hk=>?_
    refine⟨_,rfl,wpAny_letOwnedTupleGo_zip (s:={ s with heap:=h' }) hz' fun h3 hz3 hs3=>?_⟩
    have hT3:IsPair h3 s.heap.objs.size u v:=(hs3.2 _ (Nat.ne_of_gt (hsz z (by simp)))).trans hT
    have I1:Inv X pins σ H { s with heap:=h3,toks:=s.toks }:=mq I (fun b o hb q=>(hs3.2 b fun z=>hb (by simp[z])).trans (hk b o (fun z=>hb (by simp[z])) (fun z=>hb (by simp[z])) (fun z=>hb (by simp[z])) (fun z=>hb (by simp[z])) q)) hf
    have I2:=kh (o:=.tup [x,y]) I1 fT ⟨show 2<=sizeLine by decide,[u,v],.cons ru (.cons rv .nil),⟨_,hT3,rfl,_,rfl⟩⟩
    refine⟨.ref s.heap.objs.size,_,I2,rfl,⟨s.heap.objs.size,x,y,fT.1,rfl,rfl,fun as bs ha hb=>⟨by rw[I.list_inj ha hq1];exact hx,by rw[I.list_inj hb hq2];exact hy⟩⟩,⟨hz3,?_,⟨u,v,?_⟩,?_,?_⟩,fun b hb=>?_⟩
    · exact (hs3.2 TI D.TIz).trans (hk TI _ D.TIz D.TITO D.TIi1 D.TIi2 hTI)
    · exact (hs3.2 TO D.TOz).trans hTO'
    · exact h1'.at fun o q=>(hs3.2 i1 D.i1z).trans q
    · exact h2'.at fun o q=>(hs3.2 i2 D.i2z).trans q
    · rw[aC (Nat.ne_of_lt (hsz b hb))];exact (hf b hb).1
  done:=by
    intro X hP hw hK hc i pins s σ H E I hf st hg
    subst hP hw hK
    obtain⟨hz,hTI,⟨a,b',hTO⟩,h1,h2⟩:=st
    obtain⟨xs,ys,hq1,hq2,hx⟩:=hg
    obtain⟨its1,rv1,p1,hz1⟩:=I.list hq1
    obtain⟨its2,rv2,p2,hz2⟩:=I.list hq2
    have l1:=rv1.length
    have l2:=rv2.length
    refine wpAny_pyNext_zip_end (I.ok.hd hc) D hz hTI hTO h1 h2 p1.isList p2.isList (hx.imp (fun q=>Array.getElem?_eq_none (by simp;omega)) fun q=>Array.getElem?_eq_none (by simp;omega)) fun h' hk=>⟨rfl,?_⟩
    exact mq (t':=s.toks) I (fun b o hb q=>hk b o (fun z=>hb (by simp[z])) (fun z=>hb (by simp[z])) (fun z=>hb (by simp[z])) (fun z=>hb (by simp[z])) q) hf
  self:=fun _ _ _ _ _ st h=>wpAny_pyIter_zip st.1 h
section
variable {X:Cx} {tg a b:Expr} {elts:List Expr} {ek:Nat} {ep pn pr:Pos} {ta:TA}
def zp(K:PySem.W.Frag)(ta:TA):TI:=fun σ H R=>ta σ H fun vs H1=>∃ p xs,vs=[.ref p]/\SqL K H1 p xs/\R (Itv K p xs.length) H1
theorem zq(hg:Gl X "reversed")(hm:X.mg "reversed" = none)(ha:PA X [a] ta)(hs:starEach [a] X.env=[(false,eval a X.env)]:=by rfl):PI X tg (.Call (.Name "reversed" pn) [a] [] pr) (zp X.K ta):=by
  intro pins s σ H R I h
  refine Call_ (cJ I hg hm boot_reversed (PyProof.Rows.callWith_type1 (thn (ha pr pins s σ H _ I h) fun us s1 ⟨vs,H1,I1,r1,q1⟩=>?_) hs rfl))
  obtain⟨p,xs,rfl,hq,q⟩:=q1
  obtain⟨u,rfl,ru⟩:=eo r1
  cases ru
  obtain⟨its,rv,pl,hz⟩:=I1.list hq
  have hl:=rv.length
  refine call_reversed_list pl.isList ?_
  have e0:(s1.heap.push (revObj p ((its.toArray.size:Int) - 1))).get? s1.heap.objs.size=some (revObj p ((its.toArray.size:Int) - 1)):=Heap.get?_push_size _ rfl
  refine wpAny_pyIter_revIter ⟨_,e0,rfl,rfl⟩ ?_
  refine⟨s1.heap.objs.size,[s1.heap.objs.size],_,_,H1,rfl,I1.kept (t':=s1.toks) fun b o e=>Heap.get?_push_of_some _ e,zm p _ xs.length,⟨_,e0,rfl,?_⟩,fun b hb=>?_,q⟩
  · rw[hl];simp[revObj]
  have e:b=s1.heap.objs.size:=by simpa using hb
  subst e
  exact I1.fpOk (Nat.le_refl _) (I1.hok.fresh (Nat.le_refl _))
def zr(K:PySem.W.Frag)(ta:TA):TI:=fun σ H R=>ta σ H fun vs H1=>∃ p xs,vs=[.ref p]/\SqL K H1 p xs/\R (Ite K p) H1
theorem zt(hg:Gl X "enumerate")(hm:X.mg "enumerate" = none)(ha:PA X [a] ta)(hs:starEach [a] X.env=[(false,eval a X.env)]:=by rfl):PI X (.Tuple elts ek ep) (.Call (.Name "enumerate" pn) [a] [] pr) (zr X.K ta):=by
  intro pins s σ H R I h
  refine Call_ (cJ I hg hm boot_enumerate (PyProof.Rows.callWith_type1 (thn (ha pr pins s σ H _ I h) fun us s1 ⟨vs,H1,I1,r1,q1⟩=>?_) hs rfl))
  obtain⟨p,xs,rfl,hq,q⟩:=q1
  obtain⟨u,rfl,ru⟩:=eo r1
  cases ru
  obtain⟨its,rv,pl,hz⟩:=I1.list hq
  refine call_enumerate_list pl.isList fun h' he hit hsz hk=>?_
  refine wpAny_pyIter_enum he ?_
  refine⟨s1.heap.objs.size+1,[s1.heap.objs.size+1,s1.heap.objs.size],_,_,H1,rfl,I1.kept (t':=s1.toks) fun b o e=>hk b o e,zn p _ _ (by simp),⟨⟨_,he⟩,hit⟩,fun b hb=>?_,q⟩
  have e:b=s1.heap.objs.size+1\/b=s1.heap.objs.size:=by simpa using hb
  rcases e with rfl | rfl
  · exact I1.fpOk (by omega) (I1.hok.fresh (by omega))
  · exact I1.fpOk (Nat.le_refl _) (I1.hok.fresh (Nat.le_refl _))
def zu(K:PySem.W.Frag)(ta:TA):TI:=fun σ H R=>ta σ H fun vs H1=>∃ p p' xs ys,vs=[.ref p,.ref p']/\SqL K H1 p xs/\SqL K H1 p' ys/\R (Itz K p p') H1
theorem zv(hg:Gl X "zip")(hm:X.mg "zip" = none)(ha:PA X [a,b] ta)(hs:starEach [a,b] X.env=[(false,eval a X.env),(false,eval b X.env)]:=by rfl)(hs2:starEach [b] X.env=[(false,eval b X.env)]:=by rfl):
    PI X (.Tuple elts ek ep) (.Call (.Name "zip" pn) [a,b] [] pr) (zu X.K ta):=by
  intro pins s σ H R I h
  refine Call_ (cJ I hg hm boot_zip (PyProof.Rows.callWith_type1 (thn (ha pr pins s σ H _ I h) fun us s1 ⟨vs,H1,I1,r1,q1⟩=>?_) (by rw[hs,hs2]) (by rw[hs2];rfl)))
  obtain⟨p,p',xs,ys,rfl,hq,hq',q⟩:=q1
  cases r1 with
  | cons ru rr =>
    cases rr with
    | cons rv' rr =>
      cases rr
      cases ru
      cases rv'
      obtain⟨its,rv,pl,hz⟩:=I1.list hq
      obtain⟨its',rv',pl',hz'⟩:=I1.list hq'
      have lt1:p < s1.heap.objs.size:=by obtain⟨o,e,_⟩:=pl.isList;exact Heap.lt_size e
      have lt2:p' < s1.heap.objs.size:=by obtain⟨o,e,_⟩:=pl'.isList;exact Heap.lt_size e
      refine call_zip_2 pl.isList pl'.isList fun h' hz hTI hTO hit1 hit2 hsz hk=>?_
      refine wpAny_pyIter_zip hz ?_
      refine⟨s1.heap.objs.size+4,[s1.heap.objs.size+4,s1.heap.objs.size+2,s1.heap.objs.size+3,s1.heap.objs.size,s1.heap.objs.size+1],_,_,H1,rfl,I1.kept (t':=s1.toks) fun b o e=>hk b o e,
        zo p p' _ _ _ _ _ (zipApart_new lt1 lt2),⟨hz,hTI,⟨_,_,hTO⟩,hit1,hit2⟩,fun b hb=>?_,q⟩
      have e:b=s1.heap.objs.size+4\/b=s1.heap.objs.size+2\/b=s1.heap.objs.size+3\/b=s1.heap.objs.size\/b=s1.heap.objs.size+1:=by simpa using hb
      rcases e with rfl | rfl | rfl | rfl | rfl <;> exact I1.fpOk (by omega) (I1.hok.fresh (by omega))
end
end VL
namespace VL
open PySem PySem.Spec PyProof.Rows L2
theorem iP{d:D}{ds:List D}(h:bM d=some ds):cr d=false/\items d=some ds:=by
  unfold bM at h
  cases ht:cr d with
  | true=>rw[if_pos ht] at h;cases h
  | false=>rw[if_neg (by rw[ht];exact Bool.false_ne_true)] at h;exact⟨rfl,h⟩
theorem zw{ds:List D}{i:Nat}{d:D}(h:(eE ds)[i]?=some d):∃ e,ds[i]?=some e/\d=.tup [.int (i:Nat),e]:=by
  unfold eE at h
  rw[List.getElem?_map,List.getElem?_zipIdx] at h
  cases e:ds[i]? with
  | none=>rw[e] at h;cases h
  | some x=>rw[e] at h;simp at h;exact⟨x,rfl,h.symm⟩
theorem zx{ds es:List D}{i:Nat}{d:D}(h:(eF ds es)[i]?=some d):∃ a b,ds[i]?=some a/\es[i]?=some b/\d=.tup [a,b]:=by
  unfold eF at h
  rw[List.getElem?_map] at h
  cases e:(ds.zip es)[i]? with
  | none=>rw[e] at h;cases h
  | some p =>
    rw[e] at h
    obtain⟨h1,h2⟩:=List.getElem?_zip_eq_some.mp e
    simp at h
    exact⟨p.1,p.2,h1,h2,h.symm⟩
theorem zy(ds:List D):(eE ds).length=ds.length:=by simp[eE]
theorem zz(ds es:List D):(eF ds es).length=min ds.length es.length:=by simp[eF]
section
variable {X:Cx} {tg a b:Expr} {elts:List Expr} {ek:Nat} {ep pn pr:Pos} {fa fb:FE} {ea eb:List Es}
theorem zA(mr:X.mg "enumerate" = none)(h:VB X a fa ea)(hg:Gl X "enumerate":=by rfl)(hst:starEach [a] X.env=[(false,eval a X.env)]:=by rfl):VI X (.Tuple elts ek ep) (.Call (.Name "enumerate" pn) [a] [] pr) (iO fa) ea :=
  jX (zt hg mr (cq h cC hst) hst) fun σ H R ⟨ρ,ds,hE,hf,hR⟩=>by
    obtain⟨d,h1,hf⟩:=bind_some hf
    obtain⟨es,h2,hf⟩:=bind_some hf
    cases hf
    obtain⟨ht,hi⟩:=iP h2
    refine⟨ρ,d,hE,h1,fun v H1 p=>?_⟩
    obtain⟨q,xs,rfl,hq,hx,hA⟩:=dR p.rep hi ht
    have len:=hx.length
    refine⟨q,xs,rfl,hq,hR _ _ ⟨p.same,fun i d' H' hd e=>?_,fun H' e=>⟨xs,e.seq hq,by rw[zy];omega⟩⟩⟩
    obtain⟨e',hd2,rfl⟩:=zw hd
    obtain⟨x,h3,h4⟩:=hx.get hd2
    refine⟨⟨xs,x,e.seq hq,h3⟩,fun y H'' ⟨T,y',hT,ey,eH,hy⟩=>?_⟩
    subst ey eH
    have e2:=hy xs (e.seq hq)
    rw[h3] at e2;cases e2
    have sn:=bh hT (.tup [.int (i:Nat),x])
    refine⟨sn,.tup (.inl b9) (.cons (.int _) (.cons (ay (e.trans sn) h4) .nil)),fun A hD hz=>?_⟩
    obtain⟨x',h5,h6⟩:=(hA A (p.av A hD hz)).get hd2
    rw[h3] at h5;cases h5
    refine .tup (.inl ?_) (.cons (.int _) (.cons (ay (bD (e.trans sn)) h6) .nil))
    rw[bg ((hD.mono (p.same.trans e)).not_new hT)]
    exact b9
theorem zB(mr:X.mg "zip" = none)(ha:VB X a fa ea)(hb:VB X b fb eb)(hg:Gl X "zip":=by rfl)(hst:starEach [a,b] X.env=[(false,eval a X.env),(false,eval b X.env)]:=by rfl)(hst2:starEach [b] X.env=[(false,eval b X.env)]:=by rfl):
    VI X (.Tuple elts ek ep) (.Call (.Name "zip" pn) [a,b] [] pr) (gS fa fb) (ea++eb) :=
  jX (zv hg mr (cq ha (cq hb cC hst2) (by rw[hst,hst2])) hst hst2) fun σ H R ⟨ρ,ds,hE,hf,hR⟩=>by
    obtain⟨d,h1,hf⟩:=bind_some hf
    obtain⟨d2,h1',hf⟩:=bind_some hf
    obtain⟨es,h2,hf⟩:=bind_some hf
    obtain⟨es2,h2',hf⟩:=bind_some hf
    cases hf
    obtain⟨ht,hi⟩:=iP h2
    obtain⟨ht',hi'⟩:=iP h2'
    refine⟨ρ,d,hE,h1,fun v H1 p1=>⟨ρ,d2,hE.mono p1.same,h1',fun v2 H2 p2=>?_⟩⟩
    have p:=p1.up p2.same
    have p':=p2.down p1.same
    obtain⟨q,xs,rfl,hq,hx,hA⟩:=dR p.rep hi ht
    obtain⟨q',ys,rfl,hq',hy,hA'⟩:=dR p'.rep hi' ht'
    have len:=hx.length
    have len':=hy.length
    refine⟨q,q',xs,ys,rfl,hq,hq',hR _ _ ⟨p.same,fun i d' H' hd e=>?_,fun H' e=>⟨xs,ys,e.seq hq,e.seq hq',by rw[zz];omega⟩⟩⟩
    obtain⟨e1,e2,hd1,hd2,rfl⟩:=zx hd
    obtain⟨x,h3,h4⟩:=hx.get hd1
    obtain⟨y,h3',h4'⟩:=hy.get hd2
    refine⟨⟨xs,ys,x,y,e.seq hq,e.seq hq',h3,h3'⟩,fun w H'' ⟨T,x',y',hT,ey,eH,hxy⟩=>?_⟩
    subst ey eH
    obtain⟨g1,g2⟩:=hxy xs ys (e.seq hq) (e.seq hq')
    rw[h3] at g1;cases g1
    rw[h3'] at g2;cases g2
    have sn:=bh hT (.tup [x,y])
    refine⟨sn,.tup (.inl b9) (.cons (ay (e.trans sn) h4) (.cons (ay (e.trans sn) h4') .nil)),fun A hD hz=>?_⟩
    obtain⟨x'',h5,h6⟩:=(hA A (p.av A hD fun z hz'=>hz z (List.mem_append_left _ hz'))).get hd1
    rw[h3] at h5;cases h5
    obtain⟨y'',h5',h6'⟩:=(hA' A (p'.av A hD fun z hz'=>hz z (List.mem_append_right _ hz'))).get hd2
    rw[h3'] at h5';cases h5'
    refine .tup (.inl ?_) (.cons (ay (bD (e.trans sn)) h6) (.cons (ay (bD (e.trans sn)) h6') .nil))
    rw[bg ((hD.mono (p.same.trans e)).not_new hT)]
    exact b9
end
end VL
namespace VL
open PySem PySem.Spec PyProof.Rows L2
theorem zC{K:PySem.W.Frag}{a:Addr}{xs:List V}{g:TG}{tb:TS}{D:Ends}{σ:St}{H:Hp}(Pv:Nat->St->Hp->Prop)(h0:Pv 0 σ H)(hl:∀ i σ H,i<=xs.length->Pv i σ H->SqL K H a xs)(hs:∀ i x σ H,xs.reverse[i]?=some x->Pv i σ H->g x σ H fun σ2 H2=>tb { D with nx:=Pv (i+1),ct:=Pv (i+1),bk:=D.nx } σ2 H2)(hd:∀ σ H,Pv xs.length σ H->D.nx σ H):
    ∃ W:Nat->Nat->St->Hp->Prop,(∃ m,W 0 m σ H)/\∀ i m σ H,W i m σ H ->
      ((Itv K a xs.length).stop i H/\D.nx σ H)\/((Itv K a xs.length).go i H/\∃ N:St->Hp->Prop,(∀ σ' H',N σ' H'->∃ m',m' < m/\W (i+1) m' σ' H')/\∀ x H',(Itv K a xs.length).yld i H x H'->g x σ H' fun σ2 H2=>tb { D with nx:=N,ct:=N,bk:=D.nx } σ2 H2):=by
  refine⟨fun i m σ H=>m=xs.length - i/\i<=xs.length/\Pv i σ H,⟨xs.length,by simp,Nat.zero_le _,h0⟩,?_⟩
  rintro i m σ H ⟨rfl,hi,p⟩
  have q:=hl i σ H hi p
  by_cases hlt:i < xs.length
  · have hlt':xs.length - 1 - i < xs.length:=by omega
    refine .inr ⟨⟨xs,xs[xs.length - 1 - i],q,rfl,hlt,by simp[hlt']⟩,Pv (i+1),fun σ' H' p'=>⟨xs.length - (i+1),by omega,rfl,hlt,p'⟩,fun x H' y=>?_⟩
    obtain⟨e,y⟩:=y
    subst e
    exact hs i x σ _ (by rw[List.getElem?_reverse hlt];exact y xs q) p
  · have e:i=xs.length:=by omega
    subst e
    exact .inl ⟨rfl,hd σ H p⟩
section
variable {X:Cx} {F:Fr0} {O O2 OL:List Nat} {fr:Bool} {a b:Expr} {body:List Stmt} {fa fb:FE} {ea eb:List Es} {tb:FS} {p2 pos pn pr:Pos}
theorem zD(t:Nat){x:Str}(Ol:List Nat)(hN:X.N.Nodup)(hc:X.calm=true)(mr:X.mg "reversed" = none)(hi:VE X a fa ea)(hb:VSs X F Ol body tb O2 Ol fr)(h1:∀ i ∈ Ol,i ∈ bE O ea:=by decide)(h2:∀ i ∈ Ol,i ∈ O2:=by decide)(h3:t ∉ Ol:=by decide)(hp:PassesOwn (model X.prog X.w) X.A X.env X.xe:=by exact PassesOwn.never)(hg:Gl X "reversed":=by rfl)(hst:starEach [a] X.env=[(false,eval a X.env)]:=by rfl)(hxN:X.N[t]?=some x:=by rfl)(hx:Loc X.env.scope x:=by first | exact Or.inl rfl | exact Or.inr rfl)(hfn:X.fn x=true\/X.env.scope.names.lookup x=some .local:=by first | exact .inl rfl | exact .inr rfl)(hs:∀ x,foldedSetIterable (.Call (.Name "reversed" pn) [a] [] pr) X.env x=pure x:=by intro _;rfl):VS X F O (.For (.Name x p2) (.Call (.Name "reversed" pn) [a] [] pr) body [] pos) (iN t fa tb) Ol OL fr:=fun held=>by
  have hb':PSs X body (fun De σ H=>∃ p:Hd,ts X.K F (p::held) Ol Ol Ol fr tb De σ H):=fun pins s σ H De I ⟨p,h⟩=>iH hb h2 (p::held) pins s σ H De I h
  refine be (fy hp hc (zq hg mr (cq hi cC hst) hst) (bu hN hxN hx hfn) hb' hs) fun De σ H h=>?_
  obtain⟨ρ,o,hE,hf,hQ⟩:=h
  obtain⟨d,hd,hf⟩:=bind_some hf
  obtain⟨ds,hsq,hf⟩:=bind_some hf
  obtain⟨ht,hds⟩:=iP hsq
  refine⟨ρ,d,hE.envR,hd,fun v H1 p=>?_⟩
  obtain⟨hE1,hr⟩:=hE.eval p
  have hE2:=hE1.weaken h1
  have hr2:∀ A,F.PA A->Rep X.K (ao H1 (Off σ Ol A)) v d:=fun A hA=>ay (bU (fun _ _ q=>q) (iF h1)) (hr A hA)
  obtain⟨q,xs,rfl,hq⟩:=qj hr2 hds ht
  have len:xs.length=ds.length:=(hq _ F.none).2.length
  refine⟨q,xs,rfl,(aM _ _).seq (hq _ F.none).1,?_⟩
  refine zC (K:=X.K) (a:=q) (xs:=xs) (g:=bq t) (tb:=fun De σ H=>∃ p:Hd,ts X.K F (p::held) Ol Ol Ol fr tb De σ H) (D:=De) (fun i σ' H'=>∃ ρ',EnvO X.K F (hdL X.K q xs ds::held) Ol σ' ρ' H'/\bn (fun x ρ=>tb (ρ.set t (some x))) (ds.reverse.drop i) ρ'=some o) ⟨ρ,hE2.hold hq,by simpa using hf⟩ ?_ ?_ ?_
  · rintro i σ' H' _ ⟨ρ',hE',_⟩
    exact (aM _ _).seq (hE'.hld _ List.mem_cons_self _ F.none).1
  · rintro i y σ' H' hy ⟨ρ',hE',hf'⟩
    obtain⟨dy,h4,_⟩:=(hE'.hld _ List.mem_cons_self _ F.none).2.reverse.getV hy
    have h5:∀ A,F.PA A->Rep X.K (ao H' (Off σ' Ol A)) y dy:=fun A hA=>by
      obtain⟨dy',h6,h7⟩:=(hE'.hld _ List.mem_cons_self A hA).2.reverse.getV hy
      rw[h4] at h6;cases h6;exact h7
    have h4:ds.reverse[i]?=some dy:=h4
    have hi':i < ds.reverse.length:=(List.getElem?_eq_some_iff.mp h4).1
    have ed:ds.reverse.drop i=dy::ds.reverse.drop (i+1):=by
      rw[List.drop_eq_getElem_cons hi']
      have e2:ds.reverse[i]=dy:=(List.getElem?_eq_some_iff.mp h4).2
      rw[e2]
    rw[ed] at hf'
    have hf2:=hf'
    rw[iK] at hf2
    obtain⟨o1,h8,_⟩:=bind_some hf2
    refine⟨hdL X.K q xs ds,ρ'.set t (some dy),o1,hE'.set h3 h5,h8,?_⟩
    exact lZ h8 hf' hQ (fun _ _ _ z=>z.unhold) fun σ'' H'' ρ'' hE'' hf''=>⟨ρ'',hE'',hf''⟩
  · rintro σ' H' ⟨ρ',hE',hf'⟩
    rw[len,<- List.length_reverse,List.drop_length] at hf'
    cases hf'
    exact hQ σ' H' hE'.unhold
end
end VL
namespace VL
open PySem PySem.Spec PyProof.Rows L2
theorem zE:typeLookup (.type "list_reverseiterator") "__len__" = pure none:=by rw[typeLookup_type,builtinLookup_eq_fast];kernel_rfl
theorem zF:typeLookup (.type "list_reverseiterator") "__length_hint__" = pure (some (.builtin "list_reverseiterator.__length_hint__")):=by rw[typeLookup_type,builtinLookup_eq_fast];kernel_rfl
section
variable {prog:Program} {w:World} {A:Around} {s:Shared} {R:Result->Shared->Prop}
variable {I:Addr} {fp wr:List Addr} {G:Array GenState->Array GenState->Prop} {n:Nat} {P:Nat->Value->Prop} {St:Nat->Shared->Prop}
theorem zG(W:WalksS prog w A.in1 I fp wr G n P St)(hT:∀ i s,St i s->s.TypeIs (.ref I) "list_reverseiterator")(S:Addr)(res:Value)(c₀:Nat)(hst:St 0 s)(hSf:S ∉ fp)(hI:I ∈ fp)(hS:s.heap.get? S=some { cls:=.type "list",data:=.seq #[] c₀ })(hR:∀ s' acc' c',Moved (S::wr) G s s'->s'.heap.get? S=some { cls:=.type "list",dict:=none,data:=.seq acc' c',slots:=#[] }->ItemsOf P acc' n->R (.ok (.ret res)) s')(hn:n<=sizeLine):
    wpAny (model prog w) A.in1 (Builtin.List.listExtendWith (.ref S) (.ref I) res)
      (fun fin s'=>match fin with | .done f=>R (.ok f) s' | .again c'=>c'.quiet=true/\codeAny (model prog w) A c' R s') (fun e s'=>R (.error e) s') s:=by
  have hSI:S ≠ I:=fun e=>hSf (e ▸ hI)
  unfold Builtin.List.listExtendWith
  refine wpAny_bind (wpAny_typeOf (hT 0 _ hst) ?_)
  have h1:Builtin.List.listSameRef (.ref S) (.ref I)=false:=by simp[Builtin.List.listSameRef,hSI]
  rw[if_neg (by rw[h1];decide)]
  refine wpAny_bind (W.self 0 _ _ _ hst ?_)
  refine wpAny_bind (wpAny_holding ?_)
  unfold Builtin.List.listLengthHint
  refine wpAny_bind (wpAny_specialOf (hT 0 _ hst) zE ?_)
  show wpAny _ A.in1 (specialOf (Value.ref I) (Str.ofString "__length_hint__") >>= _) _ _ _
  refine wpAny_bind (wpAny_specialOf (hT 0 _ hst) zF ?_)
  (generalize hid:("list_reverseiterator.__length_hint__" : String)=id0;(fail_if_success (clear hid id0));wp_delta;rw[show splitId id0=some ("list_reverseiterator","__length_hint__") from by subst hid;decide +kernel];subst hid)
  refine wpAny_bind (wpAny_isInstance (b:=true) (hT 0 _ hst) (by rw[isSubtype_type];kernel_rfl) ?_)
  refine wpAny_pure ?_
  rw[if_neg (by decide)]
  exact wpAny_pure ⟨plainId_quiet F.plain_extend_loop _,codeAny_extend_loopS W hn _ hSf _ n 0 _ _ _ rfl (Nat.zero_le _) hst hS (ItemsOf.nil P) fun s' acc' c' hm hS' hacc=>hR s' acc' c' hm hS' hacc⟩
theorem zH(W:WalksS prog w A.in1 I fp wr G n P St)(hT:∀ i s,St i s->s.TypeIs (.ref I) "list_reverseiterator")(S:Addr)(hst:St 0 s)(hSf:S ∉ fp)(hI:I ∈ fp)(hS:s.heap.get? S=some { cls:=.type "list",data:=.seq #[] })(hR:∀ s' acc' c',Moved (S::wr) G s s'->s'.heap.get? S=some { cls:=.type "list",dict:=none,data:=.seq acc' c',slots:=#[] }->ItemsOf P acc' n->R (.ok (.ret .none)) s')(hn:n<=sizeLine):
    wpAny (model prog w) A.in1 (Builtin.«list.__init__» ⟨[.ref S,.ref I],[]⟩)
      (fun fin s'=>match fin with | .done f=>R (.ok f) s' | .again c'=>c'.quiet=true/\codeAny (model prog w) A c' R s') (fun e s'=>R (.error e) s') s:=by
  show wpAny _ A.in1 (do let old <- Builtin.List.listItems (.ref S);Builtin.List.listUpdate (.ref S) (fun _=>#[]);letGo old.toList.reverse;Builtin.List.listExtendWith (.ref S) (.ref I) .none) _ _ s
  refine wpAny_bind ?_
  unfold Builtin.List.listItems
  refine wpAny_bind (wpAny_seqItems hS rfl (wpAny_pure ?_))
  show wpAny _ A.in1 (updateSeq S (fun _=>#[]) >>= fun _=>letGo (#[]:Array Value).toList.reverse >>= fun _=>Builtin.List.listExtendWith (.ref S) (.ref I) .none) _ _ s
  refine wpAny_bind (wpAny_updateSeq hS rfl ?_)
  have hS₂:=Heap.get?_update_self (Obj.mapSeq (fun _=>(#[]:Array Value))) hS rfl
  have oth:∀ b o,b ≠ S->s.heap.get? b=some o->(s.heap.update S (Obj.mapSeq (fun _=>(#[]:Array Value)))).get? b=some o :=
    fun b o hb e=>(Heap.get?_update_other _ _ (Ne.symm hb)).trans e
  refine wpAny_bind (wpAny_letGo ?_)
  refine zG (hn:=hn) W hT S .none _ (W.frame 0 s _ s.toks hst (Nat.le_refl _) fun b hb o e=>oth b o (fun h=>hSf (h ▸ hb)) e) hSf hI hS₂ fun s' acc' c' hm hS' hacc=>?_
  exact hR s' acc' c' (Moved.trans W.gtrans ((Moved.refl W.grefl).then_heap (Nat.le_refl _) fun b o hb e=>oth b o (fun h=>hb (h ▸ List.mem_cons_self)) e) hm) hS' hacc
end
section
variable {prog:Program} {w:World} {A:Around} {E:Value->Shared->Prop} {s:Shared}
theorem zI{it l:Addr}{items:Array Value}{Q:Value->Shared->Prop}(hh:A.handled=none)(hit:s.heap.IsRevIter it l ((items.size:Int) - 1))(hl:s.heap.IsList l items)(hne:l ≠ it)(hn:items.size<=sizeLine)(hQ:∀ (h':Heap) (tk:Nat) (acc':Array Value) (c':Nat),(∀ b o,b ≠ it->s.heap.get? b=some o->h'.get? b=some o) ->
      h'.get? s.heap.objs.size=some { cls:=.type "list",dict:=none,data:=.seq acc' c',slots:=#[] }->ItemsOf (fun i v=>items[items.size - 1 - i]?=some v) acc' items.size->Q (.ref s.heap.objs.size) { s with heap:=h',toks:=tk }):
    wpAny (model prog w) A (call (.type "list") [.ref it]) Q E s:=by
  refine callType_codes (Q₁:=fun obj s₁=>obj=.ref s.heap.objs.size/\s₁={ s with heap:=s.heap.push { cls:=.type "list",data:=.seq #[] } }) F.called_list (F.typeCall_list_1 _) F.entry_list_init
    (code_list_new _ ⟨rfl,rfl⟩) fun obj s₁ h₁=>?_
  obtain⟨rfl,rfl⟩:=h₁
  have hS:(s.heap.push { cls:=.type "list",data:=.seq #[] }).get? s.heap.objs.size=some { cls:=.type "list",data:=.seq #[] }:=Heap.get?_push_size _ rfl
  have lt1:it < s.heap.objs.size:=by obtain⟨o,e,_⟩:=hit;exact Heap.lt_size e
  have lt2:l < s.heap.objs.size:=by obtain⟨o,e,_⟩:=hl;exact Heap.lt_size e
  have W:=(Walks.listRev (prog:=prog) (w:=w) (A:=A.in1.in1) hh it l hne items).toS
  refine⟨⟨_,hS,rfl⟩,F.args_list_init_2 _ _,zH (A:=A.in1) W (fun i s st=>let ⟨o,ho,hc,_⟩:=st.2.1;⟨o,ho,hc⟩) _ ?_ ?_ (by simp) hS (fun s' acc' c' hm hS' hacc=>?_) hn⟩
  · refine⟨Nat.zero_le _,?_,hl.at fun o e=>Heap.get?_push_of_some _ e⟩
    have:(items.size:Int) - 1 - ((0:Nat):Int)=(items.size:Int) - 1:=by omega
    rw[this]
    exact hit.at fun o e=>Heap.get?_push_of_some _ e
  · intro hm
    have e:s.heap.objs.size=it\/s.heap.objs.size=l:=by simpa using hm
    rcases e with e | e
    · exact absurd e (Nat.ne_of_gt lt1)
    · exact absurd e (Nat.ne_of_gt lt2)
  · rw[Moved.eq_with hm]
    refine⟨rfl,hQ s'.heap s'.toks acc' c' (fun b o hb e=>hm.heap b o (fun hmem=>?_) (Heap.get?_push_of_some _ e)) hS' hacc⟩
    have lt:=Heap.lt_size e
    have e':b=s.heap.objs.size\/b=it:=by simpa using hmem
    rcases e' with e' | e'
    · exact absurd e' (Nat.ne_of_lt lt)
    · exact hb e'
end
section
variable {X:Cx} {a b e ix:Expr} {fa fb fe fx:FE} {ea eb es ei:List Es} {pos pos2 p p2:Pos} {ta:TA}
def zJ(K:PySem.W.Frag)(ta:TA):TE:=fun σ H Q=>ta σ H fun vs H1=>∃ q xs,vs=[.ref q]/\SqL K H1 q xs/\∀ l,H1 l=none->Q (.ref l) (upd H1 l (.lst xs.reverse))
theorem qM(hc:X.calm=true)(hgl:Gl X "list")(ml:X.mg "list" = none)(hgr:Gl X "reversed")(mr:X.mg "reversed" = none)(ha:PA X [a] ta)(hs:starEach [a] X.env=[(false,eval a X.env)])(hs2:starEach [.Call (.Name "reversed" p2) [a] [] pos2] X.env=[(false,eval (.Call (.Name "reversed" p2) [a] [] pos2) X.env)]):
    PE X (.Call (.Name "list" p) [.Call (.Name "reversed" p2) [a] [] pos2] [] pos) (zJ X.K ta):=by
  intro pins s σ H Q I h
  refine Call_ (cJ I hgl ml PyProof.Rows.boot_list (PyProof.Rows.callWith_type1 ?_ hs2 rfl))
  rw[hs2]
  show wpAny _ _ (spliced ((false,eval (.Call (.Name "reversed" p2) [a] [] pos2) X.env)::backTo pos [])) _ _ s
  refine Calls.spliced_cons ?_
  refine Call_ (cJ I hgr mr boot_reversed (PyProof.Rows.callWith_type1 (thn (ha pos2 pins s σ H _ I h) fun us s1 ⟨vs,H1,I1,r1,q1⟩=>?_) hs rfl))
  obtain⟨q,xs,rfl,hq,hQ⟩:=q1
  obtain⟨u,rfl,ru⟩:=eo r1
  cases ru
  obtain⟨its,rv,pl,hz⟩:=I1.list hq
  have hl:=rv.length
  have lt:q < s1.heap.objs.size:=by obtain⟨o,e,_⟩:=pl.isList;exact Heap.lt_size e
  refine call_reversed_list pl.isList ?_
  refine Calls.spliced_nil ?_
  have e0:(s1.heap.push (revObj q ((its.toArray.size:Int) - 1))).get? s1.heap.objs.size=some (revObj q ((its.toArray.size:Int) - 1)):=Heap.get?_push_size _ rfl
  have I2:Inv X pins σ H1 { s1 with heap:=s1.heap.push (revObj q ((its.toArray.size:Int) - 1)),toks:=s1.toks }:=I1.kept fun b o e=>Heap.get?_push_of_some _ e
  have fp:bI X pins H1 s1.heap.objs.size:=I1.fpOk (Nat.le_refl _) (I1.hok.fresh (Nat.le_refl _))
  refine zI (it:=s1.heap.objs.size) (l:=q) (items:=its.toArray) (I.ok.hd hc) ⟨_,e0,rfl,rfl⟩ (pl.isList.at fun o e=>Heap.get?_push_of_some _ e) (Nat.ne_of_lt lt) (by simpa using (show its.length<=sizeLine by omega)) fun h' tk acc c hk hS hacc=>?_
  have fS:bI X pins H1 (s1.heap.push (revObj q ((its.toArray.size:Int) - 1))).objs.size:=ki I2
  obtain⟨f0,f1,f2,f3,f4,f5⟩:=fp
  have I3:Inv X pins σ H1 { s1 with heap:=h',toks:=tk }:=I2.turned (t':=tk) (fun b o hb e=>hk b o hb e) f0 f1 f3 f4 f5
  obtain⟨al,hal⟩:=hacc
  have hv:Vals xs.reverse acc.toList:=by
    have:acc.toList=its.reverse:=by
      refine List.ext_getElem (by simp[al]) fun i h1 h2=>?_
      have hi:i < its.toArray.size:=by simpa using h2
      have q1:=hal i (acc.toList[i]) (by simp)
      have hi2:its.length - 1 - i < its.length:=by simp at hi;omega
      rw[List.getElem_reverse]
      simp[hi2] at q1
      exact q1.symm
    rw[this]
    exact rv.reverse
  have I4:=kh (o:=.lst xs.reverse) I3 fS ⟨by rw[List.length_reverse];omega,acc.toList,c,hv,by simpa using hS⟩
  exact⟨.ref _,_,I4,rfl,hQ _ fS.1⟩
theorem zK(ml:X.mg "list" = none)(mr:X.mg "reversed" = none)(ha:VB X a fa ea)(hc:X.calm=true:=by rfl)(hgl:Gl X "list":=by rfl)(hgr:Gl X "reversed":=by rfl)(hs:starEach [a] X.env=[(false,eval a X.env)]:=by rfl)(hs2:starEach [.Call (.Name "reversed" p2) [a] [] pos2] X.env=[(false,eval (.Call (.Name "reversed" p2) [a] [] pos2) X.env)]:=by rfl):
    VF X (.Call (.Name "list" p) [.Call (.Name "reversed" p2) [a] [] pos2] [] pos) (e1 kg fa) ea :=
  aI (qM hc hgl ml hgr mr (cq ha cC hs) hs hs2) fun σ H Q ⟨ρ,d,hE,hf,hQ⟩=>by
    obtain⟨dx,h1,hf⟩:=bind_some hf
    obtain⟨ds,h2,hf⟩:=bind_some hf
    cases hf
    obtain⟨ht,hi⟩:=iP h2
    refine⟨ρ,dx,hE,h1,fun x H1 p1=>?_⟩
    obtain⟨p,xs,rfl,hp,hx,hA⟩:=dR p1.rep hi ht
    exact⟨p,xs,rfl,hp,fun l hl=>hQ _ _ (fF p1.same hl fun A hD hz=>(hA A (p1.av A hD hz)).reverse)⟩
end
section
variable {X:Cx} {F:Fr0} {O OL:List Nat} {fr:Bool} {e ix:Expr} {fe fx:FE} {es ei:List Es} {pos p2:Pos}
end
def zL(sc:Scope)(names:List (Str × NameKind)):Bool:=names.all fun x=>!(x.2 == .free) || sc.names.lookup x.1 == some .cell || sc.names.lookup x.1 == some .free
theorem bV{X:Cx}{names:List (Str × NameKind)}(sc:Scope)(hs:X.env.scope=sc)(h:zL sc names=true):∀ x ∈ names,x.2=.free->(X.env.kindOf x.1=some .cell\/X.env.kindOf x.1=some .free):=fun x hx hf=>by
  have:=List.all_eq_true.mp h x hx
  unfold PySem.Env.kindOf
  rw[hs]
  simp only[hf,beq_self_eq_true,Bool.not_true,Bool.false_or,Bool.or_eq_true,beq_iff_eq] at this
  exact this
end VL
namespace VL
open PySem PySem.Spec PyProof.Rows L2
section
variable {X:Cx} {a b e:Expr} {te:TE} {fa fb:FE} {ea eb:List Es} {pos p p2:Pos} {lo hi:Option Expr} {ke:Expr} {tl th tk:TO} {flo fhi fst:FO}
end
end VL
namespace VL
open PySem PySem.Spec PyProof.Rows L2
def Itd(lo:Int)(n:Nat):It:=⟨fun i _=>i < n,fun i H x H'=>H'=H/\x=.int (lo - i),fun i _=>n<=i⟩
theorem zM{P:Program}{w:World}{K:PySem.W.Frag}{tg:Expr}(it:Addr)(lo:Int)(n:Nat):Turn P w K tg (Itd lo n) [it] it (fun i h=>IsRangeIter h it (lo+(i:Nat) * (-1)) ((n:Int) - (i:Nat)) (-1)) where
  mem:=by simp
  obj := fun i h st b hb=>by
    have e:b=it:=by simpa using hb
    subst e
    exact⟨_,st,fun v z=>by
      have z':Data.fields _=Data.cell v:=z
      cases z'⟩
  keep:=fun i h h' st k=>k it (by simp) _ st
  item:=by
    intro X hP hw hK hc i pins s σ H E I hf st hg
    subst hP hw hK
    obtain⟨f0,f1,f2,f3,f4,f5⟩:=hf it (by simp)
    have W:=Walks.range (prog:=X.prog) (w:=X.w) (I.ok.hd hc) it lo (-1) n
    refine W.item i s _ _ hg st fun v h' tk hv st' kk=>?_
    obtain⟨t,rfl⟩:=hv
    have I1:Inv X pins σ H { s with heap:=h',toks:=tk }:=I.turned (fun b o hb e=>kk b o (by simpa using hb) e) f0 f1 f3 f4 f5
    refine⟨_,rfl,jA (s:={ s with heap:=h',toks:=tk }) (n:="range_iterator") st' rfl rfl (by decide) ⟨.int (lo - i),H,I1,⟨t,?_⟩,⟨rfl,rfl⟩,st',fun b hb=>(hf b hb).1⟩⟩
    congr 1;omega
  done:=by
    intro X hP hw hK hc i pins s σ H E I hf st hg
    subst hP hw hK
    obtain⟨f0,f1,f2,f3,f4,f5⟩:=hf it (by simp)
    exact wpAny_pyNext_range_end (I.ok.hd hc) st (by have:n<=i:=hg;omega) fun h' eb=>⟨rfl,I.turned (t':=s.toks) (fun b o hb e=>eb b o hb e) f0 f1 f3 f4 f5⟩
  self:=fun _ _ _ _ _ st h=>wpAny_pyIter_rangeiter st h
theorem qN(a b:Int):Builtin.Range.rangeSize a b (-1)=if b < a then a - b else 0:=by
  unfold Builtin.Range.rangeSize
  rw[if_neg (by decide)]
  have:(-(-1):Int)=1:=by decide
  rw[this,Int.ediv_one]
  by_cases h:b < a
  · rw[if_pos h,if_pos h];omega
  · rw[if_neg h,if_neg h]
theorem zN{a b:Int}(ha:-(2 ^ 62)<=a)(ha':a < 2 ^ 62)(hb:-(2 ^ 62)<=b)(hb':b < 2 ^ 62):Builtin.Range.small a b (-1)=true:=by
  unfold Builtin.Range.small
  rw[qN]
  simp only[Builtin.Range.rangeFitsLong,Bool.and_eq_true,Bool.or_eq_true,decide_eq_true_eq,beq_iff_eq,show ¬ ((-1:Int) > 0) by decide,if_false]
  split <;> omega
section
variable {X:Cx} {tg:Expr}
theorem zO{pins:List (Addr × Obj)}{σ:St}{H:Hp}{s:Shared}{R:It->Hp->Prop}{E:Value->Shared->Prop}{lo hi:Int}{t u v:Tok}{tk:Nat}(I:Inv X pins σ H s)(h1:-(2 ^ 62)<=lo)(h2:lo < 2 ^ 62)(h3:-(2 ^ 62)<=hi)(h4:hi < 2 ^ 62)(q:R (Itd lo (lo - hi).toNat) H):wpAny (model X.prog X.w) X.A (pyIter (.ref s.heap.objs.size)) (PIE X pins σ tg R) E { s with heap:=s.heap.push { cls:=.type "range",data:=.fields #[.int lo t,.int hi u,.int (-1) v] },toks:=tk }:=by
  refine wpAny_pyIter_range (IsRange.new ..) (zN h1 h2 h3 h4) ?_
  have I1:Inv X pins σ H { s with heap:=s.heap.push { cls:=.type "range",data:=.fields #[.int lo t,.int hi u,.int (-1) v] },toks:=tk }:=I.kept fun b o e=>Heap.get?_push_of_some _ e
  refine⟨(s.heap.push { cls:=.type "range",data:=.fields #[.int lo t,.int hi u,.int (-1) v] }).objs.size,[(s.heap.push { cls:=.type "range",data:=.fields #[.int lo t,.int hi u,.int (-1) v] }).objs.size],_,_,H,rfl,
    I1.kept (t':=tk) fun b o e=>Heap.get?_push_of_some _ e,zM _ lo (lo - hi).toNat,?_,fun b hb=>?_,q⟩
  · have e1:lo+((0:Nat):Int) * (-1)=lo:=by omega
    have e2:(((lo - hi).toNat:Nat):Int) - ((0:Nat):Int)=Builtin.Range.rangeSize lo hi (-1):=by rw[qN];split <;> omega
    show IsRangeIter _ _ (lo+((0:Nat):Int) * (-1)) ((((lo - hi).toNat:Nat):Int) - ((0:Nat):Int)) (-1)
    rw[e1,e2]
    exact Heap.get?_push_size _ rfl
  · have e:b=(s.heap.push { cls:=.type "range",data:=.fields #[.int lo t,.int hi u,.int (-1) v] }).objs.size:=by simpa using hb
    subst e
    exact I1.fpOk (Nat.le_refl _) (I1.hok.fresh (Nat.le_refl _))
def zP(ta:TA):TI:=fun σ H R=>ta σ H fun vs H1=>∃ i j:Int,vs=[.int i,.int j,.int (-1)]/\(-(2 ^ 62)<=i/\i < 2 ^ 62/\-(2 ^ 62)<=j/\j < 2 ^ 62)/\R (Itd i (i - j).toNat) H1
theorem zQ{a b c:Expr}{ta:TA}{p pos:Pos}(hg:Gl X "range")(hm:X.mg "range" = none)(ha:PA X [a,b,c] ta)(hs:starEach [a,b,c] X.env=(false,eval a X.env)::starEach [b,c] X.env:=by rfl)(hpl:(backTo pos (starEach [b,c] X.env)).any (·.1)=false:=by rfl):
    PI X tg (.Call (.Name "range" p) [a,b,c] [] pos) (zP ta):=by
  intro pins s σ H R I h
  refine Call_ (cJ I hg hm boot_range (PyProof.Rows.callWith_type1 (thn (ha pos pins s σ H _ I h) fun us s1 ⟨vs,H1,I1,r1,q1⟩=>?_) hs hpl))
  obtain⟨i,j,e,⟨q1,q2,q3,q4⟩,q⟩:=q1
  subst e
  cases r1 with
  | cons r rr =>
    cases rr with
    | cons r' rr =>
      cases rr with
      | cons r'' rr =>
        cases rr
        obtain⟨t,rfl⟩:=r
        obtain⟨t',rfl⟩:=r'
        obtain⟨t'',rfl⟩:=r''
        exact call_range_3 (by decide) (zO I1 q1 q2 q3 q4 q) (.inl (PyProof.noPylong_of_log2 (by decide +kernel)))
end
def eG(lo:Int)(n:Nat):List D:=(List.range n).map fun (k:Nat)=>.int (lo - k)
theorem zR{lo:Int}{n i:Nat}(h:i < n):(eG lo n).drop i=.int (lo - i)::(eG lo n).drop (i+1):=by
  have hl:i < (eG lo n).length:=by simpa [eG] using h
  rw[List.drop_eq_getElem_cons hl]
  simp[eG]
theorem zS{g:TG}{tb:TS}{D:Ends}{σ:St}{H:Hp}{lo:Int}{n:Nat}(Pv:Nat->St->Hp->Prop)(h0:Pv 0 σ H)(hs:∀ i σ H,i < n->Pv i σ H->g (.int (lo - (i:Nat))) σ H fun σ2 H2=>tb { D with nx:=Pv (i+1),ct:=Pv (i+1),bk:=D.nx } σ2 H2)(hd:∀ σ H,Pv n σ H->D.nx σ H):
    ∃ W:Nat->Nat->St->Hp->Prop,(∃ m,W 0 m σ H)/\∀ i m σ H,W i m σ H ->
      ((Itd lo n).stop i H/\D.nx σ H)\/((Itd lo n).go i H/\∃ N:St->Hp->Prop,(∀ σ' H',N σ' H'->∃ m',m' < m/\W (i+1) m' σ' H')/\∀ x H',(Itd lo n).yld i H x H'->g x σ H' fun σ2 H2=>tb { D with nx:=N,ct:=N,bk:=D.nx } σ2 H2):=by
  refine⟨fun i m σ H=>m=n - i/\i<=n/\Pv i σ H,⟨n,by simp,Nat.zero_le _,h0⟩,?_⟩
  rintro i m σ H ⟨rfl,hi,p⟩
  by_cases hlt:i < n
  · refine .inr ⟨hlt,Pv (i+1),fun σ' H' p'=>⟨n - (i+1),by omega,rfl,hlt,p'⟩,fun x H' y=>?_⟩
    obtain⟨e,y⟩:=y
    subst e y
    exact hs i σ _ hlt p
  · have e:i=n:=by omega
    subst e
    exact .inl ⟨Nat.le_refl _,hd σ H p⟩
def iQ(t:Nat)(as:FEs)(tb:FS):FS:=fun ρ=>(as ρ).bind fun ds=>match ds with
  | [.int i,.int j,.int k]=>if okR i/\okR j/\k = -1 then bn (fun x ρ=>tb (ρ.set t (some x))) (eG i (i - j).toNat) ρ else none
  | _=>none
section
variable {X:Cx} {F:Fr0} {O O2 OL:List Nat} {fr:Bool} {a b c:Expr} {body:List Stmt} {as:FEs} {ei:List Es} {tb:FS} {p2 pos pn pr:Pos}
end
section
variable {X:Cx} {a b:Expr} {fa fb:FE} {ea eb es:List Es} {as:FEs} {pos p kp cp:Pos}
end
end VL
namespace VL
open PySem PySem.Spec PyProof.Rows L2
end VL
namespace VL
open PySem PySem.Spec PyProof.Rows L2
end VL
namespace VL
open PySem PySem.Spec PyProof.Rows L2
section
variable {X:Cx} {a b c:Expr} {as:FEs} {es:List Es} {pos p:Pos}
end
section
variable {X:Cx}
end
section
variable {X:Cx} {F:Fr0} {O OL:List Nat} {fr:Bool} {e:Expr} {fe:FE} {es:List Es} {pos p2:Pos}
end
end VL
namespace VL
open PySem PySem.Spec PyProof.Rows L2
abbrev AA(A:Addr->Prop)(a:Addr)(bs:List Addr):Addr->Prop:=fun b=>A b\/b=a\/b ∈ bs
def InR(K:PySem.W.Frag)(H:Hp)(A:Addr->Prop)(bs:List Addr)(dss:List (List D)):Prop :=
  bs.length=dss.length/\∀ (k:Nat) b ds,bs[k]?=some b->dss[k]?=some ds->∃ ys,H b=some (.lst ys)/\Reps K (ao H A) ys ds
section
variable {K:PySem.W.Frag} {H H':Hp} {A A':Addr->Prop} {bs:List Addr} {dss:List (List D)}
theorem InR.mono(e:Same H H')(h:InR K H A bs dss):InR K H' A bs dss:=⟨h.1,fun k b ds h1 h2=>by
  obtain⟨ys,h3,h4⟩:=h.2 k b ds h1 h2
  exact⟨ys,e _ _ h3,aH (bD e) h4⟩⟩
theorem InR.change(e:Same (ao H A) (ao H' A'))(h0:∀ b ∈ bs,H' b=H b)(h:InR K H A bs dss):InR K H' A' bs dss:=⟨h.1,fun k b ds h1 h2=>by
  obtain⟨ys,h3,h4⟩:=h.2 k b ds h1 h2
  exact⟨ys,by rw[h0 b (List.mem_of_getElem? h1)];exact h3,aH e h4⟩⟩
theorem InR.at(h:InR K H A bs dss){k:Nat}{b:Addr}(hb:bs[k]?=some b):∃ ds ys,dss[k]?=some ds/\H b=some (.lst ys)/\Reps K (ao H A) ys ds:=by
  have hk:k < dss.length:=by have:=(List.getElem?_eq_some_iff.mp hb).1;have:=h.1;omega
  obtain⟨ys,h3,h4⟩:=h.2 k b dss[k] hb (List.getElem?_eq_getElem hk)
  exact⟨_,ys,List.getElem?_eq_getElem hk,h3,h4⟩
theorem kj:∀ {vs:List V} {ds:List D},vs.length=ds.length->(∀ (k:Nat) v d,vs[k]?=some v->ds[k]?=some d->Rep K H v d)->Reps K H vs ds
  | [],[],_,_=>.nil
  | [],_::_,h,_=>by cases h
  | _::_,[],h,_=>by cases h
  | v::vs,d::ds,h,k=>.cons (k 0 v d rfl rfl) (kj (by simpa using h) fun m v' d' h1 h2=>k (m+1) v' d' (by simpa using h1) (by simpa using h2))
theorem InR.reps(h:InR K H A bs dss)(hA:∀ b,A' b->A b)(hb:∀ b ∈ bs,¬ A' b):Reps K (ao H A') (bs.map V.ref) (dss.map D.lst):=by
  refine kj (by simpa using h.1) fun k v d h1 h2=>?_
  rw[List.getElem?_map] at h1 h2
  cases e1:bs[k]? with
  | none=>rw[e1] at h1;cases h1
  | some b =>
    cases e2:dss[k]? with
    | none=>rw[e2] at h2;cases h2
    | some ds =>
      rw[e1] at h1;rw[e2] at h2
      cases h1;cases h2
      obtain⟨ys,h3,h4⟩:=h.2 k b ds e1 e2
      refine .lst (.inl ?_) (aH (bU (fun _ _ q=>q) hA) h4)
      rw[bg (hb b (List.mem_of_getElem? e1))]
      exact h3
theorem zT{α:Type}{xs:List α}(h:xs.Nodup){i j:Nat}{x:α}(h1:xs[i]?=some x)(h2:xs[j]?=some x):i=j :=
  (List.getElem?_inj (List.getElem?_eq_some_iff.mp h1).1 h).mp (h1.trans h2.symm)
theorem InR.put(h:InR K H A bs dss)(hn:bs.Nodup){k:Nat}{b:Addr}(hb:bs[k]?=some b)(hA:A b){ys:List V}{ds:List D}(hr:Reps K (ao H A) ys ds):InR K (upd H b (.lst ys)) A bs (dss.set k ds):=by
  have up:Same (ao H A) (ao (upd H b (.lst ys)) A):=fun c o q=>by
    obtain⟨n,q⟩:=cw q
    rw[bg n,aC (show c ≠ b from fun e=>n (by rw[e];exact hA))]
    exact q
  refine⟨by rw[List.length_set];exact h.1,fun m c es h1 h2=>?_⟩
  by_cases e:m=k
  · subst e
    rw[hb] at h1;cases h1
    have hm:m < dss.length:=by have:=(List.getElem?_eq_some_iff.mp h2).1;simpa using this
    rw[List.getElem?_set_self hm] at h2;cases h2
    exact⟨ys,b9,aH up hr⟩
  · rw[List.getElem?_set_ne (Ne.symm e)] at h2
    obtain⟨zs,h3,h4⟩:=h.2 m c es h1 h2
    have ne:c ≠ b:=fun q=>e (zT hn (q ▸ h1) hb)
    exact⟨zs,by rw[aC ne];exact h3,aH up h4⟩
theorem InR.snoc(h:InR K H A bs dss){b:Addr}{ys:List V}{ds:List D}(hb:H b=some (.lst ys))(hr:Reps K (ao H A) ys ds):InR K H A (bs++[b]) (dss++[ds]):=by
  refine⟨by simp[h.1],fun k c es h1 h2=>?_⟩
  by_cases e:k < bs.length
  · rw[List.getElem?_append_left e] at h1
    rw[List.getElem?_append_left (by rw[<- h.1];exact e)] at h2
    exact h.2 k c es h1 h2
  · have:k=bs.length:=by have:=(List.getElem?_eq_some_iff.mp h1).1;simp at this;omega
    subst this
    rw[List.getElem?_append_right (Nat.le_refl _),Nat.sub_self] at h1
    rw[h.1,List.getElem?_append_right (Nat.le_refl _),Nat.sub_self] at h2
    cases h1;cases h2
    exact⟨ys,hb,hr⟩
end
def lkD(ρ:ae)(i r:Nat):Option D:=(aa r ρ).bind fun k=>(aa i ρ).bind fun x=>match k,x with
  | .int k,.lst ds=>ds[k.toNat]?
  | _,_=>none
def vw(i:Nat):Option Nat->ae->ae
  | none,ρ=>ρ
  | some r,ρ=>ρ.set r (lkD ρ i r)
structure EnvD (K:PySem.W.Frag) (F:Fr0) (held:List Hd) (i:Nat) (al:Option Nat) (a:Addr) (bs:List Addr) (dss:List (List D)) (σ:St) (ρ:ae) (H:Hp):Prop where
  same:Same F.H0 H
  lσ:σ.length=F.n
  lρ:ρ.length=F.n
  si:σ[i]?=some (some (V.ref a))
  ri:ρ[i]?=some (some (.lst (dss.map .lst)))
  ha:H a=some (.lst (bs.map V.ref))
  nd:(a::bs).Nodup
  new:∀ b,b=a\/b ∈ bs->F.H0 b=Option.none
  inn:∀ A,F.PA A->InR K H (AA A a bs) bs dss
  val:∀ j d,ρ[j]?=some (some d)->j ≠ i->al ≠ some j->∃ v,σ[j]?=some (some v)/\∀ A,F.PA A->Rep K (ao H (AA A a bs)) v d
  hld:∀ p ∈ held,∀ A,F.PA A->HdOk K (ao H (AA A a bs)) p
  als:∀ r,al=some r->r ≠ i/\∃ (k:Nat) (b:Addr),ρ[r]?=some (some (.int (k:Nat)))/\bs[k]?=some b/\σ[r]?=some (some (V.ref b))
section
variable {K:PySem.W.Frag} {F:Fr0} {held:List Hd} {i:Nat} {al:Option Nat} {a:Addr} {bs:List Addr} {dss:List (List D)} {σ:St} {ρ:ae} {H H':Hp}
theorem EnvD.up(h:EnvD K F held i al a bs dss σ ρ H)(e:Same H H'):EnvD K F held i al a bs dss σ ρ H' :=
  ⟨h.same.trans e,h.lσ,h.lρ,h.si,h.ri,e _ _ h.ha,h.nd,h.new,fun A hA=>(h.inn A hA).mono e,fun j d q h1 h2=>let ⟨v,h3,h4⟩:=h.val j d q h1 h2;⟨v,h3,fun A hA=>ay (bD e) (h4 A hA)⟩,fun p hp A hA=>(h.hld p hp A hA).mono (bD e),h.als⟩
theorem EnvD.out(h:EnvD K F held i al a bs dss σ ρ H){A:Addr->Prop}(hA:F.PA A){b:Addr}(hb:b=a\/b ∈ bs):¬ A b:=fun q=>F.dom A hA b q (h.new b hb)
theorem EnvD.dom(h:EnvD K F held i al a bs dss σ ρ H){A:Addr->Prop}(hA:F.PA A):Dom H (AA A a bs):=fun b q=>by
  rcases q with q | rfl | q
  · exact ((F.dom A hA).mono h.same) b q
  · rw[h.ha];exact fun z=>nomatch z
  · obtain⟨k,hk⟩:=List.getElem?_of_mem q
    obtain⟨_,ys,_,h2,_⟩:=(h.inn A hA).at hk
    rw[h2];exact fun z=>nomatch z
theorem EnvD.repI(h:EnvD K F held i al a bs dss σ ρ H){A:Addr->Prop}(hA:F.PA A):Rep K (ao H A) (V.ref a) (.lst (dss.map .lst)):=by
  refine .lst (.inl ?_) ((h.inn A hA).reps (fun b q=>.inl q) fun b hb=>h.out hA (.inr hb))
  rw[bg (h.out hA (.inl rfl))]
  exact h.ha
theorem zU{k:Nat}{r:Nat}(hr:ρ[r]?=some (some (.int (k:Nat))))(hi:ρ[i]?=some (some (.lst (dss.map .lst)))):lkD ρ i r=(dss[k]?).map D.lst:=by
  unfold lkD aa
  rw[hr,hi]
  simp
theorem EnvD.envR(h:EnvD K F held i al a bs dss σ ρ H):EnvR K H σ (vw i al ρ):=fun j d e=>by
  have plain:ρ[j]?=some (some d)->al ≠ some j->∃ v,σ[j]?=some (some v)/\Rep K H v d:=fun e' hj=>by
    by_cases hi:j=i
    · subst hi
      rw[h.ri] at e';cases e'
      exact⟨_,h.si,ay (aM _ _) (h.repI F.none)⟩
    · obtain⟨v,h1,h2⟩:=h.val j d e' hi hj
      exact⟨v,h1,ay (aM _ _) (h2 _ F.none)⟩
  cases al with
  | none=>exact plain e fun z=>nomatch z
  | some r =>
    obtain⟨hri,k,b,h1,h2,h3⟩:=h.als r rfl
    by_cases hj:j=r
    · subst hj
      have hl:j < ρ.length:=(List.getElem?_eq_some_iff.mp h1).1
      unfold vw at e
      rw[List.getElem?_set_self hl,zU h1 h.ri] at e
      obtain⟨ds,ys,h4,h5,h6⟩:=(h.inn _ F.none).at h2
      rw[h4] at e;cases e
      exact⟨_,h3,.lst (.inl h5) (aH (aM _ _) h6)⟩
    · unfold vw at e
      rw[List.getElem?_set_ne (Ne.symm hj)] at e
      exact plain e fun z=>hj (Option.some.inj z).symm
def apD(i:Nat)(al:Option Nat):Es->Bool
  | .full j=>j != i && al != some j
  | .el j=>j != i && al != some j
theorem zV{j:Nat}(h:al ≠ some j):(vw i al ρ)[j]?=ρ[j]?:=by
  cases al with
  | none=>rfl
  | some r=>exact List.getElem?_set_ne (show r ≠ j from fun e=>h (by rw[e]))
theorem EnvD.av(h:EnvD K F held i al a bs dss σ ρ H){A:Addr->Prop}(hA:F.PA A){e:Es}(he:apD i al e=true):Av K H σ (vw i al ρ) (AA A a bs) e:=by
  have out:∀ (j:Nat) (v:V) (d:D),j ≠ i->al ≠ some j->σ[j]?=some (some v)->(vw i al ρ)[j]?=some (some d)->Rep K (ao H (AA A a bs)) v d:=fun j v d h1 h2 h3 h4=>by
    rw[zV h2] at h4
    obtain⟨v',h5,h6⟩:=h.val j d h4 h1 h2
    rw[h3] at h5;cases h5
    exact h6 A hA
  cases e with
  | full j =>
    simp only[apD,Bool.and_eq_true,bne_iff_ne,ne_eq] at he
    exact fun v d h1 h2=>out j v d he.1 he.2 h1 h2
  | el j =>
    simp only[apD,Bool.and_eq_true,bne_iff_ne,ne_eq] at he
    exact fun v d h1 h2=>(out j v d he.1 he.2 h1 h2).el
theorem EnvD.eval(h:EnvD K F held i al a bs dss σ ρ H){es:List Es}{d:D}{v:V}(hes:es.all (apD i al)=true)(p:Post K σ (vw i al ρ) H es d v H'){A:Addr->Prop}(hA:F.PA A):Rep K (ao H' (AA A a bs)) v d :=
  p.av _ (h.dom hA) fun e he=>h.av hA (List.all_eq_true.mp hes e he)
theorem EnvD.set(h:EnvD K F held i al a bs dss σ ρ H){j:Nat}{v:V}{d:D}(hj:j ≠ i)(hal:al ≠ some j)(hv:∀ A,F.PA A->Rep K (ao H (AA A a bs)) v d):EnvD K F held i al a bs dss (σ.set j (some v)) (ρ.set j (some d)) H:=by
  refine⟨h.same,by rw[List.length_set];exact h.lσ,by rw[List.length_set];exact h.lρ,?_,?_,h.ha,h.nd,h.new,h.inn,fun m e q h1 h2=>?_,h.hld,fun r hr=>?_⟩
  · rw[List.getElem?_set_ne hj];exact h.si
  · rw[List.getElem?_set_ne hj];exact h.ri
  · by_cases e1:m=j
    · subst e1
      have l1:m < ρ.length:=by have:=(List.getElem?_eq_some_iff.mp q).1;simpa using this
      rw[List.getElem?_set_self l1] at q;cases q
      exact⟨v,List.getElem?_set_self (by rw[h.lσ,<- h.lρ];exact l1),hv⟩
    · rw[List.getElem?_set_ne (Ne.symm e1)] at q ⊢
      exact h.val m e q h1 h2
  · obtain⟨h1,k,b,h2,h3,h4⟩:=h.als r hr
    have ne:j ≠ r:=fun e=>hal (e ▸ hr)
    exact⟨h1,k,b,by rw[List.getElem?_set_ne ne];exact h2,h3,by rw[List.getElem?_set_ne ne];exact h4⟩
theorem EnvD.put(h:EnvD K F held i al a bs dss σ ρ H){k:Nat}{b:Addr}(hb:bs[k]?=some b){ys:List V}{ds:List D}(hr:∀ A,F.PA A->Reps K (ao H (AA A a bs)) ys ds):
    EnvD K F held i al a bs (dss.set k ds) σ (ρ.set i (some (.lst ((dss.set k ds).map .lst)))) (upd H b (.lst ys)):=by
  have hm:=List.mem_of_getElem? hb
  have up:∀ {A:Addr->Prop},Same (ao H (AA A a bs)) (ao (upd H b (.lst ys)) (AA A a bs)):=fun {A} c o q=>by
    obtain⟨n,q⟩:=cw q
    rw[bg n,aC (show c ≠ b from fun e=>n (.inr (.inr (by rw[e];exact hm))))]
    exact q
  have nd:=List.nodup_cons.mp h.nd
  have hl:i < ρ.length:=(List.getElem?_eq_some_iff.mp h.ri).1
  refine⟨fun c o q=>?_,h.lσ,by rw[List.length_set];exact h.lρ,h.si,List.getElem?_set_self hl,?_,h.nd,h.new,fun A hA=>(h.inn A hA).put nd.2 hb (.inr (.inr hm)) (hr A hA),fun j e q h1 h2=>?_,fun p hp A hA=>(h.hld p hp A hA).mono up,fun r hr=>?_⟩
  · rw[aC (show c ≠ b from fun e=>by subst e;rw[h.new c (.inr hm)] at q;cases q)]
    exact h.same c o q
  · rw[aC (show a ≠ b from fun e=>nd.1 (by rw[e];exact hm))]
    exact h.ha
  · rw[List.getElem?_set_ne (Ne.symm h1)] at q
    obtain⟨v,h3,h4⟩:=h.val j e q h1 h2
    exact⟨v,h3,fun A hA=>ay up (h4 A hA)⟩
  · obtain⟨h1,m,c,h2,h3,h4⟩:=h.als r hr
    exact⟨h1,m,c,by rw[List.getElem?_set_ne (Ne.symm h1)];exact h2,h3,h4⟩
end
end VL
namespace VL
open PySem PySem.Spec PyProof.Rows L2
def zW(K:PySem.W.Frag)(F:Fr0)(held:List Hd)(i:Nat)(al':Option Nat)(fr:Bool)(De:Ends):Out->Prop
  | .nx ρ'=>∀ a bs dss σ' H',EnvD K F held i al' a bs dss σ' ρ' H'->De.nx σ' H'
  | .rt d=>∀ v H',Ret K F fr d v H'->De.rt v H'
  | .bk _=>True
  | .ct _=>True
def tsD(K:PySem.W.Frag)(F:Fr0)(held:List Hd)(i:Nat)(al al':Option Nat)(fr:Bool)(f:FS):TS:=fun De σ H=>∃ a bs dss ρ o,EnvD K F held i al a bs dss σ ρ H/\f ρ=some o/\zW K F held i al' fr De o
abbrev VD(X:Cx)(F:Fr0)(i:Nat)(al:Option Nat)(st:Stmt)(f:FS)(al':Option Nat)(fr:Bool):Prop:=∀ held,PS X st (tsD X.K F held i al al' fr f)
abbrev VDs(X:Cx)(F:Fr0)(i:Nat)(al:Option Nat)(st:List Stmt)(f:FS)(al':Option Nat)(fr:Bool):Prop:=∀ held,PSs X st (tsD X.K F held i al al' fr f)
section
variable {X:Cx} {F:Fr0} {i:Nat} {al al1 al2:Option Nat} {fr:Bool} {f g:FS} {st:Stmt} {aq:List Stmt} {pos p2 p3 p4:Pos} {e b1 b2:Expr} {fe f1 f2:FE} {es e1 e2:List Es}
theorem gT{K:PySem.W.Frag}{H H':Hp}:∀ {vs:List V} {ds:List D},ds.all b0=true->Reps K H vs ds->Reps K H' vs ds
  | [],_,_,h=>by cases h;exact .nil
  | _ :: _,_,s,h=>by
    cases h with
    | cons h1 h2 =>
      rw[List.all_cons,Bool.and_eq_true] at s
      exact .cons (io s.1 h1) (gT s.2 h2)
end
end VL
namespace VL
open PySem PySem.Spec PyProof.Rows L2
structure PostD (K:PySem.W.Frag) (σ:St) (ρ:ae) (H:Hp) (es:List Es) (d:D) (v:V) (H':Hp):Prop where
  same:Same H H'
  new:∃ l bs dss,v=V.ref l/\d=.lst (dss.map .lst)/\(l::bs).Nodup/\(∀ b,b=l\/b ∈ bs->H b=none)/\H' l=some (.lst (bs.map V.ref))/\∀ A,Dom H A->(∀ e ∈ es,Av K H σ ρ A e)->InR K H' (AA A l bs) bs dss
def zX(K:PySem.W.Frag)(σ:St)(ρ:ae)(H:Hp)(es:List Es)(ds:List D)(J:It)(H1:Hp):Prop:=∀ (i:Nat) (d:D) (H':Hp) x H'',ds[i]?=some d->Same H1 H'->J.yld i H' x H''->∀ A,Dom H A->(∀ e ∈ es,Av K H σ ρ A e)->Rep K (ao H1 A) x d
def zY(K:PySem.W.Frag)(f:FEs)(es:List Es):TI:=fun σ H R=>∃ ρ ds,EnvR K H σ ρ/\f ρ=some ds/\∀ J H1,PostI K σ ρ H es ds J H1->zX K σ ρ H es ds J H1->R J H1
abbrev VIL(X:Cx)(tg iter:Expr)(f:FEs)(es:List Es):Prop:=PI X tg iter (zY X.K f es)
section
variable {X:Cx} {elt tg iter:Expr} {ifs:List Expr} {scope:Scope} {own cn:List Str} {caps is:List Nat} {g:TG} {un:D->Option (List D)} {fi:FEs} {ei ee:List Es} {c:ae->Option Bool} {fe:FE} {pos spos p2:Pos}
theorem EnvO.setD{K:PySem.W.Frag}{F:Fr0}{held:List Hd}{O:List Nat}{σ:St}{ρ:ae}{H H':Hp}(h:EnvO K F held O σ ρ H){i:Nat}{es:List Es}{d:D}{v:V}(p:PostD K σ ρ H es d v H')(hn:i < F.n):
    ∃ a bs dss,EnvD K F held i none a bs dss (σ.set i (some v)) (ρ.set i (some d)) H':=by
  have h:=h.weaken (O':=[]) fun _ q=>nomatch q
  obtain⟨l,bs,dss,rfl,rfl,hnd,hnew,hl',hr⟩:=p.new
  have off:∀ {A:Addr->Prop} (b:Addr),Off σ [] A b ↔ A b:=fun {A} b=>⟨fun q=>q.elim (fun⟨_,q,_⟩=>nomatch q) id,.inr⟩
  have dom:∀ {A:Addr->Prop},F.PA A->Dom H A:=fun {A} hA=>(F.dom A hA).mono h.same
  have av:∀ {A:Addr->Prop},F.PA A->∀ e ∈ es,Av K H σ ρ A e:=fun {A} hA e he=>by
    have:=h.av (e:=e) hA (by cases e <;> rfl)
    rw[show Off σ [] A=A from funext fun b=>propext (off b)] at this
    exact this
  have up:∀ {A:Addr->Prop},Same (ao H (Off σ [] A)) (ao H' (AA A l bs)):=fun {A} c o q=>by
    obtain⟨n,q⟩:=cw q
    rw[bg]
    · exact p.same c o q
    · rintro (z | z)
      · exact n (.inr z)
      · rw[hnew c z] at q;cases q
  refine⟨l,bs,dss,h.same.trans p.same,by rw[List.length_set];exact h.lσ,by rw[List.length_set];exact h.lρ,List.getElem?_set_self (by rw[h.lσ];exact hn),List.getElem?_set_self (by rw[h.lρ];exact hn),hl',hnd,fun b hb=>h.same.free (hnew b hb),fun A hA=>hr A (dom hA) (av hA),fun j e q h1 h2=>?_,fun z hz A hA=>(h.hld z hz A hA).mono up,fun r hr=>nomatch hr⟩
  rw[List.getElem?_set_ne (Ne.symm h1)] at q ⊢
  obtain⟨v',h3,h4⟩:=h.val j e q fun z=>nomatch z
  exact⟨v',h3,fun A hA=>ay up (h4 A hA)⟩
def iR(f:FS):Prop:=∀ ρ ρ',f ρ ≠ some (.nx ρ')
theorem zZ{f g:FS}(h:iR g):iR (aN f g):=fun ρ ρ' q=>by
  obtain⟨o,h1,h2⟩:=bind_some q
  cases o with
  | nx ρ1=>exact h ρ1 ρ' h2
  | _=>cases h2
end
end VL
namespace VL
open PySem PySem.Spec PyProof.Rows L2
section
variable {prog:Program} {w:World} {A:Around} {E:Value->Shared->Prop} {s:Shared}
end
section
variable {X:Cx} {tg a:Expr} {ta:TA} {p p2 pos pos2:Pos}
end
section
variable {X:Cx} {F:Fr0} {O O2 OL:List Nat} {fr:Bool} {a:Expr} {body:List Stmt} {as:FEs} {ei:List Es} {tb:FS} {p2 pos pn pr pm pq:Pos}
end
section
variable {X:Cx} {a b c:Expr} {fa fb fc:FE} {ea eb ec:List Es} {pos:Pos}
end
end VL
namespace VL
open PySem PySem.Spec PyProof.Rows L2
section
variable {K:PySem.W.Frag} {F:Fr0} {held:List Hd} {i r:Nat} {al:Option Nat} {a:Addr} {bs:List Addr} {dss:List (List D)} {σ:St} {ρ:ae} {H H':Hp}
end
def A0(K:PySem.W.Frag)(F:Fr0)(held:List Hd)(i:Nat)(al':Option Nat)(a:Addr)(bs:List Addr)(fr:Bool)(De:Ends):Out->Prop
  | .nx ρ'=>∀ dss σ' H',EnvD K F held i al' a bs dss σ' ρ' H'->De.nx σ' H'
  | .rt d=>∀ v H',Ret K F fr d v H'->De.rt v H'
  | .bk _=>True
  | .ct _=>True
def tsK(K:PySem.W.Frag)(F:Fr0)(held:List Hd)(i:Nat)(al al':Option Nat)(a:Addr)(bs:List Addr)(fr:Bool)(f:FS):TS:=fun De σ H=>∃ dss ρ o,EnvD K F held i al a bs dss σ ρ H/\f ρ=some o/\A0 K F held i al' a bs fr De o
abbrev VJ(X:Cx)(F:Fr0)(i:Nat)(al:Option Nat)(st:Stmt)(f:FS)(al':Option Nat)(fr:Bool):Prop:=∀ held a bs,PS X st (tsK X.K F held i al al' a bs fr f)
abbrev VJs(X:Cx)(F:Fr0)(i:Nat)(al:Option Nat)(st:List Stmt)(f:FS)(al':Option Nat)(fr:Bool):Prop:=∀ held a bs,PSs X st (tsK X.K F held i al al' a bs fr f)
section
variable {X:Cx} {F:Fr0} {i r:Nat} {al al1 al2:Option Nat} {fr:Bool} {f g:FS} {st:Stmt} {aq:List Stmt} {pos p2 p3 p4:Pos} {e b1 b2:Expr} {fe f1 f2:FE} {es e1 e2:List Es}
end
end VL
namespace VL
open PySem PySem.Spec PyProof.Rows L2
structure RetX (K:PySem.W.Frag) (H0:Hp) (d:D) (v:V) (H':Hp):Prop where
  same:Same H0 H'
  new:∃ l bs dss,v=V.ref l/\d=.lst (dss.map .lst)/\(l::bs).Nodup/\(∀ b,b=l\/b ∈ bs->H0 b=none)/\H' l=some (.lst (bs.map V.ref))/\∀ A,InR K H' A bs dss
def mv:D->Bool
  | .lst es=>es.all b0
  | _=>false
theorem A1{K:PySem.W.Frag}{H H':Hp}{A:Addr->Prop}{bs:List Addr}{dss:List (List D)}(hs:(dss.map D.lst).all mv=true)(hb:∀ b ∈ bs,H' b=H b)(h:InR K H A bs dss)(A':Addr->Prop):InR K H' A' bs dss:=⟨h.1,fun k b ds h1 h2=>by
  obtain⟨ys,h3,h4⟩:=h.2 k b ds h1 h2
  have hm:D.lst ds ∈ dss.map D.lst:=List.mem_map.mpr ⟨ds,List.mem_of_getElem? h2,rfl⟩
  exact⟨ys,by rw[hb b (List.mem_of_getElem? h1)];exact h3,gT (List.all_eq_true.mp hs _ hm) h4⟩⟩
section
variable {K:PySem.W.Frag} {F:Fr0} {held:List Hd} {i:Nat} {a:Addr} {bs:List Addr} {dss:List (List D)} {σ:St} {ρ:ae} {H H':Hp}
theorem EnvD.push(h:EnvD K F held i none a bs dss σ ρ H)(e:Same H H'){l:Addr}(hl:H l=none){ys:List V}{ds:List D}(hl':H' l=some (.lst ys))(hr:∀ H'',Reps K H'' ys ds):
    EnvD K F held i none a (bs++[l]) (dss++[ds]) σ (ρ.set i (some (.lst ((dss++[ds]).map .lst)))) (upd H' a (.lst ((bs++[l]).map V.ref))):=by
  have hE:=h.up e
  have nd:=List.nodup_cons.mp h.nd
  have hla:l ≠ a:=fun q=>by subst q;rw[h.ha] at hl;cases hl
  have hlb:l ∉ bs:=fun q=>h.dom F.none l (.inr (.inr q)) hl
  have hpl:i < ρ.length:=(List.getElem?_eq_some_iff.mp h.ri).1
  have sub:∀ {c:Addr},c ∈ bs++[l]->c ∈ bs\/c=l:=fun {c} q=>(List.mem_append.mp q).imp id List.mem_singleton.mp
  have up:∀ {A:Addr->Prop},Same (ao H (AA A a bs)) (ao (upd H' a (.lst ((bs++[l]).map V.ref))) (AA A a (bs++[l]))):=fun {A} c o q=>by
    obtain⟨n,q⟩:=cw q
    have ne:c ≠ a:=fun z=>n (.inr (.inl z))
    have nl:c ≠ l:=bQ q hl
    rw[bg,aC ne]
    · exact e c o q
    · rintro (z | z | z)
      · exact n (.inl z)
      · exact ne z
      · rcases sub z with z | z
        · exact n (.inr (.inr z))
        · exact nl z
  refine⟨fun c o q=>?_,h.lσ,by rw[List.length_set];exact h.lρ,h.si,List.getElem?_set_self hpl,b9,?_,fun c hc=>?_,fun A hA=>InR.snoc ⟨(h.inn A hA).1,fun m c es h1 h2=>?_⟩ ?_ (hr _),fun j d q h1 h2=>?_,fun p hp A hA=>(h.hld p hp A hA).mono up,fun r hr=>nomatch hr⟩
  · rw[aC (show c ≠ a from fun z=>by subst z;rw[h.new c (.inl rfl)] at q;cases q)]
    exact hE.same c o q
  · refine List.nodup_cons.mpr ⟨fun z=>?_,?_⟩
    · rcases sub z with z | z
      · exact nd.1 z
      · exact hla z.symm
    · rw[List.nodup_append]
      exact⟨nd.2,by simp,fun x hx y hy=>by rw[List.mem_singleton] at hy;subst hy;exact fun q=>hlb (q ▸ hx)⟩
  · rcases hc with rfl | hc
    · exact h.new c (.inl rfl)
    · rcases sub hc with hc | rfl
      · exact h.new c (.inr hc)
      · cases q:F.H0 c with
        | none=>rfl
        | some o=>rw[h.same c o q] at hl;cases hl
  · obtain⟨zs,h3,h4⟩:=(h.inn A hA).2 m c es h1 h2
    have ne:c ≠ a:=fun z=>nd.1 (z ▸ List.mem_of_getElem? h1)
    exact⟨zs,by rw[aC ne];exact e _ _ h3,aH up h4⟩
  · rw[aC hla];exact hl'
  · rw[List.getElem?_set_ne (Ne.symm h1)] at q
    obtain⟨v,h3,h4⟩:=h.val j d q h1 h2
    exact⟨v,h3,fun A hA=>ay up (h4 A hA)⟩
end
def A2(K:PySem.W.Frag)(F:Fr0)(held:List Hd)(i:Nat)(De:Ends):Out->Prop
  | .nx ρ'=>∀ a bs dss σ' H',EnvD K F held i none a bs dss σ' ρ' H'->De.nx σ' H'
  | .rt d=>∀ v H',RetX K F.H0 d v H'->De.rt v H'
  | .bk _=>True
  | .ct _=>True
def tsX(K:PySem.W.Frag)(F:Fr0)(held:List Hd)(i:Nat)(f:FS):TS:=fun De σ H=>∃ a bs dss ρ o,EnvD K F held i none a bs dss σ ρ H/\f ρ=some o/\A2 K F held i De o
abbrev VX(X:Cx)(F:Fr0)(i:Nat)(st:Stmt)(f:FS):Prop:=∀ held,PS X st (tsX X.K F held i f)
abbrev VXs(X:Cx)(F:Fr0)(i:Nat)(st:List Stmt)(f:FS):Prop:=∀ held,PSs X st (tsX X.K F held i f)
def A3(K:PySem.W.Frag)(F:Fr0)(held:List Hd)(O':List Nat)(De:Ends):Out->Prop
  | .nx ρ'=>∀ σ' H',EnvO K F held O' σ' ρ' H'->De.nx σ' H'
  | .rt d=>∀ v H',RetX K F.H0 d v H'->De.rt v H'
  | .bk _=>True
  | .ct _=>True
def tsR(K:PySem.W.Frag)(F:Fr0)(held:List Hd)(O O':List Nat)(f:FS):TS:=fun De σ H=>∃ ρ o,EnvO K F held O σ ρ H/\f ρ=some o/\A3 K F held O' De o
abbrev VRs(X:Cx)(F:Fr0)(O:List Nat)(st:List Stmt)(f:FS)(O':List Nat):Prop:=∀ held,PSs X st (tsR X.K F held O O' f)
section
variable {X:Cx} {F:Fr0} {O O1 O2 O' OL:List Nat} {i:Nat} {fr:Bool} {f g:FS} {st:Stmt} {aq:List Stmt} {pos p2 p3 p4:Pos} {e:Expr} {fe:FE} {es:List Es}
theorem A4(h1:VX X F i st f)(h2:VXs X F i aq g):VXs X F i (st::aq) (aN f g):=fun held=>cY (ig (h1 held) (h2 held)) fun De σ H ⟨a,bs,dss,ρ,o,hE,hf,hQ⟩=>by
  obtain⟨o1,h1,hf⟩:=bind_some hf
  refine⟨a,bs,dss,ρ,o1,hE,h1,?_⟩
  cases o1 with
  | nx ρ'=>exact fun a' bs' dss' σ' H' hE'=>⟨a',bs',dss',ρ',o,hE',hf,hQ⟩
  | rt d=>cases hf;exact hQ
  | bk ρ'=>exact trivial
  | ct ρ'=>exact trivial
theorem A5(h1:VX X F i st f):VXs X F i [st] f:=fun held=>cY (lq (h1 held)) fun De σ H h=>h
def iS(i:Nat)(f:FE):FS:=fun ρ=>(aa i ρ).bind fun x=>match x with
  | .lst ds=>(f ρ).bind fun d=>match d with
    | .lst es=>if es.all b0=true/\ds.length < 100000 then some (.nx (ρ.set i (some (.lst (ds++[.lst es]))))) else none
    | _=>none
  | _=>none
theorem A6{x:Str}{ap cp:Pos}(he:VF X e fe es)(hN:X.N[i]?=some x:=by rfl)(hv:Vis X.env.scope x:=by first | exact Or.inl rfl | exact Or.inr (Or.inl rfl) | exact Or.inr (Or.inr rfl))(hd:(x == ("__debug__" : Str))=false:=by decide)(hcd:(x == ("__classdict__" : Str))=false:=by decide)(hbase:attributeBase (.Name x p2) "append" X.env (eval (.Name x p2) X.env)=eval (.Name x p2) X.env:=by rfl)(hfew:((backTo cp (starEach [e] X.env)).all (fun x=>!x.1) && (backToKw cp (keywordEach [] X.env)).all (fun x=>x.1.isSome)
      && decide (([e]:List Expr).length+([]:List Keyword).length+(if ([]:List Keyword).isEmpty then 0 else 1) < 30))=true:=by rfl)(hline:(ap.endLine == cp.line)=true:=by rfl)(hs:starEach [e] X.env=(false,eval e X.env)::starEach [] X.env:=by rfl)(hplain:(backTo cp (starEach [] X.env)).any (·.1)=false:=by rfl)(hsw:swapsWith (.Call (.Attribute (.Name x p2) "append" ap) [e] [] cp) none pos.line X.env=pure false:=by rfl):
    VX X F i (.Expr (.Call (.Attribute (.Name x p2) "append" ap) [e] [] cp) pos) (iS i fe):=fun held =>
  be (jx (lJ PySem.F.plainAttrs_list PySem.F.slot_list_append PySem.F.type_list_append lK (fw hN hv hd hcd) (cq he cC hs) hbase hfew hline hs hplain) hsw) fun De σ H ⟨a,bs,dss,ρ,o,hE,hf,hQ⟩=>by
    obtain⟨z,h1,hf⟩:=bind_some hf
    have h1:=fE h1
    rw[hE.ri] at h1;cases h1
    obtain⟨d,h2,hf⟩:=bind_some hf
    refine⟨_,hE.si,.inl ⟨rfl,bs.map V.ref,.inl (.inl hE.ha)⟩,ρ,d,hE.envR,h2,fun v H1 p=>?_⟩
    obtain⟨l,xs,ds,rfl,rfl,hl,hl',hr⟩:=p.new
    obtain⟨⟨hsc,hlen⟩,rfl⟩:=ca hf
    have len:bs.length=dss.length:=(hE.inn _ F.none).1
    have base:=hr cV (Dom.none H) fun e _=>Av.none hE.envR e
    rw[List.length_map] at hlen
    refine⟨a,bs.map V.ref,V.ref l,rfl,rfl,p.same _ _ hE.ha,Nat.lt_of_lt_of_le (show (bs.map V.ref).length < 100000 by rw[List.length_map];omega) (by decide),?_⟩
    refine hQ a (bs++[l]) (dss++[ds]) σ _ ?_
    have h3:=hE.push p.same hl hl' fun H''=>gT hsc base
    rw[List.map_append,List.map_append] at h3
    exact h3
theorem A7(t:Nat){x:Str}{a b c:Expr}{body:List Stmt}{as:FEs}{ei:List Es}{tb:FS}{pr pn:Pos}(hN:X.N.Nodup)(hc:X.calm=true)(mr:X.mg "range" = none)(hi:VA X [a,b,c] as ei)(hb:VXs X F i body tb)(h3:t ≠ i:=by decide)(hp:PassesOwn (model X.prog X.w) X.A X.env X.xe:=by exact PassesOwn.never)(hg:Gl X "range":=by rfl)(hst:starEach [a,b,c] X.env=(false,eval a X.env)::starEach [b,c] X.env:=by rfl)(hpl:(backTo pr (starEach [b,c] X.env)).any (·.1)=false:=by rfl)(hxN:X.N[t]?=some x:=by rfl)(hx:Loc X.env.scope x:=by first | exact Or.inl rfl | exact Or.inr rfl)(hfn:X.fn x=true\/X.env.scope.names.lookup x=some .local:=by first | exact .inl rfl | exact .inr rfl)(hs:∀ x,foldedSetIterable (.Call (.Name "range" pn) [a,b,c] [] pr) X.env x=pure x:=by intro _;rfl):VX X F i (.For (.Name x p2) (.Call (.Name "range" pn) [a,b,c] [] pr) body [] pos) (iQ t as tb):=fun held=>by
  refine be (fy hp hc (zQ hg mr hi hst hpl) (bu hN hxN hx hfn) (hb held) hs) fun De σ H h=>?_
  obtain⟨a0,bs,dss,ρ,o,hE,hf,hQ⟩:=h
  obtain⟨ds,hd,hf⟩:=bind_some hf
  refine⟨ρ,ds,hE.envR,hd,fun vs H1 p=>?_⟩
  have hE1:=hE.up p.same
  match ds,hf,p with
  | [.int ii,.int j,.int k],hf,p =>
    by_cases hj:okR ii/\okR j/\k = -1
    · simp only[if_pos hj] at hf
      obtain⟨hj1,hj2,rfl⟩:=hj
      have hv:vs=[.int ii,.int j,.int (-1)]:=by
        cases p.rep with
        | cons a t=>cases a;cases t with
          | cons a t=>cases a;cases t with
            | cons a t=>cases a;cases t;rfl
      refine⟨ii,j,hv,⟨hj1.1,hj1.2,hj2.1,hj2.2⟩,?_⟩
      refine zS (lo:=ii) (n:=(ii - j).toNat) (g:=bq t) (tb:=tsX X.K F held i tb) (D:=De) (fun q σ' H'=>∃ a' bs' dss' ρ',EnvD X.K F held i none a' bs' dss' σ' ρ' H'/\bn (fun x ρ=>tb (ρ.set t (some x))) ((eG ii (ii - j).toNat).drop q) ρ'=some o) ⟨a0,bs,dss,ρ,hE1,by simpa using hf⟩ ?_ ?_
      · rintro q σ' H' hq ⟨a',bs',dss',ρ',hE',hf'⟩
        rw[zR hq,iK] at hf'
        obtain⟨o1,h8,hf''⟩:=bind_some hf'
        refine⟨a',bs',dss',ρ'.set t (some (.int (ii - q))),o1,hE'.set h3 (fun z=>nomatch z) fun A hA=>.int _,h8,?_⟩
        cases o1 with
        | nx ρ1=>exact fun a2 bs2 dss2 σ2 H2 hE2=>⟨a2,bs2,dss2,ρ1,hE2,hf''⟩
        | rt d=>cases hf'';exact hQ
        | bk ρ1=>exact trivial
        | ct ρ1=>exact trivial
      · rintro σ' H' ⟨a',bs',dss',ρ',hE',hf'⟩
        rw[List.drop_eq_nil_of_le (by simp[eG])] at hf'
        cases hf'
        exact hQ a' bs' dss' σ' H' hE'
    · simp only[if_neg hj] at hf
      cases hf
def gU(i:Nat):FS:=fun ρ=>(aa i ρ).bind fun x=>match x with
  | .lst ds=>if ds.all mv=true then some (.rt (.lst ds.reverse)) else none
  | _=>none
theorem A8{x:Str}{pl pr pos2 pos3:Pos}(hc:X.calm=true)(ml:X.mg "list" = none)(mr:X.mg "reversed" = none)(hN:X.N[i]?=some x:=by rfl)(hv:Vis X.env.scope x:=by first | exact Or.inl rfl | exact Or.inr (Or.inl rfl) | exact Or.inr (Or.inr rfl))(hd:(x == ("__debug__" : Str))=false:=by decide)(hcd:(x == ("__classdict__" : Str))=false:=by decide)(hgl:Gl X "list":=by rfl)(hgr:Gl X "reversed":=by rfl)(hs1:starEach [.Name x p2] X.env=(false,eval (.Name x p2) X.env)::starEach [] X.env:=by rfl)(hs:starEach [.Name x p2] X.env=[(false,eval (.Name x p2) X.env)]:=by rfl)(hs2:starEach [.Call (.Name "reversed" pr) [.Name x p2] [] pos2] X.env=[(false,eval (.Call (.Name "reversed" pr) [.Name x p2] [] pos2) X.env)]:=by rfl):
    VX X F i (.Return (some (.Call (.Name "list" pl) [.Call (.Name "reversed" pr) [.Name x p2] [] pos2] [] pos3)) pos) (gU i):=fun held =>
  be (gC (qM hc hgl ml hgr mr (cq (fw hN hv hd hcd) cC hs1) hs hs2)) fun De σ H ⟨a,bs,dss,ρ,o,hE,hf,hQ⟩=>by
    obtain⟨z,h1,hf⟩:=bind_some hf
    have h1:=fE h1
    rw[hE.ri] at h1;cases h1
    obtain⟨hsc,rfl⟩:=ca hf
    refine⟨_,hE.si,a,bs.map V.ref,rfl,.inl (.inl hE.ha),fun l hl=>hQ _ _ ⟨hE.same.trans (bh hl _),l,bs.reverse,dss.reverse,rfl,by rw[List.map_reverse],?_,?_,by rw[List.map_reverse];exact b9,fun A=>?_⟩⟩
    · refine List.nodup_cons.mpr ⟨fun q=>?_,List.pairwise_reverse.mpr ((List.nodup_cons.mp hE.nd).2.imp fun h=>Ne.symm h)⟩
      exact hE.dom F.none l (.inr (.inr (List.mem_reverse.mp q))) hl
    · rintro b (rfl | hb)
      · exact hE.same.free hl
      · exact hE.new b (.inr (List.mem_reverse.mp hb))
    · have h:=hE.inn _ F.none
      have hne:∀ b ∈ bs,upd H l (.lst (bs.map V.ref).reverse) b=H b:=fun b hb=>aC fun q=>hE.dom F.none b (.inr (.inr hb)) (by rw[q];exact hl)
      have h2:=A1 hsc hne h A
      refine⟨by rw[List.length_reverse,List.length_reverse];exact h2.1,fun k b ds q1 q2=>?_⟩
      have hk:k < bs.length:=by have:=(List.getElem?_eq_some_iff.mp q1).1;simpa using this
      rw[List.getElem?_reverse hk] at q1
      rw[List.getElem?_reverse (by rw[<- h2.1];exact hk),<- h2.1] at q2
      exact h2.2 _ b ds q1 q2
def mw(f:FS):Prop:=∀ ρ o,f ρ=some o->∃ ρ',o=.nx ρ'
theorem A9{j:Nat}{f:FE}:mw (bf j f):=fun ρ o h=>by
  obtain⟨d,_,rfl⟩:=jV h
  exact⟨_,rfl⟩
theorem Aa(h1:VS X F O st f O1 OL fr)(hn:mw f)(h2:VRs X F O1 aq g O2):VRs X F O (st::aq) (aN f g) O2:=fun held=>cY (ig (h1 held) (h2 held)) fun De σ H ⟨ρ,o,hE,hf,hQ⟩=>by
  obtain⟨o1,h1,hf⟩:=bind_some hf
  obtain⟨ρ',rfl⟩:=hn _ _ h1
  exact⟨ρ,.nx ρ',hE,h1,fun σ' H' hE'=>⟨ρ',o,hE',hf,hQ⟩⟩
theorem Ab(i:Nat){x:Str}{lp:Pos}(hN:X.N.Nodup)(he:VF X e fe es)(hn:i < F.n)(hrest:VXs X F i aq g)(hret:iR g)(hi:X.N[i]?=some x:=by rfl)(hx:Loc X.env.scope x:=by first | exact Or.inl rfl | exact Or.inr rfl)(hs:swapsWith (.List [e] lp) (some (.Name x p2)) pos.line X.env=pure false:=by rfl)(hfn:X.fn x=true\/X.env.scope.names.lookup x=some .local:=by first | exact .inl rfl | exact .inr rfl)(hs1:starEach [e] X.env=(false,eval e X.env)::starEach [] X.env:=by rfl):
    VRs X F O (.Assign [.Name x p2] (.List [e] lp) pos::aq) (aN (bf i (ci (ag fe ar))) g) O':=fun held =>
  cY (ig (jz hN hi hx (jF (cq he cC hs1)) hs hfn) (hrest held)) fun De σ H ⟨ρ,o,hE,hf,hQ⟩=>by
    obtain⟨o1,h1,hf⟩:=bind_some hf
    obtain⟨d,h2,rfl⟩:=jV h1
    obtain⟨dl,h3,h4⟩:=bind_some h2
    obtain⟨hll,rfl⟩:=ca h4
    obtain⟨d1,h5,h6⟩:=bind_some h3
    obtain⟨dn,h7,h8⟩:=bind_some h6
    cases h7
    cases h8
    refine⟨ρ,d1,hE.envR,h5,fun v H1 p=>?_⟩
    refine⟨by show 1<=sizeLine;decide,fun l hl=>?_⟩
    obtain⟨l1,xs,ds,rfl,rfl,hl1,hl1',hr⟩:=p.new
    have ne:l1 ≠ l:=fun q=>by subst q;rw[hl] at hl1';cases hl1'
    have pD:PostD X.K σ ρ H es (.lst [.lst ds]) (V.ref l) (upd H1 l (.lst [V.ref l1])):=by
      refine⟨p.same.trans (bh hl _),l,[l1],[ds],rfl,rfl,?_,?_,b9,fun A hD hz=>⟨rfl,fun k b ds' q1 q2=>?_⟩⟩
      · simp[Ne.symm ne]
      · rintro b (rfl | hb)
        · exact p.same.free hl
        · rw[List.mem_singleton.mp hb];exact hl1
      · have hk:k=0:=by have:=(List.getElem?_eq_some_iff.mp q1).1;simp at this;exact this
        subst hk
        cases q1;cases q2
        refine⟨xs,by rw[aC ne];exact hl1',aH (fun c o q=>?_) (hr A hD hz)⟩
        obtain⟨n,q⟩:=cw q
        have nl:c ≠ l:=bQ q hl
        rw[bg,aC nl]
        · exact q
        · rintro (z | z | z)
          · exact n (.inl z)
          · exact nl z
          · exact n (.inr (List.mem_singleton.mp z))
    obtain⟨a,bs,dss,hD⟩:=hE.setD pD hn
    refine⟨a,bs,dss,_,o,hD,hf,?_⟩
    cases o with
    | nx ρ'=>exact absurd hf (hret _ ρ')
    | bk ρ'=>exact trivial
    | ct ρ'=>exact trivial
    | rt d'=>exact hQ
theorem Ac:iR (gU i):=fun ρ ρ' h=>by
  obtain⟨x,_,h2⟩:=bind_some h
  cases x with
  | lst ds=>obtain⟨_,q⟩:=ca h2;cases q
  | _=>cases h2
end
def spX(K:PySem.W.Frag)(G:List D->Option D):Sp:=fun vs H Q _=>∃ ds d,Reps K H vs ds/\G ds=some d/\∀ v H',RetX K H d v H'->Q v H'
theorem RetX.retC{K:PySem.W.Frag}{H:Hp}{vs:List V}{ds:List D}{d:D}{v:V}{H':Hp}(h:RetX K H d v H'):RetC K H vs ds true d v H':=by
  obtain⟨l,bs,dss,rfl,rfl,hnd,hnew,hl,hin⟩:=h.new
  have out:∀ {A:Addr->Prop},Dom H A->∀ b,b=l\/b ∈ bs->¬ A b:=fun {A} hA b hb q=>hA b q (hnew b hb)
  refine⟨h.same,fun A hA _=>.lst (.inl ?_) ((hin A).reps (fun _ q=>q) fun b hb=>out hA b (.inr hb)),fun _=>⟨l,_,_,rfl,rfl,hnew l (.inl rfl),hl,fun A hA _=>?_⟩⟩
  · rw[bg (out hA l (.inl rfl))];exact hl
  · refine (hin fun b=>A b\/b=l).reps (fun _ q=>q) fun b hb q=>?_
    rcases q with q | q
    · exact out hA b (.inr hb) q
    · exact (List.nodup_cons.mp hnd).1 (q ▸ hb)
theorem Ad{P:Program}{w:World}{K:PySem.W.Frag}{mg:Str->Option Value}{base:Heap}{x qual:Str}{st:Stmt}{f:Addr}{fd:FuncData}{N ps:List Str}{k np n:Nat}{G:List D->Option D}{body:FS}(O':List Nat)(h1:ps.length=np)(h2:N.length=n)(h3:G=mkF true np n body)(Fn:Fun K x qual st f fd)(S:FnScope N ps (ai st))(h:∀ (cdv:Value) (A:Around) (outer:List PySem.Env) (s:Shared) (H:Hp) (E:XK) (F:Fr0),F.n=n->Room k (A.deeper (envOfC qual (ai st) s.heap.objs.size f cdv)) ->
      VRs (cK CX0 P w K mg base N qual (ai st) f cdv A outer s H E).nox F [] (aD st) body O'):
    FnOk P w K mg base CX0 (k+1) f fd ps (spX K G):=by
  subst h1 h2 h3
  have hpl:ps.length<=N.length:=by have:=congrArg List.length S.pre;rw[List.length_take] at this;omega
  refine Fn.ok S (fun vs H Q E h=>?_) (fun cdv A outer s H vs Q E hr h'=>?_)
  · obtain⟨ds,d,r,hg,_⟩:=h
    unfold mkF at hg
    by_cases hl:ds.length=ps.length
    · rw[r.length,hl]
    · rw[if_neg hl] at hg;cases hg
  · obtain⟨ds,d,r,hg,hQ⟩:=h'
    unfold mkF at hg
    by_cases hl:ds.length=ps.length
    · rw[if_pos hl] at hg
      obtain⟨o,ho,hg⟩:=bind_some hg
      let F:Fr0:=⟨H,fun A=>Dom H A/\Reps K (ao H A) vs ds,N.length,fun A h=>h.1,⟨Dom.none H,aH (gF H) r⟩⟩
      refine⟨_,h cdv A outer s H E F rfl hr [],ds.map some++List.replicate (N.length - ps.length) none,o,?_,ho,?_⟩
      · have lv:=r.length
        have get:∀ (i:Nat) (d:D),(ds.map some++List.replicate (N.length - ps.length) none)[i]?=some (some d)->ds[i]?=some d:=fun i d q=>by
          by_cases hi:i < ds.length
          · rw[List.getElem?_append_left (by simpa using hi),List.getElem?_map] at q
            cases e:ds[i]? with
            | none=>rw[e] at q;cases q
            | some z=>rw[e] at q;simpa using q
          · rw[List.getElem?_append_right (by simpa using hi),List.getElem?_replicate] at q
            split at q <;> cases q
        refine⟨Same.refl H,?_,?_,fun i d q _=>?_,fun p hp=>absurd hp (by simp),fun i hi=>absurd hi (by simp),fun i hi=>absurd hi (by simp)⟩
        · show (L2.start N vs).length=N.length
          unfold L2.start
          rw[List.length_append,List.length_map,List.length_replicate]
          omega
        · show _=N.length
          rw[List.length_append,List.length_map,List.length_replicate]
          omega
        · have h1:=get i d q
          obtain⟨v,h2,_⟩:=r.get h1
          refine⟨v,?_,fun A hA=>?_⟩
          · unfold L2.start
            have hi:i < vs.length:=(List.getElem?_eq_some_iff.mp h2).1
            rw[List.getElem?_append_left (by simpa using hi),List.getElem?_map,h2]
            rfl
          · obtain⟨v',h3,h4⟩:=hA.2.get h1
            rw[h2] at h3;cases h3
            exact ay (bU (fun _ _ z=>z) fun b z=>z.elim (fun⟨_,hj,_⟩=>absurd hj (by simp)) id) h4
      · cases o with
        | rt d' =>
          cases hg
          exact fun v H' rt=>hQ v H' rt
        | nx ρ'=>cases hg
        | _=>cases hg
    · rw[if_neg hl] at hg;cases hg
def DefX(P:Program)(w:World)(K:PySem.W.Frag)(mg:Str->Option Value)(base:Heap)(x:Str)(k:Nat)(ps:List Str)(G:List D->Option D):Prop :=
  ∃ f fd,FnOk P w K mg base CX0 k f fd ps (spX K G)/\mg x=some (.ref f)/\PySem.W.keepIn K (.ref f)=true/\Binds K fd ps []
section
variable {P:Program} {w:World} {K:PySem.W.Frag} {mg:Str->Option Value} {base:Heap} {x:Str} {j k:Nat} {ps:List Str} {G:List D->Option D}
theorem DefX.mono(h:DefX P w K mg base x j ps G)(hk:j<=k:=by decide):DefX P w K mg base x k ps G :=
  let ⟨f,fd,F,m,kp,b⟩:=h
  ⟨f,fd,F.mono hk,m,kp,b⟩
theorem DefX.d(h:DefX P w K mg base x k ps G):Def P w K mg base x k ps G true :=
  let ⟨f,fd,F,m,kp,b⟩:=h
  ⟨f,fd,F.imp fun vs H Q E ⟨ds,d,r,hg,q⟩=>⟨ds,d,r,hg,fun v H' rx=>q v H' rx.retC⟩,m,kp,b⟩
end
section
variable {X:Cx} {k:Nat} {ps:List Str} {G:List D->Option D} {F:Fr0} {O O' OL:List Nat} {fr:Bool} {x y:Str} {p p2 pos spos:Pos} {e:Expr} {es':List Expr} {as:FEs} {es:List Es} {aq:List Stmt} {fs:FS} {al':Option Nat}
end
section
variable {X:Cx} {elt tg iter:Expr} {ifs:List Expr} {scope:Scope} {own cn:List Str} {caps is:List Nat} {g:TG} {un:D->Option (List D)} {fi:FEs} {ei ee:List Es} {c:ae->Option Bool} {fe:FE} {pos spos p2:Pos} {F:Fr0} {i:Nat} {fr:Bool}
end
end VL
namespace VL
open PySem PySem.Spec PyProof.Rows L2
def All3(P:V->D->List Addr->Prop):List V->List D->List (List Addr)->Prop
  | [],[],[]=>True
  | v::vs,d::ds,S::Ss=>P v d S/\All3 P vs ds Ss
  | _,_,_=>False
section
variable {P Q:V->D->List Addr->Prop}
theorem All3.imp:∀ {vs:List V} {ds:List D} {Ss:List (List Addr)},(∀ v d S,S ∈ Ss->P v d S->Q v d S)->All3 P vs ds Ss->All3 Q vs ds Ss
  | [],[],[],_,_=>trivial
  | v::vs,d::ds,S::Ss,h,p=>⟨h v d S List.mem_cons_self p.1,All3.imp (fun v d S' hS=>h v d S' (List.mem_cons_of_mem _ hS)) p.2⟩
  | [],[],_::_,_,p=>p.elim
  | [],_::_,_,_,p=>p.elim
  | _::_,[],_,_,p=>p.elim
  | _::_,_::_,[],_,p=>p.elim
theorem All3.len:∀ {vs:List V} {ds:List D} {Ss:List (List Addr)},All3 P vs ds Ss->vs.length=ds.length/\Ss.length=ds.length
  | [],[],[],_=>⟨rfl,rfl⟩
  | v::vs,d::ds,S::Ss,p=>by have:=All3.len p.2;simp[this]
  | [],[],_::_,p=>p.elim
  | [],_::_,_,p=>p.elim
  | _::_,[],_,p=>p.elim
  | _::_,_::_,[],p=>p.elim
theorem All3.get:∀ {vs:List V} {ds:List D} {Ss:List (List Addr)} {k:Nat} {v:V},All3 P vs ds Ss->vs[k]?=some v->∃ d S,ds[k]?=some d/\Ss[k]?=some S/\P v d S
  | v::vs,d::ds,S::Ss,0,_,p,e=>by simp at e;subst e;exact⟨d,S,rfl,rfl,p.1⟩
  | v::vs,d::ds,S::Ss,k+1,_,p,e=>by
    obtain⟨d',S',h1,h2,h3⟩:=All3.get (k:=k) p.2 (by simpa using e)
    exact⟨d',S',by simpa using h1,by simpa using h2,h3⟩
  | [],_,_,_,_,_,e=>by simp at e
  | _::_,[],_,_,_,p,_=>p.elim
  | _::_,_::_,[],_,_,p,_=>p.elim
theorem All3.snoc{v:V}{d:D}{S:List Addr}:∀ {vs:List V} {ds:List D} {Ss:List (List Addr)},All3 P vs ds Ss->P v d S->All3 P (vs++[v]) (ds++[d]) (Ss++[S])
  | [],[],[],_,h=>⟨h,trivial⟩
  | v::vs,d::ds,S::Ss,p,h=>⟨p.1,All3.snoc p.2 h⟩
  | [],[],_::_,p,_=>p.elim
  | [],_::_,_,p,_=>p.elim
  | _::_,[],_,p,_=>p.elim
  | _::_,_::_,[],p,_=>p.elim
theorem All3.put{d':D}:∀ {vs:List V} {ds:List D} {Ss:List (List Addr)} {k:Nat} {v:V} {S:List Addr},All3 P vs ds Ss->vs[k]?=some v->Ss[k]?=some S->Q v d' S->(∀ j v d S',j ≠ k->Ss[j]?=some S'->P v d S'->Q v d S')->All3 Q vs (ds.set k d') Ss
  | v :: vs,d::ds,S::Ss,0,_,_,p,e1,e2,q,h=>by
    simp at e1 e2
    subst e1 e2
    refine⟨q,?_⟩
    have key:∀ {vs:List V} {ds:List D} {Ss':List (List Addr)} (off:Nat),0 < off->(∀ j,Ss'[j]?=(S::Ss)[j+off]?)->All3 P vs ds Ss'->All3 Q vs ds Ss':=by
      intro vs ds Ss'
      induction Ss' generalizing vs ds with
      | nil =>
        intro off _ _ p
        cases vs with
        | nil=>cases ds with
          | nil=>exact trivial
          | cons _ _=>exact p.elim
        | cons _ _=>cases ds with
          | nil=>exact p.elim
          | cons _ _=>exact p.elim
      | cons T Ts ih =>
        intro off ho he p
        cases vs with
        | nil=>cases ds <;> exact p.elim
        | cons v vs=>cases ds with
          | nil=>exact p.elim
          | cons d ds =>
          refine⟨h off v d T (by omega) (by have:=he 0;simpa using this.symm) p.1,ih (off+1) (by omega) (fun j=>?_) p.2⟩
          have:=he (j+1)
          rw[List.getElem?_cons_succ] at this
          rw[this];congr 1;omega
    exact key 1 (by omega) (fun j=>by simp) p.2
  | v::vs,d::ds,S::Ss,k+1,w,S',p,e1,e2,q,h=>by
    refine⟨h 0 v d S (by omega) rfl p.1,?_⟩
    exact All3.put (k:=k) p.2 (by simpa using e1) (by simpa using e2) q fun j v d T hj hT hp=>h (j+1) v d T (by omega) (by simpa using hT) hp
  | [],_,_,_,_,_,_,e,_,_,_=>by simp at e
  | _::_,[],_,_,_,_,p,_,_,_,_=>p.elim
  | _::_,_::_,[],_,_,_,p,_,_,_,_=>p.elim
end
def OwnN(K:PySem.W.Frag)(H:Hp):Nat->V->D->List Addr->Prop
  | 0,v,d,S=>∃ c ys ds,v=V.ref c/\d=.lst ds/\S=[c]/\H c=some (.lst ys)/\ds.all b0=true/\Reps K H ys ds
  | n+1,v,d,S=>∃ b vs dl Ss,v=V.ref b/\d=.lst dl/\S=b::Ss.flatten/\H b=some (.lst vs)/\All3 (OwnN K H n) vs dl Ss
section
variable {K:PySem.W.Frag} {H H':Hp}
theorem OwnN.frame:∀ {n:Nat} {v:V} {d:D} {S:List Addr},(∀ b ∈ S,∀ o,H b=some o->H' b=some o)->OwnN K H n v d S->OwnN K H' n v d S
  | 0,_,_,_,h,⟨c,ys,ds,e1,e2,e3,e4,e5,e6⟩=>⟨c,ys,ds,e1,e2,e3,h c (by rw[e3];exact List.mem_cons_self) _ e4,e5,gT e5 e6⟩
  | n+1,_,_,_,h,⟨b,vs,dl,Ss,e1,e2,e3,e4,e5⟩=>⟨b,vs,dl,Ss,e1,e2,e3,h b (by rw[e3];exact List.mem_cons_self) _ e4,All3.imp (fun v d S hS p=>OwnN.frame (n:=n) (fun b hb o=>h b (by rw[e3];exact List.mem_cons_of_mem _ (List.mem_flatten.mpr ⟨S,hS,hb⟩)) o) p) e5⟩
theorem OwnN.mono{n:Nat}{v:V}{d:D}{S:List Addr}(e:Same H H')(h:OwnN K H n v d S):OwnN K H' n v d S:=h.frame fun b _ o q=>e b o q
theorem OwnN.dom:∀ {n:Nat} {v:V} {d:D} {S:List Addr},OwnN K H n v d S->∀ b ∈ S,H b ≠ none
  | 0,_,_,_,⟨c,ys,ds,e1,e2,e3,e4,e5,e6⟩,b,hb=>by
    rw[e3,List.mem_singleton] at hb
    rw[hb,e4];exact fun z=>nomatch z
  | n + 1,_,_,_,⟨c,vs,dl,Ss,e1,e2,e3,e4,e5⟩,b,hb=>by
    rw[e3] at hb
    rcases List.mem_cons.mp hb with rfl | hb
    · rw[e4];exact fun z=>nomatch z
    · obtain⟨S,hS,hb⟩:=List.mem_flatten.mp hb
      obtain⟨k,hk⟩:=List.getElem?_of_mem hS
      have hl:=e5.len
      have hkv:k < vs.length:=by have:=(List.getElem?_eq_some_iff.mp hk).1;omega
      obtain⟨d,S',_,h2,h3⟩:=e5.get (List.getElem?_eq_getElem hkv)
      rw[hk] at h2;cases h2
      exact OwnN.dom h3 b hb
theorem OwnN.rep:∀ {n:Nat} {v:V} {d:D} {S:List Addr} {A:Addr->Prop},OwnN K H n v d S->(∀ b ∈ S,¬ A b)->Rep K (ao H A) v d
  | 0,_,_,_,A,⟨c,ys,ds,e1,e2,e3,e4,e5,e6⟩,h=>by
    subst e1 e2
    refine .lst (.inl ?_) (gT e5 e6)
    rw[bg (h c (by rw[e3];exact List.mem_cons_self))]
    exact e4
  | n + 1,_,_,_,A,⟨b,vs,dl,Ss,e1,e2,e3,e4,e5⟩,h=>by
    subst e1 e2
    refine .lst (.inl ?_) (kj e5.len.1 fun k v d h1 h2=>?_)
    · rw[bg (h b (by rw[e3];exact List.mem_cons_self))]
      exact e4
    · obtain⟨d',S,q1,q2,q3⟩:=e5.get h1
      rw[h2] at q1;cases q1
      exact OwnN.rep q3 fun c hc=>h c (by rw[e3];exact List.mem_cons_of_mem _ (List.mem_flatten.mpr ⟨S,List.mem_of_getElem? q2,hc⟩))
end
structure RetO (K:PySem.W.Frag) (H0:Hp) (n:Nat) (d:D) (v:V) (H':Hp):Prop where
  same:Same H0 H'
  new:∃ S,OwnN K H' n v d S/\S.Nodup/\∀ b ∈ S,H0 b=none
def tvG(K:PySem.W.Frag)(n:Nat)(f:FE):TE:=fun σ H Q=>∃ ρ d,EnvR K H σ ρ/\f ρ=some d/\∀ v H',RetO K H n d v H'->Q v H'
end VL
namespace VL
open PySem PySem.Spec PyProof.Rows L2
section
variable {X:Cx} {elt tg iter:Expr} {ifs:List Expr} {scope:Scope} {own cn:List Str} {n:Nat} {caps is:List Nat} {g:TG} {un:D->Option (List D)} {fi:FEs} {ei:List Es} {c:ae->Option Bool} {fe:FE} {pos:Pos}
end
def Ae(K:PySem.W.Frag)(F:Fr0)(held:List Hd)(n:Nat)(O':List Nat)(De:Ends):Out->Prop
  | .nx ρ'=>∀ σ' H',EnvO K F held O' σ' ρ' H'->De.nx σ' H'
  | .rt d=>∀ v H',RetO K F.H0 n d v H'->De.rt v H'
  | .bk _=>True
  | .ct _=>True
def tsQ(K:PySem.W.Frag)(F:Fr0)(held:List Hd)(n:Nat)(O O':List Nat)(f:FS):TS:=fun De σ H=>∃ ρ o,EnvO K F held O σ ρ H/\f ρ=some o/\Ae K F held n O' De o
abbrev VQs(X:Cx)(F:Fr0)(n:Nat)(O:List Nat)(st:List Stmt)(f:FS)(O':List Nat):Prop:=∀ held,PSs X st (tsQ X.K F held n O O' f)
section
variable {X:Cx} {F:Fr0} {n:Nat} {O O1 O2 O' OL:List Nat} {fr:Bool} {f g:FS} {st:Stmt} {aq:List Stmt} {pos:Pos} {e:Expr} {fe:FE}
end
def spG(K:PySem.W.Frag)(n:Nat)(G:List D->Option D):Sp:=fun vs H Q _=>∃ ds d,Reps K H vs ds/\G ds=some d/\∀ v H',RetO K H n d v H'->Q v H'
theorem RetO.retC{K:PySem.W.Frag}{H:Hp}{n:Nat}{vs:List V}{ds:List D}{d:D}{v:V}{H':Hp}(h:RetO K H n d v H'):RetC K H vs ds true d v H':=by
  obtain⟨S,s1,s2,s3⟩:=h.new
  have out:∀ {A:Addr->Prop},Dom H A->∀ b ∈ S,¬ A b:=fun {A} hA b hb q=>hA b q (s3 b hb)
  refine⟨h.same,fun A hA _=>s1.rep (out hA),fun _=>?_⟩
  cases n with
  | zero =>
    obtain⟨c,ys,ds',rfl,rfl,rfl,e4,e5,e6⟩:=s1
    exact⟨c,ys,ds',rfl,rfl,s3 c List.mem_cons_self,e4,fun A hA _=>gT e5 e6⟩
  | succ n =>
    obtain⟨b,vs',dl,Ss,rfl,rfl,rfl,e4,e5⟩:=s1
    refine⟨b,vs',dl,rfl,rfl,s3 b List.mem_cons_self,e4,fun A hA _=>kj e5.len.1 fun k v d h1 h2=>?_⟩
    obtain⟨d',S,q1,q2,q3⟩:=e5.get h1
    rw[h2] at q1;cases q1
    have hm:∀ c ∈ S,c ∈ Ss.flatten:=fun c hc=>List.mem_flatten.mpr ⟨S,List.mem_of_getElem? q2,hc⟩
    refine q3.rep fun c hc q=>?_
    rcases q with q | q
    · exact out hA c (List.mem_cons_of_mem _ (hm c hc)) q
    · exact (List.nodup_cons.mp s2).1 (q ▸ hm c hc)
def DefG(P:Program)(w:World)(K:PySem.W.Frag)(mg:Str->Option Value)(base:Heap)(x:Str)(k:Nat)(ps:List Str)(n:Nat)(G:List D->Option D):Prop :=
  ∃ f fd,FnOk P w K mg base CX0 k f fd ps (spG K n G)/\mg x=some (.ref f)/\PySem.W.keepIn K (.ref f)=true/\Binds K fd ps []
section
variable {P:Program} {w:World} {K:PySem.W.Frag} {mg:Str->Option Value} {base:Heap} {x:Str} {j k n:Nat} {ps:List Str} {G:List D->Option D}
theorem DefG.mono(h:DefG P w K mg base x j ps n G)(hk:j<=k:=by decide):DefG P w K mg base x k ps n G :=
  let ⟨f,fd,F,m,kp,b⟩:=h
  ⟨f,fd,F.mono hk,m,kp,b⟩
theorem DefG.d(h:DefG P w K mg base x k ps n G):Def P w K mg base x k ps G true :=
  let ⟨f,fd,F,m,kp,b⟩:=h
  ⟨f,fd,F.imp fun vs H Q E ⟨ds,d,r,hg,q⟩=>⟨ds,d,r,hg,fun v H' rx=>q v H' rx.retC⟩,m,kp,b⟩
end
section
variable {X:Cx} {k n:Nat} {ps:List Str} {G:List D->Option D} {x:Str} {p pos:Pos} {e:Expr} {es':List Expr} {as:FEs} {es:List Es}
end
end VL
namespace VL
open PySem PySem.Spec PyProof.Rows L2
abbrev AS(A:Addr->Prop)(S:List Addr):Addr->Prop:=fun b=>A b\/b ∈ S
structure EnvW (K:PySem.W.Frag) (F:Fr0) (held:List Hd) (i n:Nat) (S:List Addr) (v0:V) (d0:D) (σ:St) (ρ:ae) (H:Hp):Prop where
  same:Same F.H0 H
  lσ:σ.length=F.n
  lρ:ρ.length=F.n
  si:σ[i]?=some (some v0)
  ri:ρ[i]?=some (some d0)
  own:OwnN K H n v0 d0 S
  nd:S.Nodup
  new:∀ b ∈ S,F.H0 b=Option.none
  val:∀ j d,ρ[j]?=some (some d)->j ≠ i->∃ v,σ[j]?=some (some v)/\∀ A,F.PA A->Rep K (ao H (AS A S)) v d
  hld:∀ p ∈ held,∀ A,F.PA A->HdOk K (ao H (AS A S)) p
section
variable {K:PySem.W.Frag} {F:Fr0} {held:List Hd} {i n:Nat} {S:List Addr} {v0:V} {d0:D} {σ:St} {ρ:ae} {H H':Hp}
theorem EnvW.up(h:EnvW K F held i n S v0 d0 σ ρ H)(e:Same H H'):EnvW K F held i n S v0 d0 σ ρ H' :=
  ⟨h.same.trans e,h.lσ,h.lρ,h.si,h.ri,h.own.mono e,h.nd,h.new,fun j d q h1=>let ⟨v,h3,h4⟩:=h.val j d q h1;⟨v,h3,fun A hA=>ay (bD e) (h4 A hA)⟩,fun p hp A hA=>(h.hld p hp A hA).mono (bD e)⟩
theorem EnvW.envR(h:EnvW K F held i n S v0 d0 σ ρ H):EnvR K H σ ρ:=fun j d e=>by
  by_cases hi:j=i
  · subst hi
    rw[h.ri] at e;cases e
    exact⟨_,h.si,ay (aM H cV) (h.own.rep fun _ _ q=>q)⟩
  · obtain⟨v,h1,h2⟩:=h.val j d e hi
    exact⟨v,h1,ay (aM _ _) (h2 _ F.none)⟩
theorem EnvW.dom(h:EnvW K F held i n S v0 d0 σ ρ H){A:Addr->Prop}(hA:F.PA A):Dom H (AS A S):=fun b q=>by
  rcases q with q | q
  · exact ((F.dom A hA).mono h.same) b q
  · exact h.own.dom b q
theorem EnvW.eval(h:EnvW K F held i n S v0 d0 σ ρ H){es:List Es}{d:D}{v:V}(hes:es.all (apD i none)=true)(p:Post K σ ρ H es d v H'){A:Addr->Prop}(hA:F.PA A):Rep K (ao H' (AS A S)) v d:=by
  refine p.av _ (h.dom hA) fun e he=>?_
  have hj:=List.all_eq_true.mp hes e he
  have out:∀ (j:Nat) (v:V) (d:D),j ≠ i->σ[j]?=some (some v)->ρ[j]?=some (some d)->Rep K (ao H (AS A S)) v d:=fun j v d h1 h3 h4=>by
    obtain⟨v',h5,h6⟩:=h.val j d h4 h1
    rw[h3] at h5;cases h5
    exact h6 A hA
  cases e with
  | full j =>
    simp only[apD,Bool.and_eq_true,bne_iff_ne,ne_eq] at hj
    exact fun v d h1 h2=>out j v d hj.1 h1 h2
  | el j =>
    simp only[apD,Bool.and_eq_true,bne_iff_ne,ne_eq] at hj
    exact fun v d h1 h2=>(out j v d hj.1 h1 h2).el
end
def Af(K:PySem.W.Frag)(F:Fr0)(held:List Hd)(i n:Nat)(fr:Bool)(De:Ends):Out->Prop
  | .nx ρ'=>∀ S v0 d0 σ' H',EnvW K F held i n S v0 d0 σ' ρ' H'->De.nx σ' H'
  | .rt d=>∀ v H',Ret K F fr d v H'->De.rt v H'
  | .bk _=>True
  | .ct _=>True
def tsG(K:PySem.W.Frag)(F:Fr0)(held:List Hd)(i n:Nat)(fr:Bool)(f:FS):TS:=fun De σ H=>∃ S v0 d0 ρ o,EnvW K F held i n S v0 d0 σ ρ H/\f ρ=some o/\Af K F held i n fr De o
abbrev VG(X:Cx)(F:Fr0)(i n:Nat)(st:Stmt)(f:FS)(fr:Bool):Prop:=∀ held,PS X st (tsG X.K F held i n fr f)
abbrev VGs(X:Cx)(F:Fr0)(i n:Nat)(st:List Stmt)(f:FS)(fr:Bool):Prop:=∀ held,PSs X st (tsG X.K F held i n fr f)
section
variable {X:Cx} {F:Fr0} {i n:Nat} {fr:Bool} {f g:FS} {st:Stmt} {aq:List Stmt} {pos p2 p3 p4:Pos} {e:Expr} {fe:FE} {es:List Es}
end
def Ext(S:List Addr)(H H':Hp):Prop:=∀ b o,H b=some o->b ∉ S->H' b=some o
theorem Ext.trans{S:List Addr}{H H1 H2:Hp}(h1:Ext S H H1)(h2:Ext S H1 H2):Ext S H H2:=fun b o q n=>h2 b o (h1 b o q n) n
theorem Ext.sub{S T:List Addr}{H H1:Hp}(h:Ext S H H1)(hs:∀ b ∈ S,b ∈ T):Ext T H H1:=fun b o q n=>h b o q fun z=>n (hs b z)
theorem Ext.refl(S:List Addr)(H:Hp):Ext S H H:=fun _ _ q _=>q
theorem p5{α:Type}(f:α->α){l:List α}{k:Nat}{x:α}(h:l[k]?=some x):((l.take k).map f++l.drop k).set k (f x)=(l.take (k+1)).map f++l.drop (k+1):=by
  obtain⟨hk,hx⟩:=List.getElem?_eq_some_iff.mp h
  rw[List.set_append_right _ _ (by simp;omega)]
  rw[List.length_map,List.length_take,Nat.min_eq_left (by omega),Nat.sub_self,List.drop_eq_getElem_cons hk,List.set_cons_zero,List.take_succ_eq_append_getElem hk,List.map_append,List.append_assoc,hx]
  rfl
section
variable {X:Cx} {r:Nat} {y:Str} {e:Expr} {d:D} {es:List Es} {pos p2 ap cp:Pos}
end
section
variable {X:Cx} {r1 r2:Nat} {y1 y2:Str} {d:D} {body:List Stmt} {pos p1 p2:Pos}
end
section
variable {X:Cx} {F:Fr0} {i r1 r2:Nat} {x y1 y2:Str} {d:D} {e:Expr} {fe:FE} {es:List Es} {fr:Bool} {aq:List Stmt} {g:FS} {O' OL:List Nat} {pos px py1 py1' py2 pm pl pe2 ap cp:Pos}
theorem EnvW.ext{K:PySem.W.Frag}{held:List Hd}{n:Nat}{S:List Addr}{v0:V}{d0 d1:D}{σ σ':St}{ρ:ae}{H H':Hp}(h:EnvW K F held i n S v0 d0 σ ρ H)(h1:i ≠ r1)(h2:i ≠ r2)(hσ:∀ j,j ≠ r1->j ≠ r2->σ'[j]?=σ[j]?)(hl:σ'.length=σ.length)(hx:Ext S H H')(ho:OwnN K H' n v0 d1 S):
    EnvW K F held i n S v0 d1 σ' (((ρ.set i (some d1)).set r1 none).set r2 none) H':=by
  have up:∀ {A:Addr->Prop},Same (ao H (AS A S)) (ao H' (AS A S)):=fun {A} b o q=>by
    obtain⟨n,q⟩:=cw q
    rw[bg n]
    exact hx b o q fun z=>n (.inr z)
  have hpl:i < ρ.length:=(List.getElem?_eq_some_iff.mp h.ri).1
  have get:∀ j d,(((ρ.set i (some d1)).set r1 none).set r2 none)[j]?=some (some d)->j ≠ i->j ≠ r1/\j ≠ r2/\ρ[j]?=some (some d):=fun j d q hj=>by
    by_cases e2:r2=j
    · subst e2
      have l1:r2 < ((ρ.set i (some d1)).set r1 none).length:=by have:=(List.getElem?_eq_some_iff.mp q).1;simpa using this
      rw[List.getElem?_set_self l1] at q;cases q
    · rw[List.getElem?_set_ne e2] at q
      by_cases e1:r1=j
      · subst e1
        have l1:r1 < (ρ.set i (some d1)).length:=by have:=(List.getElem?_eq_some_iff.mp q).1;simpa using this
        rw[List.getElem?_set_self l1] at q;cases q
      · rw[List.getElem?_set_ne e1,List.getElem?_set_ne (Ne.symm hj)] at q
        exact⟨Ne.symm e1,Ne.symm e2,q⟩
  refine⟨fun b o q=>hx b o (h.same b o q) fun z=>(by rw[h.new b z] at q;cases q),by rw[hl];exact h.lσ,by simp only[List.length_set];exact h.lρ,by rw[hσ i h1 h2];exact h.si,?_,ho,h.nd,h.new,fun j d q hj=>?_,fun p hp A hA=>(h.hld p hp A hA).mono up⟩
  · rw[List.getElem?_set_ne (Ne.symm h2),List.getElem?_set_ne (Ne.symm h1),List.getElem?_set_self hpl]
  · obtain⟨g1,g2,g3⟩:=get j d q hj
    obtain⟨v,k1,k2⟩:=h.val j d g3 hj
    exact⟨v,by rw[hσ j g1 g2];exact k1,fun A hA=>ay up (k2 A hA)⟩
end
section
variable {X:Cx} {k n:Nat} {ps:List Str} {G:List D->Option D} {F:Fr0} {O O' OL:List Nat} {fr:Bool} {x y:Str} {p p2 pos spos:Pos} {e:Expr} {es':List Expr} {as:FEs} {es:List Es} {aq:List Stmt} {fs:FS}
end
end VL
namespace VL
open PySem PySem.Spec PyProof.Rows L2
abbrev VY(X:Cx)(e:Expr)(n:Nat)(fe:FE):Prop:=PE X e (tvG X.K n fe)
section
variable {X:Cx} {F:Fr0} {O O':List Nat} {elt tg iter e:Expr} {ifs:List Expr} {scope:Scope} {own cn:List Str} {n k:Nat} {caps is:List Nat} {g:TG} {un:D->Option (List D)} {fi:FEs} {ei es:List Es} {c:ae->Option Bool} {fe:FE} {pos p:Pos} {ps:List Str} {G:List D->Option D} {x:Str} {es':List Expr} {as:FEs}
end
end VL
namespace VL
open PySem PySem.Spec PyProof.Rows L2
section
variable {X:Cx} {a b c:Expr} {es ea eb ec:List Es} {fa fb fc:FE} {pos p2:Pos} {k:Nat}
def e3(g:D->D->D->Option D)(a b c:FE):FE:=fun ρ=>(a ρ).bind fun x=>(b ρ).bind fun y=>(c ρ).bind fun z=>g x y z
end
section
variable {K:PySem.W.Frag} {F:Fr0} {held:List Hd} {O O':List Nat} {σ:St} {ρ:ae} {H H':Hp}
end
section
variable {X:Cx} {F:Fr0} {O O1 O2 O' OL:List Nat} {fr:Bool} {f g:FS} {st:Stmt} {pos p2 p3:Pos} {e b:Expr} {fe fb:FE} {es eb:List Es} {k:Nat}
end
end VL
namespace VL
open PySem PySem.Spec PyProof.Rows L2
def Ag(ta:TA):TE:=fun σ H Q=>ta σ H fun vs H1=>∃ j:Int,vs=[.int j]/\-100000<=j/\j<=100000/\∀ l,H1 l=none->Q (.ref l) (upd H1 l (.lst ((List.range j.toNat).map fun k=>V.int (k:Nat))))
section
variable {X:Cx} {a:Expr} {as:FEs} {es:List Es} {pos pos2 p p2:Pos} {ta:TA}
theorem Ah(hc:X.calm=true)(hgl:Gl X "list")(ml:X.mg "list" = none)(hgr:Gl X "range")(mr:X.mg "range" = none)(ha:PA X [a] ta)(hs:starEach [a] X.env=[(false,eval a X.env)])(hs2:starEach [.Call (.Name "range" p2) [a] [] pos2] X.env=[(false,eval (.Call (.Name "range" p2) [a] [] pos2) X.env)]):
    PE X (.Call (.Name "list" p) [.Call (.Name "range" p2) [a] [] pos2] [] pos) (Ag ta):=by
  intro pins s σ H Q I h
  refine Call_ (cJ I hgl ml PyProof.Rows.boot_list (PyProof.Rows.callWith_type1 ?_ hs2 rfl))
  rw[hs2]
  show wpAny _ _ (spliced ((false,eval (.Call (.Name "range" p2) [a] [] pos2) X.env)::backTo pos [])) _ _ s
  refine Calls.spliced_cons ?_
  refine Call_ (cJ I hgr mr boot_range (PyProof.Rows.callWith_type1 (thn (ha pos2 pins s σ H _ I h) fun us s1 ⟨vs,H1,I1,r1,q1⟩=>?_) hs rfl))
  obtain⟨j,rfl,hj1,hj2,hQ⟩:=q1
  obtain⟨u,rfl,ru⟩:=eo r1
  obtain⟨t,rfl⟩:=ru
  refine call_range_1 ?_
  refine Calls.spliced_nil ?_
  have I2:Inv X pins σ H1 { s1 with heap:=s1.heap.push { cls:=.type "range",data:=.fields #[.int 0 s1.toks,.int j t,.int 1 (s1.toks+1)] },toks:=s1.toks+1+1 }:=I1.kept fun b o e=>Heap.get?_push_of_some _ e
  have hsz:Builtin.Range.rangeSize 0 j 1=(j.toNat:Int):=by rw[rangeSize_one];split <;> omega
  refine call_list_range (I.ok.hd hc) (IsRange.new ..) (small_one (by omega) (by omega) (by omega) (by omega)) hsz (by omega) fun h' tk acc c hk hS hacc=>?_
  have fS:=ki I2
  have I3:Inv X pins σ H1 { s1 with heap:=h',toks:=tk }:=I2.kept (t':=tk) hk
  obtain⟨al,hal⟩:=hacc
  have hv : Vals ((List.range j.toNat).map fun k=>V.int (k:Nat)) acc.toList:=by
    have gen:∀ (l:List Value) (n m:Nat),l.length=m->(∀ i v,l[i]?=some v->∃ t,v=Value.int ((n+i:Nat):Int) t)->Vals ((List.range' n m).map fun k=>V.int (k:Nat)) l:=by
      intro l
      induction l with
      | nil=>intro n m hm _;subst hm;exact .nil
      | cons v r ih =>
        intro n m hm hh
        subst hm
        rw[List.length_cons,List.range'_succ,List.map_cons]
        refine .cons ?_ (ih (n+1) r.length rfl fun i v' hv'=>?_)
        · obtain⟨t,e⟩:=hh 0 v rfl
          exact⟨t,by simpa using e⟩
        · obtain⟨t,e⟩:=hh (i+1) v' (by simpa using hv')
          exact⟨t,by rw[e];congr 1;omega⟩
    rw[List.range_eq_range']
    refine gen acc.toList 0 j.toNat (by simp[al]) fun i v hv=>?_
    obtain⟨t,e⟩:=hal i v (by simpa using hv)
    exact⟨t,by rw[e];congr 1;omega⟩
  have I4:=kh (o:=.lst ((List.range j.toNat).map fun k=>V.int (k:Nat))) I3 fS ⟨by rw[List.length_map,List.length_range,sizeLine_eq];omega,acc.toList,c,hv,by simpa using hS⟩
  exact⟨.ref _,_,I4,rfl,hQ _ fS.1⟩
def iT:List D->Option D
  | [.int j]=>if -100000<=j/\j<=100000 then some (.lst ((List.range j.toNat).map fun k=>.int (k:Nat))) else none
  | _=>none
theorem Ai(ml:X.mg "list" = none)(mr:X.mg "range" = none)(ha:VA X [a] as es)(hc:X.calm=true:=by rfl)(hgl:Gl X "list":=by rfl)(hgr:Gl X "range":=by rfl)(hs:starEach [a] X.env=[(false,eval a X.env)]:=by rfl)(hs2:starEach [.Call (.Name "range" p2) [a] [] pos2] X.env=[(false,eval (.Call (.Name "range" p2) [a] [] pos2) X.env)]:=by rfl):
    VF X (.Call (.Name "list" p) [.Call (.Name "range" p2) [a] [] pos2] [] pos) (eA iT as) [] :=
  aI (Ah hc hgl ml hgr mr ha hs hs2) fun σ H Q ⟨ρ,d,hE,hf,hQ⟩=>by
    obtain⟨ds,h1,hf⟩:=bind_some hf
    refine⟨ρ,ds,hE,h1,fun vs H1 p=>?_⟩
    match ds,hf,p with
    | [.int j],hf,p =>
      obtain⟨hj,rfl⟩:=ca hf
      obtain⟨v,rfl,r⟩:=ez p.rep
      cases r
      refine⟨j,rfl,hj.1,hj.2,fun l hl=>hQ _ _ (fF p.same hl fun A hD hz=>?_)⟩
      have:=Reps.ints (K:=X.K) (H:=ao H1 A) ((List.range j.toNat).map fun (k:Nat)=>(k:Int))
      rw[List.map_map,List.map_map] at this
      exact this
end
end VL
namespace VL
open PySem PySem.Spec PyProof.Rows L2
structure JE (X:Cx) (e:Expr) (f:FE) (es:List Es):Prop where
  h:VE X e f es
structure JF (X:Cx) (e:Expr) (f:FE) (es:List Es):Prop where
  h:VF X e f es
structure JB (X:Cx) (e:Expr) (f:FE) (es:List Es):Prop where
  h:VB X e f es
structure JT (X:Cx) (e:Expr) (f:ae->Option Bool):Prop where
  h:VT X e f
structure JW (X:Cx) (e:Expr) (f:ae->Option Bool):Prop where
  h:VW X e f
structure JA (X:Cx) (e:List Expr) (f:FEs) (es:List Es):Prop where
  h:VA X e f es
structure JO (X:Cx) (e:Option Expr) (f:FO):Prop where
  h:VO X e f
structure JI (X:Cx) (tg iter:Expr) (f:FEs) (es:List Es):Prop where
  h:VI X tg iter f es
structure JS (X:Cx) (F:Fr0) (O:List Nat) (st:Stmt) (f:FS) (O' OL:List Nat) (fr:Bool):Prop where
  h:VS X F O st f O' OL fr
structure JSs (X:Cx) (F:Fr0) (O:List Nat) (st:List Stmt) (f:FS) (O' OL:List Nat) (fr:Bool):Prop where
  h:VSs X F O st f O' OL fr
structure JIL (X:Cx) (tg iter:Expr) (f:FEs) (es:List Es):Prop where
  h:VIL X tg iter f es
structure JD (X:Cx) (F:Fr0) (i:Nat) (al:Option Nat) (st:Stmt) (f:FS) (al':Option Nat) (fr:Bool):Prop where
  h:VD X F i al st f al' fr
structure JDs (X:Cx) (F:Fr0) (i:Nat) (al:Option Nat) (st:List Stmt) (f:FS) (al':Option Nat) (fr:Bool):Prop where
  h:VDs X F i al st f al' fr
structure JK (X:Cx) (F:Fr0) (i:Nat) (al:Option Nat) (st:Stmt) (f:FS) (al':Option Nat) (fr:Bool):Prop where
  h:VJ X F i al st f al' fr
structure JKs (X:Cx) (F:Fr0) (i:Nat) (al:Option Nat) (st:List Stmt) (f:FS) (al':Option Nat) (fr:Bool):Prop where
  h:VJs X F i al st f al' fr
structure JX (X:Cx) (F:Fr0) (i:Nat) (st:Stmt) (f:FS):Prop where
  h:VX X F i st f
structure JXs (X:Cx) (F:Fr0) (i:Nat) (st:List Stmt) (f:FS):Prop where
  h:VXs X F i st f
structure JRs (X:Cx) (F:Fr0) (O:List Nat) (st:List Stmt) (f:FS) (O':List Nat):Prop where
  h:VRs X F O st f O'
structure JG (X:Cx) (F:Fr0) (i n:Nat) (st:Stmt) (f:FS) (fr:Bool):Prop where
  h:VG X F i n st f fr
structure JGs (X:Cx) (F:Fr0) (i n:Nat) (st:List Stmt) (f:FS) (fr:Bool):Prop where
  h:VGs X F i n st f fr
structure JQs (X:Cx) (F:Fr0) (n:Nat) (O:List Nat) (st:List Stmt) (f:FS) (O':List Nat):Prop where
  h:VQs X F n O st f O'
structure JY (X:Cx) (e:Expr) (n:Nat) (fe:FE):Prop where
  h:VY X e n fe
section
variable {X:Cx} {a b c:Expr} {es ea eb ec:List Es} {fa fb fc:FE} {pos:Pos}
theorem bi{f:FE}(h:JF X a f es):JE X a f es:=⟨VF.ve h.h⟩
theorem ab(i:Nat){x:Str}{pos:Pos}(hN:X.N[i]?=some x:=by rfl)(hv:Vis X.env.scope x:=by first | exact Or.inl rfl | exact Or.inr (Or.inl rfl) | exact Or.inr (Or.inr rfl))(hd:(x == ("__debug__" : Str))=false:=by decide)(hcd:(x == ("__classdict__" : Str))=false:=by decide):JE X (.Name x pos) (aa i) [.full i]:=⟨xn i hN hv hd hcd⟩
theorem ah{i j pos}:JE X (.Constant (.int i) j pos) (eC (.int i)) []:=⟨xo ⟩
theorem eI{i j pos}:JE X (.Constant (.bool i) j pos) (eC (.bl i)) []:=⟨xp ⟩
theorem gW{j pos}:JE X (.Constant .none j pos) (eC .non) []:=⟨gG ⟩
theorem eJ{x:Str}{i:Int}{t:Tok}{pos:Pos}(hm:X.mg x=some (.int i t))(hg:Gl X x:=by rfl)(hd:(x == ("__debug__" : Str))=false:=by decide):JE X (.Name x pos) (eC (.int i)) []:=⟨xq hm hg hd⟩
theorem cD(ha:JE X a fa ea)(hb:JE X b fb eb):JE X (.BinOp a .Add b pos) (e2 b8 fa fb) []:=⟨xx ha.h hb.h⟩
theorem eK(ha:JE X a fa ea)(hb:JE X b fb eb):JE X (.BinOp a .Sub b pos) (e2 bZ fa fb) []:=⟨xy ha.h hb.h⟩
theorem dg(ha:JE X a fa ea)(hb:JE X b fb eb):JE X (.BinOp a .Mult b pos) (e2 ce fa fb) []:=⟨xz ha.h hb.h⟩
theorem mz(ha:JE X a fa ea)(hb:JE X b fb eb):JE X (.BinOp a .FloorDiv b pos) (e2 gH fa fb) []:=⟨xA ha.h hb.h⟩
theorem gX(ha:JE X a fa ea)(hb:JE X b fb eb):JE X (.BinOp a .Mod b pos) (e2 dP fa fb) []:=⟨xB ha.h hb.h⟩
theorem mB(ha:JE X a fa ea)(hb:JE X b fb eb):JE X (.BinOp a .Pow b pos) (e2 gJ fa fb) []:=⟨xC ha.h hb.h⟩
theorem gY(ha:JE X a fa ea):JE X (.UnaryOp .USub a pos) (e1 cW fa) []:=⟨xE ha.h⟩
theorem Aj(ha:JE X a fa ea)(hb:JE X b fb eb):JE X (.Compare a [.LtE] [b] pos) (e2 leI fa fb) []:=⟨xF ha.h hb.h⟩
theorem qO(ha:JE X a fa ea)(hb:JE X b fb eb):JE X (.Compare a [.Gt] [b] pos) (e2 gtI fa fb) []:=⟨xG ha.h hb.h⟩
theorem Ak(ha:JE X a fa ea)(hb:JE X b fb eb):JE X (.Compare a [.GtE] [b] pos) (e2 geI fa fb) []:=⟨xH ha.h hb.h⟩
theorem Al(ha:JE X a fa ea)(hb:JE X b fb eb):JT X (.Compare a [.Gt] [b] pos) (eT (e2 gtI fa fb)):=⟨xI ha.h hb.h⟩
theorem qP(ha:JE X a fa ea)(hb:JE X b fb eb)(hc:JE X c fc ec)(hm:lastMarks [.LtE,.LtE] [b,c]=false:=by with_unfolding_all rfl):JE X (.Compare a [.LtE,.LtE] [b,c] pos) (e3c leI leI fa fb fc) []:=⟨xL ha.h hb.h hc.h hm⟩
theorem iU{f:FE}(h:JE X a f es)(he:∀ whole,isTrue a X.env whole=(do let v <- whole;standAt a.pos;holding [v] (truthy v)):=by intro _;rfl):JT X a (dQ f):=⟨xM h.h he⟩
variable {ta tb:ae->Option Bool} {aq:List Expr}
theorem Am(ha:JT X a ta):JW X (.BoolOp .Or [a] pos) ta:=⟨xN ha.h⟩
theorem An(ha:JT X a ta)(hb:JW X (.BoolOp .Or (b::aq) pos) tb):JW X (.BoolOp .Or (a::b::aq) pos) (bOr ta tb):=⟨xO ha.h hb.h⟩
theorem Ao(h:JW X a ta):JT X a ta:=⟨xP h.h⟩
theorem mC(ha:JT X a ta):JT X (.UnaryOp .Not a pos) (er ta):=⟨xQ ha.h⟩
theorem dU{op}{f:FE}(h:JE X a f es):JE X (.BoolOp op [a] pos) f es:=⟨xR h.h⟩
theorem da(ha:JE X a fa ea)(hb:JE X (.BoolOp .And (b::aq) pos) fb eb):JE X (.BoolOp .And (a::b::aq) pos) (cg fa fb) eb:=⟨xS ha.h hb.h⟩
theorem qQ(ha:JE X a fa ea):JE X (.UnaryOp .Not a pos) (gM fa) []:=⟨xT ha.h⟩
theorem au: JA X [] ar []:=⟨xU ⟩
theorem aj{xs:List Expr}{fs:FEs}(ha:JE X a fa ea)(hr:JA X xs fs eb)(hs:starEach (a::xs) X.env=(false,eval a X.env)::starEach xs X.env:=by rfl):JA X (a::xs) (ag fa fs) (ea++eb):=⟨xV ha.h hr.h hs⟩
theorem dt{xs:List Expr}{fs:FEs}(h:JA X xs fs es):JF X (.List xs pos) (ci fs) es:=⟨xW h.h⟩
theorem Ap{xs:List Expr}{fs:FEs}{x1}(h:JA X xs fs es):JE X (.Tuple xs x1 pos) (iB fs) es:=⟨xX h.h⟩
end
section
variable {X:Cx} {a b c:Expr} {es ea eb ec:List Es} {fa fb fc:FE} {pos p2:Pos}
theorem cE(h:JE X a fa es):JB X a fa es:=⟨VE.vb h.h⟩
theorem aF(i:Nat){x:Str}{pos:Pos}(hN:X.N[i]?=some x:=by rfl)(hv:Vis X.env.scope x:=by first | exact Or.inl rfl | exact Or.inr (Or.inl rfl) | exact Or.inr (Or.inr rfl))(hd:(x == ("__debug__" : Str))=false:=by decide)(hcd:(x == ("__classdict__" : Str))=false:=by decide):JB X (.Name x pos) (aa i) [.el i]:=⟨xY i hN hv hd hcd⟩
theorem aR(ha:JB X a fa ea)(hb:JE X b fb eb)(hs:fC b):JE X (.Subscript a b pos) (e2 ixD fa fb) ea:=⟨xZ ha.h hb.h hs⟩
theorem qR(h:JE X a fa ea):JO X (some a) (gN fa):=⟨yb h.h⟩
theorem Aq{lo hi:Option Expr}{flo fhi:FO}(ha:JB X a fa ea)(hl:JO X lo flo)(hh:JO X hi fhi):JF X (.Subscript a (.Slice lo hi none p2) pos) (eSl fa flo fhi) ea:=⟨yc ha.h hl.h hh.h⟩
theorem kl(ha:JB X a fa ea)(hb:JB X b fb eb):JF X (.BinOp a .Add b pos) (e2 eu fa fb) (ea++eb):=⟨yf ha.h hb.h⟩
theorem Ar(ha:JF X a fa ea)(hb:JE X b fb eb):JF X (.BinOp a .Mult b pos) (e2 iD fa fb) ea:=⟨yg ha.h hb.h⟩
theorem cR{p:Pos}{as:FEs}(ml:X.mg "len" = none)(ha:JA X [a] as es)(hg:Gl X "len":=by rfl)(he:starEach [a] X.env=(false,eval a X.env)::starEach [] X.env:=by rfl)(hpl:(backTo pos (starEach [] X.env)).any (·.1)=false:=by rfl):JE X (.Call (.Name "len" p) [a] [] pos) (eA (aL bz) as) []:=⟨yh ml ha.h hg he hpl⟩
theorem gZ{p:Pos}(ml:X.mg "list" = none)(ha:JB X a fa ea)(hg:Gl X "list":=by rfl)(he:starEach [a] X.env=(false,eval a X.env)::starEach [] X.env:=by rfl)(hpl:(backTo pos (starEach [] X.env)).any (·.1)=false:=by rfl):JF X (.Call (.Name "list" p) [a] [] pos) (e1 dS fa) ea:=⟨yi ml ha.h hg he hpl⟩
theorem mD{p:Pos}{as:FEs}(hc:X.calm=true)(ml:X.mg "sum" = none)(ha:JA X [a] as es)(hg:Gl X "sum":=by rfl)(he:starEach [a] X.env=(false,eval a X.env)::starEach [] X.env:=by rfl)(hpl:(backTo pos (starEach [] X.env)).any (·.1)=false:=by rfl):JE X (.Call (.Name "sum" p) [a] [] pos) (eA (aL cN) as) []:=⟨yj hc ml ha.h hg he hpl⟩
theorem qS{p:Pos}{as:FEs}(hc:X.calm=true)(ml:X.mg "max" = none)(ha:JA X [a,b] as es)(hg:Gl X "max":=by rfl)(he:starEach [a,b] X.env=(false,eval a X.env)::starEach [b] X.env:=by rfl)(hpl:(backTo pos (starEach [b] X.env)).any (·.1)=false:=by rfl):JE X (.Call (.Name "max" p) [a,b] [] pos) (eA (cM fI) as) []:=⟨ym hc ml ha.h hg he hpl⟩
theorem qT{p:Pos}{as:FEs}(hc:X.calm=true)(ml:X.mg "min" = none)(ha:JA X [a,b] as es)(hg:Gl X "min":=by rfl)(he:starEach [a,b] X.env=(false,eval a X.env)::starEach [b] X.env:=by rfl)(hpl:(backTo pos (starEach [b] X.env)).any (·.1)=false:=by rfl):JE X (.Call (.Name "min" p) [a,b] [] pos) (eA (cM fJ) as) []:=⟨yn hc ml ha.h hg he hpl⟩
end
section
variable {K:PySem.W.Frag} {F:Fr0} {held:List Hd} {O O':List Nat} {σ:St} {ρ:ae} {H H':Hp}
end
section
variable {X:Cx} {F:Fr0} {O O1 O2 O' OL:List Nat} {fr:Bool} {f g:FS} {st:Stmt} {aq:List Stmt} {pos:Pos} {e:Expr} {fe:FE} {es:List Es}
theorem qU: JSs X F O [] iG O OL fr:=⟨yp ⟩
theorem bF(h1:JS X F O st f O1 OL fr)(h2:JSs X F O1 aq g O2 OL fr):JSs X F O (st::aq) (aN f g) O2 OL fr:=⟨yq h1.h h2.h⟩
theorem ba(h1:JS X F O st f O1 OL fr):JSs X F O [st] f O1 OL fr:=⟨yr h1.h⟩
theorem qV{c:Expr}{tc:ae->Option Bool}{a b:List Stmt}(hc:JT X c tc)(ha:JSs X F O a f O1 OL fr)(hb:JSs X F O b g O2 OL fr)(h1:∀ i ∈ O',i ∈ O1:=by decide)(h2:∀ i ∈ O',i ∈ O2:=by decide):JS X F O (.If c a b pos) (sIf tc f g) O' OL fr:=⟨yt hc.h ha.h hb.h h1 h2⟩
theorem bA(he:JE X e fe es):JS X F O (.Return (some e) pos) (aQ fe) O' OL false:=⟨yu he.h⟩
theorem km(he:JF X e fe es):JS X F O (.Return (some e) pos) (aQ fe) O' OL fr:=⟨yv he.h⟩
theorem As(i:Nat){x:Str}{p2:Pos}(hi:i ∈ O:=by decide)(hN:X.N[i]?=some x:=by rfl)(hv:Vis X.env.scope x:=by first | exact Or.inl rfl | exact Or.inr (Or.inl rfl) | exact Or.inr (Or.inr rfl))(hd:(x == ("__debug__" : Str))=false:=by decide)(hcd:(x == ("__classdict__" : Str))=false:=by decide):JS X F O (.Return (some (.Name x p2)) pos) (aQ (eL (aa i))) O' OL fr:=⟨yx i hi hN hv hd hcd⟩
theorem du(i:Nat){x:Str}{p2:Pos}(hN:X.N.Nodup)(he:JE X e fe es)(hi:X.N[i]?=some x:=by rfl)(hx:Loc X.env.scope x:=by first | exact Or.inl rfl | exact Or.inr rfl)(hs:swapsWith e (some (.Name x p2)) pos.line X.env=pure false:=by rfl)(hfn:X.fn x=true\/X.env.scope.names.lookup x=some .local:=by first | exact .inl rfl | exact .inr rfl):JS X F O (.Assign [.Name x p2] e pos) (bf i fe) (gO (bE O es) i) OL fr:=⟨yy i hN he.h hi hx hs hfn⟩
theorem eM(i:Nat){x:Str}{p2:Pos}(hN:X.N.Nodup)(he:JF X e fe es)(hn:i < F.n)(hi:X.N[i]?=some x:=by rfl)(hx:Loc X.env.scope x:=by first | exact Or.inl rfl | exact Or.inr rfl)(hs:swapsWith e (some (.Name x p2)) pos.line X.env=pure false:=by rfl)(hfn:X.fn x=true\/X.env.scope.names.lookup x=some .local:=by first | exact .inl rfl | exact .inr rfl):JS X F O (.Assign [.Name x p2] e pos) (bf i fe) (i::gO (bE O es) i) OL fr:=⟨yz i hN he.h hn hi hx hs hfn⟩
end
section
variable {X:Cx} {F:Fr0} {O O1 O2 O' OL:List Nat} {fr:Bool} {f g:FS} {st:Stmt} {aq:List Stmt} {pos p2 p3:Pos} {e a b:Expr} {fe fa fb:FE} {es ea eb:List Es}
theorem At(i:Nat){x:Str}{ap cp:Pos}(he:JE X e fe es)(hi:i ∈ bE O es:=by decide)(hN:X.N[i]?=some x:=by rfl)(hv:Vis X.env.scope x:=by first | exact Or.inl rfl | exact Or.inr (Or.inl rfl) | exact Or.inr (Or.inr rfl))(hd:(x == ("__debug__" : Str))=false:=by decide)(hcd:(x == ("__classdict__" : Str))=false:=by decide)(hbase:attributeBase (.Name x p2) "append" X.env (eval (.Name x p2) X.env)=eval (.Name x p2) X.env:=by rfl)(hfew:((backTo cp (starEach [e] X.env)).all (fun x=>!x.1) && (backToKw cp (keywordEach [] X.env)).all (fun x=>x.1.isSome)
      && decide (([e]:List Expr).length+([]:List Keyword).length+(if ([]:List Keyword).isEmpty then 0 else 1) < 30))=true:=by rfl)(hline:(ap.endLine == cp.line)=true:=by rfl)(hs:starEach [e] X.env=(false,eval e X.env)::starEach [] X.env:=by rfl)(hplain:(backTo cp (starEach [] X.env)).any (·.1)=false:=by rfl)(hsw:swapsWith (.Call (.Attribute (.Name x p2) "append" ap) [e] [] cp) none pos.line X.env=pure false:=by rfl):JS X F O (.Expr (.Call (.Attribute (.Name x p2) "append" ap) [e] [] cp) pos) (iI i fe) (bE O es) OL fr:=⟨yA i he.h hi hN hv hd hcd hbase hfew hline hs hplain hsw⟩
theorem Au(is:List Nat){ts:List Expr}{k:Nat}(hc:X.calm=true)(hN:X.N.Nodup)(he:JE X e fe es)(ht:Tgs X ts is)(hO:∀ i ∈ is,i ∉ O')(hO2:∀ i ∈ O',i ∈ bE O es)(hn:(assignEach ts X.env).length=is.length:=by rfl)(hst:(assignEach ts X.env).findIdx? (·.1)=none:=by rfl)(hs:swapsWithSole [.Tuple ts k p2] e pos.line X.env=pure false:=by rfl)(hw:swappedStores [.Tuple ts k p2] e X.env=pure none:=by rfl)(h1:(assignEach [.Tuple ts k p2] X.env).map (·.2)=[assign (.Tuple ts k p2) X.env]:=by rfl):JS X F O (.Assign [.Tuple ts k p2] e pos) (iJ is fe) O' OL fr:=⟨yB is hc hN he.h ht hO hO2 hn hst hs hw h1⟩
theorem Aw(t:Nat){x:Str}{iter:Expr}{body:List Stmt}{fi:FE}{ei:List Es}{tb:FS}(Ol:List Nat)(hN:X.N.Nodup)(hc:X.calm=true)(hi:JE X iter fi ei)(hb:JSs X F Ol body tb O2 Ol fr)(h1:∀ i ∈ Ol,i ∈ bE O ei:=by decide)(h2:∀ i ∈ Ol,i ∈ O2:=by decide)(h3:t ∉ Ol:=by decide)(hp:PassesOwn (model X.prog X.w) X.A X.env X.xe:=by exact PassesOwn.never)(hxN:X.N[t]?=some x:=by rfl)(hx:Loc X.env.scope x:=by first | exact Or.inl rfl | exact Or.inr rfl)(hfn:X.fn x=true\/X.env.scope.names.lookup x=some .local:=by first | exact .inl rfl | exact .inr rfl)(hs:∀ x,foldedSetIterable iter X.env x=pure x:=by intro _;rfl):JS X F O (.For (.Name x p2) iter body [] pos) (iL t fi tb) Ol OL fr:=⟨yC t Ol hN hc hi.h hb.h h1 h2 h3 hp hxN hx hfn hs⟩
theorem qW(t:Nat){x:Str}{a:Expr}{body:List Stmt}{as:FEs}{ei:List Es}{tb:FS}{pr pn:Pos}(Ol:List Nat)(hN:X.N.Nodup)(hc:X.calm=true)(mr:X.mg "range" = none)(hi:JA X [a] as ei)(hb:JSs X F Ol body tb O2 Ol fr)(h1:∀ i ∈ Ol,i ∈ O:=by decide)(h2:∀ i ∈ Ol,i ∈ O2:=by decide)(h3:t ∉ Ol:=by decide)(hp:PassesOwn (model X.prog X.w) X.A X.env X.xe:=by exact PassesOwn.never)(hg:Gl X "range":=by rfl)(hst:starEach [a] X.env=[(false,eval a X.env)]:=by rfl)(hxN:X.N[t]?=some x:=by rfl)(hx:Loc X.env.scope x:=by first | exact Or.inl rfl | exact Or.inr rfl)(hfn:X.fn x=true\/X.env.scope.names.lookup x=some .local:=by first | exact .inl rfl | exact .inr rfl)(hs:∀ x,foldedSetIterable (.Call (.Name "range" pn) [a] [] pr) X.env x=pure x:=by intro _;rfl):JS X F O (.For (.Name x p2) (.Call (.Name "range" pn) [a] [] pr) body [] pos) (gQ t as tb) Ol OL fr:=⟨yF t Ol hN hc mr hi.h hb.h h1 h2 h3 hp hg hst hxN hx hfn hs⟩
end
section
variable {X:Cx} {k:Nat} {f:Addr} {fd:FuncData} {ps:List Str} {G:List D->Option D} {fr:Bool} {x:Str} {p pos:Pos} {e:Expr} {es':List Expr} {as:FEs} {es:List Es}
end
section
variable {prog:Program} {w:World} {A:Around} {R:Result->Shared->Prop} {s:Shared}
end
section
variable {X:Cx} {pins:List (Addr × Obj)} {σ:St} {H:Hp} {s:Shared} {scope:Scope} {own cn:List Str} {caps:List Nat} {cl:List (Str × Addr)} {ex:List Addr}
end
section
variable {X:Cx} {elt tg iter:Expr} {ifs:List Expr} {scope:Scope} {own cn:List Str} {caps:List Nat} {wi:TI} {g:TG} {tt:TT} {te:TE} {pos:Pos}
end
section
variable {X:Cx} {tg iter a b:Expr} {fa fi:FE} {as:FEs} {es ea ei:List Es} {pr pn:Pos}
theorem dW(h:JB X iter fi ei):JI X tg iter (cO fi) ei:=⟨yN h.h⟩
theorem qX(mr:X.mg "range" = none)(hi:JA X [a] as ei)(hg:Gl X "range":=by rfl)(hst:starEach [a] X.env=[(false,eval a X.env)]:=by rfl):JI X tg (.Call (.Name "range" pn) [a] [] pr) (iR1 as) []:=⟨yP mr hi.h hg hst⟩
end
section
variable {X:Cx} {a b c:Expr} {es ea eb:List Es} {fa fb:FE} {pos p p2:Pos} {k:Nat}
theorem qY(hr:Room k X.A)(ha:JE X a fa ea)(hb:JE X b fb eb):JE X (.Compare a [.Eq] [b] pos) (e2 eqD fa fb) []:=⟨yS hr ha.h hb.h⟩
theorem mE(hr:Room k X.A)(ha:JE X a fa ea)(hb:JE X b fb eb):JT X (.Compare a [.Eq] [b] pos) (eT (e2 eqD fa fb)):=⟨yT hr ha.h hb.h⟩
theorem qZ(hr:Room k X.A)(ha:JE X a fa ea)(hb:JE X b fb eb):JT X (.Compare a [.NotEq] [b] pos) (eT (e2 neD fa fb)):=⟨yU hr ha.h hb.h⟩
theorem iV{T:Str}{TS:String}(hk:∀ K d,PySem.W.kitOne K (.type (tyD d)) (.type TS)=some (eB TS (tyD d)))(hT:bootBuiltins T=some (.type TS))(mi:X.mg "isinstance" = none)(mt:X.mg T=none)(ha:JE X a fa ea)(hg:Gl X "isinstance":=by rfl)(hgT:Gl X T:=by rfl)(hn:T ≠ "__name__":=by decide)(hd:(T == ("__debug__" : Str))=false:=by decide)(hs:starEach [a,.Name T p2] X.env=(false,eval a X.env)::starEach [.Name T p2] X.env:=by rfl)(hs2:starEach [.Name T p2] X.env=(false,eval (.Name T p2) X.env)::starEach [] X.env:=by rfl)(hpl:(backTo pos (starEach [.Name T p2] X.env)).any (·.1)=false:=by rfl):JE X (.Call (.Name "isinstance" p) [a,.Name T p2] [] pos) (e1 (d9 TS) fa) []:=⟨yW hk hT mi mt ha.h hg hgT hn hd hs hs2 hpl⟩
theorem mF{as:FEs}(hc:X.calm=true)(ml:X.mg "all" = none)(ha:JA X [a] as es)(hg:Gl X "all":=by rfl)(he:starEach [a] X.env=(false,eval a X.env)::starEach [] X.env:=by rfl)(hpl:(backTo pos (starEach [] X.env)).any (·.1)=false:=by rfl):JE X (.Call (.Name "all" p) [a] [] pos) (eA (aL (eD fun bs=>bs.all id)) as) []:=⟨zb hc ml ha.h hg he hpl⟩
end
section
variable {X:Cx} {elt tg iter:Expr} {ifs:List Expr} {scope:Scope} {own cn:List Str} {caps is:List Nat} {g:TG} {un:D->Option (List D)} {fi:FEs} {ei ee:List Es} {c:ae->Option Bool} {fe:FE} {pos spos p2:Pos}
theorem cF(B:BlkOk X scope own caps cn)(hc:X.calm=true)(hi:JI X tg iter fi ei)(hg:∀ s H cl ex,PG (blk X (own++cn) s H scope cl ex) tg g)(hgv:TgV X.K g is un)(his:∀ i ∈ is,i < own.length)(ht:∀ s H cl ex,PTs (blk X (own++cn) s H scope cl ex) ifs (tvT X.K c))(he:∀ s H cl ex,JE (blk X (own++cn) s H scope cl ex) elt fe ee)(hs:∀ x,foldedSetIterable iter X.env x=pure x:=by intro _;rfl):JF X (.ListComp elt [⟨tg,iter,ifs,0⟩] scope pos) (br own.length caps is un fi c fe) (esC own.length caps ei ee):=⟨zd B hc hi.h hg hgv his ht (fun s H cl ex=>(he s H cl ex).h) hs⟩
end
section
variable {P:Program} {w:World} {K:PySem.W.Frag} {mg:Str->Option Value} {base:Heap} {x:Str} {j k:Nat} {ps:List Str} {G:List D->Option D} {fr:Bool}
end
section
variable {X:Cx} {k:Nat} {ps:List Str} {G:List D->Option D} {fr:Bool} {x:Str} {p pos:Pos} {e:Expr} {es':List Expr} {as:FEs} {es:List Es}
theorem Ax(d:Def X.prog X.w X.K X.mg X.base x k ps G fr)(hr:Room k X.A)(ha:JA X (e::es') as es)(hg:Gl X x:=by rfl)(hdb:(x == ("__debug__" : Str))=false:=by decide)(he:starEach (e::es') X.env=(false,eval e X.env)::starEach es' X.env:=by rfl)(hpl:(backTo pos (starEach es' X.env)).any (·.1)=false:=by rfl):JE X (.Call (.Name x p) (e::es') [] pos) (eA G as) es:=⟨qH d hr ha.h hg hdb he hpl⟩
theorem eN(d:Def X.prog X.w X.K X.mg X.base x k ps G true)(hr:Room k X.A)(ha:JA X (e::es') as es)(hg:Gl X x:=by rfl)(hdb:(x == ("__debug__" : Str))=false:=by decide)(he:starEach (e::es') X.env=(false,eval e X.env)::starEach es' X.env:=by rfl)(hpl:(backTo pos (starEach es' X.env)).any (·.1)=false:=by rfl):JF X (.Call (.Name x p) (e::es') [] pos) (eA G as) es:=⟨zf d hr ha.h hg hdb he hpl⟩
theorem bo(d:Def X.prog X.w X.K X.mg X.base x k ps (scF G) fr)(hr:Room k X.A)(ha:JA X (e::es') as es)(hg:Gl X x:=by rfl)(hdb:(x == ("__debug__" : Str))=false:=by decide)(he:starEach (e::es') X.env=(false,eval e X.env)::starEach es' X.env:=by rfl)(hpl:(backTo pos (starEach es' X.env)).any (·.1)=false:=by rfl):JE X (.Call (.Name x p) (e::es') [] pos) (eA (scF G) as) []:=⟨zg d hr ha.h hg hdb he hpl⟩
end
section
variable {X:Cx} {a b:Expr} {fa fb:FE} {ea eb:List Es} {pos p2:Pos}
theorem Ay{j}(ha:JE X a fa ea):JT X (.Compare a [.Is] [.Constant .none j p2] pos) (eT (e1 cQ fa)):=⟨zj ha.h⟩
theorem Az{j}(ha:JE X a fa ea):JE X (.Compare a [.IsNot] [.Constant .none j p2] pos) (e1 dq fa) []:=⟨zk ha.h⟩
theorem AB{j}(ha:JE X a fa ea):JT X (.Compare a [.IsNot] [.Constant .none j p2] pos) (eT (e1 dq fa)):=⟨zl ha.h⟩
end
section
variable {X:Cx} {tg a b:Expr} {elts:List Expr} {ek:Nat} {ep pn pr:Pos} {ta:TA}
end
section
variable {X:Cx} {tg a b:Expr} {elts:List Expr} {ek:Nat} {ep pn pr:Pos} {fa fb:FE} {ea eb:List Es}
theorem AC(mr:X.mg "enumerate" = none)(h:JB X a fa ea)(hg:Gl X "enumerate":=by rfl)(hst:starEach [a] X.env=[(false,eval a X.env)]:=by rfl):JI X (.Tuple elts ek ep) (.Call (.Name "enumerate" pn) [a] [] pr) (iO fa) ea:=⟨zA mr h.h hg hst⟩
theorem r8(mr:X.mg "zip" = none)(ha:JB X a fa ea)(hb:JB X b fb eb)(hg:Gl X "zip":=by rfl)(hst:starEach [a,b] X.env=[(false,eval a X.env),(false,eval b X.env)]:=by rfl)(hst2:starEach [b] X.env=[(false,eval b X.env)]:=by rfl):JI X (.Tuple elts ek ep) (.Call (.Name "zip" pn) [a,b] [] pr) (gS fa fb) (ea++eb):=⟨zB mr ha.h hb.h hg hst hst2⟩
end
section
variable {X:Cx} {F:Fr0} {O O2 OL:List Nat} {fr:Bool} {a b:Expr} {body:List Stmt} {fa fb:FE} {ea eb:List Es} {tb:FS} {p2 pos pn pr:Pos}
theorem AD(t:Nat){x:Str}(Ol:List Nat)(hN:X.N.Nodup)(hc:X.calm=true)(mr:X.mg "reversed" = none)(hi:JE X a fa ea)(hb:JSs X F Ol body tb O2 Ol fr)(h1:∀ i ∈ Ol,i ∈ bE O ea:=by decide)(h2:∀ i ∈ Ol,i ∈ O2:=by decide)(h3:t ∉ Ol:=by decide)(hp:PassesOwn (model X.prog X.w) X.A X.env X.xe:=by exact PassesOwn.never)(hg:Gl X "reversed":=by rfl)(hst:starEach [a] X.env=[(false,eval a X.env)]:=by rfl)(hxN:X.N[t]?=some x:=by rfl)(hx:Loc X.env.scope x:=by first | exact Or.inl rfl | exact Or.inr rfl)(hfn:X.fn x=true\/X.env.scope.names.lookup x=some .local:=by first | exact .inl rfl | exact .inr rfl)(hs:∀ x,foldedSetIterable (.Call (.Name "reversed" pn) [a] [] pr) X.env x=pure x:=by intro _;rfl):JS X F O (.For (.Name x p2) (.Call (.Name "reversed" pn) [a] [] pr) body [] pos) (iN t fa tb) Ol OL fr:=⟨zD t Ol hN hc mr hi.h hb.h h1 h2 h3 hp hg hst hxN hx hfn hs⟩
end
section
variable {prog:Program} {w:World} {A:Around} {s:Shared} {R:Result->Shared->Prop}
variable {I:Addr} {fp wr:List Addr} {G:Array GenState->Array GenState->Prop} {n:Nat} {P:Nat->Value->Prop} {St:Nat->Shared->Prop}
end
section
variable {prog:Program} {w:World} {A:Around} {E:Value->Shared->Prop} {s:Shared}
end
section
variable {X:Cx} {a b e ix:Expr} {fa fb fe fx:FE} {ea eb es ei:List Es} {pos pos2 p p2:Pos} {ta:TA}
theorem AE(ml:X.mg "list" = none)(mr:X.mg "reversed" = none)(ha:JB X a fa ea)(hc:X.calm=true:=by rfl)(hgl:Gl X "list":=by rfl)(hgr:Gl X "reversed":=by rfl)(hs:starEach [a] X.env=[(false,eval a X.env)]:=by rfl)(hs2:starEach [.Call (.Name "reversed" p2) [a] [] pos2] X.env=[(false,eval (.Call (.Name "reversed" p2) [a] [] pos2) X.env)]:=by rfl):JF X (.Call (.Name "list" p) [.Call (.Name "reversed" p2) [a] [] pos2] [] pos) (e1 kg fa) ea:=⟨zK ml mr ha.h hc hgl hgr hs hs2⟩
end
section
variable {X:Cx} {F:Fr0} {O OL:List Nat} {fr:Bool} {e ix:Expr} {fe fx:FE} {es ei:List Es} {pos p2:Pos}
end
section
variable {X:Cx} {a b e:Expr} {te:TE} {fa fb:FE} {ea eb:List Es} {pos p p2:Pos} {lo hi:Option Expr} {ke:Expr} {tl th tk:TO} {flo fhi fst:FO}
end
section
variable {X:Cx} {tg:Expr}
end
section
variable {X:Cx} {F:Fr0} {O O2 OL:List Nat} {fr:Bool} {a b c:Expr} {body:List Stmt} {as:FEs} {ei:List Es} {tb:FS} {p2 pos pn pr:Pos}
end
section
variable {X:Cx} {a b:Expr} {fa fb:FE} {ea eb es:List Es} {as:FEs} {pos p kp cp:Pos}
end
section
variable {X:Cx} {a b c:Expr} {as:FEs} {es:List Es} {pos p:Pos}
end
section
variable {X:Cx}
end
section
variable {X:Cx} {F:Fr0} {O OL:List Nat} {fr:Bool} {e:Expr} {fe:FE} {es:List Es} {pos p2:Pos}
end
section
variable {X:Cx} {F:Fr0} {i:Nat} {al al1 al2:Option Nat} {fr:Bool} {f g:FS} {st:Stmt} {aq:List Stmt} {pos p2 p3 p4:Pos} {e b1 b2:Expr} {fe f1 f2:FE} {es e1 e2:List Es}
end
section
variable {X:Cx} {elt tg iter:Expr} {ifs:List Expr} {scope:Scope} {own cn:List Str} {caps is:List Nat} {g:TG} {un:D->Option (List D)} {fi:FEs} {ei ee:List Es} {c:ae->Option Bool} {fe:FE} {pos spos p2:Pos}
end
section
variable {prog:Program} {w:World} {A:Around} {E:Value->Shared->Prop} {s:Shared}
end
section
variable {X:Cx} {tg a:Expr} {ta:TA} {p p2 pos pos2:Pos}
end
section
variable {X:Cx} {F:Fr0} {O O2 OL:List Nat} {fr:Bool} {a:Expr} {body:List Stmt} {as:FEs} {ei:List Es} {tb:FS} {p2 pos pn pr pm pq:Pos}
end
section
variable {X:Cx} {a b c:Expr} {fa fb fc:FE} {ea eb ec:List Es} {pos:Pos}
end
section
variable {K:PySem.W.Frag} {F:Fr0} {held:List Hd} {i r:Nat} {al:Option Nat} {a:Addr} {bs:List Addr} {dss:List (List D)} {σ:St} {ρ:ae} {H H':Hp}
end
section
variable {X:Cx} {F:Fr0} {i r:Nat} {al al1 al2:Option Nat} {fr:Bool} {f g:FS} {st:Stmt} {aq:List Stmt} {pos p2 p3 p4:Pos} {e b1 b2:Expr} {fe f1 f2:FE} {es e1 e2:List Es}
end
section
variable {K:PySem.W.Frag} {F:Fr0} {held:List Hd} {i:Nat} {a:Addr} {bs:List Addr} {dss:List (List D)} {σ:St} {ρ:ae} {H H':Hp}
end
section
variable {X:Cx} {F:Fr0} {O O1 O2 O' OL:List Nat} {i:Nat} {fr:Bool} {f g:FS} {st:Stmt} {aq:List Stmt} {pos p2 p3 p4:Pos} {e:Expr} {fe:FE} {es:List Es}
theorem AF(h1:JX X F i st f)(h2:JXs X F i aq g):JXs X F i (st::aq) (aN f g):=⟨A4 h1.h h2.h⟩
theorem ra(h1:JX X F i st f):JXs X F i [st] f:=⟨A5 h1.h⟩
theorem AG{x:Str}{ap cp:Pos}(he:JF X e fe es)(hN:X.N[i]?=some x:=by rfl)(hv:Vis X.env.scope x:=by first | exact Or.inl rfl | exact Or.inr (Or.inl rfl) | exact Or.inr (Or.inr rfl))(hd:(x == ("__debug__" : Str))=false:=by decide)(hcd:(x == ("__classdict__" : Str))=false:=by decide)(hbase:attributeBase (.Name x p2) "append" X.env (eval (.Name x p2) X.env)=eval (.Name x p2) X.env:=by rfl)(hfew:((backTo cp (starEach [e] X.env)).all (fun x=>!x.1) && (backToKw cp (keywordEach [] X.env)).all (fun x=>x.1.isSome)
      && decide (([e]:List Expr).length+([]:List Keyword).length+(if ([]:List Keyword).isEmpty then 0 else 1) < 30))=true:=by rfl)(hline:(ap.endLine == cp.line)=true:=by rfl)(hs:starEach [e] X.env=(false,eval e X.env)::starEach [] X.env:=by rfl)(hplain:(backTo cp (starEach [] X.env)).any (·.1)=false:=by rfl)(hsw:swapsWith (.Call (.Attribute (.Name x p2) "append" ap) [e] [] cp) none pos.line X.env=pure false:=by rfl):JX X F i (.Expr (.Call (.Attribute (.Name x p2) "append" ap) [e] [] cp) pos) (iS i fe):=⟨A6 he.h hN hv hd hcd hbase hfew hline hs hplain hsw⟩
theorem AH(t:Nat){x:Str}{a b c:Expr}{body:List Stmt}{as:FEs}{ei:List Es}{tb:FS}{pr pn:Pos}(hN:X.N.Nodup)(hc:X.calm=true)(mr:X.mg "range" = none)(hi:JA X [a,b,c] as ei)(hb:JXs X F i body tb)(h3:t ≠ i:=by decide)(hp:PassesOwn (model X.prog X.w) X.A X.env X.xe:=by exact PassesOwn.never)(hg:Gl X "range":=by rfl)(hst:starEach [a,b,c] X.env=(false,eval a X.env)::starEach [b,c] X.env:=by rfl)(hpl:(backTo pr (starEach [b,c] X.env)).any (·.1)=false:=by rfl)(hxN:X.N[t]?=some x:=by rfl)(hx:Loc X.env.scope x:=by first | exact Or.inl rfl | exact Or.inr rfl)(hfn:X.fn x=true\/X.env.scope.names.lookup x=some .local:=by first | exact .inl rfl | exact .inr rfl)(hs:∀ x,foldedSetIterable (.Call (.Name "range" pn) [a,b,c] [] pr) X.env x=pure x:=by intro _;rfl):JX X F i (.For (.Name x p2) (.Call (.Name "range" pn) [a,b,c] [] pr) body [] pos) (iQ t as tb):=⟨A7 t hN hc mr hi.h hb.h h3 hp hg hst hpl hxN hx hfn hs⟩
theorem AI{x:Str}{pl pr pos2 pos3:Pos}(hc:X.calm=true)(ml:X.mg "list" = none)(mr:X.mg "reversed" = none)(hN:X.N[i]?=some x:=by rfl)(hv:Vis X.env.scope x:=by first | exact Or.inl rfl | exact Or.inr (Or.inl rfl) | exact Or.inr (Or.inr rfl))(hd:(x == ("__debug__" : Str))=false:=by decide)(hcd:(x == ("__classdict__" : Str))=false:=by decide)(hgl:Gl X "list":=by rfl)(hgr:Gl X "reversed":=by rfl)(hs1:starEach [.Name x p2] X.env=(false,eval (.Name x p2) X.env)::starEach [] X.env:=by rfl)(hs:starEach [.Name x p2] X.env=[(false,eval (.Name x p2) X.env)]:=by rfl)(hs2:starEach [.Call (.Name "reversed" pr) [.Name x p2] [] pos2] X.env=[(false,eval (.Call (.Name "reversed" pr) [.Name x p2] [] pos2) X.env)]:=by rfl):JX X F i (.Return (some (.Call (.Name "list" pl) [.Call (.Name "reversed" pr) [.Name x p2] [] pos2] [] pos3)) pos) (gU i):=⟨A8 hc ml mr hN hv hd hcd hgl hgr hs1 hs hs2⟩
theorem AJ(h1:JS X F O st f O1 OL fr)(hn:mw f)(h2:JRs X F O1 aq g O2):JRs X F O (st::aq) (aN f g) O2:=⟨Aa h1.h hn h2.h⟩
theorem AK(i:Nat){x:Str}{lp:Pos}(hN:X.N.Nodup)(he:JF X e fe es)(hn:i < F.n)(hrest:JXs X F i aq g)(hret:iR g)(hi:X.N[i]?=some x:=by rfl)(hx:Loc X.env.scope x:=by first | exact Or.inl rfl | exact Or.inr rfl)(hs:swapsWith (.List [e] lp) (some (.Name x p2)) pos.line X.env=pure false:=by rfl)(hfn:X.fn x=true\/X.env.scope.names.lookup x=some .local:=by first | exact .inl rfl | exact .inr rfl)(hs1:starEach [e] X.env=(false,eval e X.env)::starEach [] X.env:=by rfl):JRs X F O (.Assign [.Name x p2] (.List [e] lp) pos::aq) (aN (bf i (ci (ag fe ar))) g) O':=⟨Ab i hN he.h hn hrest.h hret hi hx hs hfn hs1⟩
end
section
variable {P:Program} {w:World} {K:PySem.W.Frag} {mg:Str->Option Value} {base:Heap} {x:Str} {j k:Nat} {ps:List Str} {G:List D->Option D}
end
section
variable {X:Cx} {k:Nat} {ps:List Str} {G:List D->Option D} {F:Fr0} {O O' OL:List Nat} {fr:Bool} {x y:Str} {p p2 pos spos:Pos} {e:Expr} {es':List Expr} {as:FEs} {es:List Es} {aq:List Stmt} {fs:FS} {al':Option Nat}
end
section
variable {X:Cx} {elt tg iter:Expr} {ifs:List Expr} {scope:Scope} {own cn:List Str} {caps is:List Nat} {g:TG} {un:D->Option (List D)} {fi:FEs} {ei ee:List Es} {c:ae->Option Bool} {fe:FE} {pos spos p2:Pos} {F:Fr0} {i:Nat} {fr:Bool}
end
section
variable {X:Cx} {elt tg iter:Expr} {ifs:List Expr} {scope:Scope} {own cn:List Str} {n:Nat} {caps is:List Nat} {g:TG} {un:D->Option (List D)} {fi:FEs} {ei:List Es} {c:ae->Option Bool} {fe:FE} {pos:Pos}
end
section
variable {X:Cx} {F:Fr0} {n:Nat} {O O1 O2 O' OL:List Nat} {fr:Bool} {f g:FS} {st:Stmt} {aq:List Stmt} {pos:Pos} {e:Expr} {fe:FE}
end
section
variable {P:Program} {w:World} {K:PySem.W.Frag} {mg:Str->Option Value} {base:Heap} {x:Str} {j k n:Nat} {ps:List Str} {G:List D->Option D}
end
section
variable {X:Cx} {k n:Nat} {ps:List Str} {G:List D->Option D} {x:Str} {p pos:Pos} {e:Expr} {es':List Expr} {as:FEs} {es:List Es}
end
section
variable {K:PySem.W.Frag} {F:Fr0} {held:List Hd} {i n:Nat} {S:List Addr} {v0:V} {d0:D} {σ:St} {ρ:ae} {H H':Hp}
end
section
variable {X:Cx} {F:Fr0} {i n:Nat} {fr:Bool} {f g:FS} {st:Stmt} {aq:List Stmt} {pos p2 p3 p4:Pos} {e:Expr} {fe:FE} {es:List Es}
end
section
variable {X:Cx} {r:Nat} {y:Str} {e:Expr} {d:D} {es:List Es} {pos p2 ap cp:Pos}
end
section
variable {X:Cx} {r1 r2:Nat} {y1 y2:Str} {d:D} {body:List Stmt} {pos p1 p2:Pos}
end
section
variable {X:Cx} {F:Fr0} {i r1 r2:Nat} {x y1 y2:Str} {d:D} {e:Expr} {fe:FE} {es:List Es} {fr:Bool} {aq:List Stmt} {g:FS} {O' OL:List Nat} {pos px py1 py1' py2 pm pl pe2 ap cp:Pos}
end
section
variable {X:Cx} {k n:Nat} {ps:List Str} {G:List D->Option D} {F:Fr0} {O O' OL:List Nat} {fr:Bool} {x y:Str} {p p2 pos spos:Pos} {e:Expr} {es':List Expr} {as:FEs} {es:List Es} {aq:List Stmt} {fs:FS}
end
section
variable {X:Cx} {F:Fr0} {O O':List Nat} {elt tg iter e:Expr} {ifs:List Expr} {scope:Scope} {own cn:List Str} {n k:Nat} {caps is:List Nat} {g:TG} {un:D->Option (List D)} {fi:FEs} {ei es:List Es} {c:ae->Option Bool} {fe:FE} {pos p:Pos} {ps:List Str} {G:List D->Option D} {x:Str} {es':List Expr} {as:FEs}
end
section
variable {X:Cx} {a b c:Expr} {es ea eb ec:List Es} {fa fb fc:FE} {pos p2:Pos} {k:Nat}
end
section
variable {K:PySem.W.Frag} {F:Fr0} {held:List Hd} {O O':List Nat} {σ:St} {ρ:ae} {H H':Hp}
end
section
variable {X:Cx} {F:Fr0} {O O1 O2 O' OL:List Nat} {fr:Bool} {f g:FS} {st:Stmt} {pos p2 p3:Pos} {e b:Expr} {fe fb:FE} {es eb:List Es} {k:Nat}
end
section
variable {X:Cx} {a:Expr} {as:FEs} {es:List Es} {pos pos2 p p2:Pos} {ta:TA}
theorem AL(ml:X.mg "list" = none)(mr:X.mg "range" = none)(ha:JA X [a] as es)(hc:X.calm=true:=by rfl)(hgl:Gl X "list":=by rfl)(hgr:Gl X "range":=by rfl)(hs:starEach [a] X.env=[(false,eval a X.env)]:=by rfl)(hs2:starEach [.Call (.Name "range" p2) [a] [] pos2] X.env=[(false,eval (.Call (.Name "range" p2) [a] [] pos2) X.env)]:=by rfl):JF X (.Call (.Name "list" p) [.Call (.Name "range" p2) [a] [] pos2] [] pos) (eA iT as) []:=⟨Ai ml mr ha.h hc hgl hgr hs hs2⟩
end
theorem AM{X:Cx}{e:Expr}{f:ae->Option Bool}(h:JT X e f):PTs X [e] (tvT X.K f):=zc h.h
section
variable {P:Program} {w:World} {K:PySem.W.Frag} {mg:Str->Option Value} {base:Heap} {x:Str} {j k:Nat} {ps:List Str} {G:List D->Option D} {fr:Bool}
theorem bt{np n:Nat}{qual:Str}{st:Stmt}{f:Addr}{fd:FuncData}{N:List Str}{body:FS}(O' OL:List Nat)(h1:ps.length=np)(h2:N.length=n)(h3:G=mkF fr np n body)(Fn:Fun K x qual st f fd)(S:FnScope N ps (ai st))(h:∀ (cdv:Value) (A:Around) (outer:List PySem.Env) (s:Shared) (H:Hp) (E:XK) (F:Fr0),F.n=n->Room k (A.deeper (envOfC qual (ai st) s.heap.objs.size f cdv)) ->
      JSs (cK CX0 P w K mg base N qual (ai st) f cdv A outer s H E).nox F [] (aD st) body O' OL fr):
    FnOk P w K mg base CX0 (k+1) f fd ps (spF K G fr):=ze O' OL h1 h2 h3 Fn S fun cdv A outer s H E F hn hr=>(h cdv A outer s H E F hn hr).h
theorem AN{np n:Nat}{qual:Str}{st:Stmt}{f:Addr}{fd:FuncData}{N:List Str}{body:FS}(O':List Nat)(h1:ps.length=np)(h2:N.length=n)(h3:G=mkF true np n body)(Fn:Fun K x qual st f fd)(S:FnScope N ps (ai st))(h:∀ (cdv:Value) (A:Around) (outer:List PySem.Env) (s:Shared) (H:Hp) (E:XK) (F:Fr0),F.n=n->Room k (A.deeper (envOfC qual (ai st) s.heap.objs.size f cdv)) ->
      JRs (cK CX0 P w K mg base N qual (ai st) f cdv A outer s H E).nox F [] (aD st) body O'):
    FnOk P w K mg base CX0 (k+1) f fd ps (spX K G):=Ad O' h1 h2 h3 Fn S fun cdv A outer s H E F hn hr=>(h cdv A outer s H E F hn hr).h
end
end VL
namespace VL
open PySem (Str)
open L2 (atI ixN)
theorem kn{d:D}{ds:List D}(h:bM d=some ds):cr d=false/\items d=some ds:=by
  unfold bM at h
  cases e:cr d <;> rw[e] at h
  · exact⟨rfl,by simpa using h⟩
  · cases h
def WE(e:FE)(ρ:ae)(K:D->Prop):Prop:=∃ d,e ρ=some d/\K d
def WB(e:ae->Option Bool)(ρ:ae)(K:Bool->Prop):Prop:=∃ d,e ρ=some d/\K d
def WA(e:FEs)(ρ:ae)(K:List D->Prop):Prop:=∃ d,e ρ=some d/\K d
def WO(e:FO)(ρ:ae)(K:Option Int->Prop):Prop:=∃ d,e ρ=some d/\K d
def WS(e:FS)(ρ:ae)(K:Out->Prop):Prop:=∃ d,e ρ=some d/\K d
def W2(g:D->D->Option D)(x y:D)(K:D->Prop):Prop:=∃ d,g x y=some d/\K d
def W1(g:D->Option D)(x:D)(K:D->Prop):Prop:=∃ d,g x=some d/\K d
def WF(F:List D->Option D)(ds:List D)(K:D->Prop):Prop:=∃ d,F ds=some d/\K d
def kT(K:Bool->Prop):D->Prop
  | .bl b=>K b
  | _=>False
def mG(g:FS)(Q:Out->Prop):Out->Prop
  | .nx ρ=>WS g ρ Q
  | o=>Q o
def rb(K:D->Prop):Out->Prop
  | .rt d=>K d
  | _=>False
def kIf(b:Bool)(A B:Prop):Prop:=(b=true->A)/\(b=false->B)
section
variable {ρ:ae} {K:D->Prop} {KB:Bool->Prop} {KL:List D->Prop} {KO:Option Int->Prop} {Q:Out->Prop} {a b c:FE} {f g:FS} {t t':ae->Option Bool}
theorem AO{Q':Out->Prop}(h:WS f ρ Q)(i:∀ d,Q d->Q' d):WS f ρ Q':=let ⟨d,e,k⟩:=h;⟨d,e,i d k⟩
theorem iW{F:List D->Option D}{ds:List D}{K':D->Prop}(h:WF F ds K)(i:∀ d,K d->K' d):WF F ds K':=let ⟨d,e,k⟩:=h;⟨d,e,i d k⟩
theorem bb{F:List D->Option D}{ds:List D}{d:D}(h:F ds=some d)(k:K d):WF F ds K:=⟨d,h,k⟩
theorem bN{F:List D->Option D}{ds:List D}{d:D}(h:WF F ds (fun x=>x=d)):F ds=some d:=by obtain⟨_,e,rfl⟩:=h;exact e
theorem AQ{i:Nat}{d:D}(h:aa i ρ=some d)(k:K d):WE (aa i) ρ K:=⟨d,h,k⟩
theorem AR{d:D}(k:K d):WE (eC d) ρ K:=⟨d,rfl,k⟩
theorem AT{g:D->D->Option D}(h:WE a ρ fun x=>WE b ρ fun y=>W2 g x y K):WE (e2 g a b) ρ K:=by
  obtain⟨x,e1,y,e2,d,e3,k⟩:=h
  exact⟨d,by simp only[VL.e2,e1,e2,Option.bind_some,e3],k⟩
theorem AU{g:D->Option D}(h:WE a ρ fun x=>W1 g x K):WE (e1 g a) ρ K:=by
  obtain⟨x,e1,d,e3,k⟩:=h
  exact⟨d,by simp only[VL.e1,e1,Option.bind_some,e3],k⟩
theorem dX{C:Int->Int->Prop}[∀ i j,Decidable (C i j)]{k:Int->Int->D}{i j:Int}(hc:C i j)(h:K (k i j)):W2 (gI C k) (.int i) (.int j) K:=⟨_,by simp only[gI,if_pos hc],h⟩
theorem AV{i j:Int}(h:K (.int (i+j))):W2 b8 (.int i) (.int j) K:=dX trivial h
theorem AW{i j:Int}(h:K (.int (i - j))):W2 bZ (.int i) (.int j) K:=dX trivial h
theorem AX{i j:Int}(hc:okMul i j)(h:K (.int (i * j))):W2 ce (.int i) (.int j) K:=dX hc h
theorem AY{i j:Int}(hc:iu i j)(h:K (.int (i / j))):W2 gH (.int i) (.int j) K:=dX hc h
theorem AZ{i j:Int}(hc:jQ i j)(h:K (.int (i % j))):W2 dP (.int i) (.int j) K:=dX hc h
theorem B0{i j:Int}(hc:iw i j)(h:∀ v,v=i ^ j.toNat->K (.int v)):W2 gJ (.int i) (.int j) K:=dX hc (h _ rfl)
theorem B1{i j:Int}(h:K (.bl (decide (i<=j)))):W2 leI (.int i) (.int j) K:=dX trivial h
theorem B2{i j:Int}(h:K (.bl (decide (j < i)))):W2 gtI (.int i) (.int j) K:=dX trivial h
theorem B3{i j:Int}(h:K (.bl (decide (j<=i)))):W2 geI (.int i) (.int j) K:=dX trivial h
theorem B4{i:Int}(h:K (.int (-i))):W1 cW (.int i) K:=⟨_,rfl,h⟩
theorem B5{i j:Int}(h:K (.bl (decide (i=j)))):W2 eqD (.int i) (.int j) K:=⟨_,rfl,h⟩
theorem B6{i j:Int}(h:K (.bl (!decide (i=j)))):W2 neD (.int i) (.int j) K:=⟨_,rfl,h⟩
theorem B7{i j:Bool}(h:K (.bl (!decide (i=j)))):W2 neD (.bl i) (.bl j) K:=⟨_,rfl,h⟩
theorem dY{x d:D}{i:Int}(e:ixD x (.int i)=some d)(h:K d):W2 ixD x (.int i) K:=⟨_,e,h⟩
theorem B8(h:WE a ρ (kT KB)):WB (eT a) ρ KB:=by
  obtain⟨d,e,k⟩:=h
  cases d <;> first | exact k.elim | exact⟨_,by simp only[eT,e,Option.bind_some],k⟩
theorem B9(h:WE a ρ (kT KB)):WB (dQ a) ρ KB:=by
  obtain⟨d,e,k⟩:=h
  cases d <;> first | exact k.elim | exact⟨_,by simp only[dQ,e,Option.bind_some,tru],k⟩
theorem Ba{b:Bool}(h:KB b):kT KB (.bl b):=h
theorem rf(h:WS g ρ Q):mG g Q (.nx ρ):=h
theorem Bb{d:D}(h:Q (.rt d)):mG g Q (.rt d):=h
theorem rg{d:D}(h:K d):rb K (.rt d):=h
theorem Bc(h:WB t ρ fun b=>kIf b (KB true) (WB t' ρ KB)):WB (bOr t t') ρ KB:=by
  obtain⟨b,e,k1,k2⟩:=h
  cases b with
  | true=>exact⟨true,by simp only[bOr,e,Option.bind_some,if_pos],k1 rfl⟩
  | false=>obtain⟨b',e',k'⟩:=k2 rfl;exact⟨b',by simp[bOr,e,e'],k'⟩
theorem Bd(h:WB t ρ fun b=>KB (!b)):WB (er t) ρ KB:=by
  obtain⟨b,e,k⟩:=h
  exact⟨!b,by simp only[er,e,Option.map_some],k⟩
theorem Be(h:WE a ρ (kT fun x=>kIf x (WE b ρ K) (K (.bl false)))):WE (cg a b) ρ K:=by
  obtain⟨d,e,k⟩:=h
  cases d with
  | bl x =>
    cases x with
    | true=>obtain⟨y,e',k'⟩:=k.1 rfl;exact⟨y,by simp only[cg,e,Option.bind_some,e'],k'⟩
    | false=>exact⟨.bl false,by simp only[cg,e,Option.bind_some],k.2 rfl⟩
  | _=>exact k.elim
theorem Bf(h:WE a ρ (kT fun x=>K (.bl (!x)))):WE (gM a) ρ K:=by
  obtain⟨d,e,k⟩:=h
  cases d <;> first | exact k.elim | exact⟨_,by simp only[gM,e,Option.bind_some],k⟩
theorem cu{P:Prop}[Decidable P]{A B:Prop}(h1:P->A)(h2:¬ P->B):kIf (decide P) A B:=⟨fun e=>h1 (of_decide_eq_true e),fun e=>h2 (of_decide_eq_false e)⟩
theorem ko{P:Prop}[Decidable P]{A B:Prop}(h1:¬ P->A)(h2:P->B):kIf (!decide P) A B:=⟨fun e=>h1 (by simpa using e),fun e=>h2 (by simpa using e)⟩
theorem rh{A B:Prop}(h:A):kIf true A B:=⟨fun _=>h,fun e=>nomatch e⟩
theorem rj{A B:Prop}(h:B):kIf false A B:=⟨fun e=>(nomatch e),fun _=>h⟩
theorem Bg{A B:Prop}(h:A):kIf (!false) A B:=rh h
theorem Bh{A B:Prop}(h:B):kIf (!true) A B:=rj h
theorem Bi(h:KL []):WA ar ρ KL:=⟨[],rfl,h⟩
theorem Bj{r:FEs}(h:WE a ρ fun d=>WA r ρ fun ds=>KL (d::ds)):WA (ag a r) ρ KL:=by
  obtain⟨d,e,ds,e',k⟩:=h
  exact⟨_,by simp only[ag,e,e',Option.bind_some],k⟩
theorem Bk{r:FEs}(h:WA r ρ fun ds=>ds.length<=1000/\K (.lst ds)):WE (ci r) ρ K:=by
  obtain⟨ds,e,l,k⟩:=h
  exact⟨_,by simp only[ci,e,Option.bind_some,if_pos l],k⟩
theorem Bl{r:FEs}(h:WA r ρ fun ds=>ds.length<=1000/\K (.tup ds)):WE (iB r) ρ K:=by
  obtain⟨ds,e,l,k⟩:=h
  exact⟨_,by simp only[iB,e,Option.bind_some,if_pos l],k⟩
theorem Bm{F:List D->Option D}{r:FEs}(h:WA r ρ fun ds=>WF F ds K):WE (eA F r) ρ K:=by
  obtain⟨ds,e,d,e',k⟩:=h
  exact⟨d,by simp only[eA,e,Option.bind_some,e'],k⟩
theorem Bn{g g':D->D->Option D}(h:WE a ρ fun x=>WE b ρ fun y=>W2 g x y (kT fun z=>kIf z (WE c ρ fun w=>W2 g' y w K) (K (.bl false)))):WE (e3c g g' a b c) ρ K:=by
  obtain⟨x,e1,y,e2,d,e3,k⟩:=h
  cases d with
  | bl z =>
    cases z with
    | true=>obtain⟨w,e4,d,e5,k⟩:=k.1 rfl;exact⟨d,by simp only[e3c,e1,e2,e3,e4,e5,Option.bind_some],k⟩
    | false=>exact⟨.bl false,by simp only[e3c,e1,e2,e3,Option.bind_some],k.2 rfl⟩
  | _=>exact k.elim
theorem Bo(h:Q (.nx ρ)):WS iG ρ Q:=⟨_,rfl,h⟩
theorem Bp(h:WS f ρ (mG g Q)):WS (aN f g) ρ Q:=by
  obtain⟨o,e,k⟩:=h
  cases o with
  | nx ρ'=>obtain⟨o',e',k'⟩:=k;exact⟨o',by simp only[aN,e,Option.bind_some,e'],k'⟩
  | rt d=>exact⟨_,by simp only[aN,e,Option.bind_some],k⟩
  | bk d=>exact⟨_,by simp only[aN,e,Option.bind_some],k⟩
  | ct d=>exact⟨_,by simp only[aN,e,Option.bind_some],k⟩
theorem Bq(h:WB t ρ fun x=>kIf x (WS f ρ Q) (WS g ρ Q)):WS (sIf t f g) ρ Q:=by
  obtain⟨x,e,k1,k2⟩:=h
  cases x with
  | true=>obtain⟨d,e',k⟩:=k1 rfl;exact⟨d,by simp only[sIf,e,Option.bind_some,if_pos,e'],k⟩
  | false=>obtain⟨d,e',k⟩:=k2 rfl;exact⟨d,by simp[sIf,e,e'],k⟩
theorem Br(h:WE a ρ fun d=>Q (.rt d)):WS (aQ a) ρ Q:=by
  obtain⟨d,e,k⟩:=h
  exact⟨_,by simp only[aQ,e,Option.map_some],k⟩
theorem Bs{i:Nat}(h:WE a ρ fun d=>Q (.nx (ρ.set i (some d)))):WS (bf i a) ρ Q:=by
  obtain⟨d,e,k⟩:=h
  exact⟨_,by simp only[bf,e,Option.map_some],k⟩
theorem Bt{is:List Nat}(h:WE a ρ fun d=>∃ ds,d=.tup ds/\ds.length=is.length/\Q (.nx ((is.zip ds).foldl (fun r p=>r.set p.1 (some p.2)) ρ))):WS (iJ is a) ρ Q:=by
  obtain⟨d,e,ds,rfl,l,k⟩:=h
  exact⟨_,by simp only[iJ,e,Option.bind_some,if_pos l],k⟩
theorem Bu{i:Nat}{ds:List D}(hv:aa i ρ=some (.lst ds))(hl:ds.length < 100000)(h:WE a ρ fun d=>Q (.nx (ρ.set i (some (.lst (ds++[d])))))):WS (iI i a) ρ Q:=by
  obtain⟨d,e,k⟩:=h
  exact⟨_,by simp only[iI,hv,e,Option.bind_some,if_pos hl],k⟩
theorem Bv(h:WE a ρ fun d=>∃ i,d=.int i/\KO (some i)):WO (gN a) ρ KO:=by
  obtain⟨d,e,i,rfl,k⟩:=h
  exact⟨_,by simp only[gN,e,Option.bind_some],k⟩
theorem Bw{lo hi:FO}(h:WE a ρ fun x=>WO lo ρ fun l=>WO hi ρ fun u=>∃ ds,bM x=some ds/\K (.lst (cX ds l u))):WE (eSl a lo hi) ρ K:=by
  obtain⟨x,e,l,e1,u,e2,ds,h1,k⟩:=h
  obtain⟨h1,h2⟩:=kn h1
  exact⟨_,by simp[eSl,e,e1,e2,h1,h2],k⟩
theorem bp{fr:Bool}{np n:Nat}{body:FS}{ds:List D}(hl:ds.length=np)(h:WS body (ds.map some++List.replicate (n - np) none) (rb K)):WF (mkF fr np n body) ds K:=by
  obtain⟨o,e,k⟩:=h
  cases o with
  | rt d=>exact⟨d,by simp only[mkF,if_pos hl,e,Option.bind_some],k⟩
  | _=>exact k.elim
theorem bW{F:List D->Option D}{ds:List D}(h:WF F ds fun d=>b0 d=true/\K d):WF (scF F) ds K:=by
  obtain⟨d,e,s,k⟩:=h
  exact⟨d,by simp only[scF,e,Option.bind_some,if_pos s],k⟩
end
def kq(go:ae->Prop)(Q:Out->Prop):Out->Prop
  | .nx ρ=>go ρ
  | .ct ρ=>go ρ
  | .bk ρ=>Q (.nx ρ)
  | .rt d=>Q (.rt d)
theorem mH{body:D->FS}{Q:Out->Prop}(I:List D->ae->Prop)(he:∀ ρ,I [] ρ->Q (.nx ρ))(hs:∀ x r ρ,I (x::r) ρ->WS (body x) ρ (kq (I r) Q)):
    ∀ (ds:List D) (ρ:ae),I ds ρ->WS (bn body ds) ρ Q
  | [],ρ,h=>⟨_,rfl,he ρ h⟩
  | x::r,ρ,h=>by
    obtain⟨o,e,k⟩:=hs x r ρ h
    cases o with
    | nx ρ'=>obtain⟨o',e',k'⟩:=mH I he hs r ρ' k;exact⟨o',by simp only[bn,e,Option.bind_some,e'],k'⟩
    | ct ρ'=>obtain⟨o',e',k'⟩:=mH I he hs r ρ' k;exact⟨o',by simp only[bn,e,Option.bind_some,e'],k'⟩
    | bk ρ'=>exact⟨_,by simp only[bn,e,Option.bind_some],k⟩
    | rt d=>exact⟨_,by simp only[bn,e,Option.bind_some],k⟩
theorem Bx{α:Type}{body:D->FS}{Q:Out->Prop}{ρ:ae}(enc:α->D)(xs:List α)(I:Nat->ae->Prop)(h0:I 0 ρ)(he:∀ ρ,I xs.length ρ->Q (.nx ρ))(hs:∀ (k:Nat) (h:k < xs.length) (ρ:ae),I k ρ->WS (body (enc xs[k])) ρ (kq (I (k+1)) Q)):WS (bn body (xs.map enc)) ρ Q:=by
  refine mH (fun r ρ=>∃ k,k<=xs.length/\r=(xs.drop k).map enc/\I k ρ) ?_ ?_ _ ρ ⟨0,Nat.zero_le _,by simp,h0⟩
  · rintro ρ ⟨k,hk,e,i⟩
    have:k=xs.length:=by
      have:=congrArg List.length e
      simp at this;omega
    subst this
    exact he ρ i
  · rintro x r ρ ⟨k,hk,e,i⟩
    have hk':k < xs.length:=by
      have:=congrArg List.length e
      simp at this;omega
    rw[List.drop_eq_getElem_cons hk',List.map_cons] at e
    injection e with e1 e2
    subst e1
    refine AO (hs k hk' ρ i) fun o=>?_
    cases o with
    | nx ρ'=>exact fun h=>⟨k+1,hk',e2,h⟩
    | ct ρ'=>exact fun h=>⟨k+1,hk',e2,h⟩
    | bk ρ'=>exact fun h=>h
    | rt d=>exact fun h=>h
theorem kr{α:Type}{t:Nat}{tb:FS}{Q:Out->Prop}{ρ:ae}(enc:α->D)(xs:List α)(I:Nat->ae->Prop)(h0:I 0 ρ)(he:∀ ρ,I xs.length ρ->Q (.nx ρ))(hs:∀ (k:Nat) (h:k < xs.length) (ρ:ae),I k ρ->WS tb (ρ.set t (some (enc xs[k]))) (kq (I (k+1)) Q)):WS (bn (fun x ρ=>tb (ρ.set t (some x))) (xs.map enc)) ρ Q :=
  Bx enc xs I h0 he hs
theorem rl{go:ae->Prop}{Q:Out->Prop}{ρ:ae}(h:go ρ):kq go Q (.nx ρ):=h
theorem By{t:Nat}{it:FE}{tb:FS}{ρ:ae}{Q:Out->Prop}(h:WE it ρ fun d=>∃ ds,bM d=some ds/\WS (bn (fun x ρ=>tb (ρ.set t (some x))) ds) ρ Q):WS (iL t it tb) ρ Q:=by
  obtain⟨d,e,ds,h1,o,e',k⟩:=h
  obtain⟨h1,h2⟩:=kn h1
  exact⟨o,by simp[iL,e,h1,h2,e'],k⟩
def rm(n:Nat):List D:=(List.range n).map fun k=>.int (k:Nat)
theorem rn(n:Nat):cj 0 n=rm n:=by
  unfold cj rm
  congr 1;funext k;rw[Int.zero_add]
theorem Bz{t:Nat}{as:FEs}{tb:FS}{ρ:ae}{Q:Out->Prop}(h:WA as ρ fun ds=>∃ j,ds=[.int j]/\okR j/\WS (bn (fun x ρ=>tb (ρ.set t (some x))) ((List.range j.toNat).map fun k=>.int (k:Nat))) ρ Q):WS (gQ t as tb) ρ Q:=by
  obtain⟨ds,e,j,rfl,h1,o,e',k⟩:=h
  exact⟨o,by simp only[gQ,e,Option.bind_some,if_pos h1,rn];exact e',k⟩
theorem BA{t:Nat}{it:FE}{tb:FS}{ρ:ae}{Q:Out->Prop}(h:WE it ρ fun d=>∃ ds,bM d=some ds/\WS (bn (fun x ρ=>tb (ρ.set t (some x))) ds.reverse) ρ Q):WS (iN t it tb) ρ Q:=by
  obtain⟨d,e,ds,h1,o,e',k⟩:=h
  exact⟨o,by simp[iN,e,h1,e'],k⟩
def WI(f:FEs)(ρ:ae)(K:List D->Prop):Prop:=∃ d,f ρ=some d/\K d
theorem BB{a:FE}{ρ:ae}{K:List D->Prop}(h:WE a ρ fun d=>∃ ds,bM d=some ds/\K ds):WI (cO a) ρ K:=by
  obtain⟨d,e,ds,h1,k⟩:=h
  obtain⟨h1,h2⟩:=kn h1
  exact⟨ds,by simp[cO,e,h1,h2],k⟩
theorem BC{as:FEs}{ρ:ae}{K:List D->Prop}(h:WA as ρ fun ds=>∃ j,ds=[.int j]/\okR j/\K ((List.range j.toNat).map fun k=>.int (k:Nat))):WI (iR1 as) ρ K:=by
  obtain⟨ds,e,j,rfl,h1,k⟩:=h
  exact⟨_,by simp only[iR1,e,Option.bind_some,if_pos h1,rn];rfl,k⟩
theorem BD{a:FE}{ρ:ae}{K:List D->Prop}(h:WE a ρ fun d=>∃ ds,bM d=some ds/\K (eE ds)):WI (iO a) ρ K:=by
  obtain⟨d,e,ds,h1,k⟩:=h
  exact⟨_,by simp only[iO,e,h1,Option.bind_some],k⟩
theorem BE{a b:FE}{ρ:ae}{K:List D->Prop}(h:WE a ρ fun d=>WE b ρ fun e=>∃ ds,bM d=some ds/\∃ es,bM e=some es/\K (eF ds es)):WI (gS a b) ρ K:=by
  obtain⟨d,e,d',e',ds,h1,es,h2,k⟩:=h
  exact⟨_,by simp only[gS,e,e',h1,h2,Option.bind_some],k⟩
theorem rp{α:Type}{g:D->Option (Option D)}(enc:α->D)(p:α->Bool)(f:α->D):∀ (xs:List α),(∀ x ∈ xs,g (enc x)=some (if p x then some (f x) else none))->cZ g (xs.map enc)=some ((xs.filter p).map f)
  | [],_=>rfl
  | x::r,h=>by
    have h1:=h x (List.mem_cons_self ..)
    have h2:=rp enc p f r fun y hy=>h y (List.mem_cons_of_mem _ hy)
    simp only[List.map_cons,cZ,h1,h2,Option.bind_some]
    cases e:p x <;> simp[e]
theorem rq{α:Type}{g:D->Option (Option D)}(enc:α->D)(f:α->D):∀ (xs:List α),(∀ x ∈ xs,g (enc x)=some (some (f x)))->cZ g (xs.map enc)=some (xs.map f)
  | [],_=>rfl
  | x::r,h=>by
    have h1:=h x (List.mem_cons_self ..)
    have h2:=rq enc f r fun y hy=>h y (List.mem_cons_of_mem _ hy)
    simp only[List.map_cons,cZ,h1,h2,Option.bind_some]
theorem eO{α:Type}{nown:Nat}{caps is:List Nat}{un:D->Option (List D)}{fi:FEs}{fe:FE}{ρ:ae}{K:D->Prop}(h:WI fi ρ fun ds=>∃ (enc:α->D) (f:α->D) (xs:List α),ds=xs.map enc/\xs.length < 100000/\(∀ x ∈ xs,∃ us,un (enc x)=some us/\WE fe (aX (aW nown caps ρ) is us) fun d=>d=f x)/\K (.lst (xs.map f))):
    WE (br nown caps is un fi bL fe) ρ K:=by
  obtain⟨ds,e,enc,f,xs,rfl,hl,ht,k⟩:=h
  refine⟨_,?_,k⟩
  have:cZ (dm is un bL fe (aW nown caps ρ)) (xs.map enc)=some (xs.map f):=rq enc f xs fun x hx=>by
    obtain⟨us,h1,d,h2,rfl⟩:=ht x hx
    simp[dm,h1,bL,h2]
  simp only[br,e,Option.bind_some,List.length_map,if_pos hl,this,Option.map_some]
theorem BF{α:Type}{nown:Nat}{caps is:List Nat}{un:D->Option (List D)}{fi:FEs}{c:ae->Option Bool}{fe:FE}{ρ:ae}{K:D->Prop}(h:WI fi ρ fun ds=>∃ (enc:α->D) (p:α->Bool) (f:α->D) (xs:List α),ds=xs.map enc/\xs.length < 100000/\(∀ x ∈ xs,∃ us,un (enc x)=some us/\WB c (aX (aW nown caps ρ) is us) fun b=>b=p x/\(b=true->WE fe (aX (aW nown caps ρ) is us) fun d=>d=f x))/\K (.lst ((xs.filter p).map f))):
    WE (br nown caps is un fi c fe) ρ K:=by
  obtain⟨ds,e,enc,p,f,xs,rfl,hl,ht,k⟩:=h
  refine⟨_,?_,k⟩
  have:cZ (dm is un c fe (aW nown caps ρ)) (xs.map enc)=some ((xs.filter p).map f):=rp enc p f xs fun x hx=>by
    obtain⟨us,h1,b,h2,rfl,h3⟩:=ht x hx
    cases e:p x with
    | true=>rw[e] at h2;obtain⟨d,h4,rfl⟩:=h3 e;simp[dm,h1,h2,h4]
    | false=>rw[e] at h2;simp[dm,h1,h2]
  simp only[br,e,Option.bind_some,List.length_map,if_pos hl,this,Option.map_some]
theorem BG{α:Type}(xs:List α):xs.filter (fun _=>false)=[]:=by induction xs <;> simp_all
theorem BH{α:Type}{nown:Nat}{caps is:List Nat}{un:D->Option (List D)}{fi:FEs}{c:ae->Option Bool}{fe:FE}{ρ:ae}{K:D->Prop}(h:WI fi ρ fun ds=>∃ (enc:α->D) (xs:List α),ds=xs.map enc/\xs.length < 100000/\(∀ x ∈ xs,∃ us,un (enc x)=some us/\WB c (aX (aW nown caps ρ) is us) fun b=>b=false)/\K (.lst [])):
    WE (br nown caps is un fi c fe) ρ K:=by
  obtain⟨ds,e,enc,xs,h1,h2,h3,k⟩:=h
  refine BF (α:=α) ⟨ds,e,enc,fun _=>false,fun _=>.non,xs,h1,h2,fun x hx=>?_,by rw[BG];exact k⟩
  obtain⟨us,h4,b,h5,rfl⟩:=h3 x hx
  exact⟨us,h4,false,h5,rfl,fun h=>nomatch h⟩
theorem iX{i:Int}(h1:-(2 ^ 1000:Int) < i)(h2:i < 2 ^ 1000):mid i:=by
  unfold mid
  have:i.natAbs < 2 ^ 1000:=by omega
  by_cases z:i.natAbs=0
  · rw[z];decide
  · exact Nat.lt_trans ((Nat.log2_lt z).mpr this) (by decide)
theorem kt{i j:Int}(h1:-18446744073709551616 < i)(h2:i < 18446744073709551616):okMul i j:=.inl ⟨h1,h2⟩
theorem BI{i j:Int}(h1:-18446744073709551616 < j)(h2:j < 18446744073709551616):okMul i j:=.inr (.inl ⟨h1,h2⟩)
theorem rz{i j:Int}(h1:mid i)(h2:mid j):okMul i j:=.inr (.inr ⟨h1,h2⟩)
theorem BJ{i j:Int}(h1:0 < j)(h2:mid j):iu i j:=⟨h1,h2⟩
theorem BK{i j:Int}(h1:0 < j):jQ i j:=h1
theorem BL{i j:Int}(h1:0<=j)(h2:j<=1000000)(h3:-18446744073709551616 < i)(h4:i < 18446744073709551616):iw i j:=⟨⟨h1,h2⟩,h3,h4⟩
section
variable {ρ:ae} {K:D->Prop} {Q:Out->Prop}
theorem mI{xs:List D}{i:Int}(h0:0<=i)(h1:i < xs.length):ixD (.lst xs) (.int i)=some (xs[i.toNat]'(by omega)):=by
  simp only[ixD,items,Option.bind_some,atI,ixN,if_pos h0,if_pos h1]
  exact List.getElem?_eq_getElem (by omega)
theorem BM{xs:List D}{i:Int}{P:D->Prop}(h0:0<=i)(h1:i < xs.length)(hP:∀ v ∈ xs,P v)(h:∀ v,P v->K v):W2 ixD (.lst xs) (.int i) K :=
  ⟨_,mI h0 h1,h _ (hP _ (List.getElem_mem _))⟩
def AllI(lo hi:Int):List D->Prop
  | []=>True
  | .int i::r=>(lo<=i/\i<=hi)/\AllI lo hi r
  | _::_=>False
theorem AllI.mem{lo hi:Int}:∀ {xs:List D},AllI lo hi xs->∀ v ∈ xs,∃ i,v=.int i/\lo<=i/\i<=hi
  | [],_,_,h=>nomatch h
  | x::r,h,v,hv=>by
    cases x <;> first | exact h.elim | skip
    rename_i i
    rcases List.mem_cons.mp hv with rfl | hv
    · exact⟨i,rfl,h.1⟩
    · exact AllI.mem h.2 v hv
theorem BN(lo hi:Int){xs:List D}{i:Int}(h0:0<=i)(h1:i < xs.length)(hP:AllI lo hi xs)(h:∀ v:Int,lo<=v->v<=hi->K (.int v)):W2 ixD (.lst xs) (.int i) K :=
  BM (P:=fun v=>∃ i,v=.int i/\lo<=i/\i<=hi) h0 h1 hP.mem fun v ⟨i,e,a,b⟩=>e ▸ h i a b
def AllZ:List D->Prop
  | []=>True
  | .int _::r=>AllZ r
  | _::_=>False
theorem AllZ.mem:∀ {xs:List D},AllZ xs->∀ v ∈ xs,∃ i,v=.int i
  | [],_,_,h=>nomatch h
  | x::r,h,v,hv=>by
    cases x <;> first | exact h.elim | skip
    rename_i i
    rcases List.mem_cons.mp hv with rfl | hv
    · exact⟨i,rfl⟩
    · exact AllZ.mem (show AllZ r from h) v hv
theorem BO{xs ys:List D}(hl:xs.length+ys.length<=100000)(h:K (.lst (xs++ys))):W2 eu (.lst xs) (.lst ys) K:=⟨_,by simp only[eu,if_pos hl],h⟩
theorem BP{i:Int}(h:K (.bl true)):W1 (d9 "int") (.int i) K:=⟨_,rfl,h⟩
theorem BQ{i:Int}(h:K (.bl false)):W1 (d9 "bool") (.int i) K:=⟨_,rfl,h⟩
theorem BR{i:Bool}(h:K (.bl true)):W1 (d9 "bool") (.bl i) K:=⟨_,rfl,h⟩
theorem BS(n d k:Nat):HT.sIx n d (some (k:Int))=min k n:=by
  show (if (k:Int) < 0 then ((k:Int)+(n:Int)).toNat else min ((k:Int)).toNat n)=_
  rw[if_neg (by omega)];rfl
theorem BT(n d:Nat):HT.sIx n d none=d:=rfl
theorem BU{α:Type}(xs:List α)(n:Nat):cX xs (some (n:Int)) none=xs.drop n:=by
  unfold cX
  rw[BS,BT]
  by_cases h:n<=xs.length
  · rw[Nat.min_eq_left h,List.take_of_length_le];simp
  · rw[Nat.min_eq_right (by omega),List.drop_eq_nil_of_le (Nat.le_refl _),List.drop_eq_nil_of_le (by omega)];simp
theorem eP{α:Type}(xs:List α)(n:Nat)(d:α)(h:n < xs.length):xs.getD n d=xs[n]:=by
  rw[List.getD_eq_getElem?_getD,List.getElem?_eq_getElem h];rfl
abbrev DI(xs:List Int):D:=.lst (xs.map .int)
abbrev DII(xs:List (List Int)):D:=.lst (xs.map DI)
theorem BV(ns:List Int):fH (ns.map D.int)=some ns:=by
  induction ns with
  | nil=>rfl
  | cons n r ih=>simp only[List.map_cons,fH,ih,Option.map_some]
theorem BW{xs:List Int}(h:K (.int xs.sum)):WF (aL cN) [DI xs] K:=⟨_,by simp[aL,cN,cr,items,BV],h⟩
theorem BX{xs:List D}(h:K (.int (xs.length:Nat))):WF (aL bz) [.lst xs] K:=⟨_,rfl,h⟩
theorem BY{xs:List Int}(h:K (.int (xs.length:Nat))):WF (aL bz) [.scr xs] K:=⟨_,by simp[aL,bz,items],h⟩
theorem BZ{i j:Int}(h:K (.int (max i j))):WF (cM fI) [.int i,.int j] K:=by
  refine⟨_,rfl,?_⟩
  have:(if j > i then j else i)=max i j:=by omega
  rw[this];exact h
theorem C0{i j:Int}(h:K (.int (min i j))):WF (cM fJ) [.int i,.int j] K:=by
  refine⟨_,rfl,?_⟩
  have:(if j < i then j else i)=min i j:=by omega
  rw[this];exact h
theorem C1{xs:List D}(h:K (.lst xs)):W1 dS (.lst xs) K:=⟨_,rfl,h⟩
theorem C2{xs:List D}(h:K (.lst xs.reverse)):W1 kg (.lst xs) K:=⟨_,rfl,h⟩
theorem cG{xs:List Int}{i:Int}(h0:0<=i)(h1:i < xs.length)(h:K (.int (xs.getD i.toNat 0))):W2 ixD (DI xs) (.int i) K:=by
  refine⟨_,mI h0 (by simpa using h1),?_⟩
  rw[eP _ _ _ (by omega)] at h
  simpa using h
theorem ku{xs:List (List Int)}{i:Int}(h0:0<=i)(h1:i < xs.length)(h:K (DI (xs.getD i.toNat []))):W2 ixD (DII xs) (.int i) K:=by
  refine⟨_,mI h0 (by simpa using h1),?_⟩
  rw[eP _ _ _ (by omega)] at h
  simpa using h
theorem rA{xs:List D}{k:Nat}(h0:0 < k)(h1:k<=xs.length):ixD (.lst xs) (.int (-(k:Int)))=some (xs[xs.length - k]'(by omega)):=by
  simp only[ixD,items,Option.bind_some,atI,ixN,if_neg (show ¬ (0:Int)<=-(k:Int) by omega),if_pos (show -(xs.length:Int)<=-(k:Int) by omega)]
  rw[show (-(k:Int)+xs.length).toNat=xs.length - k by omega]
  exact List.getElem?_eq_getElem (by omega)
theorem C3{xs:List Int}(h1:xs ≠ [])(h:K (.int (xs.getLast h1))):W2 ixD (DI xs) (.int (-1)) K:=by
  have hl:1<=(xs.map D.int).length:=by cases xs <;> simp at h1 ⊢
  refine⟨_,rA (k:=1) (by omega) hl,?_⟩
  rw[List.getLast_eq_getElem] at h
  simpa using h
theorem C4(k:Nat)(i j:Int):aO k (.int i) (.int j)=decide (i=j):=by cases k <;> rfl
theorem rB(k:Nat):∀ (xs ys:List Int),aO (k+1) (DI xs) (DI ys)=decide (xs=ys)
  | [],[]=>rfl
  | [],_::_=>rfl
  | _::_,[]=>rfl
  | x :: xs,y::ys=>by
    have ih:=rB k xs ys
    simp only[aO,List.map_cons,List.length_cons,List.zip_cons_cons,List.all_cons,C4,List.length_map] at ih ⊢
    by_cases e:x=y
    · subst e
      rw[show (xs.length+1 == ys.length+1)=(xs.length == ys.length) by by_cases e:xs.length=ys.length <;> simp[e],decide_eq_true rfl,Bool.true_and,ih]
      simp
    · simp[e]
theorem kx(k:Nat)(xs:List Int):aU (k+1) (DI xs)=true:=by
  simp only[aU,List.all_map,List.all_eq_true]
  intro x _
  cases k <;> rfl
theorem C5(k:Nat)(xs:List (List Int)):aU (k+2) (DII xs)=true:=by
  simp only[aU,List.all_map,List.all_eq_true]
  intro x _
  exact kx k x
theorem C6{xs ys:List Int}(h:K (.bl (decide (xs=ys)))):W2 eqD (DI xs) (DI ys) K:=⟨_,by rw[eqD,if_pos ⟨kx 3 xs,kx 3 ys⟩,rB 3],h⟩
end
theorem ky:∀ {l:List Int},(∀ x ∈ l,0<=x)->0<=l.sum
  | [],_=>by simp
  | x::l,h=>by
    have h1:=h x (List.mem_cons_self ..)
    have h2:=ky fun y hy=>h y (List.mem_cons_of_mem x hy)
    rw[List.sum_cons];omega
theorem rC{b:Int}:∀ {l:List Int},(∀ x ∈ l,x<=b)->l.sum<=l.length * b
  | [],_=>by simp
  | x::l,h=>by
    have h1:=h x (List.mem_cons_self ..)
    have h2:=rC fun y hy=>h y (List.mem_cons_of_mem x hy)
    rw[List.sum_cons,List.length_cons]
    have:((l.length+1:Nat):Int) * b=l.length * b+b:=by rw[Int.natCast_add,Int.add_mul];omega
    omega
theorem C7(xs:List Int)(x:Int):D.lst (xs.map .int++[.int x])=DI (xs++[x]):=by simp[DI]
theorem C8{α:Type}(enc:α->D)(xs:List α):eE (xs.map enc)=xs.zipIdx.map fun p=>.tup [.int (p.2:Nat),enc p.1]:=by
  unfold eE
  rw[List.zipIdx_map,List.map_map]
  rfl
theorem rD{α β:Type}(enc:α->D)(enc':β->D)(xs:List α)(ys:List β):eF (xs.map enc) (ys.map enc')=(xs.zip ys).map fun p=>.tup [enc p.1,enc' p.2]:=by
  unfold eF
  rw[List.zip_map,List.map_map]
  rfl
theorem mJ{x:Int}(h:0<=x)(n:Nat):0<=x ^ n:=by
  induction n with
  | zero=>rw[Int.pow_zero];omega
  | succ n ih=>rw[Int.pow_succ];exact Int.mul_nonneg ih h
theorem kz{x B:Int}{n:Nat}(N:Nat)(h0:0<=x)(h1:x<=B)(hB:1<=B)(hn:n<=N):x ^ n<=B ^ N:=by
  induction N generalizing n with
  | zero => have:n=0:=by omega
            subst this;rw[Int.pow_zero,Int.pow_zero];omega
  | succ N ih =>
    have hp:=mJ (x:=B) (by omega) N
    cases n with
    | zero =>
      have:=ih (n:=0) (by omega)
      rw[Int.pow_zero] at this ⊢
      rw[Int.pow_succ]
      calc (1:Int)<=B ^ N:=this
        _=B ^ N * 1:=by omega
        _<=B ^ N * B:=Int.mul_le_mul_of_nonneg_left hB hp
    | succ n =>
      rw[Int.pow_succ,Int.pow_succ]
      exact Int.mul_le_mul (ih (by omega)) h1 h0 hp
theorem mK{α:Type}{nown:Nat}{caps is:List Nat}{un:D->Option (List D)}{fi:FEs}{fe:FE}{ρ:ae}{K:D->Prop}(h:WI fi ρ fun ds=>∃ (enc:α->D) (f:α->Int) (xs:List α),ds=xs.map enc/\xs.length < 100000/\(∀ x ∈ xs,∃ us,un (enc x)=some us/\WE fe (aX (aW nown caps ρ) is us) fun d=>d=.int (f x))/\K (DI (xs.map f))):
    WE (br nown caps is un fi bL fe) ρ K:=by
  obtain⟨ds,e,enc,f,xs,h1,h2,h3,k⟩:=h
  refine eO (α:=α) ⟨ds,e,enc,fun x=>.int (f x),xs,h1,h2,h3,?_⟩
  rwa [DI,List.map_map] at k
theorem rE{α:Type}{g:D->Option (Option D)}(enc:α->D)(P:α->Prop):∀ (xs:List α),(∀ x ∈ xs,∃ b,g (enc x)=some (some (.bl b))/\(b=true ↔ P x))->∃ bs:List Bool,cZ g (xs.map enc)=some (bs.map .bl)/\(bs.all id=true ↔ ∀ x ∈ xs,P x)
  | [],_=>⟨[],rfl,by simp⟩
  | x::r,h=>by
    obtain⟨b,h1,h3⟩:=h x (List.mem_cons_self ..)
    obtain⟨bs,h2,hb⟩:=rE enc P r fun y hy=>h y (List.mem_cons_of_mem _ hy)
    refine⟨b::bs,by simp only[List.map_cons,cZ,h1,h2,Option.bind_some],?_⟩
    rw[List.all_cons,Bool.and_eq_true,hb,List.forall_mem_cons]
    exact and_congr h3 Iff.rfl
theorem C9(bs:List Bool):fM (bs.map D.bl)=some bs:=by
  induction bs with
  | nil=>rfl
  | cons n r ih=>simp only[List.map_cons,fM,ih,Option.map_some]
theorem mL{α:Type}(P:α->Prop){nown:Nat}{caps is:List Nat}{un:D->Option (List D)}{fi:FEs}{fe:FE}{ρ:ae}{K:D->Prop}(h:WI fi ρ fun ds=>∃ (enc:α->D) (xs:List α),ds=xs.map enc/\xs.length < 100000/\(∀ x ∈ xs,∃ us,un (enc x)=some us/\WE fe (aX (aW nown caps ρ) is us) fun d=>∃ b,d=.bl b/\(b=true ↔ P x))/\∀ bs:List Bool,(bs.all id=true ↔ ∀ x ∈ xs,P x)->K (.lst (bs.map .bl))):
    WE (br nown caps is un fi bL fe) ρ K:=by
  obtain⟨ds,e,enc,xs,rfl,hl,ht,k⟩:=h
  obtain⟨bs,h1,h2⟩:=rE (g:=dm is un bL fe (aW nown caps ρ)) enc P xs fun x hx=>by
    obtain⟨us,h1,d,h2,b,rfl,h3⟩:=ht x hx
    exact⟨b,by simp[dm,h1,bL,h2],h3⟩
  exact⟨_,by simp only[br,e,Option.bind_some,List.length_map,if_pos hl,h1,Option.map_some],k bs h2⟩
theorem Ca{bs:List Bool}{K:D->Prop}(h:K (.bl (bs.all id))):WF (aL (eD fun bs=>bs.all id)) [.lst (bs.map .bl)] K:=⟨_,by simp only[aL,eD,C9,Option.bind_some],h⟩
theorem Cb{α:Type}(a:α)(n:Nat):(List.replicate n [a]).flatten=List.replicate n a:=by
  induction n with
  | zero=>rfl
  | succ n ih=>rw[List.replicate_succ,List.flatten_cons,ih,List.replicate_succ];rfl
theorem Cc{a n:Int}{K:D->Prop}(h0:0<=n)(h1:n < 100000)(h:K (DI (List.replicate n.toNat a))):W2 iD (.lst [.int a]) (.int n) K:=by
  refine⟨_,by simp only[iD];rw[if_pos ⟨by simp;omega,by omega,by omega⟩],?_⟩
  rw[Cb]
  rwa [DI,List.map_replicate] at h
theorem rF{P:Prop}{b:Bool}(e:b=true ↔ P){A B:Prop}(h1:P->A)(h2:¬ P->B):kIf b A B:=⟨fun h=>h1 (e.mp h),fun h=>h2 fun p=>by rw[e.mpr p] at h;cases h⟩
theorem Cd(xs:List Int)(x:Int):xs.map D.int++[.int x]=(xs++[x]).map D.int:=by simp
section
variable {ρ:ae} {K:D->Prop} {a:FE}
end
theorem Ce{t:Nat}{as:FEs}{tb:FS}{ρ:ae}{Q:Out->Prop}(h:WA as ρ fun ds=>∃ i j,ds=[.int i,.int j,.int (-1)]/\okR i/\okR j/\WS (bn (fun x ρ=>tb (ρ.set t (some x))) ((List.range (i - j).toNat).map fun k=>.int (i - (k:Nat)))) ρ Q):WS (iQ t as tb) ρ Q:=by
  obtain⟨ds,e,i,j,rfl,h1,h2,o,e',k⟩:=h
  refine⟨o,?_,k⟩
  unfold iQ
  rw[e]
  show (if okR i/\okR j/\(-1:Int) = -1 then _ else none)=_
  rw[if_pos ⟨h1,h2,rfl⟩]
  exact e'
theorem Cf{xs:List (List Int)}{K:D->Prop}(h1:xs ≠ [])(h:K (DI (xs.getLast h1))):W2 ixD (DII xs) (.int (-1)) K:=by
  have hl:1<=(xs.map DI).length:=by cases xs <;> simp at h1 ⊢
  refine⟨_,rA (k:=1) (by omega) hl,?_⟩
  rw[List.getLast_eq_getElem] at h
  simpa using h
theorem mM(k:Nat):∀ xs:List D,(∀ x ∈ xs,aO k x x=true)->((xs.zip xs).all fun p=>aO k p.1 p.2)=true
  | [],_=>rfl
  | x::xs,h=>by
    rw[List.zip_cons_cons,List.all_cons,h x List.mem_cons_self,mM k xs fun y hy=>h y (List.mem_cons_of_mem _ hy)];rfl
theorem kA:∀ (k:Nat) (d:D),aU k d=true->aO k d d=true
  | k,.non,_=>by cases k <;> rfl
  | k,.bl b,_=>by cases k <;> cases b <;> rfl
  | k,.int i,_=>by cases k <;> simp[aO,fL]
  | k,.str x,_=>by cases k <;> simp[aO,fL]
  | 0,.lst _,h=>by simp[aU] at h
  | 0,.tup _,h=>by simp[aU] at h
  | k,.scr _,h=>by cases k <;> simp[aU] at h
  | k,.dct _ _,h=>by cases k <;> simp[aU] at h
  | k,.ptr _,h=>by cases k <;> simp[aU] at h
  | k+1,.lst xs,h=>by
    rw[aU,List.all_eq_true] at h
    rw[aO,mM k xs fun x hx=>kA k x (h x hx)];simp
  | k+1,.tup xs,h=>by
    rw[aU,List.all_eq_true] at h
    rw[aO,mM k xs fun x hx=>kA k x (h x hx)];simp
theorem Cg{d:D}{K:D->Prop}(hf:aU 4 d=true)(h:K (.bl false)):W2 neD d d K:=⟨_,by rw[neD,if_pos ⟨hf,hf⟩,kA 4 d hf];rfl,h⟩
theorem Ch{d:D}{K:D->Prop}(hf:aU 4 d=true)(h:K (.bl true)):W2 eqD d d K:=⟨_,by rw[eqD,if_pos ⟨hf,hf⟩,kA 4 d hf],h⟩
theorem rG(xs:List Int):(xs.map D.int).all b0=true:=by rw[List.all_map,List.all_eq_true];intro _ _;rfl
theorem Ci(xs:List (List Int)):(xs.map DI).all mv=true:=by rw[List.all_map,List.all_eq_true];intro x _;exact rG x
theorem Cj{i:Nat}{f:FE}{ρ:ae}{Q:Out->Prop}{ds:List D}(hv:aa i ρ=some (.lst ds))(hl:ds.length < 100000)(h:WE f ρ fun d=>∃ xs:List Int,d=DI xs/\Q (.nx (ρ.set i (some (.lst (ds++[DI xs])))))):WS (iS i f) ρ Q:=by
  obtain⟨d,e1,xs,rfl,q⟩:=h
  exact⟨_,by simp only[iS,hv,e1,Option.bind_some,if_pos (And.intro (rG xs) hl)],q⟩
theorem Ck{i:Nat}{ρ:ae}{Q:Out->Prop}{xs:List (List Int)}(hv:aa i ρ=some (DII xs))(h:Q (.rt (DII xs.reverse))):WS (gU i) ρ Q:=by
  refine⟨.rt (.lst (xs.map DI).reverse),by simp only[gU,hv,Option.bind_some,if_pos (Ci xs)],?_⟩
  rw[<- List.map_reverse];exact h
section
variable {ρ:ae} {K:D->Prop} {KL:List D->Prop} {Q:Out->Prop} {a b c:FE}
theorem Cl{ds:List D}(h:a ρ=some (.lst ds))(k:K (.lst ds)):WE (eL a) ρ K:=⟨_,by simp only[eL,h,Option.bind_some],k⟩
theorem Cm{i:Nat}{ds:List D}(h:aa i ρ=some (.lst ds))(k:K (.lst ds)):WE (eL (aa i)) ρ K:=Cl h k
end
end VL
namespace VL
open PySem (Str)
open L2 (atI ixN)
inductive Cell where
  | lst (ds:List D)
  | dic (ns:List Str) (ds:List D)
  | ins (C:Nat) (ns:List Str) (ds:List D)
  | dcT (fz:Bool) (ps:List ((Int × Int) × Int))
abbrev Sto:=Nat->Option Cell
def aG(M:Sto)(a:Nat)(c:Cell):Sto:=fun b=>if b=a then some c else M b
def db(M:Sto)(a:Nat):Sto:=fun b=>if b=a then none else M b
theorem aK{M:Sto}{a:Nat}{c:Cell}:aG M a c a=some c:=by simp[aG]
theorem bv{M:Sto}{a b:Nat}{c:Cell}(h:b ≠ a):aG M a c b=M b:=by simp[aG,h]
theorem cx{M:Sto}{a:Nat}{c c':Cell}:aG (aG M a c) a c'=aG M a c':=by funext b;unfold aG;split <;> rfl
theorem Cn{M:Sto}{a:Nat}{c:Cell}(h:M a=some c):aG M a c=M:=by
  funext b
  by_cases e:b=a
  · subst e;rw[aK,h]
  · rw[bv e]
theorem mN{M:Sto}{a:Nat}:db M a a=none:=by simp[db]
theorem mO{M:Sto}{a b:Nat}(h:b ≠ a):db M a b=M b:=by simp[db,h]
abbrev QE:=D->Sto->Prop
abbrev NTE:=ae->Sto->QE->Prop
abbrev NTB:=ae->Sto->(Bool->Sto->Prop)->Prop
abbrev NTA:=ae->Sto->(List D->Sto->Prop)->Prop
abbrev NTF:=List D->Sto->QE->Prop
structure EndN where
  nx:ae->Sto->Prop
  rt:D->Sto->Prop
  bk:ae->Sto->Prop:=fun _ _=>False
  ct:ae->Sto->Prop:=fun _ _=>False
abbrev NTS:=EndN->ae->Sto->Prop
def nP(f:FE):NTE:=fun ρ M Q=>WE f ρ fun d=>Q d M
def nPB(f:ae->Option Bool):NTB:=fun ρ M Q=>WB f ρ fun b=>Q b M
def n2(g:D->D->Option D)(ta tb:NTE):NTE:=fun ρ M Q=>ta ρ M fun x M1=>tb ρ M1 fun y M2=>W2 g x y fun d=>Q d M2
def n1(g:D->Option D)(ta:NTE):NTE:=fun ρ M Q=>ta ρ M fun x M1=>W1 g x fun d=>Q d M1
def cy(ta:NTE):NTB:=fun ρ M Q=>ta ρ M fun x M1=>kT (fun b=>Q b M1) x
def dA(ta:NTE):NTB:=fun ρ M Q=>ta ρ M fun x M1=>∃ b,tru x=some b/\Q b M1
def hG(ta tb:NTB):NTB:=fun ρ M Q=>ta ρ M fun b M1=>kIf b (tb ρ M1 Q) (Q false M1)
def eQ(ta:NTB):NTB:=fun ρ M Q=>ta ρ M fun b M1=>Q (!b) M1
def nIf(tc:NTB)(ta tb:NTE):NTE:=fun ρ M Q=>tc ρ M fun b M1=>kIf b (ta ρ M1 Q) (tb ρ M1 Q)
def hJ(ta tb:NTE):NTE:=fun ρ M Q=>ta ρ M fun x M1=>kT (fun b=>kIf b (tb ρ M1 Q) (Q (.bl false) M1)) x
def aA:NTA:=fun _ M Q=>Q [] M
def ak(ta:NTE)(tr:NTA):NTA:=fun ρ M Q=>ta ρ M fun x M1=>tr ρ M1 fun xs M2=>Q (x::xs) M2
def fN(ta:NTA):NTE:=fun ρ M Q=>ta ρ M fun ds M1=>ds.length<=1000/\Q (.lst ds) M1
def hU(ta:NTA):NTE:=fun ρ M Q=>ta ρ M fun ds M1=>ds.length<=1000/\Q (.tup ds) M1
def kB(ta:NTA):NTE:=fun ρ M Q=>ta ρ M fun ds M1=>ds.length<=1000/\∀ a,M1 a=none->Q (.ptr a) (aG M1 a (.lst ds))
def hV(f:FE):NTE:=fun ρ M Q=>WE f ρ fun d=>∃ ds,d=.lst ds/\∀ a,M a=none->Q (.ptr a) (aG M a (.lst ds))
def kC(ns:List Str)(as:FEs):NTE:=fun ρ M Q=>WA as ρ fun ds=>ds.length=ns.length/\∀ a,M a=none->Q (.ptr a) (aG M a (.dic ns ds))
def bO(ta tb:NTE):NTE:=fun ρ M Q=>ta ρ M fun x M1=>tb ρ M1 fun y M2=>∃ a ds i d,x=.ptr a/\M2 a=some (.lst ds)/\y=.int i/\atI ds i=some d/\Q d M2
def nDg(ns:List Str)(i:Nat)(ta:NTE):NTE:=fun ρ M Q=>ta ρ M fun x M1=>∃ a ds d,x=.ptr a/\M1 a=some (.dic ns ds)/\ds[i]?=some d/\Q d M1
def bw(C:Nat)(ns:List Str)(i:Nat)(ta:NTE):NTE:=fun ρ M Q=>ta ρ M fun x M1=>∃ a ds d,x=.ptr a/\M1 a=some (.ins C ns ds)/\ds[i]?=some d/\Q d M1
def aZ(T:NTF)(ta:NTA):NTE:=fun ρ M Q=>ta ρ M fun ds M1=>T ds M1 Q
def vw1(M:Sto):D->D
  | .ptr a=>match M a with
    | some (.lst ds)=>.lst ds
    | _=>.ptr a
  | d=>d
def dZ(G:List D->Option D)(ta:NTA):NTE:=fun ρ M Q=>ta ρ M fun ds M1=>WF G (ds.map (vw1 M1)) fun d=>b0 d=true/\Q d M1
def fO(G:List D->Option D)(ta:NTA):NTE:=fun ρ M Q=>ta ρ M fun ds M1=>WF G ds fun d=>Q d M1
def cb(C:Nat)(ns:List Str)(T:NTF)(ta:NTE)(tas:NTA):NTE:=fun ρ M Q=>ta ρ M fun x M1=>∃ a ds0,x=.ptr a/\M1 a=some (.ins C ns ds0)/\tas ρ M1 fun ds M2=>T (x::ds) M2 Q
def kD(C:Nat)(T:NTF)(tas:NTA):NTE:=fun ρ M Q=>tas ρ M fun ds M1=>∀ a,M1 a=none->T (.ptr a::ds) (aG M1 a (.ins C [] [])) fun d M2=>d=.non/\Q (.ptr a) M2
def sN:NTS:=fun E ρ M=>E.nx ρ M
def aw(t u:NTS):NTS:=fun E ρ M=>t { E with nx:=fun ρ M=>u E ρ M } ρ M
def bB(tc:NTB)(t u:NTS):NTS:=fun E ρ M=>tc ρ M fun b M1=>kIf b (t E ρ M1) (u E ρ M1)
def hW:NTS:=fun _ _ _=>False
def bc(ta:NTE):NTS:=fun E ρ M=>ta ρ M E.rt
def kE(i:Nat):NTS:=fun E ρ M=>∃ a ds,aa i ρ=some (.ptr a)/\M a=some (.lst ds)/\E.rt (.lst ds) (db M a)
def aV(i:Nat)(ta:NTE):NTS:=fun E ρ M=>ta ρ M fun d M1=>E.nx (ρ.set i (some d)) M1
def kF(is:List Nat)(ta:NTE):NTS:=fun E ρ M=>ta ρ M fun d M1=>∃ ds,d=.tup ds/\ds.length=is.length/\E.nx ((is.zip ds).foldl (fun r p=>r.set p.1 (some p.2)) ρ) M1
def hX(ns:List Str)(i:Nat)(ta tv:NTE):NTS:=fun E ρ M=>tv ρ M fun v M1=>ta ρ M1 fun x M2=>∃ a ds,x=.ptr a/\M2 a=some (.dic ns ds)/\E.nx ρ (aG M2 a (.dic ns (ds.set i v)))
def fP(C:Nat)(ns:List Str)(i:Nat)(ta tv:NTE):NTS:=fun E ρ M=>tv ρ M fun v M1=>ta ρ M1 fun x M2=>∃ a ds,x=.ptr a/\M2 a=some (.ins C ns ds)/\E.nx ρ (aG M2 a (.ins C ns (ds.set i v)))
def cS(C:Nat)(ns:List Str)(f:Str)(ta tv:NTE):NTS:=fun E ρ M=>tv ρ M fun v M1=>ta ρ M1 fun x M2=>∃ a ds,x=.ptr a/\M2 a=some (.ins C ns ds)/\E.nx ρ (aG M2 a (.ins C (ns++[f]) (ds++[v])))
def iY(ta tv:NTE):NTS:=fun E ρ M=>ta ρ M fun x M1=>∃ a ds0,x=.ptr a/\M1 a=some (.lst ds0)/\tv ρ M1 fun v M2=>∃ ds,M2 a=some (.lst ds)/\ds.length < 100000/\E.nx ρ (aG M2 a (.lst (ds++[v])))
def dC(ta ti tv:NTE):NTS:=fun E ρ M=>tv ρ M fun v M1=>ta ρ M1 fun x M2=>ti ρ M2 fun y M3=>∃ a ds k j,x=.ptr a/\M3 a=some (.lst ds)/\y=.int k/\ixN ds.length k=some j/\E.nx ρ (aG M3 a (.lst (ds.set j v)))
def cT(body:D->NTS):List D->NTS
  | [],E,ρ,M=>E.nx ρ M
  | x::r,E,ρ,M=>body x { E with nx:=fun ρ M=>cT body r E ρ M,ct:=fun ρ M=>cT body r E ρ M,bk:=E.nx } ρ M
def kG(t:Nat)(ta:NTA)(tb:NTS):NTS:=fun E ρ M=>ta ρ M fun ds M1=>∃ j,ds=[.int j]/\okR j/\cT (fun x E ρ M=>tb E (ρ.set t (some x)) M) ((List.range j.toNat).map fun k=>.int (k:Nat)) E ρ M1
def kH(t:Nat)(ta:NTA)(tb:NTS):NTS:=fun E ρ M=>ta ρ M fun ds M1=>∃ i j,ds=[.int i,.int j]/\okR i/\okR j/\cT (fun x E ρ M=>tb E (ρ.set t (some x)) M) ((List.range (j - i).toNat).map fun k=>.int (i+(k:Nat))) E ρ M1
def mkN(np n:Nat)(t:NTS):NTF:=fun ds M Q=>ds.length=np/\t { nx:=fun _ M'=>Q .non M',rt:=Q } (ds.map some++List.replicate (n - np) none) M
def dc(nown:Nat)(te:NTE)(ρb:ae):List D->List D->Sto->(List D->Sto->Prop)->Prop
  | [],done,M,Q=>Q done M
  | x::r,done,M,Q=>te (ρb.set 0 (some x)) M fun d M1=>dc nown te ρb r (done++[d]) M1 Q
def hZ(caps:List Nat)(ti:NTA)(te:NTE):NTE:=fun ρ M Q=>ti ρ M fun ds M1=>∃ j,ds=[.int j]/\okR j/\j < 1000/\dc 1 te (aW 1 caps ρ) ((List.range j.toNat).map fun k=>.int (k:Nat)) [] M1 fun ds M2=>Q (.lst ds) M2
def vw2(M:Sto):D->D
  | .ptr a=>match M a with
    | some (.lst ds)=>.lst (ds.map (vw1 M))
    | _=>.ptr a
  | d=>d
def kI(G:List D->Option D)(ta:NTA):NTE:=fun ρ M Q=>ta ρ M fun ds M1=>WF G (ds.map (vw2 M1)) fun d=>b0 d=true/\Q d M1
def kJ(G:List D->Option D)(ta:NTA):NTE:=fun ρ M Q=>ta ρ M fun ds M1=>WF G (ds.map (vw2 M1)) fun d=>(∃ xs:List Int,d=.lst (xs.map .int))/\Q d M1
def kK(G:List D->Option D)(ta:NTA):NTE:=fun ρ M Q=>ta ρ M fun ds M1=>WF G (ds.map (vw2 M1)) fun d=>Q d M1
def iZ(ta:NTE):NTE:=fun ρ M Q=>ta ρ M fun x M1=>∃ ds,vw1 M1 x=.lst ds/\Q (.lst ds) M1
def kL(caps:List Nat)(ti te:NTE):NTE:=fun ρ M Q=>ti ρ M fun d M1=>∃ ds,bM d=some ds/\ds.length<=1000/\dc 1 te (aW 1 caps ρ) ds [] M1 fun ds M2=>Q (.lst ds) M2
def fQ(caps:List Nat)(ti te:NTE):NTE:=fun ρ M Q=>ti ρ M fun d M1=>∃ ds,bM d=some ds/\ds.length<=1000/\dc 1 te (aW 1 caps ρ) ds [] M1 fun ds M2=>∀ a,M2 a=none->Q (.ptr a) (aG M2 a (.lst ds))
def j1(ta:NTE):NTS:=fun E ρ M=>ta ρ M fun x M1=>∃ a ds,x=.ptr a/\M1 a=some (.lst ds)/\E.nx ρ (aG M1 a (.lst ds.reverse))
def dh(body:D->NTS)(a:Nat)(all:List D):List D->NTS
  | [],E,ρ,M=>M a=some (.lst all)/\E.nx ρ M
  | x::r,E,ρ,M=>M a=some (.lst all)/\body x { E with nx:=fun ρ M=>dh body a all r E ρ M,ct:=fun ρ M=>dh body a all r E ρ M,bk:=E.nx } ρ M
def kM(t:Nat)(ta:NTE)(tb:NTS):NTS:=fun E ρ M=>ta ρ M fun x M1=>∃ a,∃ bs:List Nat,x=.ptr a/\dh (fun x E ρ M=>tb E (ρ.set t (some x)) M) a (bs.map .ptr) (bs.map .ptr) E ρ M1
def vw3(M:Sto):D->D
  | .lst ds=>.lst (ds.map (vw2 M))
  | d=>vw2 M d
def n2V(g:D->D->Option D)(ta tb:NTE):NTE:=fun ρ M Q=>ta ρ M fun x M1=>tb ρ M1 fun y M2=>W2 g (vw3 M2 x) (vw3 M2 y) fun d=>b0 d=true/\Q d M2
def kN(k:Nat)(ta:NTE):NTE:=fun ρ M Q=>ta ρ M fun x M1=>∃ a ds,x=.ptr a/\M1 a=some (.lst ds)/\k<=1000/\Q (.lst (cX ds (some (k:Nat)) none)) M1
def kO(ta:NTE):NTB:=fun ρ M Q=>ta ρ M fun x M1=>∃ a,∃ bs:List Nat,x=.ptr a/\M1 a=some (.lst (bs.map .ptr))/\(∀ b ∈ bs,∃ ds,M1 b=some (.lst ds))/\Q false M1
end VL
namespace VL
open PySem PySem.Spec PyProof.Rows L2
def rH:Option Cell->Bool
  | some (.dcT true _)=>true
  | _=>false
def inM(M:Sto):Addr->Prop:=fun a=>M a ≠ none/\rH (M a)=false
theorem kP{M M':Sto}{b:Addr}(e:M' b=M b):inM M' b ↔ inM M b:=by unfold inM;rw[e]
noncomputable abbrev PH(H:Hp)(M:Sto):Hp:=ao H (inM M)
def aS(ns:List Str)(vs:List V):List (Key × V):=(ns.zip vs).map fun p=>(Sum.inr p.1,p.2)
def rJ(ps:List ((Int × Int) × Int)):List (List Key × V):=ps.map fun p=>([Sum.inl p.1.1,Sum.inl p.1.2],V.int p.2)
def CellOk(K:PySem.W.Frag)(H:Hp):HO->Cell->Prop
  | .lst xs,.lst ds=>Reps K H xs ds
  | .dK kvs,.dic ns ds=>∃ vs,kvs=aS ns vs/\vs.length=ns.length/\Reps K H vs ds
  | .ins C dx fs,.ins C' ns ds=>C=C'/\∃ vs,fs=ns.zip vs/\vs.length=ns.length/\Reps K H vs ds
  | o,.dcT fz ps=>(fz=false/\o=.dT (rJ ps))\/(fz=true/\∃ ob,o=.frz ob (.dT (rJ ps)))
  | _,_=>False
theorem CellOk.mono{K:PySem.W.Frag}{H H':Hp}(e:Same H H'):∀ {o:HO} {c:Cell},CellOk K H o c->CellOk K H' o c:=fun {o c} h=>by
  unfold CellOk at h ⊢
  split at h
  · exact aH e h
  · obtain⟨vs,h1,h2,h3⟩:=h;exact⟨vs,h1,h2,aH e h3⟩
  · obtain⟨h0,vs,h1,h2,h3⟩:=h;exact⟨h0,vs,h1,h2,aH e h3⟩
  · exact h
  · exact h.elim
def MOk(K:PySem.W.Frag)(H:Hp)(M:Sto):Prop:=∀ a c,M a=some c->∃ o,H a=some o/\CellOk K (PH H M) o c
theorem MOk.dom{K:PySem.W.Frag}{H:Hp}{M:Sto}(h:MOk K H M):Dom H (inM M):=fun b hb n=>by
  cases e:M b with
  | none=>exact hb.1 e
  | some c=>obtain⟨o,h1,_⟩:=h b c e;rw[n] at h1;cases h1
theorem MOk.fresh{K:PySem.W.Frag}{H:Hp}{M:Sto}(h:MOk K H M){p:Addr}(hp:H p=none):M p=none:=by
  cases e:M p with
  | none=>rfl
  | some c=>obtain⟨o,h1,_⟩:=h p c e;rw[hp] at h1;cases h1
theorem PH.up{H H':Hp}{M:Sto}(e:Same H H'):Same (PH H M) (PH H' M):=bD e
theorem MOk.up{K:PySem.W.Frag}{H H':Hp}{M:Sto}(h:MOk K H M)(e:Same H H'):MOk K H' M:=fun a c hc=>by
  obtain⟨o,h1,h2⟩:=h a c hc
  exact⟨o,e _ _ h1,h2.mono (PH.up e)⟩
theorem PH.at{H:Hp}{M:Sto}{b:Addr}{o:HO}(h:PH H M b=some o):¬ inM M b/\H b=some o:=cw h
theorem PH.of{H:Hp}{M:Sto}{b:Addr}(h:M b=none):PH H M b=H b:=bg fun n=>n.1 h
theorem PH.out{H:Hp}{M:Sto}{b:Addr}(h:¬ inM M b):PH H M b=H b:=bg h
theorem j2{K:PySem.W.Frag}{H H':Hp}{M:Sto}{p:Addr}{o:HO}{c:Cell}(h:MOk K H M)(hp:H p=none)(hs:Same H H')(ho:H' p=some o)(hc:CellOk K (ao H' fun b=>inM M b\/b=p) o c):
    Same (PH H M) (PH H' (aG M p c))/\MOk K H' (aG M p c):=by
  have e:Same (PH H M) (PH H' (aG M p c)):=fun b u q=>by
    obtain⟨h1,h2⟩:=PH.at q
    have ne:b ≠ p:=bQ h2 hp
    rw[PH.out (mt (kP (bv ne)).mp h1)]
    exact hs _ _ h2
  refine⟨e,fun a c' hc'=>?_⟩
  by_cases q:a=p
  · subst q
    rw[aK] at hc';cases hc'
    refine⟨o,ho,hc.mono (bU (fun _ _ z=>z) fun b z=>?_)⟩
    by_cases hb:b=a
    · exact .inr hb
    · exact .inl ((kP (bv hb)).mp z)
  · rw[bv q] at hc'
    obtain⟨o',h1,h2⟩:=h a c' hc'
    exact⟨o',hs _ _ h1,h2.mono e⟩
theorem i0{K:PySem.W.Frag}{H:Hp}{M:Sto}{a:Addr}{o:HO}{c c0:Cell}(h:MOk K H M)(ha:M a=some c0)(hc:CellOk K (PH H M) o c)(hf:rH (some c0)=false:=by rfl):
    Same (PH H M) (PH (upd H a o) (aG M a c))/\MOk K (upd H a o) (aG M a c):=by
  have e:Same (PH H M) (PH (upd H a o) (aG M a c)):=fun b u q=>by
    obtain⟨h1,h2⟩:=PH.at q
    have ne:b ≠ a:=fun z=>h1 (by subst z;refine⟨fun n=>?_,?_⟩ <;> rw[ha] at *;cases n;exact hf)
    rw[PH.out (mt (kP (bv ne)).mp h1),aC ne]
    exact h2
  refine⟨e,fun b c' hc'=>?_⟩
  by_cases q:b=a
  · subst q
    rw[aK] at hc';cases hc'
    exact⟨o,b9,hc.mono e⟩
  · rw[bv q] at hc'
    obtain⟨o',h1,h2⟩:=h b c' hc'
    exact⟨o',by rw[aC q];exact h1,h2.mono e⟩
theorem Co{K:PySem.W.Frag}{H:Hp}{M:Sto}{a:Addr}(h:MOk K H M):Same (PH H M) (PH H (db M a))/\MOk K H (db M a):=by
  have e:Same (PH H M) (PH H (db M a)):=bU (fun _ _ z=>z) fun b z=>by
    by_cases hb:b=a
    · subst hb;exact absurd mN z.1
    · exact (kP (mO hb)).mp z
  refine⟨e,fun b c hc=>?_⟩
  by_cases q:b=a
  · subst q;rw[mN] at hc;cases hc
  · rw[mO q] at hc
    obtain⟨o,h1,h2⟩:=h b c hc
    exact⟨o,h1,h2.mono e⟩
structure EnvQ (K:PySem.W.Frag) (σ:St) (ρ:ae) (H:Hp) (M:Sto):Prop where
  env:EnvR K (PH H M) σ ρ
  ok:MOk K H M
structure PostT (K:PySem.W.Frag) (H:Hp) (M:Sto) (H':Hp) (M':Sto):Prop where
  same:Same (PH H M) (PH H' M')
  ok:MOk K H' M'
structure PostW (K:PySem.W.Frag) (H:Hp) (M:Sto) (d:D) (v:V) (H':Hp) (M':Sto):Prop extends PostT K H M H' M' where
  rep:Rep K (PH H' M') v d
structure PostWs (K:PySem.W.Frag) (H:Hp) (M:Sto) (ds:List D) (vs:List V) (H':Hp) (M':Sto):Prop extends PostT K H M H' M' where
  rep:Reps K (PH H' M') vs ds
theorem EnvQ.next{K:PySem.W.Frag}{σ:St}{ρ:ae}{H H':Hp}{M M':Sto}(h:EnvQ K σ ρ H M)(p:PostT K H M H' M'):EnvQ K σ ρ H' M':=⟨h.env.mono p.same,p.ok⟩
theorem PostT.refl{K:PySem.W.Frag}{H:Hp}{M:Sto}(h:MOk K H M):PostT K H M H M:=⟨Same.refl _,h⟩
theorem PostT.trans{K:PySem.W.Frag}{H H1 H2:Hp}{M M1 M2:Sto}(a:PostT K H M H1 M1)(b:PostT K H1 M1 H2 M2):PostT K H M H2 M2:=⟨a.same.trans b.same,b.ok⟩
theorem PostT.of{K:PySem.W.Frag}{H H':Hp}{M:Sto}(h:MOk K H M)(e:Same H H'):PostT K H M H' M:=⟨PH.up e,h.up e⟩
def tw(K:PySem.W.Frag)(t:NTE):TE:=fun σ H Q=>∃ ρ M QW,EnvQ K σ ρ H M/\t ρ M QW/\∀ d M',QW d M'->∀ v H',PostW K H M d v H' M'->Q v H'
def twT(K:PySem.W.Frag)(t:NTB):TT:=fun σ H Q=>∃ ρ M QW,EnvQ K σ ρ H M/\t ρ M QW/\∀ b M',QW b M'->∀ H',PostT K H M H' M'->Q b H'
def twA(K:PySem.W.Frag)(t:NTA):TA:=fun σ H Q=>∃ ρ M QW,EnvQ K σ ρ H M/\t ρ M QW/\∀ ds M',QW ds M'->∀ vs H',PostWs K H M ds vs H' M'->Q vs H'
abbrev NE(X:Cx)(e:Expr)(t:NTE):Prop:=PE X e (tw X.K t)
abbrev NT(X:Cx)(e:Expr)(t:NTB):Prop:=PT X e (twT X.K t)
abbrev NW(X:Cx)(e:Expr)(t:NTB):Prop:=PW X e (twT X.K t)
abbrev NA(X:Cx)(es:List Expr)(t:NTA):Prop:=PA X es (twA X.K t)
section
variable {X:Cx} {a b c:Expr} {ta tb tc:NTE} {pos p2:Pos} {es:List Es} {fa fb:FE}
theorem rK{K:PySem.W.Frag}{σ:St}{ρ:ae}{H:Hp}{M:Sto}(h:EnvQ K σ ρ H M)(e:Es):Av K H σ ρ (inM M) e:=by
  have full:∀ (j:Nat) (v:V) (d:D),σ[j]?=some (some v)->ρ[j]?=some (some d)->Rep K (ao H (inM M)) v d:=fun j v d h1 h2=>by
    obtain⟨v',h3,h4⟩:=h.env j d h2
    rw[h1] at h3;cases h3
    exact h4
  cases e with
  | full j=>exact full j
  | el j=>exact fun v d h1 h2=>(full j v d h1 h2).el
theorem EnvQ.envR{K:PySem.W.Frag}{σ:St}{ρ:ae}{H:Hp}{M:Sto}(h:EnvQ K σ ρ H M):EnvR K H σ ρ:=h.env.mono (aM _ _)
theorem mP(h:VE X a fa es):NE X a (nP fa):=aI h fun σ H Q ⟨ρ,M,QW,hE,⟨d,hf,hq⟩,hQ⟩ =>
  ⟨ρ,d,hE.envR,hf,fun v H' p=>hQ d M hq v H' ⟨PostT.of hE.ok p.same,p.av (inM M) hE.ok.dom fun e _=>rK hE e⟩⟩
theorem Cp{f:ae->Option Bool}(h:VT X a f):NT X a (nPB f):=dO h fun σ H Q ⟨ρ,M,QW,hE,⟨d,hf,hq⟩,hQ⟩ =>
  ⟨ρ,d,hE.envR,hf,fun H' e=>hQ d M hq H' (PostT.of hE.ok e)⟩
theorem mQ{K:PySem.W.Frag}{r:R2}{g:D->D->Option D}(hr:OpV K r g){σ:St}{H:Hp}{Q:VK}(h:tw K (n2 g ta tb) σ H Q):tOp r (tw K ta) (tw K tb) σ H Q:=by
  obtain⟨ρ,M,QW,hE,ht,hQ⟩:=h
  refine⟨ρ,M,_,hE,ht,fun x M1 h1 vx H1 p1=>⟨ρ,M1,_,hE.next p1.toPostT,h1,fun y M2 h2 vy H2 p2=>?_⟩⟩
  obtain⟨d,hg,hq⟩:=h2
  have rx:=ay p2.same p1.rep
  refine hr vx vy H2 x y d Q (ay (aM _ _) rx) (ay (aM _ _) p2.rep) hg fun v H' e r' av=>hQ d M2 hq v H' ⟨(p1.toPostT.trans p2.toPostT).trans (PostT.of p2.ok e),av _ p2.ok.dom rx p2.rep⟩
theorem mR{op:Operator}{r:R2}{g:D->D->Option D}(ho:OpR X (binaryOp op) r)(hr:OpV X.K r g)(ha:NE X a ta)(hb:NE X b tb):NE X (.BinOp a op b pos) (n2 g ta tb):=aI (jD ho ha hb) fun _ _ _ h=>mQ hr h
theorem Cq(ha:NE X a ta)(hb:NE X b tb):NE X (.BinOp a .Add b pos) (n2 b8 ta tb):=mR oQ (iq X.K fun _ _ _=>.int _) ha hb
theorem Cr(ha:NE X a ta)(hb:NE X b tb):NE X (.BinOp a .Sub b pos) (n2 bZ ta tb):=mR oR (iq X.K fun _ _ _=>.int _) ha hb
theorem Cs(ha:NE X a ta)(hb:NE X b tb):NE X (.BinOp a .Mult b pos) (n2 ce ta tb):=mR pW (ip X.K (fun _ _ h=>h) fun _ _ _=>.int _) ha hb
theorem Ct{op:CmpOp}{r:R2}{g:D->D->Option D}(ho:OpR X (compareOp op) r)(hr:OpV X.K r g)(ha:NE X a ta)(hb:NE X b tb)(hm:behindInMarks op b=false):NE X (.Compare a [op] [b] pos) (n2 g ta tb) :=
  aI (oW ho ha hb hm) fun _ _ _ h=>mQ hr h
theorem rL{op:CmpOp}{r:R2}{g:D->D->Option D}(ho:OpR X (compareOp op) r)(hr:OpV X.K r g)(ha:NE X a ta)(hb:NE X b tb)(hm:behindInMarks op b=false):NT X (.Compare a [op] [b] pos) (cy (n2 g ta tb)) :=
  dO (jE ho ha hb hm) fun σ H Q ⟨ρ,M,QW,hE,ht,hQ⟩=>mQ hr ⟨ρ,M,_,hE,ht,fun d M' hd v H' p=>by
    cases d with
    | bl k=>cases p.rep;exact⟨k,rfl,hQ k M' hd H' p.toPostT⟩
    | _=>exact hd.elim⟩
theorem ne_eq{k:Nat}(hr:Room k X.A)(ha:NE X a ta)(hb:NE X b tb):NE X (.Compare a [.Eq] [b] pos) (n2 eqD ta tb):=Ct (kd hr) (kf X.K) ha hb (cB _)
theorem Cu{k:Nat}(hr:Room k X.A)(ha:NE X a ta)(hb:NE X b tb):NT X (.Compare a [.Eq] [b] pos) (cy (n2 eqD ta tb)):=rL (kd hr) (kf X.K) ha hb (cB _)
theorem Cv:n2 mn ta (nP (eC .non))=n1 cQ ta:=by
  funext ρ M Q
  unfold n2 n1 nP
  congr 1
  funext x M1
  unfold WE W2 W1 eC
  exact propext ⟨fun⟨d,e,h⟩=>by cases e;exact h,fun h=>⟨_,rfl,h⟩⟩
theorem Cw{j}(ha:NE X a ta):NT X (.Compare a [.Is] [.Constant .none j p2] pos) (cy (n1 cQ ta)):=by rw[<- Cv];exact rL oU (qJ X.K) ha (mP gG) (cB _)
variable {ka kb:NTB} {aq:List Expr}
theorem Cy(h:NE X a ta)(he:∀ whole,isTrue a X.env whole=(do let v <- whole;standAt a.pos;holding [v] (truthy v)):=by intro _;rfl):NT X a (dA ta) :=
  dO (oZ h he) fun σ H Q ⟨ρ,M,QW,hE,ht,hQ⟩=>⟨ρ,M,_,hE,ht,fun d M' ⟨b,hb,hq⟩ v H' p=>⟨b,pX (ay (aM _ _) p.rep) hb,hQ b M' hq H' p.toPostT⟩⟩
theorem Cz(ha:NT X a ka):NW X (.BoolOp .And [a] pos) ka:=v7 ha
theorem CA(ha:NT X a ka)(hb:NW X (.BoolOp .And (b::aq) pos) kb):NW X (.BoolOp .And (a::b::aq) pos) (hG ka kb) :=
  pT (v9 ha hb) fun σ H Q ⟨ρ,M,QW,hE,ht,hQ⟩=>⟨ρ,M,_,hE,ht,fun k M1 hk H1 p1=>by
    cases k with
    | true=>exact dM ⟨ρ,M1,_,hE.next p1,hk.1 rfl,fun k' M2 h2 H2 p2=>hQ k' M2 h2 H2 (p1.trans p2)⟩
    | false=>exact dL (hQ _ M1 (hk.2 rfl) H1 p1)⟩
theorem CB(h:NW X a ka):NT X a ka:=h.pt
theorem CC(ha:NT X a ka):NT X (.UnaryOp .Not a pos) (eQ ka):=dO (oz ha) fun σ H Q ⟨ρ,M,QW,hE,ht,hQ⟩=>⟨ρ,M,_,hE,ht,fun k M1 hk H1 p1=>hQ _ M1 hk H1 p1⟩
theorem CD(hc:NT X c ka)(ha:NE X a ta)(hb:NE X b tb):NE X (.IfExp c a b pos) (nIf ka ta tb) :=
  aI (vh hc ha hb) fun σ H Q ⟨ρ,M,QW,hE,ht,hQ⟩=>⟨ρ,M,_,hE,ht,fun k M1 hk H1 p1=>by
    have fin:∀ d M2,QW d M2->∀ v H2,PostW X.K H1 M1 d v H2 M2->Q v H2:=fun d M2 h2 v H2 p2=>hQ d M2 h2 v H2 ⟨p1.trans p2.toPostT,p2.rep⟩
    cases k with
    | true=>exact dM ⟨ρ,M1,_,hE.next p1,hk.1 rfl,fin⟩
    | false=>exact dL ⟨ρ,M1,_,hE.next p1,hk.2 rfl,fin⟩⟩
theorem CF{op}(h:NE X a ta):NE X (.BoolOp op [a] pos) ta:=oA h
theorem CG(ha:NE X a ta)(hb:NE X (.BoolOp .And (b::aq) pos) tb):NE X (.BoolOp .And (a::b::aq) pos) (hJ ta tb) :=
  aI (oB ha hb) fun σ H Q ⟨ρ,M,QW,hE,ht,hQ⟩=>⟨ρ,M,_,hE,ht,fun x M1 hk vx H1 p1=>by
    cases x with
    | bl k =>
      cases p1.rep
      refine⟨k,rfl,?_⟩
      cases k with
      | true=>exact dM ⟨ρ,M1,_,hE.next p1.toPostT,hk.1 rfl,fun d M2 h2 v H2 p2=>hQ d M2 h2 v H2 ⟨p1.toPostT.trans p2.toPostT,p2.rep⟩⟩
      | false=>exact dL (hQ _ M1 (hk.2 rfl) _ H1 ⟨p1.toPostT,.bl _⟩)
    | _=>exact hk.elim⟩
variable {xs:List Expr} {tas:NTA}
theorem CH:NA X [] aA:=jN cC fun σ H Q ⟨ρ,M,QW,hE,ht,hQ⟩=>hQ [] M ht [] H ⟨PostT.refl hE.ok,.nil⟩
theorem CI(ha:NE X a ta)(hr:NA X xs tas)(hs:starEach (a::xs) X.env=(false,eval a X.env)::starEach xs X.env:=by rfl):NA X (a::xs) (ak ta tas) :=
  jN (cq ha hr hs) fun σ H Q ⟨ρ,M,QW,hE,ht,hQ⟩=>⟨ρ,M,_,hE,ht,fun d M1 h1 v H1 p1=>⟨ρ,M1,_,hE.next p1.toPostT,h1,fun ds M2 h2 vs H2 p2=>hQ _ M2 h2 _ H2 ⟨p1.toPostT.trans p2.toPostT,.cons (ay p2.same p1.rep) p2.rep⟩⟩⟩
theorem CJ{x1}(h:NA X xs tas):NE X (.Tuple xs x1 pos) (hU tas) :=
  aI (pe h) fun σ H Q ⟨ρ,M,QW,hE,ht,hQ⟩=>⟨ρ,M,_,hE,ht,fun ds M1 ⟨hl,hq⟩ vs H1 p=>⟨by rw[p.rep.length];exact iC hl,fun l hl1=>by
    have hn:=p.ok.fresh hl1
    refine hQ _ M1 hq _ _ ⟨p.toPostT.trans (PostT.of p.ok (bh hl1 _)),.tup (.inl ?_) (aH (PH.up (bh hl1 _)) p.rep)⟩
    rw[PH.of hn];exact b9⟩⟩
theorem CK(h:NA X xs tas):NE X (.List xs pos) (fN tas) :=
  aI (jF h) fun σ H Q ⟨ρ,M,QW,hE,ht,hQ⟩=>⟨ρ,M,_,hE,ht,fun ds M1 ⟨hl,hq⟩ vs H1 p=>⟨by rw[p.rep.length];exact iC hl,fun l hl1=>by
    have hn:=p.ok.fresh hl1
    refine hQ _ M1 hq _ _ ⟨p.toPostT.trans (PostT.of p.ok (bh hl1 _)),.lst (.inl ?_) (aH (PH.up (bh hl1 _)) p.rep)⟩
    rw[PH.of hn];exact b9⟩⟩
theorem mS{H:Hp}{A:Addr->Prop}{p:Addr}{o:HO}(hp:H p=none):Same (ao H A) (ao (upd H p o) fun b=>A b\/b=p):=fun b u q=>by
  obtain⟨n,q⟩:=cw q
  have ne:b ≠ p:=bQ q hp
  rw[bg (fun z=>z.elim n ne),aC ne]
  exact q
theorem CL(h:NA X xs tas):NE X (.List xs pos) (kB tas) :=
  aI (jF h) fun σ H Q ⟨ρ,M,QW,hE,ht,hQ⟩=>⟨ρ,M,_,hE,ht,fun ds M1 ⟨hl,hq⟩ vs H1 p=>⟨by rw[p.rep.length];exact iC hl,fun l hl1=>by
    have hn:=p.ok.fresh hl1
    obtain⟨e1,e2⟩:=j2 (c:=.lst ds) p.ok hl1 (bh hl1 (.lst vs)) b9 (aH (mS hl1) p.rep)
    exact hQ _ _ (hq l hn) _ _ ⟨p.toPostT.trans ⟨e1,e2⟩,.ptr l⟩⟩⟩
theorem CM(h:VF X a fa es):NE X a (hV fa):=aI h fun σ H Q ⟨ρ,M,QW,hE,⟨d,hf,ds,e,hq⟩,hQ⟩=>⟨ρ,d,hE.envR,hf,fun v H' p=>by
  obtain⟨l,xs,ds',rfl,rfl,hl,hl',hr⟩:=p.new
  cases e
  obtain⟨e1,e2⟩:=j2 (c:=.lst ds) hE.ok hl p.same hl' (hr (inM M) hE.ok.dom fun e _=>rK hE e)
  exact hQ _ _ (hq l (hE.ok.fresh hl)) _ _ ⟨⟨e1,e2⟩,.ptr l⟩⟩
theorem CN(ha:NE X a ta)(hb:NE X b tb)(hs:fC b):NE X (.Subscript a b pos) (n2 ixD ta tb) :=
  aI (lH (ix_list.or lI) ha hb hs) fun σ H Q ⟨ρ,M,QW,hE,ht,hQ⟩=>⟨ρ,M,_,hE,ht,fun x M1 h1 vx H1 p1=>⟨ρ,M1,_,hE.next p1.toPostT,h1,fun y M2 ⟨d,hd,hq⟩ vy H2 p2=>by
    cases y with
    | int i =>
      cases p2.rep
      obtain⟨ds,h3,h4⟩:=bind_some hd
      have rx:=ay p2.same p1.rep
      have hel:ElR X.K H2 (inM M2) _ _:=rx.el
      obtain⟨p,xs,rfl,hp,_,hA⟩:=jR (ay (aM _ _) rx) h3
      have hx:=hA _ hel
      obtain⟨v,h5,h6⟩:=jS hx h4
      have fin:Q v H2:=hQ d M2 hq v H2 ⟨p1.toPostT.trans p2.toPostT,h6⟩
      rcases hp with hp | hp
      · exact .inl ⟨p,xs,i,v,rfl,rfl,hp,h5,fin⟩
      · exact .inr ⟨p,xs,i,v,rfl,rfl,hp,h5,fin⟩
    | _=>cases hd⟩⟩
theorem cU{K:PySem.W.Frag}{H:Hp}{M:Sto}{a:Addr}{ds:List D}(h:MOk K H M)(ha:M a=some (.lst ds)):∃ xs,H a=some (.lst xs)/\Reps K (PH H M) xs ds:=by
  obtain⟨o,h1,h2⟩:=h a _ ha
  cases o with
  | lst xs=>exact⟨xs,h1,h2⟩
  | _=>exact h2.elim
theorem rM{K:PySem.W.Frag}{H:Hp}{M:Sto}{a:Addr}{ns:List Str}{ds:List D}(h:MOk K H M)(ha:M a=some (.dic ns ds)):∃ vs,H a=some (.dK (aS ns vs))/\vs.length=ns.length/\Reps K (PH H M) vs ds:=by
  obtain⟨o,h1,h2⟩:=h a _ ha
  cases o with
  | dK kvs=>obtain⟨vs,rfl,h3,h4⟩:=h2;exact⟨vs,h1,h3,h4⟩
  | _=>exact h2.elim
theorem j3{K:PySem.W.Frag}{H:Hp}{M:Sto}{a:Addr}{C:Nat}{ns:List Str}{ds:List D}(h:MOk K H M)(ha:M a=some (.ins C ns ds)):∃ dx vs,H a=some (.ins C dx (ns.zip vs))/\vs.length=ns.length/\Reps K (PH H M) vs ds:=by
  obtain⟨o,h1,h2⟩:=h a _ ha
  cases o with
  | ins C' dx fs=>obtain⟨rfl,vs,rfl,h3,h4⟩:=h2;exact⟨dx,vs,h1,h3,h4⟩
  | _=>exact h2.elim
theorem CO(ha:NE X a ta)(hb:NE X b tb)(hs:fC b):NE X (.Subscript a b pos) (bO ta tb) :=
  aI (lH (ix_list.or lI) ha hb hs) fun σ H Q ⟨ρ,M,QW,hE,ht,hQ⟩=>⟨ρ,M,_,hE,ht,fun x M1 h1 vx H1 p1=>⟨ρ,M1,_,hE.next p1.toPostT,h1,fun y M2 ⟨q,ds,i,d,ex,hm,ey,hd,hq⟩ vy H2 p2=>by
    subst ex ey
    cases p1.rep
    cases p2.rep
    obtain⟨xs,g1,g2⟩:=cU p2.ok hm
    obtain⟨v,h5,h6⟩:=jS g2 hd
    exact .inl ⟨q,xs,i,v,rfl,rfl,.inl (.inl g1),h5,hQ d M2 hq v H2 ⟨p1.toPostT.trans p2.toPostT,h6⟩⟩⟩⟩
theorem rN:∀ {ns:List Str} {vs:List V} {i:Nat} {x:Str} {v:V},ns.Nodup->ns[i]?=some x->vs[i]?=some v->(ns.zip vs).lookup x=some v
  | [],_,_,_,_,_,h,_=>by simp at h
  | _::_,[],i,_,_,_,_,h=>by simp at h
  | n::ns,w::vs,0,x,v,_,h1,h2=>by simp at h1 h2;subst h1 h2;simp
  | n::ns,w::vs,i+1,x,v,hn,h1,h2=>by
    have h1':ns[i]?=some x:=by simpa using h1
    have hm:x ∈ ns:=List.mem_of_getElem? h1'
    have ne:¬ (x=n):=fun e=>(List.nodup_cons.mp hn).1 (e ▸ hm)
    have ih:=rN (List.nodup_cons.mp hn).2 h1' (by simpa using h2)
    rw[List.zip_cons_cons,List.lookup_cons,show (x == n)=false from beq_eq_false_iff_ne.mpr ne]
    exact ih
theorem rO:∀ {ns:List Str} {vs:List V} {i:Nat} {x:Str} {v:V},ns.Nodup->ns[i]?=some x->vs[i]?=some v->bT (aS ns vs) (.inr x)=some v
  | [],_,_,_,_,_,h,_=>by simp at h
  | _::_,[],i,_,_,_,_,h=>by simp at h
  | n::ns,w::vs,0,x,v,_,h1,h2=>by simp at h1 h2;subst h1 h2;exact jG (p:=((Sum.inr n:Key),w)) rfl
  | n::ns,w::vs,i+1,x,v,hn,h1,h2=>by
    have h1':ns[i]?=some x:=by simpa using h1
    have hm:x ∈ ns:=List.mem_of_getElem? h1'
    have ne:¬ (n=x):=fun e=>(List.nodup_cons.mp hn).1 (e ▸ hm)
    have ih:=rO (List.nodup_cons.mp hn).2 h1' (by simpa using h2)
    have e2:bT (aS (n::ns) (w::vs)) (.inr x)=bT (aS ns vs) (.inr x):=jH (p:=((Sum.inr n:Key),w)) fun q=>ne (Sum.inr.inj q)
    rw[e2];exact ih
theorem CP{k i:Nat}{ns:List Str}{x:Str}{j}(hr:Room k X.A)(ha:NE X a ta)(hs:jK (.Constant (.str x) j p2))(hn:ns.Nodup:=by decide +kernel)(hi:ns[i]?=some x:=by rfl):NE X (.Subscript a (.Constant (.str x) j p2) pos) (nDg ns i ta) :=
  aI (xc (by have:=hr.un;omega) ha lm hs) fun σ H Q ⟨ρ,M,QW,hE,ht,hQ⟩=>⟨ρ,M,_,hE,ht,fun y M1 ⟨q,ds,d,ex,hm,hd,hq⟩ vy H1 p1=>by
    subst ex
    cases p1.rep
    obtain⟨vs,g1,gl,g2⟩:=rM p1.ok hm
    obtain⟨v,h5,h6⟩:=g2.get hd
    exact⟨q,v,rfl,.inl ⟨_,.inr x,.inl g1,rfl,(rO hn hi h5).symm⟩,hQ d M1 hq v H1 ⟨p1.toPostT,h6⟩⟩⟩
theorem CQ{i:Nat}{C:Addr}{ns:List Str}{f:Str}(c:Cls X.K C)(n:NoAttr X.K C f)(ha:NE X a ta)(hb:attributeBase a f X.env (eval a X.env)=eval a X.env:=by rfl)(hn:ns.Nodup:=by decide +kernel)(hi:ns[i]?=some f:=by rfl):NE X (.Attribute a f pos) (bw C ns i ta) :=
  aI (w9 ha hb) fun σ H Q ⟨ρ,M,QW,hE,ht,hQ⟩=>⟨ρ,M,_,hE,ht,fun y M1 ⟨q,ds,d,ex,hm,hd,hq⟩ vy H1 p1=>by
    subst ex
    cases p1.rep
    obtain⟨dx,vs,g1,gl,g2⟩:=j3 p1.ok hm
    obtain⟨v,h5,h6⟩:=g2.get hd
    exact⟨q,C,dx,_,v,rfl,g1,c,n,rN hn hi h5,hQ d M1 hq v H1 ⟨p1.toPostT,h6⟩⟩⟩
end
end VL
namespace VL
open PySem PySem.Spec PyProof.Rows L2
def spN(K:PySem.W.Frag)(T:NTF):Sp:=fun vs H Q _=>∃ ds M QW,Reps K (PH H M) vs ds/\MOk K H M/\T ds M QW/\∀ d M',QW d M'->∀ v H',PostW K H M d v H' M'->Q v H'
def DefN(P:Program)(w:World)(K:PySem.W.Frag)(mg:Str->Option Value)(base:Heap)(x:Str)(k:Nat)(ps:List Str)(T:NTF):Prop :=
  ∃ f fd,FnOk P w K mg base CX0 k f fd ps (spN K T)/\mg x=some (.ref f)/\PySem.W.keepIn K (.ref f)=true/\Binds K fd ps []
theorem DefN.mono{P:Program}{w:World}{K:PySem.W.Frag}{mg:Str->Option Value}{base:Heap}{x:Str}{j k:Nat}{ps:List Str}{T:NTF}(h:DefN P w K mg base x j ps T)(hk:j<=k:=by decide):DefN P w K mg base x k ps T :=
  let ⟨f,fd,F,m,kp,b⟩:=h
  ⟨f,fd,F.mono hk,m,kp,b⟩
def MetN(P:Program)(w:World)(K:PySem.W.Frag)(mg:Str->Option Value)(base:Heap)(C:Addr)(m:Str)(k:Nat)(ps:List Str)(T:NTF):Prop :=
  ∃ f fd,FnOk P w K mg base CX0 k f fd ps (spN K T)/\Meth K C m f/\Binds K fd ps []
theorem MetN.mono{P:Program}{w:World}{K:PySem.W.Frag}{mg:Str->Option Value}{base:Heap}{C:Addr}{x:Str}{j k:Nat}{ps:List Str}{T:NTF}(h:MetN P w K mg base C x j ps T)(hk:j<=k:=by decide):MetN P w K mg base C x k ps T :=
  let ⟨f,fd,F,m,b⟩:=h
  ⟨f,fd,F.mono hk,m,b⟩
def MakN(P:Program)(w:World)(K:PySem.W.Frag)(mg:Str->Option Value)(base:Heap)(x:Str)(C:Addr)(k:Nat)(ps:List Str)(T:NTF):Prop :=
  ∃ f fd,FnOk P w K mg base CX0 k f fd ps (spN K T)/\Mk K C f/\mg x=some (.ref C)/\Binds K fd ps []
theorem MakN.mono{P:Program}{w:World}{K:PySem.W.Frag}{mg:Str->Option Value}{base:Heap}{C:Addr}{x:Str}{j k:Nat}{ps:List Str}{T:NTF}(h:MakN P w K mg base x C j ps T)(hk:j<=k:=by decide):MakN P w K mg base x C k ps T :=
  let ⟨f,fd,F,m,g,b⟩:=h
  ⟨f,fd,F.mono hk,m,g,b⟩
theorem CS{K:PySem.W.Frag}{H:Hp}{M:Sto}{v:V}{d:D}(h:MOk K H M)(r:Rep K (PH H M) v d):Rep K H v (vw1 M d):=by
  cases r with
  | ptr a =>
    show Rep K H (.ref a) (match M a with | some (.lst ds)=>.lst ds | _=>.ptr a)
    split
    · rename_i ds hm
      obtain⟨xs,g1,g2⟩:=cU h hm
      exact .lst (.inl g1) (aH (aM _ _) g2)
    · exact .ptr a
  | non=>exact .non
  | bl b=>exact .bl b
  | int b=>exact .int b
  | str b=>exact .str b
  | lst h1 h2=>exact ay (aM _ _) (.lst h1 h2)
  | tup h1 h2=>exact ay (aM _ _) (.tup h1 h2)
  | scr h1=>exact ay (aM _ _) (.scr h1)
  | dct h1=>exact ay (aM _ _) (.dct h1)
theorem mT{K:PySem.W.Frag}{H:Hp}{M:Sto}(h:MOk K H M):∀ {vs:List V} {ds:List D},Reps K (PH H M) vs ds->Reps K H vs (ds.map (vw1 M))
  | [],_,r=>by cases r;exact .nil
  | _::_,_,r=>by cases r with | cons a t=>exact .cons (CS h a) (mT h t)
section
variable {X:Cx} {a b c:Expr} {ta tb tc:NTE} {tas:NTA} {pos p p2 ap:Pos} {k:Nat} {ps:List Str} {x m:Str} {es:List Expr} {T:NTF} {G:List D->Option D} {fr:Bool} {C:Addr} {ns:List Str}
theorem CT(d:DefN X.prog X.w X.K X.mg X.base x k ps T)(hr:Room k X.A)(ha:NA X (a::es) tas)(hg:Gl X x:=by rfl)(hdb:(x == ("__debug__" : Str))=false:=by decide)(he:starEach (a::es) X.env=(false,eval a X.env)::starEach es X.env:=by rfl)(hpl:(backTo pos (starEach es X.env)).any (·.1)=false:=by rfl):
    NE X (.Call (.Name x p) (a::es) [] pos) (aZ T tas) :=
  let ⟨_,_,F,hm,hk,hb⟩:=d
  aI (fB F hr hg hm hk hb .nil dk ha hdb he hpl) fun σ H Q ⟨ρ,M,QW,hE,ht,hQ⟩=>⟨ρ,M,_,hE,ht,fun ds M1 h1 vs H1 p=>by
    show spN X.K T (vs++[]) H1 Q E0
    rw[List.append_nil]
    exact⟨ds,M1,QW,p.rep,p.ok,h1,fun d M' hd v H' p'=>hQ d M' hd v H' ⟨p.toPostT.trans p'.toPostT,p'.rep⟩⟩⟩
theorem CU(d:Def X.prog X.w X.K X.mg X.base x k ps G fr)(hr:Room k X.A)(ha:NA X (a::es) tas)(hg:Gl X x:=by rfl)(hdb:(x == ("__debug__" : Str))=false:=by decide)(he:starEach (a::es) X.env=(false,eval a X.env)::starEach es X.env:=by rfl)(hpl:(backTo pos (starEach es X.env)).any (·.1)=false:=by rfl):
    NE X (.Call (.Name x p) (a::es) [] pos) (fO G tas) :=
  let ⟨_,_,F,hm,hk,hb⟩:=d
  aI (fB F hr hg hm hk hb .nil dk ha hdb he hpl) fun σ H Q ⟨ρ,M,QW,hE,ht,hQ⟩=>⟨ρ,M,_,hE,ht,fun ds M1 ⟨d,hf,hq⟩ vs H1 p=>by
    show spF X.K G fr (vs++[]) H1 Q E0
    rw[List.append_nil]
    exact⟨ds,d,aH (aM _ _) p.rep,hf,fun v H' r=>hQ d M1 hq v H' ⟨p.toPostT.trans (PostT.of p.ok r.same),r.rep _ p.ok.dom p.rep⟩⟩⟩
theorem rP{id:String}{r:List V->Hp->VK->Prop}{g:List D->Option D}(hc:CallR X (.builtin id) r)(hv:fG X.K r g)(hm:X.mg x=none)(hb:bootBuiltins x=some (.builtin id))(ha:NA X (a::es) tas)(hs:∀ ds d,g ds=some d->b0 d=true)(hg:Gl X x:=by rfl)(hn:x ≠ "__name__":=by decide)(hdb:(x == ("__debug__" : Str))=false:=by decide)(he:starEach (a::es) X.env=(false,eval a X.env)::starEach es X.env:=by rfl)(hpl:(backTo pos (starEach es X.env)).any (·.1)=false:=by rfl):
    NE X (.Call (.Name x p) (a::es) [] pos) (dZ g tas) :=
  aI (lG hc hg hm hb ha hn hdb he hpl) fun σ H Q ⟨ρ,M,QW,hE,ht,hQ⟩=>⟨ρ,M,_,hE,ht,fun ds M1 ⟨d,hf,_,hq⟩ vs H1 p =>
    hv vs H1 _ d Q (mT p.ok p.rep) hf fun v hr=>hQ d M1 hq v H1 ⟨p.toPostT,hr _⟩⟩
theorem mU:∀ {ns:List Str} {vs:List V} {x:Str},¬ x ∈ ns->(ns.zip vs).lookup x=none
  | [],_,_,_=>rfl
  | _::_,[],_,_=>rfl
  | n::ns,v::vs,x,h=>by
    rw[List.zip_cons_cons,List.lookup_cons,show (x == n)=false from beq_eq_false_iff_ne.mpr fun e=>h (e ▸ List.mem_cons_self)]
    exact mU fun z=>h (List.mem_cons_of_mem _ z)
theorem CV{pl:Sem Bool}(cl:Cls X.K C)(d:MetN X.prog X.w X.K X.mg X.base C m k ps T)(hr:Room k X.A)(ho:NE X b tb)(ha:NA X (a::es) tas)(hno:¬ m ∈ ns:=by decide +kernel)(hst:starEach (a::es) X.env=(false,eval a X.env)::starEach es X.env:=by rfl)(hpl:(backTo pos (starEach es X.env)).any (·.1)=false:=by rfl)(ht:eval (.Call (.Attribute b m ap) (a::es) [] pos) X.env=(do
      let ov <- eval b X.env
      standAt ap.atName
      let (f,first) <- holding [ov] (getMethod ov m pl)
      callWith pos f first (backTo pos (starEach (a::es) X.env)) (backToKw pos (keywordEach [] X.env))):=by rfl):
    NE X (.Call (.Attribute b m ap) (a::es) [] pos) (cb C ns T tb tas) :=
  let ⟨_,_,F,hm,hb⟩:=d
  aI (wj ho cl hm F hr hb .nil dk ha hst hpl ht) fun σ H Q ⟨ρ,M,QW,hE,hw,hQ⟩=>⟨ρ,M,_,hE,hw,fun x M1 ⟨q,ds0,ex,hm1,h1⟩ vx H1 p1=>by
    subst ex
    cases p1.rep
    obtain⟨dx,vs0,g1,gl,g2⟩:=j3 p1.ok hm1
    refine⟨q,dx,_,rfl,g1,mU hno,ρ,M1,_,hE.next p1.toPostT,h1,fun ds M2 h2 vs H2 p2=>?_⟩
    show spN X.K T (V.ref q::(vs++[])) H2 Q E0
    rw[List.append_nil]
    exact⟨.ptr q::ds,M2,QW,.cons (.ptr q) p2.rep,p2.ok,h2,fun d M' hd v H' p'=>hQ d M' hd v H' ⟨(p1.toPostT.trans p2.toPostT).trans p'.toPostT,p'.rep⟩⟩⟩
theorem CW{pl:Sem Bool}(cl:Cls X.K C)(d:MetN X.prog X.w X.K X.mg X.base C m k ps T)(hr:Room k X.A)(ho:NE X b tb)(hno:¬ m ∈ ns:=by decide +kernel)(ht:eval (.Call (.Attribute b m ap) [] [] pos) X.env=(do
      let ov <- eval b X.env
      standAt ap.atName
      let (f,first) <- holding [ov] (getMethod ov m pl)
      callWith pos f first (backTo pos (starEach [] X.env)) (backToKw pos (keywordEach [] X.env))):=by rfl):
    NE X (.Call (.Attribute b m ap) [] [] pos) (cb C ns T tb aA) :=
  let ⟨_,_,F,hm,hb⟩:=d
  aI (wk ho cl hm F hr hb .nil dk ht) fun σ H Q ⟨ρ,M,QW,hE,hw,hQ⟩=>⟨ρ,M,_,hE,hw,fun x M1 ⟨q,ds0,ex,hm1,h1⟩ vx H1 p1=>by
    subst ex
    cases p1.rep
    obtain⟨dx,vs0,g1,gl,g2⟩:=j3 p1.ok hm1
    refine⟨q,dx,_,rfl,g1,mU hno,?_⟩
    exact⟨[.ptr q],M1,QW,.cons (.ptr q) .nil,p1.ok,h1,fun d M' hd v H' p'=>hQ d M' hd v H' ⟨p1.toPostT.trans p'.toPostT,p'.rep⟩⟩⟩
theorem CY(d:MakN X.prog X.w X.K X.mg X.base x C k ps T)(hr:Room (k+1) X.A)(ha:NA X (a::es) tas)(hg:Gl X x:=by rfl)(hdb:(x == ("__debug__" : Str))=false:=by decide)(he:starEach (a::es) X.env=(false,eval a X.env)::starEach es X.env:=by rfl)(hpl:(backTo pos (starEach es X.env)).any (·.1)=false:=by rfl):
    NE X (.Call (.Name x p) (a::es) [] pos) (kD C T tas) :=
  let ⟨_,_,F,M,hm,hb⟩:=d
  aI (wm M F hr hg hm hb .nil dk ha hdb he hpl) fun σ H Q ⟨ρ,M,QW,hE,ht,hQ⟩=>⟨ρ,M,_,hE,ht,fun ds M1 h1 vs H1 p q dx hq hdx ne=>by
    show spN X.K T (V.ref q::(vs++[])) _ _ E0
    rw[List.append_nil]
    have hqd:upd H1 dx (.own q) q=none:=by rw[aC (Ne.symm ne)];exact hq
    have s1:=bh hdx (.own q)
    have s2:=bh hqd (.ins C dx [])
    obtain⟨e1,e2⟩:=j2 (c:=.ins C [] []) (p.ok.up s1) hqd s2 b9 ⟨rfl,[],rfl,rfl,.nil⟩
    have pt:PostT X.K H1 M1 _ _:=(PostT.of p.ok s1).trans ⟨e1,e2⟩
    exact⟨.ptr q::ds,_,_,.cons (.ptr q) (aH pt.same p.rep),e2,h1 q (p.ok.fresh hq),fun d M' ⟨hd,hq'⟩ v H' p'=>by
      subst hd
      cases p'.rep
      exact⟨rfl,hQ _ M' hq' _ H' ⟨(p.toPostT.trans pt).trans p'.toPostT,.ptr q⟩⟩⟩⟩
end
structure EnvN (K:PySem.W.Frag) (P:Hp) (n:Nat) (σ:St) (ρ:ae) (H:Hp) (M:Sto):Prop where
  q:EnvQ K σ ρ H M
  same:Same P (PH H M)
  lσ:σ.length=n
  lρ:ρ.length=n
def i3(K:PySem.W.Frag)(P:Hp)(n:Nat)(De:Ends):EndN where
  nx:=fun ρ M=>∀ σ H,EnvN K P n σ ρ H M->De.nx σ H
  bk:=fun ρ M=>∀ σ H,EnvN K P n σ ρ H M->De.bk σ H
  ct:=fun ρ M=>∀ σ H,EnvN K P n σ ρ H M->De.ct σ H
  rt:=fun d M=>∀ v H,Same P (PH H M)->MOk K H M->Rep K (PH H M) v d->De.rt v H
structure LeE (A B:EndN):Prop where
  nx:∀ ρ M,A.nx ρ M->B.nx ρ M
  bk:∀ ρ M,A.bk ρ M->B.bk ρ M
  ct:∀ ρ M,A.ct ρ M->B.ct ρ M
  rt:∀ d M,A.rt d M->B.rt d M
def twS(K:PySem.W.Frag)(P:Hp)(n:Nat)(t:NTS):TS:=fun De σ H=>∃ ρ M Ew,EnvN K P n σ ρ H M/\t Ew ρ M/\LeE Ew (i3 K P n De)
abbrev NS(X:Cx)(st:Stmt)(t:NTS):Prop:=∀ P n,PS X st (twS X.K P n t)
abbrev NSs(X:Cx)(st:List Stmt)(t:NTS):Prop:=∀ P n,PSs X st (twS X.K P n t)
theorem EnvN.next{K:PySem.W.Frag}{P:Hp}{n:Nat}{σ:St}{ρ:ae}{H H':Hp}{M M':Sto}(h:EnvN K P n σ ρ H M)(p:PostT K H M H' M'):EnvN K P n σ ρ H' M':=⟨h.q.next p,h.same.trans p.same,h.lσ,h.lρ⟩
theorem EnvN.set{K:PySem.W.Frag}{P:Hp}{n:Nat}{σ:St}{ρ:ae}{H:Hp}{M:Sto}(h:EnvN K P n σ ρ H M){i:Nat}{v:V}{d:D}(r:Rep K (PH H M) v d):EnvN K P n (σ.set i (some v)) (ρ.set i (some d)) H M :=
  ⟨⟨fun j e q=>by
    by_cases e1:j=i
    · subst e1
      have hl:j < ρ.length:=by have:=(List.getElem?_eq_some_iff.mp q).1;simpa using this
      rw[List.getElem?_set_self hl] at q
      cases q
      exact⟨v,List.getElem?_set_self (by rw[h.lσ,<- h.lρ];exact hl),r⟩
    · rw[List.getElem?_set_ne (Ne.symm e1)] at q
      obtain⟨v',h1,h2⟩:=h.q.env j e q
      exact⟨v',by rw[List.getElem?_set_ne (Ne.symm e1)];exact h1,h2⟩,h.q.ok⟩,h.same,by rw[List.length_set];exact h.lσ,by rw[List.length_set];exact h.lρ⟩
section
variable {X:Cx} {a b c:Expr} {ta tb tc tv:NTE} {tas:NTA} {ka:NTB} {pos p p2 p3 ap cp:Pos} {k:Nat} {st:Stmt} {aq body bs:List Stmt} {t u:NTS} {C:Addr} {ns:List Str} {x f:Str} {i:Nat}
theorem CZ:NSs X [] sN:=fun P n=>cY oC fun De σ H ⟨ρ,M,Ew,hE,ht,hl⟩=>hl.nx ρ M ht σ H hE
theorem D0(h1:NS X st t)(h2:NSs X aq u):NSs X (st::aq) (aw t u):=fun P n=>cY (ig (h1 P n) (h2 P n)) fun De σ H ⟨ρ,M,Ew,hE,ht,hl⟩ =>
  ⟨ρ,M,_,hE,ht,fun ρ' M' h' σ' H' hE'=>⟨ρ',M',Ew,hE',h',hl⟩,hl.bk,hl.ct,hl.rt⟩
theorem D1(h1:NS X st t):NSs X [st] t:=fun P n=>cY (lq (h1 P n)) fun De σ H h=>h
theorem D2:NSs X aq hW:=fun P n=>cY vq fun De σ H ⟨ρ,M,Ew,hE,ht,hl⟩=>ht.elim
theorem D3(hc:NT X c ka)(ha:NSs X body t)(hb:NSs X bs u):NS X (.If c body bs pos) (bB ka t u):=fun P n=>be (oE hc (ha P n) (hb P n)) fun De σ H ⟨ρ,M,Ew,hE,ht,hl⟩=>⟨ρ,M,_,hE.q,ht,fun k M1 hk H1 p1=>by
  cases k with
  | true=>exact dM ⟨ρ,M1,Ew,hE.next p1,hk.1 rfl,hl⟩
  | false=>exact dL ⟨ρ,M1,Ew,hE.next p1,hk.2 rfl,hl⟩⟩
theorem D4(he:NE X a ta):NS X (.Return (some a) pos) (bc ta):=fun P n=>be (gC he) fun De σ H ⟨ρ,M,Ew,hE,ht,hl⟩=>⟨ρ,M,_,hE.q,ht,fun d M1 h1 v H1 p1=>hl.rt d M1 h1 v H1 (hE.same.trans p1.same) p1.ok p1.rep⟩
theorem D5(i:Nat)(hN:X.N[i]?=some x:=by rfl)(hv:Vis X.env.scope x:=by first | exact Or.inl rfl | exact Or.inr (Or.inl rfl) | exact Or.inr (Or.inr rfl))(hd:(x == ("__debug__" : Str))=false:=by decide)(hcd:(x == ("__classdict__" : Str))=false:=by decide):NS X (.Return (some (.Name x p2)) pos) (kE i):=fun P n=>be (gC (fw hN hv hd hcd)) fun De σ H ⟨ρ,M,Ew,hE,⟨q,ds,h1,h2,h3⟩,hl⟩=>by
  obtain⟨v,hv,r⟩:=hE.q.env i _ (fE h1)
  cases r
  obtain⟨e1,e2⟩:=Co (a:=q) hE.q.ok
  obtain⟨xs,g1,g2⟩:=cU hE.q.ok h2
  refine⟨_,hv,hl.rt _ _ h3 _ H (hE.same.trans e1) e2 (.lst (.inl ?_) (aH e1 g2))⟩
  rw[PH.of mN];exact g1
theorem D6(i:Nat)(hN:X.N.Nodup)(he:NE X a ta)(hi:X.N[i]?=some x:=by rfl)(hx:Loc X.env.scope x:=by first | exact Or.inl rfl | exact Or.inr rfl)(hs:swapsWith a (some (.Name x p2)) pos.line X.env=pure false:=by rfl)(hfn:X.fn x=true\/X.env.scope.names.lookup x=some .local:=by first | exact .inl rfl | exact .inr rfl):NS X (.Assign [.Name x p2] a pos) (aV i ta):=fun P n =>
  be (jz hN hi hx he hs hfn) fun De σ H ⟨ρ,M,Ew,hE,ht,hl⟩=>⟨ρ,M,_,hE.q,ht,fun d M1 h1 v H1 p1=>hl.nx _ M1 h1 _ H1 ((hE.next p1.toPostT).set p1.rep)⟩
theorem rQ{K:PySem.W.Frag}{P:Hp}{n:Nat}{Q:St->Hp->Prop}{H:Hp}{M:Sto}:∀ {is:List Nat} {ds:List D} {xs:List V} {σ:St} {ρ:ae},EnvN K P n σ ρ H M->is.length=ds.length->Reps K (PH H M) xs ds ->
    (∀ σ',EnvN K P n σ' ((is.zip ds).foldl (fun r p=>r.set p.1 (some p.2)) ρ) H M->Q σ' H)->gP is xs σ H Q
  | [],[],_,σ,ρ,hE,_,r,hQ=>by cases r;exact⟨rfl,hQ σ hE⟩
  | [],_::_,_,_,_,_,h,_,_=>by cases h
  | _::_,[],_,_,_,_,h,_,_=>by cases h
  | i::is,d::ds,_,σ,ρ,hE,h,r,hQ=>by
    cases r with
    | cons r1 r2=>exact⟨_,_,rfl,rQ (hE.set r1) (by simpa using h) r2 hQ⟩
theorem D7(is:List Nat){ts:List Expr}{k:Nat}(hc:X.calm=true)(hN:X.N.Nodup)(he:NE X a ta)(ht:Tgs X ts is)(hn:(assignEach ts X.env).length=is.length:=by rfl)(hst:(assignEach ts X.env).findIdx? (·.1)=none:=by rfl)(hs:swapsWithSole [.Tuple ts k p2] a pos.line X.env=pure false:=by rfl)(hw:swappedStores [.Tuple ts k p2] a X.env=pure none:=by rfl)(h1:(assignEach [.Tuple ts k p2] X.env).map (·.2)=[assign (.Tuple ts k p2) X.env]:=by rfl):NS X (.Assign [.Tuple ts k p2] a pos) (kF is ta):=fun P n =>
  be (lu he (ij hc (Tgs.ok hN ht) hn hst) hs hw h1) fun De σ H ⟨ρ,M,Ew,hE,hw',hl⟩=>⟨ρ,M,_,hE.q,hw',fun d M1 ⟨ds,e1,e2,h2⟩ v H1 p1=>by
    subst e1
    obtain⟨q,xs,rfl,hq,hx⟩:=lY p1.rep
    have hE1:=hE.next p1.toPostT
    exact⟨q,xs,rfl,.inl (cL (aM _ _) hq),by rw[hx.length];exact e2,rQ hE1 e2.symm hx fun σ' hE'=>hl.nx _ M1 h2 σ' H1 hE'⟩⟩
theorem rR:∀ {ns:List Str} {vs:List V} {i:Nat} {f:Str} (y:V),vs.length=ns.length->ns.Nodup->ns[i]?=some f->bJ f y (ns.zip vs)=ns.zip (vs.set i y)
  | [],_,_,_,_,_,_,h=>by simp at h
  | _::_,[],_,_,_,h,_,_=>by simp at h
  | n::ns,w::vs,0,f,y,_,_,h=>by simp at h;subst h;simp[bJ]
  | n::ns,w::vs,i+1,f,y,hl,hn,h=>by
    have h1':ns[i]?=some f:=by simpa using h
    have ne:¬ (n=f):=fun e=>(List.nodup_cons.mp hn).1 (e ▸ List.mem_of_getElem? h1')
    rw[List.zip_cons_cons,List.set_cons_succ,List.zip_cons_cons,bJ,if_neg ne,rR y (by simpa using hl) (List.nodup_cons.mp hn).2 h1']
theorem rS:∀ {ns:List Str} {vs:List V} {f:Str} (y:V),vs.length=ns.length->¬ f ∈ ns->bJ f y (ns.zip vs)=(ns++[f]).zip (vs++[y])
  | [],[],f,y,_,_=>rfl
  | [],_::_,_,_,h,_=>by simp at h
  | _::_,[],_,_,h,_=>by simp at h
  | n::ns,w::vs,f,y,hl,hn=>by
    have ne:¬ (n=f):=fun e=>hn (e ▸ List.mem_cons_self)
    rw[List.zip_cons_cons,List.cons_append,List.cons_append,List.zip_cons_cons,bJ,if_neg ne,rS y (by simpa using hl) fun z=>hn (List.mem_cons_of_mem _ z)]
theorem D8(cl:Cls X.K C)(nat:NoAttr X.K C f)(ha:NE X a ta)(hv:NE X b tv)(hn:ns.Nodup:=by decide +kernel)(hi:ns[i]?=some f:=by rfl)(hlt:ns.length < 1000:=by decide)(hs:swapsWith b (some (.Attribute a f p2)) pos.line X.env=pure false:=by rfl):
    NS X (.Assign [.Attribute a f p2] b pos) (fP C ns i ta tv):=fun P n =>
  be (pb ha hv hs) fun De σ H ⟨ρ,M,Ew,hE,ht,hl⟩=>⟨ρ,M,_,hE.q,ht,fun d M1 h1 v H1 p1=>⟨ρ,M1,_,hE.q.next p1.toPostT,h1,fun x M2 ⟨q,ds,ex,hm,h2⟩ vx H2 p2=>by
    subst ex
    cases p2.rep
    obtain⟨dx,vs,g1,gl,g2⟩:=j3 p2.ok hm
    have rv:=ay p2.same p1.rep
    refine⟨q,C,dx,_,rfl,g1,cl,nat,by rw[List.length_zip,gl,Nat.min_self];exact hlt,?_⟩
    rw[rR _ gl hn hi]
    obtain⟨e1,e2⟩:=i0 (o:=.ins C dx (ns.zip (vs.set i v))) (c:=.ins C ns (ds.set i d)) p2.ok hm ⟨rfl,_,rfl,by rw[List.length_set];exact gl,g2.set rv i⟩
    exact hl.nx _ _ h2 σ _ ((hE.next (p1.toPostT.trans p2.toPostT)).next ⟨e1,e2⟩)⟩⟩
theorem D9(cl:Cls X.K C)(nat:NoAttr X.K C f)(ha:NE X a ta)(hv:NE X b tv)(hi:¬ f ∈ ns:=by decide +kernel)(hlt:ns.length < 1000:=by decide)(hs:swapsWith b (some (.Attribute a f p2)) pos.line X.env=pure false:=by rfl):
    NS X (.Assign [.Attribute a f p2] b pos) (cS C ns f ta tv):=fun P n =>
  be (pb ha hv hs) fun De σ H ⟨ρ,M,Ew,hE,ht,hl⟩=>⟨ρ,M,_,hE.q,ht,fun d M1 h1 v H1 p1=>⟨ρ,M1,_,hE.q.next p1.toPostT,h1,fun x M2 ⟨q,ds,ex,hm,h2⟩ vx H2 p2=>by
    subst ex
    cases p2.rep
    obtain⟨dx,vs,g1,gl,g2⟩:=j3 p2.ok hm
    have rv:=ay p2.same p1.rep
    refine⟨q,C,dx,_,rfl,g1,cl,nat,by rw[List.length_zip,gl,Nat.min_self];exact hlt,?_⟩
    rw[rS _ gl hi]
    obtain⟨e1,e2⟩:=i0 (o:=.ins C dx ((ns++[f]).zip (vs++[v]))) (c:=.ins C (ns++[f]) (ds++[d])) p2.ok hm ⟨rfl,_,rfl,by simp[gl],g2.append (.cons rv .nil)⟩
    exact hl.nx _ _ h2 σ _ ((hE.next (p1.toPostT.trans p2.toPostT)).next ⟨e1,e2⟩)⟩⟩
theorem rT:∀ {ns:List Str} {vs:List V} {i:Nat} {f:Str},vs.length=ns.length->ns[i]?=some f->((aS ns vs).any fun kv=>decide (kv.1=(Sum.inr f:Key)))=true
  | [],_,_,_,_,h=>by simp at h
  | _::_,[],_,_,h,_=>by simp at h
  | n::ns,w::vs,0,f,_,h=>by simp at h;subst h;simp[aS]
  | n::ns,w::vs,i+1,f,hl,h=>by
    have ih:=rT (ns:=ns) (vs:=vs) (i:=i) (f:=f) (by simpa using hl) (by simpa using h)
    have e:aS (n::ns) (w::vs)=(Sum.inr n,w)::aS ns vs:=rfl
    rw[e,List.any_cons,ih,Bool.or_true]
theorem rV:∀ {ns:List Str} {vs:List V} {f:Str} (y:V),¬ f ∈ ns->(aS ns vs).map (fun kv=>if kv.1=(Sum.inr f:Key) then (kv.1,y) else kv)=aS ns vs
  | [],_,_,_,_=>rfl
  | _::_,[],_,_,_=>rfl
  | n::ns,w::vs,f,y,h=>by
    have e:aS (n::ns) (w::vs)=(Sum.inr n,w)::aS ns vs:=rfl
    have ne:¬ ((Sum.inr n:Key)=Sum.inr f):=fun q=>h (Sum.inr.inj q ▸ List.mem_cons_self)
    rw[e,List.map_cons,if_neg ne,rV y fun z=>h (List.mem_cons_of_mem _ z)]
theorem rW:∀ {ns:List Str} {vs:List V} {i:Nat} {f:Str} (y:V),vs.length=ns.length->ns.Nodup->ns[i]?=some f->(aS ns vs).map (fun kv=>if kv.1=(Sum.inr f:Key) then (kv.1,y) else kv)=aS ns (vs.set i y)
  | [],_,_,_,_,_,_,h=>by simp at h
  | _::_,[],_,_,_,h,_,_=>by simp at h
  | n::ns,w::vs,0,f,y,_,hn,h=>by
    simp at h;subst h
    have e:aS (n::ns) (w::vs)=(Sum.inr n,w)::aS ns vs:=rfl
    rw[e,List.map_cons,if_pos rfl,rV y (List.nodup_cons.mp hn).1]
    rfl
  | n::ns,w::vs,i+1,f,y,hl,hn,h=>by
    have h1':ns[i]?=some f:=by simpa using h
    have e:aS (n::ns) (w::vs)=(Sum.inr n,w)::aS ns vs:=rfl
    have ne:¬ ((Sum.inr n:Key)=Sum.inr f):=fun q=>(List.nodup_cons.mp hn).1 (Sum.inr.inj q ▸ List.mem_of_getElem? h1')
    rw[e,List.map_cons,if_neg ne,rW y (by simpa using hl) (List.nodup_cons.mp hn).2 h1']
    rfl
theorem Da{vs:List V}(y:V)(hl:vs.length=ns.length)(hn:ns.Nodup)(hi:ns[i]?=some f):bK (aS ns vs) (.inr f) y=aS ns (vs.set i y):=by
  unfold bK
  rw[if_pos (rT hl hi),rW y hl hn hi]
theorem Db{j}(hr:Room k X.A)(ha:NE X a ta)(hv:NE X b tv)(hn:ns.Nodup:=by decide +kernel)(hi:ns[i]?=some f:=by rfl)(hlt:ns.length < 1000:=by decide)(hs:swapsWith b (some (.Subscript a (.Constant (.str f) j p3) p2)) pos.line X.env=pure false:=by rfl):
    NS X (.Assign [.Subscript a (.Constant (.str f) j p3) p2] b pos) (hX ns i ta tv):=fun P n =>
  be (xf (by have:=hr.un;omega) ha lm hv hs) fun De σ H ⟨ρ,M,Ew,hE,ht,hl⟩=>⟨ρ,M,_,hE.q,ht,fun d M1 h1 v H1 p1=>⟨ρ,M1,_,hE.q.next p1.toPostT,h1,fun x M2 ⟨q,ds,ex,hm,h2⟩ vx H2 p2=>by
    subst ex
    cases p2.rep
    obtain⟨vs,g1,gl,g2⟩:=rM p2.ok hm
    have rv:=ay p2.same p1.rep
    have hz:(aS ns vs).length < sizeLine:=by
      have:(aS ns vs).length=ns.length:=by simp[aS,gl]
      rw[this,sizeLine_eq];omega
    refine⟨q,_,rfl,.inl ⟨_,.inr f,g1,rfl,hz,rfl⟩,?_⟩
    rw[Da _ gl hn hi]
    obtain⟨e1,e2⟩:=i0 (o:=.dK (aS ns (vs.set i v))) (c:=.dic ns (ds.set i d)) p2.ok hm ⟨_,rfl,by rw[List.length_set];exact gl,g2.set rv i⟩
    exact hl.nx _ _ h2 σ _ ((hE.next (p1.toPostT.trans p2.toPostT)).next ⟨e1,e2⟩)⟩⟩
end
end VL
namespace VL
open PySem PySem.Spec PyProof.Rows L2
section
variable {X:Cx} {a b c e:Expr} {ta tb tc tv ti:NTE} {tas:NTA} {ka:NTB} {pos p p2 p3 ap cp pr pn:Pos} {k:Nat} {st:Stmt} {aq body bs:List Stmt} {t u tbd:NTS} {C:Addr} {ns:List Str} {x f:Str} {i:Nat}
theorem Dc(ha:NE X a ta)(he:NE X e tv)(hbase:attributeBase a "append" X.env (eval a X.env)=eval a X.env:=by rfl)(hfew:((backTo cp (starEach [e] X.env)).all (fun x=>!x.1) && (backToKw cp (keywordEach [] X.env)).all (fun x=>x.1.isSome)
      && decide (([e]:List Expr).length+([]:List Keyword).length+(if ([]:List Keyword).isEmpty then 0 else 1) < 30))=true:=by rfl)(hline:(ap.endLine == cp.line)=true:=by rfl)(hs:starEach [e] X.env=(false,eval e X.env)::starEach [] X.env:=by rfl)(hplain:(backTo cp (starEach [] X.env)).any (·.1)=false:=by rfl)(hsw:swapsWith (.Call (.Attribute a "append" ap) [e] [] cp) none pos.line X.env=pure false:=by rfl):
    NS X (.Expr (.Call (.Attribute a "append" ap) [e] [] cp) pos) (iY ta tv):=fun P n =>
  be (jx (lJ PySem.F.plainAttrs_list PySem.F.slot_list_append PySem.F.type_list_append lK ha (cq he cC hs) hbase hfew hline hs hplain) hsw) fun De σ H ⟨ρ,M,Ew,hE,ht,hl⟩=>⟨ρ,M,_,hE.q,ht,fun x M1 ⟨q,ds0,ex,hm0,h1⟩ vx H1 p1=>by
    subst ex
    cases p1.rep
    obtain⟨xs0,g0,_⟩:=cU p1.ok hm0
    refine⟨.inl ⟨rfl,xs0,.inl (.inl g0)⟩,ρ,M1,_,hE.q.next p1.toPostT,h1,fun v M2 ⟨ds,hm,hz,h2⟩ vv H2 p2=>?_⟩
    obtain⟨xs,g1,g2⟩:=cU p2.ok hm
    have len:=g2.length
    refine⟨q,xs,vv,rfl,rfl,g1,Nat.lt_of_lt_of_le (show xs.length < 100000 by omega) (by decide),?_⟩
    obtain⟨e1,e2⟩:=i0 (o:=.lst (xs++[vv])) (c:=.lst (ds++[v])) p2.ok hm (g2.append (.cons p2.rep .nil))
    exact hl.nx _ _ h2 σ _ ((hE.next (p1.toPostT.trans p2.toPostT)).next ⟨e1,e2⟩)⟩
theorem Dd(ha':NE X a ta)(hb:NE X b ti)(he:NE X e tv)(ha:∀ v,assign (.Subscript a b p3) X.env v=(do
      let ov <- holding [v] (eval a X.env)
      let iv <- holding [v,ov] (eval b X.env)
      standAt p3
      holding [v,ov,iv] (setItem ov iv v)
      release [v,ov,iv] []):=by intro _;rfl)(hs:swapsWithSole [.Subscript a b p3] e pos.line X.env=pure false:=by rfl)(hw:swappedStores [.Subscript a b p3] e X.env=pure none:=by rfl)(h1:(assignEach [.Subscript a b p3] X.env).map (·.2)=[assign (.Subscript a b p3) X.env]:=by rfl):
    NS X (.Assign [.Subscript a b p3] e pos) (dC ta ti tv):=fun P n =>
  be (lu he (vB ha' hb wB ha) hs hw h1) fun De σ H ⟨ρ,M,Ew,hE,ht,hl⟩=>⟨ρ,M,_,hE.q,ht,fun d M1 h1 v H1 p1=>⟨ρ,M1,_,hE.q.next p1.toPostT,h1,fun x M2 h2 vx H2 p2=>⟨ρ,M2,_,(hE.q.next p1.toPostT).next p2.toPostT,h2,fun y M3 ⟨q,ds,m,j,ex,hm,ey,hj,h3⟩ vy H3 p3=>by
    subst ex ey
    cases p2.rep
    cases p3.rep
    obtain⟨xs,g1,g2⟩:=cU p3.ok hm
    have rv:=ay (p2.same.trans p3.same) p1.rep
    have len:=g2.length
    obtain⟨e1,e2⟩:=i0 (o:=.lst (xs.set j v)) (c:=.lst (ds.set j d)) p3.ok hm (g2.set rv j)
    exact⟨q,xs,m,j,rfl,rfl,g1,by rw[len];exact hj,hl.nx _ _ h3 σ _ ((hE.next ((p1.toPostT.trans p2.toPostT).trans p3.toPostT)).next ⟨e1,e2⟩)⟩⟩⟩⟩
theorem Df{K:PySem.W.Frag}{P P1:Hp}{n:Nat}{De:Ends}{Ew:EndN}{N:St->Hp->Prop}{body:D->NTS}{r:List D}(hs:Same P P1)(hl:LeE Ew (i3 K P n De))(hN:∀ ρ M σ H,EnvN K P1 n σ ρ H M->cT body r Ew ρ M->N σ H):
    LeE { Ew with nx:=fun ρ M=>cT body r Ew ρ M,ct:=fun ρ M=>cT body r Ew ρ M,bk:=Ew.nx } (i3 K P1 n { De with nx:=N,ct:=N,bk:=De.nx }) where
  nx:=fun ρ M h σ H hE=>hN ρ M σ H hE h
  ct:=fun ρ M h σ H hE=>hN ρ M σ H hE h
  bk:=fun ρ M h σ H hE=>hl.nx ρ M h σ H ⟨hE.q,hs.trans hE.same,hE.lσ,hE.lρ⟩
  rt:=fun d M h v H h1 h2 h3=>hl.rt d M h v H (hs.trans h1) h2 h3
theorem rX{K:PySem.W.Frag}{P:Hp}{n m t:Nat}{lo:Int}{De:Ends}{Ew:EndN}{σ:St}{ρ:ae}{H:Hp}{M:Sto}(hE:EnvN K P n σ ρ H M)(hl:LeE Ew (i3 K P n De))(h:cT (fun x E ρ M=>tbd E (ρ.set t (some x)) M) ((List.range m).map fun k=>.int (lo+(k:Nat))) Ew ρ M):
    ∃ W:Nat->Nat->St->Hp->Prop,(∃ m,W 0 m σ H)/\∀ i m' σ H,W i m' σ H ->
      ((Itr lo m).stop i H/\De.nx σ H)\/((Itr lo m).go i H/\∃ N:St->Hp->Prop,(∀ σ' H',N σ' H'->∃ m'',m'' < m'/\W (i+1) m'' σ' H')/\∀ x H',(Itr lo m).yld i H x H'->bq t x σ H' fun σ2 H2=>twS K P n tbd { De with nx:=N,ct:=N,bk:=De.nx } σ2 H2):=by
  refine oO (lo:=lo) (n:=m) (g:=bq t) (tb:=twS K P n tbd) (D:=De) (fun i σ' H'=>∃ ρ' M',EnvN K P n σ' ρ' H' M'/\cT (fun x E ρ M=>tbd E (ρ.set t (some x)) M) (((List.range m).map fun k=>D.int (lo+(k:Nat))).drop i) Ew ρ' M') ⟨ρ,M,hE,by simpa using h⟩ ?_ ?_
  · rintro i σ' H' hi ⟨ρ',M',hE',hf'⟩
    have ed:((List.range m).map fun k=>D.int (lo+(k:Nat))).drop i=.int (lo+i)::((List.range m).map fun k=>D.int (lo+(k:Nat))).drop (i+1):=by
      rw[List.drop_eq_getElem_cons (by simpa using hi)]
      simp
    rw[ed] at hf'
    exact⟨_,M',_,hE'.set (.int _),hf',Df (Same.refl _) hl fun ρ M σ H hE h=>⟨ρ,M,hE,h⟩⟩
  · rintro σ' H' ⟨ρ',M',hE',hf'⟩
    rw[List.drop_eq_nil_of_le (by simp)] at hf'
    exact hl.nx _ _ hf' σ' H' hE'
theorem Dg(t:Nat)(hN:X.N.Nodup)(hc:X.calm=true)(mr:X.mg "range" = none)(hi:NA X [a] tas)(hb:NSs X body tbd)(hp:PassesOwn (model X.prog X.w) X.A X.env X.xe:=by exact PassesOwn.never)(hg:Gl X "range":=by rfl)(hst:starEach [a] X.env=[(false,eval a X.env)]:=by rfl)(hxN:X.N[t]?=some x:=by rfl)(hx:Loc X.env.scope x:=by first | exact Or.inl rfl | exact Or.inr rfl)(hfn:X.fn x=true\/X.env.scope.names.lookup x=some .local:=by first | exact .inl rfl | exact .inr rfl)(hs:∀ x,foldedSetIterable (.Call (.Name "range" pn) [a] [] pr) X.env x=pure x:=by intro _;rfl):NS X (.For (.Name x p2) (.Call (.Name "range" pn) [a] [] pr) body [] pos) (kG t tas tbd):=fun P n =>
  be (fy hp hc (jB hg mr hi hst) (bu hN hxN hx hfn) (hb P n) hs) fun De σ H ⟨ρ,M,Ew,hE,ht,hl⟩=>⟨ρ,M,_,hE.q,ht,fun ds M1 ⟨j,e1,hj,h1⟩ vs H1 p1=>by
    subst e1
    obtain⟨v,rfl,r⟩:=ez p1.rep
    cases r
    exact⟨j,rfl,hj.1,hj.2,rX (hE.next p1.toPostT) hl (by simpa using h1)⟩⟩
theorem Dh(t:Nat)(hN:X.N.Nodup)(hc:X.calm=true)(mr:X.mg "range" = none)(hi:NA X [a,b] tas)(hb:NSs X body tbd)(hp:PassesOwn (model X.prog X.w) X.A X.env X.xe:=by exact PassesOwn.never)(hg:Gl X "range":=by rfl)(hst:starEach [a,b] X.env=[(false,eval a X.env),(false,eval b X.env)]:=by rfl)(hst2:starEach [b] X.env=[(false,eval b X.env)]:=by rfl)(hxN:X.N[t]?=some x:=by rfl)(hx:Loc X.env.scope x:=by first | exact Or.inl rfl | exact Or.inr rfl)(hfn:X.fn x=true\/X.env.scope.names.lookup x=some .local:=by first | exact .inl rfl | exact .inr rfl)(hs:∀ x,foldedSetIterable (.Call (.Name "range" pn) [a,b] [] pr) X.env x=pure x:=by intro _;rfl):NS X (.For (.Name x p2) (.Call (.Name "range" pn) [a,b] [] pr) body [] pos) (kH t tas tbd):=fun P n =>
  be (fy hp hc (vF hg mr hi hst hst2) (bu hN hxN hx hfn) (hb P n) hs) fun De σ H ⟨ρ,M,Ew,hE,ht,hl⟩=>⟨ρ,M,_,hE.q,ht,fun ds M1 ⟨i,j,e1,hi',hj,h1⟩ vs H1 p1=>by
    subst e1
    obtain⟨v,w,rfl,r1,r2⟩:=lU p1.rep
    cases r1
    cases r2
    exact⟨i,j,rfl,⟨hi'.1,hi'.2,hj.1,hj.2⟩,rX (hE.next p1.toPostT) hl h1⟩⟩
end
theorem Di{P:Program}{w:World}{K:PySem.W.Frag}{mg:Str->Option Value}{base:Heap}{x qual:Str}{st:Stmt}{f:Addr}{fd:FuncData}{N ps:List Str}{k np n:Nat}{body:NTS}{T:NTF}(h1:ps.length=np)(h2:N.length=n)(h3:T=mkN np n body)(Fn:Fun K x qual st f fd)(S:FnScope N ps (ai st))(h:∀ (cdv:Value) (A:Around) (outer:List PySem.Env) (s:Shared) (H:Hp) (E:XK),Room k (A.deeper (envOfC qual (ai st) s.heap.objs.size f cdv)) ->
      NSs (cK CX0 P w K mg base N qual (ai st) f cdv A outer s H E).nox (aD st) body):
    FnOk P w K mg base CX0 (k+1) f fd ps (spN K T):=by
  subst h1 h2 h3
  have hpl:ps.length<=N.length:=by have:=congrArg List.length S.pre;rw[List.length_take] at this;omega
  refine Fn.ok S (fun vs H Q E h=>?_) (fun cdv A outer s H vs Q E hr h'=>?_)
  · obtain⟨ds,M,QW,r,_,hg,_⟩:=h
    rw[r.length,hg.1]
  · obtain⟨ds,M,QW,r,hok,⟨hl,ht⟩,hQ⟩:=h'
    have lv:=r.length
    refine⟨_,h cdv A outer s H E hr (PH H M) N.length,ds.map some++List.replicate (N.length - ps.length) none,M,_,⟨⟨fun i d q=>?_,hok⟩,Same.refl _,?_,?_⟩,ht,fun ρ M' hn σ' H' hE=>?_,fun ρ M' hn=>hn.elim,fun ρ M' hn=>hn.elim,fun d M' hd v H' e1 e2 e3=>?_⟩
    · have get:ds[i]?=some d:=by
        by_cases hi:i < ds.length
        · rw[List.getElem?_append_left (by simpa using hi),List.getElem?_map] at q
          cases e:ds[i]? with
          | none=>rw[e] at q;cases q
          | some z=>rw[e] at q;simpa using q
        · rw[List.getElem?_append_right (by simpa using hi),List.getElem?_replicate] at q
          split at q <;> cases q
      obtain⟨v,h2,h3⟩:=r.get get
      refine⟨v,?_,h3⟩
      unfold L2.start
      have hi:i < vs.length:=(List.getElem?_eq_some_iff.mp h2).1
      rw[List.getElem?_append_left (by simpa using hi),List.getElem?_map,h2]
      rfl
    · show (L2.start N vs).length=N.length
      unfold L2.start
      rw[List.length_append,List.length_map,List.length_replicate]
      omega
    · rw[List.length_append,List.length_map,List.length_replicate]
      omega
    · exact hQ _ M' hn _ H' ⟨⟨hE.same,hE.q.ok⟩,.non⟩
    · exact hQ d M' hd v H' ⟨⟨e1,e2⟩,e3⟩
theorem Dj{K:PySem.W.Frag}{T:NTF}{H:Hp}{a:Addr}{ns:List Int}{E:XK}(hS:SqL K H a (ns.map V.int))(h:T [.scr ns] (fun _=>none) fun d _=>d=.bl true):spN K T [.ref a] H (fun v _=>v=.bl true) E:=by
  have e:Same H (PH H fun _=>none):=pS (fun _ _ q=>q) fun b hb=>absurd rfl hb.1
  have ok:MOk K H (fun _=>none):=fun a c hc=>by cases hc
  refine⟨[.scr ns],fun _=>none,_,.cons (.scr (e.seq hS)) .nil,ok,h,fun d M' hd v H' p=>?_⟩
  subst hd
  cases p.rep
  rfl
def PPV(X:Cx)(pos:Pos)(keys:List (Option Expr))(vals:List Expr)(ns:List Str)(as:FEs)(es:List Es):Prop :=
  ∃ trs,PPs X pos keys vals trs/\keys.length=ns.length/\∀ σ H Q,(∃ ρ ds,EnvR X.K H σ ρ/\as ρ=some ds/\∀ vs H',Posts X.K σ ρ H es ds vs H'->Q ((ns.zip vs).map fun p=>(V.str p.1,p.2)) H')->jL trs σ H Q
section
variable {X:Cx} {a:Expr} {pos p2:Pos} {keys:List (Option Expr)} {vals:List Expr} {ns:List Str} {as:FEs} {ea eb:List Es} {fa:FE} {x:Str}
theorem Dk:PPV X pos [] [] [] ar []:=⟨[],xh,rfl,fun σ H Q ⟨ρ,ds,hE,hf,hQ⟩=>by cases hf;exact hQ [] H ⟨Same.refl H,.nil,fun _ _ _=>.nil⟩⟩
theorem Dl{j}(ha:VE X a fa ea)(hr:PPV X pos keys vals ns as eb):PPV X pos (some (.Constant (.str x) j p2)::keys) (a::vals) (x::ns) (ag fa as) (ea++eb):=by
  obtain⟨trs,h1,hl,h2⟩:=hr
  refine⟨_,xi lm ha h1,by simp[hl],fun σ H Q ⟨ρ,ds,hE,hf,hQ⟩=>?_⟩
  obtain⟨d,h3,hf⟩:=bind_some hf
  obtain⟨dr,h4,hf⟩:=bind_some hf
  cases hf
  refine⟨ρ,d,hE,h3,fun v H1 p1=>h2 σ H1 _ ⟨ρ,dr,hE.mono p1.same,h4,fun vs H2 p2=>hQ (v::vs) H2 ⟨p1.same.trans p2.same,.cons (ay p2.same p1.rep) p2.rep,fun A hA hz=>?_⟩⟩⟩
  exact .cons (ay (bD p2.same) (p1.av A hA fun z q=>hz z (List.mem_append_left _ q))) (p2.av A (hA.mono p1.same) fun z q=>(hz z (List.mem_append_right _ q)).mono p1.same)
theorem rY:∀ {ns:List Str} {vs:List V} {acc:List (Key × V)},vs.length=ns.length->ns.Nodup->(∀ x ∈ ns,bT acc (.inr x)=none)->dN acc (aS ns vs)=acc++aS ns vs
  | [],_,acc,_,_,_=>by simp[aS,dN]
  | _::_,[],_,h,_,_=>by simp at h
  | n :: ns,v::vs,acc,hl,hn,ha=>by
    have e:aS (n::ns) (v::vs)=(Sum.inr n,v)::aS ns vs:=rfl
    rw[e]
    show dN (bK acc (.inr n) v) (aS ns vs)=_
    rw[wU v (ha n List.mem_cons_self),rY (by simpa using hl) (List.nodup_cons.mp hn).2 fun x hx=>?_,List.append_assoc]
    · rfl
    · have ne:n ≠ x:=fun q=>(List.nodup_cons.mp hn).1 (q ▸ hx)
      have h0:=ha x (List.mem_cons_of_mem _ hx)
      unfold bT at h0 ⊢
      rw[List.find?_append]
      cases hf:List.find? (fun kv=>decide (kv.1=(Sum.inr x:Key))) acc with
      | some z=>rw[hf] at h0;cases h0
      | none=>simp[ne]
theorem Dm(h:PPV X pos keys vals ns as ea)(hn:ns.Nodup:=by decide +kernel)(hall:keys.all (·.isSome)=true:=by rfl)(hl:keys.length=vals.length:=by rfl)(h0:keys ≠ []:=by simp)(h15:keys.length<=15:=by decide):NE X (.Dict keys vals pos) (kC ns as):=by
  obtain⟨trs,h1,hk,h2⟩:=h
  refine aI (xk h1 hall hl h0 h15) fun σ H Q ⟨ρ,M,QW,hE,⟨ds,hf,hlen,hq⟩,hQ⟩ p hp=>h2 σ _ _ ⟨ρ,ds,hE.envR.mono (bh hp _),hf,fun vs H2 p2=>?_⟩
  have lv:=p2.rep.length
  have hpp:=p2.same _ _ b9
  refine⟨hpp,aS ns vs,by simp[aS,kV,Function.comp_def],by simp[aS];omega,?_⟩
  have em:dN [] (aS ns vs)=aS ns vs:=by rw[rY (by omega) hn fun x hx=>wT];rfl
  rw[em]
  have s0:Same H (upd H2 p (.dK (aS ns vs))):=fun b u q=>by
    rw[aC (bQ q hp)]
    exact p2.same _ _ (bh hp _ _ _ q)
  have hd:Dom (upd H p (.dK [])) (fun b=>inM M b\/b=p):=fun b hb=>by
    rcases hb with hb | rfl
    · exact fun z=>hE.ok.dom b hb ((bh hp _).free z)
    · rw[b9];exact fun z=>nomatch z
  have hav:∀ e ∈ ea,Av X.K (upd H p (.dK [])) σ ρ (fun b=>inM M b\/b=p) e:=fun e _=>by
    have up:Same (PH H M) (ao (upd H p (.dK [])) fun b=>inM M b\/b=p):=mS hp
    have full:∀ (j:Nat) (v:V) (d:D),σ[j]?=some (some v)->ρ[j]?=some (some d)->Rep X.K (ao (upd H p (.dK [])) fun b=>inM M b\/b=p) v d:=fun j v d h1 h2=>by
      obtain⟨v',h3,h4⟩:=hE.env j d h2
      rw[h1] at h3;cases h3
      exact ay up h4
    cases e with
    | full j=>exact full j
    | el j=>exact fun v d h1 h2=>(full j v d h1 h2).el
  have rr:=p2.av _ hd hav
  have up2:Same (ao H2 fun b=>inM M b\/b=p) (ao (upd H2 p (.dK (aS ns vs))) fun b=>inM M b\/b=p):=fun b u q=>by
    obtain⟨n,q⟩:=cw q
    rw[bg n,aC fun z=>n (.inr z)]
    exact q
  obtain⟨e1,e2⟩:=j2 (c:=.dic ns ds) hE.ok hp s0 b9 ⟨vs,rfl,by omega,aH up2 rr⟩
  exact hQ _ _ (hq p (hE.ok.fresh hp)) _ _ ⟨⟨e1,e2⟩,.ptr p⟩
end
end VL
namespace VL
open PySem PySem.Spec PyProof.Rows L2
section
variable {X:Cx} {elt tg iter a:Expr} {ifs:List Expr} {scope:Scope} {own cn:List Str} {caps:List Nat} {wi:TI} {g:TG} {tt:TT} {te:TE} {pos spos p2 pr pn:Pos} {tas:NTA} {tel:NTE} {x y:Str}
theorem rZ(B:BlkOk X scope own caps cn)(hc:X.calm=true)(hi:PI X tg iter wi)(hg:∀ s H cl ex,PG (blk X (own++cn) s H scope cl ex) tg g)(ht:∀ s H cl ex,PTs (blk X (own++cn) s H scope cl ex) ifs tt)(he:∀ s H cl ex,PE (blk X (own++cn) s H scope cl ex) elt te)(hs:∀ x,foldedSetIterable iter X.env x=pure x:=by intro _;rfl):
    PE X (.ListComp elt [⟨tg,iter,ifs,0⟩] scope pos) (gR own.length caps wi g tt te):=by
  intro pins s σ H Q I h
  obtain⟨cl,hclos,hcl,hha⟩:=m7 (scope:=scope) (env:=X.env) fun x hx hf=>I.ok.has x.1 (B.free x hx hf)
  rw[eval_ListComp]
  refine wpAny_comprehension_free (use:=none) rfl hs hclos B.kind B.locals (m9 B hc hi hg ht he I h hcl hha (RR:=fun acc C=>compPost (model X.prog X.w) X.A X.xe none (EP X pins σ Q) acc C) fun d c ys H' s' af q=>?_)
  obtain⟨m,hm⟩:=af.ns
  obtain⟨f0,f1,_,f3,f4,f5⟩:=af.cf
  refine⟨m,hm,fun h' sb=>⟨.ref d,_,af.inv.turned (t':=s'.toks) (it:=c) (fun b o hb e=>(sb.2 b hb).trans e) f0 f1 f3 f4 f5,rfl,q⟩⟩
theorem sd(i:Nat)(hN:X.N.Nodup)(B:BlkOk X scope own caps cn)(hc:X.calm=true)(hi:PI X tg iter wi)(hg:∀ s H cl ex,PG (blk X (own++cn) s H scope cl ex) tg g)(ht:∀ s H cl ex,PTs (blk X (own++cn) s H scope cl ex) ifs tt)(he:∀ s H cl ex,PE (blk X (own++cn) s H scope cl ex) elt te)(hsw:swapsWith (.ListComp elt [⟨tg,iter,ifs,0⟩] scope pos) (some (.Name x p2)) spos.line X.env=pure true)(hxi:X.N[i]?=some x)(hx:Loc X.env.scope x)(hfn:X.fn x=true\/X.env.scope.names.lookup x=some .local)(hs:∀ x,foldedSetIterable iter X.env x=pure x:=by intro _;rfl):
    PS X (.Assign [.Name x p2] (.ListComp elt [⟨tg,iter,ifs,0⟩] scope pos) spos) (ls (gR own.length caps wi g tt te) (bq i)):=by
  intro pins s σ H De I h
  obtain⟨cl,hclos,hcl,hha⟩:=m7 (scope:=scope) (env:=X.env) fun x hx hf=>I.ok.has x.1 (B.free x hx hf)
  rw[exec_Assign_Name_used _ _ _ _ hsw]
  refine wpAny_bind (wpAny_standAt (wpAny_bind ?_))
  show wpAny _ X.A (do let _ <- comprehension (.ListComp elt [⟨tg,iter,ifs,0⟩] scope pos) scope X.env _ (newList []) false (eval iter X.env) (some (assign (.Name x p2) X.env))) _ _ s
  refine wpAny_bind (wpAny_mono (wpAny_comprehension_free (use:=some (assign (.Name x p2) X.env)) (Q:=fun _ s'=>SP X pins De .next s') rfl hs hclos B.kind B.locals
    (m9 B hc hi hg ht he I h hcl hha (RR:=fun acc C=>compPost (model X.prog X.w) X.A X.xe (some (assign (.Name x p2) X.env)) (fun _ s'=>SP X pins De .next s') acc C) fun d c ys H' s' af q=>?_)) (fun _ s' hq=>wpAny_pure (wpAny_pure hq)) fun _ _ e=>e)
  obtain⟨m,hm⟩:=af.ns
  obtain⟨f0,f1,_,f3,f4,f5⟩:=af.cf
  show wpAny _ X.A (assign (.Name x p2) X.env (.ref d)) _ _ _
  refine wpAny_assign_Name (ow af.inv hN hxi hx (show RelV (.ref d) (.ref d) from rfl) (fun s2 I2 ⟨a,sb,ha⟩=>?_) hfn)
  have ac:c ≠ a:=by
    rcases ha with z | z
    · exact fun e=>f1 (e.trans z)
    · exact fun e=>f4 x a z e.symm
  refine⟨m,hm.sameBut sb ac,fun h' sb'=>⟨_,_,I2.turned (t':=s2.toks) (it:=c) (fun b o hb e=>(sb'.2 b hb).trans e) f0 f1 f3 f4 f5,q⟩⟩
theorem se{K:PySem.W.Frag}{P:Hp}{σ σb:St}{ρ:ae}{caps:List Nat}{v:V}{d:D}(hE:EnvR K P σ ρ)(hlen:σb.length=1+caps.length)(hcap:∀ k,1<=k->σb[k]?=(ck σ caps)[k - 1]?)(r:Rep K P v d):
    EnvR K P (σb.set 0 (some v)) ((aW 1 caps ρ).set 0 (some d)):=fun j d' q=>by
  cases j with
  | zero =>
    rw[List.getElem?_set_self (by simp[aW])] at q
    cases q
    exact⟨v,List.getElem?_set_self (by omega),r⟩
  | succ j =>
    rw[List.getElem?_set_ne (by omega)] at q
    unfold aW at q
    rw[List.getElem?_append_right (by simp)] at q
    simp only[List.length_replicate,Nat.add_sub_cancel,List.getElem?_map] at q
    cases hk:caps[j]? with
    | none=>rw[hk] at q;cases q
    | some k =>
      rw[hk] at q
      simp only[Option.map_some,Option.some.injEq] at q
      cases e:ρ[k]? with
      | none=>rw[e] at q;cases q
      | some o' =>
        rw[e] at q
        simp only[Option.getD_some] at q
        subst q
        obtain⟨w,h1,h2⟩:=hE k d' e
        refine⟨w,?_,h2⟩
        rw[List.getElem?_set_ne (by omega),hcap (j+1) (by omega)]
        simp[ck,hk,h1]
theorem Dn{K:PySem.W.Frag}{caps:List Nat}{σ:St}{H:Hp}{Q:VK}(h:tw K (hZ caps tas tel) σ H Q):gR 1 caps (oM (twA K tas)) (bq 0) (fun _ H Q=>Q true H) (tw K tel) σ H Q:=by
  obtain⟨ρ,M,QW,hE,ht,hQ⟩:=h
  refine⟨ρ,M,_,hE,ht,fun ds M1 ⟨j,e1,hj,hj2,h1⟩ vs H1 p1=>?_⟩
  subst e1
  obtain⟨v,rfl,r⟩:=ez p1.rep
  cases r
  refine⟨j,rfl,hj.1,hj.2,?_⟩
  have hE1:=hE.next p1.toPostT
  let L:List D:=(List.range j.toNat).map fun k=>.int (k:Nat)
  have lL:L.length=j.toNat:=by simp[L]
  refine⟨fun i m ys σb H2=>m=j.toNat - i/\i<=j.toNat/\(σb.length=1+caps.length/\∀ k,1<=k->σb[k]?=(ck σ caps)[k - 1]?) /\
    ∃ M2 done,PostT K H1 M1 H2 M2/\Reps K (PH H2 M2) ys done/\done.length=i/\dc 1 tel (aW 1 caps ρ) (L.drop i) done M2 fun ds M2=>QW (.lst ds) M2,?_,?_⟩
  · refine⟨j.toNat,by simp,Nat.zero_le _,⟨by simp[ck];omega,fun k hk=>?_⟩,M1,[],PostT.refl p1.ok,.nil,rfl,by simpa using h1⟩
    rw[List.getElem?_append_right (by simpa using hk)]
    simp
  · rintro i m ys σb H2 ⟨rfl,hi,⟨hlen,hcap⟩,M2,done,pt,hr,hdl,hgo⟩
    have lys:=hr.length
    refine⟨by rw[sizeLine_eq];omega,?_⟩
    by_cases hlt:i < j.toNat
    · have ed:L.drop i=.int (i:Nat)::L.drop (i+1):=by
        rw[List.drop_eq_getElem_cons (by omega)]
        simp[L]
      rw[ed] at hgo
      refine .inr ⟨hlt,fun x H3 hy=>?_⟩
      obtain⟨e3,e4⟩:=hy
      subst e3 e4
      rw[Int.zero_add]
      unfold bq
      dsimp only
      rw[if_pos rfl]
      refine⟨_,M2,_,⟨se (hE1.env.mono pt.same) hlen hcap (.int _),pt.ok⟩,hgo,fun d M3 h3 w H4 p4=>?_⟩
      refine⟨j.toNat - (i+1),by omega,rfl,hlt,⟨by rw[List.length_set];exact hlen,fun k hk=>by rw[List.getElem?_set_ne (by omega)];exact hcap k hk⟩,M3,done++[d],pt.trans p4.toPostT,(aH p4.same hr).append (.cons p4.rep .nil),by simp[hdl],h3⟩
    · have e:i=j.toNat:=by omega
      subst e
      rw[List.drop_eq_nil_of_le (by omega)] at hgo
      refine .inl ⟨Nat.le_refl _,fun l hl=>?_⟩
      have hn:=pt.ok.fresh hl
      refine hQ _ M2 hgo _ _ ⟨(p1.toPostT.trans pt).trans (PostT.of pt.ok (bh hl _)),.lst (.inl ?_) (aH (PH.up (bh hl _)) hr)⟩
      rw[PH.of hn];exact b9
theorem Do(B:BlkOk X scope [y] caps cn)(hc:X.calm=true)(mr:X.mg "range" = none)(hi:NA X [a] tas)(hg:∀ s H cl ex,PG (blk X ([y]++cn) s H scope cl ex) tg (bq 0))(he:∀ s H cl ex,NE (blk X ([y]++cn) s H scope cl ex) elt tel)(hgr:Gl X "range":=by rfl)(hst:starEach [a] X.env=[(false,eval a X.env)]:=by rfl)(hs:∀ x,foldedSetIterable (.Call (.Name "range" pn) [a] [] pr) X.env x=pure x:=by intro _;rfl):
    NE X (.ListComp elt [⟨tg,.Call (.Name "range" pn) [a] [] pr,[],0⟩] scope pos) (hZ caps tas tel) :=
  aI (rZ B hc (jB hgr mr hi hst) hg (fun _ _ _ _=>iM) he hs) fun _ _ _ h=>Dn h
end
section
variable {X:Cx} {a b:Expr} {tas:NTA} {pos p:Pos}
theorem sf{g:D->Option D}(h:∀ x d,g x=some d->b0 d=true)(ds:List D)(d:D)(e:aL g ds=some d):b0 d=true:=by
  obtain⟨x,_,h2⟩:=jT e
  exact h x d h2
theorem Dp(ml:X.mg "len" = none)(ha:NA X [a] tas)(hg:Gl X "len":=by rfl)(he:starEach [a] X.env=(false,eval a X.env)::starEach [] X.env:=by rfl)(hpl:(backTo pos (starEach [] X.env)).any (·.1)=false:=by rfl):
    NE X (.Call (.Name "len" p) [a] [] pos) (dZ (aL bz) tas):=rP pF qa ml PySem.boot_len ha (sf fun x d h=>by obtain⟨_,_,h⟩:=bind_some h;cases h;rfl) hg (by decide) (by decide) he hpl
theorem Dq(hc:X.calm=true)(ml:X.mg "sum" = none)(ha:NA X [a] tas)(hg:Gl X "sum":=by rfl)(he:starEach [a] X.env=(false,eval a X.env)::starEach [] X.env:=by rfl)(hpl:(backTo pos (starEach [] X.env)).any (·.1)=false:=by rfl):
    NE X (.Call (.Name "sum" p) [a] [] pos) (dZ (aL cN) tas):=rP (qd hc) qe ml PyProof.Rows.boot_sum ha (sf fun x d h=>by
      unfold cN at h
      split at h
      · cases h
      · obtain⟨_,_,h⟩:=bind_some h
        obtain⟨_,_,h⟩:=bind_some h
        cases h;rfl) hg (by decide) (by decide) he hpl
end
end VL
namespace VL
open PySem PySem.Spec PyProof.Rows L2
theorem sg{K:PySem.W.Frag}{H:Hp}{M:Sto}{v:V}{d:D}(h:MOk K H M)(r:Rep K (PH H M) v d):Rep K H v (vw2 M d):=by
  cases r with
  | ptr a =>
    show Rep K H (.ref a) (match M a with | some (.lst ds)=>.lst (ds.map (vw1 M)) | _=>.ptr a)
    split
    · rename_i ds hm
      obtain⟨xs,g1,g2⟩:=cU h hm
      exact .lst (.inl g1) (mT h g2)
    · exact .ptr a
  | non=>exact .non
  | bl b=>exact .bl b
  | int b=>exact .int b
  | str b=>exact .str b
  | lst h1 h2=>exact ay (aM _ _) (.lst h1 h2)
  | tup h1 h2=>exact ay (aM _ _) (.tup h1 h2)
  | scr h1=>exact ay (aM _ _) (.scr h1)
  | dct h1=>exact ay (aM _ _) (.dct h1)
theorem j4{K:PySem.W.Frag}{H:Hp}{M:Sto}(h:MOk K H M):∀ {vs:List V} {ds:List D},Reps K (PH H M) vs ds->Reps K H vs (ds.map (vw2 M))
  | [],_,r=>by cases r;exact .nil
  | _::_,_,r=>by cases r with | cons a t=>exact .cons (sg h a) (j4 h t)
theorem sh{K:PySem.W.Frag}{H H':Hp}:∀ {xs:List Int} {vs:List V},Reps K H vs (xs.map D.int)->Reps K H' vs (xs.map D.int)
  | [],_,r=>by cases r;exact .nil
  | _::_,_,r=>by cases r with | cons a t=>cases a;exact .cons (.int _) (sh t)
section
variable {X:Cx} {a b c:Expr} {ta tb tc:NTE} {tas:NTA} {pos p p2 ap cp:Pos} {k:Nat} {ps:List Str} {x m:Str} {es:List Expr} {T:NTF} {G:List D->Option D} {fr:Bool} {C:Addr} {ns:List Str} {fa:FE} {ea:List Es}
theorem Dr(d:Def X.prog X.w X.K X.mg X.base x k ps G fr)(hr:Room k X.A)(ha:NA X (a::es) tas)(hg:Gl X x:=by rfl)(hdb:(x == ("__debug__" : Str))=false:=by decide)(he:starEach (a::es) X.env=(false,eval a X.env)::starEach es X.env:=by rfl)(hpl:(backTo pos (starEach es X.env)).any (·.1)=false:=by rfl):
    NE X (.Call (.Name x p) (a::es) [] pos) (kI G tas) :=
  let ⟨_,_,F,hm,hk,hb⟩:=d
  aI (fB F hr hg hm hk hb .nil dk ha hdb he hpl) fun σ H Q ⟨ρ,M,QW,hE,ht,hQ⟩=>⟨ρ,M,_,hE,ht,fun ds M1 ⟨d,hf,hs,hq⟩ vs H1 p=>by
    show spF X.K G fr (vs++[]) H1 Q E0
    rw[List.append_nil]
    have rv:=j4 p.ok p.rep
    exact⟨_,d,rv,hf,fun v H' r=>hQ d M1 hq v H' ⟨p.toPostT.trans (PostT.of p.ok r.same),io hs (r.rep cV (Dom.none _) (aH (gF _) rv))⟩⟩⟩
theorem Ds(d:Def X.prog X.w X.K X.mg X.base x k ps G true)(hr:Room k X.A)(ha:NA X (a::es) tas)(hg:Gl X x:=by rfl)(hdb:(x == ("__debug__" : Str))=false:=by decide)(he:starEach (a::es) X.env=(false,eval a X.env)::starEach es X.env:=by rfl)(hpl:(backTo pos (starEach es X.env)).any (·.1)=false:=by rfl):
    NE X (.Call (.Name x p) (a::es) [] pos) (kJ G tas) :=
  let ⟨_,_,F,hm,hk,hb⟩:=d
  aI (fB F hr hg hm hk hb .nil dk ha hdb he hpl) fun σ H Q ⟨ρ,M,QW,hE,ht,hQ⟩=>⟨ρ,M,_,hE,ht,fun ds M1 ⟨d,hf,⟨xs,ex⟩,hq⟩ vs H1 p=>by
    show spF X.K G true (vs++[]) H1 Q E0
    rw[List.append_nil]
    have rv:=j4 p.ok p.rep
    subst ex
    refine⟨_,_,rv,hf,fun v H' r=>hQ _ M1 hq v H' ⟨p.toPostT.trans (PostT.of p.ok r.same),?_⟩⟩
    obtain⟨l,ys,es,rfl,e2,hl0,hl1,hA⟩:=r.new rfl
    cases e2
    refine .lst (.inl ?_) (sh (hA cV (Dom.none _) (aH (gF _) rv)))
    rw[PH.of (p.ok.fresh hl0)];exact hl1⟩
theorem Dt(d:DefX X.prog X.w X.K X.mg X.base x k ps G)(hr:Room k X.A)(ha:NA X (a::es) tas)(hg:Gl X x:=by rfl)(hdb:(x == ("__debug__" : Str))=false:=by decide)(he:starEach (a::es) X.env=(false,eval a X.env)::starEach es X.env:=by rfl)(hpl:(backTo pos (starEach es X.env)).any (·.1)=false:=by rfl):
    NE X (.Call (.Name x p) (a::es) [] pos) (kK G tas) :=
  let ⟨_,_,F,hm,hk,hb⟩:=d
  aI (fB F hr hg hm hk hb .nil dk ha hdb he hpl) fun σ H Q ⟨ρ,M,QW,hE,ht,hQ⟩=>⟨ρ,M,_,hE,ht,fun ds M1 ⟨d,hf,hq⟩ vs H1 p=>by
    show spX X.K G (vs++[]) H1 Q E0
    rw[List.append_nil]
    have rv:=j4 p.ok p.rep
    refine⟨_,_,rv,hf,fun v H' r=>hQ _ M1 hq v H' ⟨p.toPostT.trans (PostT.of p.ok r.same),?_⟩⟩
    obtain⟨l,bs,dss,rfl,rfl,hnd,hnew,hl,hin⟩:=r.new
    have out:∀ b,b=l\/b ∈ bs->¬ inM M1 b:=fun b hb q=>p.ok.dom b q (hnew b hb)
    refine .lst (.inl ?_) ((hin (inM M1)).reps (fun _ q=>q) fun b hb=>out b (.inr hb))
    show ao H' (inM M1) l=_
    rw[bg (out l (.inl rfl))];exact hl⟩
theorem Du(ml:X.mg "list" = none)(ha:NE X a ta)(hg:Gl X "list":=by rfl)(he:starEach [a] X.env=(false,eval a X.env)::starEach [] X.env:=by rfl)(hpl:(backTo pos (starEach [] X.env)).any (·.1)=false:=by rfl):
    NE X (.Call (.Name "list" p) [a] [] pos) (iZ ta) :=
  aI (py pG hg ml (by decide +kernel) (cq ha cC he) (by decide) (by decide) he hpl) fun σ H Q ⟨ρ,M,QW,hE,ht,hQ⟩=>by
    refine⟨ρ,M,_,hE,ht,fun d M1 ⟨ds,hd,hq⟩ v H1 p1=>?_⟩
    have key:∃ q xs,v=.ref q/\SqL X.K H1 q xs/\Reps X.K (PH H1 M1) xs ds:=by
      cases d with
      | ptr b =>
        cases p1.rep
        cases hm:M1 b with
        | none=>simp[vw1,hm] at hd
        | some c =>
          cases c with
          | lst es =>
            simp only[vw1,hm] at hd
            cases hd
            obtain⟨xs,g1,g2⟩:=cU p1.ok hm
            exact⟨b,xs,rfl,SqL.of g1,g2⟩
          | dic _ _=>simp[vw1,hm] at hd
          | ins _ _ _=>simp[vw1,hm] at hd
          | dcT _ _=>simp[vw1,hm] at hd
      | lst es =>
        cases hd
        obtain⟨q,xs,rfl,hq,hx,_⟩:=dR p1.rep rfl rfl
        exact⟨q,xs,rfl,(aM _ _).seq hq,hx⟩
      | _=>cases hd
    obtain⟨q,xs,rfl,hq',hx⟩:=key
    exact⟨q,xs,rfl,.inl hq',fun l hl=>by
      have hn:=p1.ok.fresh hl
      refine hQ _ M1 hq _ _ ⟨p1.toPostT.trans (PostT.of p1.ok (bh hl _)),.lst (.inl ?_) (aH (PH.up (bh hl _)) hx)⟩
      rw[PH.of hn];exact b9⟩
end
section
variable {X:Cx} {elt tg iter a:Expr} {scope:Scope} {cn:List Str} {caps:List Nat} {pos spos p2 pr pn:Pos} {tit tel:NTE} {x y:Str}
theorem mV{K:PySem.W.Frag}{σ:St}{H:Hp}{Q:VK}{fin:List D->Sto->QE->Prop}(hfin:∀ {ds:List D} {M2:Sto} {QW:QE} {H2:Hp} {ys:List V} {l:Addr} {H0:Hp} {M0:Sto},fin ds M2 QW->PostT K H0 M0 H2 M2->Reps K (PH H2 M2) ys ds->H2 l=none->∃ d M3,QW d M3/\PostW K H0 M0 d (.ref l) (upd H2 l (.lst ys)) M3)(h:tw K (fun ρ M Q=>tit ρ M fun d M1=>∃ ds,bM d=some ds/\ds.length<=1000/\dc 1 tel (aW 1 caps ρ) ds [] M1 fun ds M2=>fin ds M2 Q) σ H Q):gR 1 caps (oJ K (tw K tit)) (bq 0) (fun _ H Q=>Q true H) (tw K tel) σ H Q:=by
  obtain⟨ρ,M,QW,hE,ht,hQ⟩:=h
  refine⟨ρ,M,_,hE,ht,fun d M1 ⟨L,hds,hll,h1⟩ v H1 p1=>?_⟩
  have hsd:=kn hds
  obtain⟨q,xs,rfl,hq,hx',hA⟩:=dR p1.rep hsd.2 hsd.1
  have len:=hx'.length
  refine⟨q,rfl,⟨xs,(aM _ _).seq hq⟩,?_⟩
  have hE1:=hE.next p1.toPostT
  refine⟨fun i m ys σb H2=>m=xs.length - i/\i<=xs.length/\(σb.length=1+caps.length/\∀ k,1<=k->σb[k]?=(ck σ caps)[k - 1]?) /\
    ∃ M2 done,PostT K H1 M1 H2 M2/\Reps K (PH H2 M2) ys done/\done.length=i/\dc 1 tel (aW 1 caps ρ) (L.drop i) done M2 fun ds M2=>fin ds M2 QW,?_,?_⟩
  · refine⟨xs.length,by simp,Nat.zero_le _,⟨by simp[ck];omega,fun k hk=>?_⟩,M1,[],PostT.refl p1.ok,.nil,rfl,by simpa using h1⟩
    rw[List.getElem?_append_right (by simpa using hk)]
    simp
  · rintro i m ys σb H2 ⟨rfl,hi,⟨hlen,hcap⟩,M2,done,pt,hr,hdl,hgo⟩
    have lys:=hr.length
    have sq:SqL K H2 q xs:=(aM _ _).seq (pt.same.seq hq)
    refine⟨by rw[sizeLine_eq];omega,?_⟩
    by_cases hlt:i < xs.length
    · obtain⟨dy,h4,h5⟩:=hx'.getV (List.getElem?_eq_getElem hlt)
      have ed:L.drop i=dy::L.drop (i+1):=by
        rw[List.drop_eq_getElem_cons (by omega)]
        have e2:L[i]'(by omega)=dy:=(List.getElem?_eq_some_iff.mp h4).2
        rw[e2]
      rw[ed] at hgo
      refine .inr ⟨⟨xs,xs[i],sq,List.getElem?_eq_getElem hlt⟩,fun x H3 hy=>?_⟩
      obtain⟨e4,e5⟩:=hy
      subst e4
      have e6:=e5 xs sq
      rw[List.getElem?_eq_getElem hlt] at e6
      cases e6
      unfold bq
      dsimp only
      rw[if_pos rfl]
      refine⟨_,M2,_,⟨se (hE1.env.mono pt.same) hlen hcap (ay pt.same h5),pt.ok⟩,hgo,fun d M3 h3 w H4 p4=>?_⟩
      refine⟨xs.length - (i+1),by omega,rfl,hlt,⟨by rw[List.length_set];exact hlen,fun k hk=>by rw[List.getElem?_set_ne (by omega)];exact hcap k hk⟩,M3,done++[d],pt.trans p4.toPostT,(aH p4.same hr).append (.cons p4.rep .nil),by simp[hdl],h3⟩
    · have e:i=xs.length:=by omega
      subst e
      rw[List.drop_eq_nil_of_le (by omega)] at hgo
      refine .inl ⟨⟨xs,sq,Nat.le_refl _⟩,fun l hl=>?_⟩
      obtain⟨d,M3,g1,g2⟩:=hfin hgo (p1.toPostT.trans pt) hr hl
      exact hQ d M3 g1 _ _ g2
theorem Dv{K:PySem.W.Frag}{ds:List D}{M2:Sto}{QW:QE}{H2:Hp}{ys:List V}{l:Addr}{H0:Hp}{M0:Sto}(hgo:QW (.lst ds) M2)(pt:PostT K H0 M0 H2 M2)(hr:Reps K (PH H2 M2) ys ds)(hl:H2 l=none):∃ d M3,QW d M3/\PostW K H0 M0 d (.ref l) (upd H2 l (.lst ys)) M3:=by
  have hn:=pt.ok.fresh hl
  refine⟨_,M2,hgo,pt.trans (PostT.of pt.ok (bh hl _)),.lst (.inl ?_) (aH (PH.up (bh hl _)) hr)⟩
  rw[PH.of hn];exact b9
theorem sj{K:PySem.W.Frag}{ds:List D}{M2:Sto}{QW:QE}{H2:Hp}{ys:List V}{l:Addr}{H0:Hp}{M0:Sto}(hgo:∀ a,M2 a=none->QW (.ptr a) (aG M2 a (.lst ds)))(pt:PostT K H0 M0 H2 M2)(hr:Reps K (PH H2 M2) ys ds)(hl:H2 l=none):∃ d M3,QW d M3/\PostW K H0 M0 d (.ref l) (upd H2 l (.lst ys)) M3:=by
  have hn:=pt.ok.fresh hl
  obtain⟨e1,e2⟩:=j2 (c:=.lst ds) pt.ok hl (bh hl (.lst ys)) b9 (aH (mS hl) hr)
  exact⟨_,_,hgo l hn,pt.trans ⟨e1,e2⟩,.ptr l⟩
theorem Dw(B:BlkOk X scope [y] caps cn)(hc:X.calm=true)(hi:NE X iter tit)(hg:∀ s H cl ex,PG (blk X ([y]++cn) s H scope cl ex) tg (bq 0))(he:∀ s H cl ex,NE (blk X ([y]++cn) s H scope cl ex) elt tel)(hs:∀ x,foldedSetIterable iter X.env x=pure x:=by intro _;rfl):
    NE X (.ListComp elt [⟨tg,iter,[],0⟩] scope pos) (fQ caps tit tel) :=
  aI (rZ B hc (gD hi) hg (fun _ _ _ _=>iM) he hs) fun _ _ _ h=>mV (fin:=fun ds M2 Q=>∀ a,M2 a=none->Q (.ptr a) (aG M2 a (.lst ds))) sj h
end
section
variable {X:Cx} {a b c e:Expr} {ta tb tc tv ti:NTE} {tas:NTA} {pos p p2 p3 ap cp pr pn:Pos} {st:Stmt} {aq body bs:List Stmt} {t u tbd:NTS} {x f:Str} {i:Nat}
theorem Dx(ha:NE X a ta)(hbase:attributeBase a "reverse" X.env (eval a X.env)=eval a X.env:=by rfl)(hline:(ap.endLine == cp.line)=true:=by rfl)(hsw:swapsWith (.Call (.Attribute a "reverse" ap) [] [] cp) none pos.line X.env=pure false:=by rfl):
    NS X (.Expr (.Call (.Attribute a "reverse" ap) [] [] cp) pos) (j1 ta):=fun P n =>
  be (jx (wG PySem.F.plainAttrs_list PySem.F.slot_list_reverse PySem.F.type_list_reverse wK ha hbase hline) hsw) fun De σ H ⟨ρ,M,Ew,hE,ht,hl⟩=>⟨ρ,M,_,hE.q,ht,fun x M1 ⟨q,ds,ex,hm,h1⟩ vx H1 p1=>by
    subst ex
    cases p1.rep
    obtain⟨xs,g1,g2⟩:=cU p1.ok hm
    refine⟨.inl ⟨rfl,xs,.inl (.inl g1)⟩,q,xs,rfl,rfl,g1,?_⟩
    obtain⟨e1,e2⟩:=i0 (o:=.lst xs.reverse) (c:=.lst ds.reverse) p1.ok hm g2.reverse
    exact hl.nx _ _ h1 σ _ ((hE.next p1.toPostT).next ⟨e1,e2⟩)⟩
theorem mW{K:PySem.W.Frag}{H:Hp}:∀ {bs:List Nat} {vs:List V},Reps K H vs (bs.map D.ptr)->vs=bs.map V.ref
  | [],_,r=>by cases r;rfl
  | _::_,_,r=>by cases r with | cons a t=>cases a;rw[mW t];rfl
theorem Dy{K:PySem.W.Frag}{P P1:Hp}{n:Nat}{De:Ends}{Ew:EndN}{N:St->Hp->Prop}{body:D->NTS}{r all:List D}{q:Nat}(hs:Same P P1)(hl:LeE Ew (i3 K P n De))(hN:∀ ρ M σ H,EnvN K P1 n σ ρ H M->dh body q all r Ew ρ M->N σ H):
    LeE { Ew with nx:=fun ρ M=>dh body q all r Ew ρ M,ct:=fun ρ M=>dh body q all r Ew ρ M,bk:=Ew.nx } (i3 K P1 n { De with nx:=N,ct:=N,bk:=De.nx }) where
  nx:=fun ρ M h σ H hE=>hN ρ M σ H hE h
  ct:=fun ρ M h σ H hE=>hN ρ M σ H hE h
  bk:=fun ρ M h σ H hE=>hl.nx ρ M h σ H ⟨hE.q,hs.trans hE.same,hE.lσ,hE.lρ⟩
  rt:=fun d M h v H h1 h2 h3=>hl.rt d M h v H (hs.trans h1) h2 h3
theorem sk{body:D->NTS}{q:Nat}{all:List D}:∀ {r:List D} {E:EndN} {ρ:ae} {M:Sto},dh body q all r E ρ M->M q=some (.lst all)
  | [],_,_,_,h=>h.1
  | _::_,_,_,_,h=>h.1
theorem Dz(t:Nat)(hN:X.N.Nodup)(hc:X.calm=true)(hi:NE X a ta)(hb:NSs X body tbd)(hp:PassesOwn (model X.prog X.w) X.A X.env X.xe:=by exact PassesOwn.never)(hxN:X.N[t]?=some x:=by rfl)(hx:Loc X.env.scope x:=by first | exact Or.inl rfl | exact Or.inr rfl)(hfn:X.fn x=true\/X.env.scope.names.lookup x=some .local:=by first | exact .inl rfl | exact .inr rfl)(hs:∀ x,foldedSetIterable a X.env x=pure x:=by intro _;rfl):NS X (.For (.Name x p2) a body [] pos) (kM t ta tbd):=fun P n=>by
  have hb':PSs X body (fun De σ H=>∃ P1,twS X.K P1 n tbd De σ H):=fun pins s σ H De I ⟨P1,h⟩=>hb P1 n pins s σ H De I h
  refine be (fy hp hc (gD hi) (bu hN hxN hx hfn) hb' hs) fun De σ H ⟨ρ,M,Ew,hE,ht,hl⟩=>⟨ρ,M,_,hE.q,ht,fun d M1 ⟨q,bs,ex,h1⟩ v H1 p1=>?_⟩
  subst ex
  have hE1:=hE.next p1.toPostT
  cases p1.rep
  have see:∀ {M':Sto} {H':Hp},MOk X.K H' M'->M' q=some (.lst (bs.map .ptr))->SqL X.K H' q (bs.map V.ref):=fun {M' H'} ok hm=>by
    obtain⟨xs,g1,g2⟩:=cU ok hm
    rw[mW g2] at g1
    exact SqL.of g1
  refine⟨q,rfl,⟨_,see p1.ok (sk h1)⟩,?_⟩
  refine oN (K:=X.K) (a:=q) (xs:=bs.map V.ref) (g:=bq t) (tb:=fun De σ H=>∃ P1,twS X.K P1 n tbd De σ H) (D:=De) (fun i σ' H'=>∃ ρ' M',EnvN X.K (PH H1 M1) n σ' ρ' H' M'/\dh (fun x E ρ M=>tbd E (ρ.set t (some x)) M) q (bs.map .ptr) ((bs.map .ptr).drop i) Ew ρ' M')
    ⟨ρ,M1,⟨hE1.q,Same.refl _,hE1.lσ,hE1.lρ⟩,by simpa using h1⟩ ?_ ?_ ?_
  · rintro i σ' H' _ ⟨ρ',M',hE',hf'⟩
    exact see hE'.q.ok (sk hf')
  · rintro i y σ' H' hy ⟨ρ',M',hE',hf'⟩
    have hi':i < bs.length:=by have:=(List.getElem?_eq_some_iff.mp hy).1;simpa using this
    have ey:y=.ref bs[i]:=by
      have:=(List.getElem?_eq_some_iff.mp hy).2
      simpa using this.symm
    subst ey
    have ed:(bs.map D.ptr).drop i=.ptr bs[i]::(bs.map D.ptr).drop (i+1):=by
      rw[List.drop_eq_getElem_cons (by simpa using hi')]
      simp
    rw[ed] at hf'
    exact⟨PH H1 M1,_,M',_,hE'.set (.ptr _),hf'.2,Dy hE1.same hl fun ρ M σ H hE h=>⟨ρ,M,hE,h⟩⟩
  · rintro σ' H' ⟨ρ',M',hE',hf'⟩
    rw[List.drop_eq_nil_of_le (by simp)] at hf'
    exact hl.nx _ _ hf'.2 σ' H' ⟨hE'.q,hE1.same.trans hE'.same,hE'.lσ,hE'.lρ⟩
end
section
variable {X:Cx} {a b c e:Expr} {ta tb tit tel:NTE} {pos p p2 p3 spos:Pos} {x y:Str} {i k:Nat} {scope:Scope} {cn:List Str} {caps:List Nat} {elt tg iter:Expr}
theorem sm{K:PySem.W.Frag}{H:Hp}{M:Sto}{v:V}{d:D}(h:MOk K H M)(r:Rep K (PH H M) v d):Rep K H v (vw3 M d):=by
  cases r with
  | @lst p xs ds h1 h2 =>
    have h3:Rep K H (.ref p) (.lst ds):=ay (aM _ _) (.lst h1 h2)
    cases h3 with
    | lst h4 h5 =>
      have e:=fD h4 (cL (aM _ _) h1)
      subst e
      exact .lst h4 (j4 h h2)
  | ptr a=>exact sg h (.ptr a)
  | non=>exact .non
  | bl b=>exact .bl b
  | int b=>exact .int b
  | str b=>exact .str b
  | tup h1 h2=>exact ay (aM _ _) (.tup h1 h2)
  | scr h1=>exact ay (aM _ _) (.scr h1)
  | dct h1=>exact ay (aM _ _) (.dct h1)
theorem DA{K:PySem.W.Frag}{r:R2}{g:D->D->Option D}(hr:OpV K r g){σ:St}{H:Hp}{Q:VK}(h:tw K (n2V g ta tb) σ H Q):tOp r (tw K ta) (tw K tb) σ H Q:=by
  obtain⟨ρ,M,QW,hE,ht,hQ⟩:=h
  refine⟨ρ,M,_,hE,ht,fun x M1 h1 vx H1 p1=>⟨ρ,M1,_,hE.next p1.toPostT,h1,fun y M2 h2 vy H2 p2=>?_⟩⟩
  obtain⟨d,hg,hs,hq⟩:=h2
  have rx:=ay p2.same p1.rep
  refine hr vx vy H2 _ _ d Q (sm p2.ok rx) (sm p2.ok p2.rep) hg fun v H' e r' av=>hQ d M2 hq v H' ⟨(p1.toPostT.trans p2.toPostT).trans (PostT.of p2.ok e),io hs r'⟩
theorem DB(hr:Room k X.A)(ha:NE X a ta)(hb:NE X b tb):NT X (.Compare a [.NotEq] [b] pos) (cy (n2V neD ta tb)) :=
  dO (jE (qB hr) ha hb (cB _)) fun σ H Q ⟨ρ,M,QW,hE,ht,hQ⟩=>DA (qC X.K) ⟨ρ,M,_,hE,ht,fun d M' hd v H' p=>by
    cases d with
    | bl k=>cases p.rep;exact⟨k,rfl,hQ k M' hd H' p.toPostT⟩
    | _=>exact hd.elim⟩
theorem DC{j}(ha:NE X a ta):NE X (.Subscript a (.Slice (some (.Constant (.int (k:Nat)) j p3)) none none p2) pos) (kN k ta) :=
  aI (pA pE ha (pz oy) wv) fun σ H Q ⟨ρ,M,QW,hE,ht,hQ⟩=>⟨ρ,M,_,hE,ht,fun x M1 ⟨q,ds,ex,hm,hk,hq⟩ vx H1 p1=>by
    subst ex
    cases p1.rep
    obtain⟨xs,g1,g2⟩:=cU p1.ok hm
    refine⟨_,rfl,q,xs,rfl,SqL.of g1,fun l hl=>?_⟩
    have hn:=p1.ok.fresh hl
    refine hQ _ M1 hq _ _ ⟨p1.toPostT.trans (PostT.of p1.ok (bh hl _)),.lst (.inl ?_) (aH (PH.up (bh hl _)) (pY g2 _ _))⟩
    rw[PH.of hn];exact b9⟩
theorem sr{α:Type}:∀ l:List α,(l.any fun _=>false)=false
  | []=>rfl
  | _::r=>by rw[List.any_cons,sr r];rfl
def DD(K:PySem.W.Frag):R2:=fun x y H Q=>x=.non/\∃ q,∃ bs:List Addr,y=.ref q/\SqL K H q (bs.map V.ref)/\(∀ b ∈ bs,∃ xs,H b=some (.lst xs))/\Q (.bl false) H
theorem DE(hr:Room k X.A):OpR X (compareOp .In) (DD X.K):=by
  intro pins s σ H x y v u Q I rx ry h
  obtain⟨rfl,q,bs,rfl,hq,hb,hQ⟩:=h
  cases rx
  cases ry
  obtain⟨its,r,pl,hz⟩:=I.list hq
  have hu:X.A.in1.units < cLine:=by have:=hr.un;show X.A.units+1 < cLine;omega
  refine SeqAt.in_listAt (fun _=>false) pl.isList (fun w hw=>?_) ⟨.bl _,H,I,rfl,?_⟩
  · have hw:w ∈ its:=by simpa using hw
    have key:∀ {bs:List Addr} {us:List Value},Vals (bs.map V.ref) us->∀ w ∈ us,∃ b ∈ bs,w=.ref b:=fun {bs}=>by
      induction bs with
      | nil=>intro us h w hw;cases h;cases hw
      | cons b r ih =>
        intro us h w hw
        cases h with
        | cons h1 h2 =>
          rcases List.mem_cons.mp hw with rfl | hw
          · cases h1;exact⟨b,List.mem_cons_self,rfl⟩
          · obtain⟨b',m,e⟩:=ih h2 w hw;exact⟨b',List.mem_cons_of_mem _ m,e⟩
    obtain⟨b,m,rfl⟩:=key r w hw
    obtain⟨xs,hx⟩:=hb b m
    obtain⟨its2,r2,pl2,_⟩:=I.list (SqL.of (K:=X.K) hx)
    exact SeqAt.EqAt.list_none pl2.isList hu
  · rw[show its.toArray.any (fun _=>false)=its.any (fun _=>false) by simp,sr];exact hQ
theorem DF{j}(hr:Room k X.A)(ha:NE X a ta)(hm:behindInMarks .In a=false:=by with_unfolding_all rfl):NT X (.Compare (.Constant .none j p2) [.In] [a] pos) (kO ta) :=
  dO (jE (DE hr) (mP gG) ha hm) fun σ H Q ⟨ρ,M,QW,hE,ht,hQ⟩=>⟨ρ,M,fun d M0=>d=.non/\M0=M,hE,⟨_,rfl,rfl,rfl⟩,fun d M0 ⟨e0,e1⟩ v H0 p0=>by
    subst e0 e1
    cases p0.rep
    refine⟨ρ,M0,_,hE.next p0.toPostT,ht,fun x M1 ⟨q,bs,ex,hm,hb,h1⟩ vx H1 p1=>?_⟩
    subst ex
    cases p1.rep
    obtain⟨xs,g1,g2⟩:=cU p1.ok hm
    rw[mW g2] at g1
    refine⟨rfl,q,bs,rfl,SqL.of g1,fun b hb'=>?_,false,rfl,hQ false M1 h1 H1 (p0.toPostT.trans p1.toPostT)⟩
    obtain⟨ds,hd⟩:=hb b hb'
    obtain⟨ys,z,_⟩:=cU p1.ok hd
    exact⟨ys,z⟩⟩
theorem DG(i:Nat)(hN:X.N.Nodup)(B:BlkOk X scope [y] caps cn)(hc:X.calm=true)(hi:NE X iter tit)(hg:∀ s H cl ex,PG (blk X ([y]++cn) s H scope cl ex) tg (bq 0))(he:∀ s H cl ex,NE (blk X ([y]++cn) s H scope cl ex) elt tel)(hsw:swapsWith (.ListComp elt [⟨tg,iter,[],0⟩] scope pos) (some (.Name x p2)) spos.line X.env=pure true:=by rfl)(hxi:X.N[i]?=some x:=by rfl)(hx:Loc X.env.scope x:=by first | exact Or.inl rfl | exact Or.inr rfl)(hfn:X.fn x=true\/X.env.scope.names.lookup x=some .local:=by first | exact .inl rfl | exact .inr rfl)(hs:∀ x,foldedSetIterable iter X.env x=pure x:=by intro _;rfl):
    NS X (.Assign [.Name x p2] (.ListComp elt [⟨tg,iter,[],0⟩] scope pos) spos) (aV i (kL caps tit tel)):=fun P n =>
  be (sd i hN B hc (gD hi) hg (fun _ _ _ _=>iM) he hsw hxi hx hfn hs) fun De σ H ⟨ρ,M,Ew,hE,ht,hl⟩=>mV (fin:=fun ds M2 Q=>Q (.lst ds) M2) Dv ⟨ρ,M,fun d M1=>Ew.nx (ρ.set i (some d)) M1,hE.q,ht,fun d M1 h1 v H1 p1=>hl.nx _ M1 h1 _ H1 ((hE.next p1.toPostT).set p1.rep)⟩
theorem DH(i:Nat)(hN:X.N.Nodup)(B:BlkOk X scope [y] caps cn)(hc:X.calm=true)(hi:NE X iter tit)(hg:∀ s H cl ex,PG (blk X ([y]++cn) s H scope cl ex) tg (bq 0))(he:∀ s H cl ex,NE (blk X ([y]++cn) s H scope cl ex) elt tel)(hsw:swapsWith (.ListComp elt [⟨tg,iter,[],0⟩] scope pos) (some (.Name x p2)) spos.line X.env=pure true:=by rfl)(hxi:X.N[i]?=some x:=by rfl)(hx:Loc X.env.scope x:=by first | exact Or.inl rfl | exact Or.inr rfl)(hfn:X.fn x=true\/X.env.scope.names.lookup x=some .local:=by first | exact .inl rfl | exact .inr rfl)(hs:∀ x,foldedSetIterable iter X.env x=pure x:=by intro _;rfl):
    NS X (.Assign [.Name x p2] (.ListComp elt [⟨tg,iter,[],0⟩] scope pos) spos) (aV i (fQ caps tit tel)):=fun P n =>
  be (sd i hN B hc (gD hi) hg (fun _ _ _ _=>iM) he hsw hxi hx hfn hs) fun De σ H ⟨ρ,M,Ew,hE,ht,hl⟩=>mV (fin:=fun ds M2 Q=>∀ a,M2 a=none->Q (.ptr a) (aG M2 a (.lst ds))) sj ⟨ρ,M,fun d M1=>Ew.nx (ρ.set i (some d)) M1,hE.q,ht,fun d M1 h1 v H1 p1=>hl.nx _ M1 h1 _ H1 ((hE.next p1.toPostT).set p1.rep)⟩
end
end VL
namespace VL
open PySem PySem.Spec PyProof.Rows L2
def RawD(h:Heap)(d:Addr)(es:Array DictEntry)(ep:Nat):Prop:=∃ o,h.get? d=some o/\o.ExactDict/\o.data=.dict es ep
section
variable {prog:Program} {w:World} {A:Around} {E:Value->Shared->Prop} {s:Shared} {d it:Addr} {es:Array DictEntry} {ep i:Nat}
theorem RawD.ty(h:RawD s.heap d es ep):s.TypeIs (.ref d) "dict":=let ⟨o,h1,h2,_⟩:=h;⟨o,h1,h2.1⟩
end
section
variable {prog:Program} {w:World} {K:Type} [DecidableEq K] {knd:HeapKind prog w K} {A:Around} {E:Value->Shared->Prop} {s:Shared} {d a:Addr} {k:K} {xs:List (K × Addr × Value)} {v:Value}
end
section
variable {X:Cx} {pins:List (Addr × Obj)} {σ:St} {H:Hp} {s:Shared} {a b:Addr} {y d:V} {u r:Value} {v:V} {A:Around} {E:Value->Shared->Prop} {kvs:List (List Key × V)} {k:List Key}
end
end VL
namespace VL
open PySem PySem.Spec PyProof.Rows L2
section
variable {X:Cx} {o e f a:Expr} {apos cpos pos tp p2:Pos} {td ty tx:TE} {ta tv:NTE} {tas:NTA} {x1:Nat} {es:List Expr} {k:Nat} {aq:List Stmt} {t:NTS} {body:List Stmt} {tbd:NTS}
end
end VL
namespace VL
open PySem PySem.Spec PyProof.Rows L2
structure YE (X:Cx) (e:Expr) (t:NTE):Prop where
  h:NE X e t
structure YT (X:Cx) (e:Expr) (t:NTB):Prop where
  h:NT X e t
structure YW (X:Cx) (e:Expr) (t:NTB):Prop where
  h:NW X e t
structure YA (X:Cx) (e:List Expr) (t:NTA):Prop where
  h:NA X e t
structure YS (X:Cx) (st:Stmt) (t:NTS):Prop where
  h:NS X st t
structure YSs (X:Cx) (st:List Stmt) (t:NTS):Prop where
  h:NSs X st t
structure YP (X:Cx) (pos:Pos) (keys:List (Option Expr)) (vals:List Expr) (ns:List Str) (as:FEs) (es:List Es):Prop where
  h:PPV X pos keys vals ns as es
section
variable {X:Cx} {a b c:Expr} {ta tb tc:NTE} {pos p2:Pos} {es:List Es} {fa fb:FE}
theorem ad(h:JE X a fa es):YE X a (nP fa):=⟨mP h.h⟩
theorem e7{f:ae->Option Bool}(h:JT X a f):YT X a (nPB f):=⟨Cp h.h⟩
theorem cH(ha:YE X a ta)(hb:YE X b tb):YE X (.BinOp a .Add b pos) (n2 b8 ta tb):=⟨Cq ha.h hb.h⟩
theorem j5(ha:YE X a ta)(hb:YE X b tb):YE X (.BinOp a .Sub b pos) (n2 bZ ta tb):=⟨Cr ha.h hb.h⟩
theorem DJ(ha:YE X a ta)(hb:YE X b tb):YE X (.BinOp a .Mult b pos) (n2 ce ta tb):=⟨Cs ha.h hb.h⟩
theorem ss{k:Nat}(hr:Room k X.A)(ha:YE X a ta)(hb:YE X b tb):YE X (.Compare a [.Eq] [b] pos) (n2 eqD ta tb):=⟨ne_eq hr ha.h hb.h⟩
theorem kQ{k:Nat}(hr:Room k X.A)(ha:YE X a ta)(hb:YE X b tb):YT X (.Compare a [.Eq] [b] pos) (cy (n2 eqD ta tb)):=⟨Cu hr ha.h hb.h⟩
theorem su{j}(ha:YE X a ta):YT X (.Compare a [.Is] [.Constant .none j p2] pos) (cy (n1 cQ ta)):=⟨Cw ha.h⟩
variable {ka kb:NTB} {aq:List Expr}
theorem fR(h:YE X a ta)(he:∀ whole,isTrue a X.env whole=(do let v <- whole;standAt a.pos;holding [v] (truthy v)):=by intro _;rfl):YT X a (dA ta):=⟨Cy h.h he⟩
theorem mX(ha:YT X a ka):YW X (.BoolOp .And [a] pos) ka:=⟨Cz ha.h⟩
theorem mY(ha:YT X a ka)(hb:YW X (.BoolOp .And (b::aq) pos) kb):YW X (.BoolOp .And (a::b::aq) pos) (hG ka kb):=⟨CA ha.h hb.h⟩
theorem mZ(h:YW X a ka):YT X a ka:=⟨CB h.h⟩
theorem j6(ha:YT X a ka):YT X (.UnaryOp .Not a pos) (eQ ka):=⟨CC ha.h⟩
theorem DK(hc:YT X c ka)(ha:YE X a ta)(hb:YE X b tb):YE X (.IfExp c a b pos) (nIf ka ta tb):=⟨CD hc.h ha.h hb.h⟩
theorem n0{op}(h:YE X a ta):YE X (.BoolOp op [a] pos) ta:=⟨CF h.h⟩
theorem n3(ha:YE X a ta)(hb:YE X (.BoolOp .And (b::aq) pos) tb):YE X (.BoolOp .And (a::b::aq) pos) (hJ ta tb):=⟨CG ha.h hb.h⟩
variable {xs:List Expr} {tas:NTA}
theorem aE: YA X [] aA:=⟨CH ⟩
theorem am(ha:YE X a ta)(hr:YA X xs tas)(hs:starEach (a::xs) X.env=(false,eval a X.env)::starEach xs X.env:=by rfl):YA X (a::xs) (ak ta tas):=⟨CI ha.h hr.h hs⟩
theorem n4{x1}(h:YA X xs tas):YE X (.Tuple xs x1 pos) (hU tas):=⟨CJ h.h⟩
theorem kR(h:YA X xs tas):YE X (.List xs pos) (fN tas):=⟨CK h.h⟩
theorem DL(h:YA X xs tas):YE X (.List xs pos) (kB tas):=⟨CL h.h⟩
theorem n5(h:JF X a fa es):YE X a (hV fa):=⟨CM h.h⟩
theorem cz(ha:YE X a ta)(hb:YE X b tb)(hs:fC b):YE X (.Subscript a b pos) (n2 ixD ta tb):=⟨CN ha.h hb.h hs⟩
theorem cc(ha:YE X a ta)(hb:YE X b tb)(hs:fC b):YE X (.Subscript a b pos) (bO ta tb):=⟨CO ha.h hb.h hs⟩
theorem kS{k i:Nat}{ns:List Str}{x:Str}{j}(hr:Room k X.A)(ha:YE X a ta)(hs:jK (.Constant (.str x) j p2))(hn:ns.Nodup:=by decide +kernel)(hi:ns[i]?=some x:=by rfl):YE X (.Subscript a (.Constant (.str x) j p2) pos) (nDg ns i ta):=⟨CP hr ha.h hs hn hi⟩
theorem bP{i:Nat}{C:Addr}{ns:List Str}{f:Str}(c:Cls X.K C)(n:NoAttr X.K C f)(ha:YE X a ta)(hb:attributeBase a f X.env (eval a X.env)=eval a X.env:=by rfl)(hn:ns.Nodup:=by decide +kernel)(hi:ns[i]?=some f:=by rfl):YE X (.Attribute a f pos) (bw C ns i ta):=⟨CQ c n ha.h hb hn hi⟩
end
section
variable {X:Cx} {a b c:Expr} {ta tb tc:NTE} {tas:NTA} {pos p p2 ap:Pos} {k:Nat} {ps:List Str} {x m:Str} {es:List Expr} {T:NTF} {G:List D->Option D} {fr:Bool} {C:Addr} {ns:List Str}
theorem bd(d:DefN X.prog X.w X.K X.mg X.base x k ps T)(hr:Room k X.A)(ha:YA X (a::es) tas)(hg:Gl X x:=by rfl)(hdb:(x == ("__debug__" : Str))=false:=by decide)(he:starEach (a::es) X.env=(false,eval a X.env)::starEach es X.env:=by rfl)(hpl:(backTo pos (starEach es X.env)).any (·.1)=false:=by rfl):YE X (.Call (.Name x p) (a::es) [] pos) (aZ T tas):=⟨CT d hr ha.h hg hdb he hpl⟩
theorem kU(d:Def X.prog X.w X.K X.mg X.base x k ps G fr)(hr:Room k X.A)(ha:YA X (a::es) tas)(hg:Gl X x:=by rfl)(hdb:(x == ("__debug__" : Str))=false:=by decide)(he:starEach (a::es) X.env=(false,eval a X.env)::starEach es X.env:=by rfl)(hpl:(backTo pos (starEach es X.env)).any (·.1)=false:=by rfl):YE X (.Call (.Name x p) (a::es) [] pos) (fO G tas):=⟨CU d hr ha.h hg hdb he hpl⟩
theorem n6{pl:Sem Bool}(cl:Cls X.K C)(d:MetN X.prog X.w X.K X.mg X.base C m k ps T)(hr:Room k X.A)(ho:YE X b tb)(ha:YA X (a::es) tas)(hno:¬ m ∈ ns:=by decide +kernel)(hst:starEach (a::es) X.env=(false,eval a X.env)::starEach es X.env:=by rfl)(hpl:(backTo pos (starEach es X.env)).any (·.1)=false:=by rfl)(ht:eval (.Call (.Attribute b m ap) (a::es) [] pos) X.env=(do
      let ov <- eval b X.env
      standAt ap.atName
      let (f,first) <- holding [ov] (getMethod ov m pl)
      callWith pos f first (backTo pos (starEach (a::es) X.env)) (backToKw pos (keywordEach [] X.env))):=by rfl):YE X (.Call (.Attribute b m ap) (a::es) [] pos) (cb C ns T tb tas):=⟨CV cl d hr ho.h ha.h hno hst hpl ht⟩
theorem e8{pl:Sem Bool}(cl:Cls X.K C)(d:MetN X.prog X.w X.K X.mg X.base C m k ps T)(hr:Room k X.A)(ho:YE X b tb)(hno:¬ m ∈ ns:=by decide +kernel)(ht:eval (.Call (.Attribute b m ap) [] [] pos) X.env=(do
      let ov <- eval b X.env
      standAt ap.atName
      let (f,first) <- holding [ov] (getMethod ov m pl)
      callWith pos f first (backTo pos (starEach [] X.env)) (backToKw pos (keywordEach [] X.env))):=by rfl):YE X (.Call (.Attribute b m ap) [] [] pos) (cb C ns T tb aA):=⟨CW cl d hr ho.h hno ht⟩
theorem DM(d:MakN X.prog X.w X.K X.mg X.base x C k ps T)(hr:Room (k+1) X.A)(ha:YA X (a::es) tas)(hg:Gl X x:=by rfl)(hdb:(x == ("__debug__" : Str))=false:=by decide)(he:starEach (a::es) X.env=(false,eval a X.env)::starEach es X.env:=by rfl)(hpl:(backTo pos (starEach es X.env)).any (·.1)=false:=by rfl):YE X (.Call (.Name x p) (a::es) [] pos) (kD C T tas):=⟨CY d hr ha.h hg hdb he hpl⟩
end
section
variable {X:Cx} {a b c:Expr} {ta tb tc tv:NTE} {tas:NTA} {ka:NTB} {pos p p2 p3 ap cp:Pos} {k:Nat} {st:Stmt} {aq body bs:List Stmt} {t u:NTS} {C:Addr} {ns:List Str} {x f:Str} {i:Nat}
theorem bR: YSs X [] sN:=⟨CZ ⟩
theorem az(h1:YS X st t)(h2:YSs X aq u):YSs X (st::aq) (aw t u):=⟨D0 h1.h h2.h⟩
theorem aT(h1:YS X st t):YSs X [st] t:=⟨D1 h1.h⟩
theorem kW: YSs X aq hW:=⟨D2 ⟩
theorem bS(hc:YT X c ka)(ha:YSs X body t)(hb:YSs X bs u):YS X (.If c body bs pos) (bB ka t u):=⟨D3 hc.h ha.h hb.h⟩
theorem bj(he:YE X a ta):YS X (.Return (some a) pos) (bc ta):=⟨D4 he.h⟩
theorem DN(i:Nat)(hN:X.N[i]?=some x:=by rfl)(hv:Vis X.env.scope x:=by first | exact Or.inl rfl | exact Or.inr (Or.inl rfl) | exact Or.inr (Or.inr rfl))(hd:(x == ("__debug__" : Str))=false:=by decide)(hcd:(x == ("__classdict__" : Str))=false:=by decide):YS X (.Return (some (.Name x p2)) pos) (kE i):=⟨D5 i hN hv hd hcd⟩
theorem bm(i:Nat)(hN:X.N.Nodup)(he:YE X a ta)(hi:X.N[i]?=some x:=by rfl)(hx:Loc X.env.scope x:=by first | exact Or.inl rfl | exact Or.inr rfl)(hs:swapsWith a (some (.Name x p2)) pos.line X.env=pure false:=by rfl)(hfn:X.fn x=true\/X.env.scope.names.lookup x=some .local:=by first | exact .inl rfl | exact .inr rfl):YS X (.Assign [.Name x p2] a pos) (aV i ta):=⟨D6 i hN he.h hi hx hs hfn⟩
theorem DO(is:List Nat){ts:List Expr}{k:Nat}(hc:X.calm=true)(hN:X.N.Nodup)(he:YE X a ta)(ht:Tgs X ts is)(hn:(assignEach ts X.env).length=is.length:=by rfl)(hst:(assignEach ts X.env).findIdx? (·.1)=none:=by rfl)(hs:swapsWithSole [.Tuple ts k p2] a pos.line X.env=pure false:=by rfl)(hw:swappedStores [.Tuple ts k p2] a X.env=pure none:=by rfl)(h1:(assignEach [.Tuple ts k p2] X.env).map (·.2)=[assign (.Tuple ts k p2) X.env]:=by rfl):YS X (.Assign [.Tuple ts k p2] a pos) (kF is ta):=⟨D7 is hc hN he.h ht hn hst hs hw h1⟩
theorem kX(cl:Cls X.K C)(nat:NoAttr X.K C f)(ha:YE X a ta)(hv:YE X b tv)(hn:ns.Nodup:=by decide +kernel)(hi:ns[i]?=some f:=by rfl)(hlt:ns.length < 1000:=by decide)(hs:swapsWith b (some (.Attribute a f p2)) pos.line X.env=pure false:=by rfl):YS X (.Assign [.Attribute a f p2] b pos) (fP C ns i ta tv):=⟨D8 cl nat ha.h hv.h hn hi hlt hs⟩
theorem dD(cl:Cls X.K C)(nat:NoAttr X.K C f)(ha:YE X a ta)(hv:YE X b tv)(hi:¬ f ∈ ns:=by decide +kernel)(hlt:ns.length < 1000:=by decide)(hs:swapsWith b (some (.Attribute a f p2)) pos.line X.env=pure false:=by rfl):YS X (.Assign [.Attribute a f p2] b pos) (cS C ns f ta tv):=⟨D9 cl nat ha.h hv.h hi hlt hs⟩
theorem n8{j}(hr:Room k X.A)(ha:YE X a ta)(hv:YE X b tv)(hn:ns.Nodup:=by decide +kernel)(hi:ns[i]?=some f:=by rfl)(hlt:ns.length < 1000:=by decide)(hs:swapsWith b (some (.Subscript a (.Constant (.str f) j p3) p2)) pos.line X.env=pure false:=by rfl):YS X (.Assign [.Subscript a (.Constant (.str f) j p3) p2] b pos) (hX ns i ta tv):=⟨Db hr ha.h hv.h hn hi hlt hs⟩
end
section
variable {X:Cx} {a b c e:Expr} {ta tb tc tv ti:NTE} {tas:NTA} {ka:NTB} {pos p p2 p3 ap cp pr pn:Pos} {k:Nat} {st:Stmt} {aq body bs:List Stmt} {t u tbd:NTS} {C:Addr} {ns:List Str} {x f:Str} {i:Nat}
theorem sv(ha:YE X a ta)(he:YE X e tv)(hbase:attributeBase a "append" X.env (eval a X.env)=eval a X.env:=by rfl)(hfew:((backTo cp (starEach [e] X.env)).all (fun x=>!x.1) && (backToKw cp (keywordEach [] X.env)).all (fun x=>x.1.isSome)
      && decide (([e]:List Expr).length+([]:List Keyword).length+(if ([]:List Keyword).isEmpty then 0 else 1) < 30))=true:=by rfl)(hline:(ap.endLine == cp.line)=true:=by rfl)(hs:starEach [e] X.env=(false,eval e X.env)::starEach [] X.env:=by rfl)(hplain:(backTo cp (starEach [] X.env)).any (·.1)=false:=by rfl)(hsw:swapsWith (.Call (.Attribute a "append" ap) [e] [] cp) none pos.line X.env=pure false:=by rfl):YS X (.Expr (.Call (.Attribute a "append" ap) [e] [] cp) pos) (iY ta tv):=⟨Dc ha.h he.h hbase hfew hline hs hplain hsw⟩
theorem fU(ha':YE X a ta)(hb:YE X b ti)(he:YE X e tv)(ha:∀ v,assign (.Subscript a b p3) X.env v=(do
      let ov <- holding [v] (eval a X.env)
      let iv <- holding [v,ov] (eval b X.env)
      standAt p3
      holding [v,ov,iv] (setItem ov iv v)
      release [v,ov,iv] []):=by intro _;rfl)(hs:swapsWithSole [.Subscript a b p3] e pos.line X.env=pure false:=by rfl)(hw:swappedStores [.Subscript a b p3] e X.env=pure none:=by rfl)(h1:(assignEach [.Subscript a b p3] X.env).map (·.2)=[assign (.Subscript a b p3) X.env]:=by rfl):YS X (.Assign [.Subscript a b p3] e pos) (dC ta ti tv):=⟨Dd ha'.h hb.h he.h ha hs hw h1⟩
theorem DP(t:Nat)(hN:X.N.Nodup)(hc:X.calm=true)(mr:X.mg "range" = none)(hi:YA X [a] tas)(hb:YSs X body tbd)(hp:PassesOwn (model X.prog X.w) X.A X.env X.xe:=by exact PassesOwn.never)(hg:Gl X "range":=by rfl)(hst:starEach [a] X.env=[(false,eval a X.env)]:=by rfl)(hxN:X.N[t]?=some x:=by rfl)(hx:Loc X.env.scope x:=by first | exact Or.inl rfl | exact Or.inr rfl)(hfn:X.fn x=true\/X.env.scope.names.lookup x=some .local:=by first | exact .inl rfl | exact .inr rfl)(hs:∀ x,foldedSetIterable (.Call (.Name "range" pn) [a] [] pr) X.env x=pure x:=by intro _;rfl):YS X (.For (.Name x p2) (.Call (.Name "range" pn) [a] [] pr) body [] pos) (kG t tas tbd):=⟨Dg t hN hc mr hi.h hb.h hp hg hst hxN hx hfn hs⟩
theorem DQ(t:Nat)(hN:X.N.Nodup)(hc:X.calm=true)(mr:X.mg "range" = none)(hi:YA X [a,b] tas)(hb:YSs X body tbd)(hp:PassesOwn (model X.prog X.w) X.A X.env X.xe:=by exact PassesOwn.never)(hg:Gl X "range":=by rfl)(hst:starEach [a,b] X.env=[(false,eval a X.env),(false,eval b X.env)]:=by rfl)(hst2:starEach [b] X.env=[(false,eval b X.env)]:=by rfl)(hxN:X.N[t]?=some x:=by rfl)(hx:Loc X.env.scope x:=by first | exact Or.inl rfl | exact Or.inr rfl)(hfn:X.fn x=true\/X.env.scope.names.lookup x=some .local:=by first | exact .inl rfl | exact .inr rfl)(hs:∀ x,foldedSetIterable (.Call (.Name "range" pn) [a,b] [] pr) X.env x=pure x:=by intro _;rfl):YS X (.For (.Name x p2) (.Call (.Name "range" pn) [a,b] [] pr) body [] pos) (kH t tas tbd):=⟨Dh t hN hc mr hi.h hb.h hp hg hst hst2 hxN hx hfn hs⟩
end
section
variable {X:Cx} {a:Expr} {pos p2:Pos} {keys:List (Option Expr)} {vals:List Expr} {ns:List Str} {as:FEs} {ea eb:List Es} {fa:FE} {x:Str}
theorem DR: YP X pos [] [] [] ar []:=⟨Dk ⟩
theorem n9{j}(ha:JE X a fa ea)(hr:YP X pos keys vals ns as eb):YP X pos (some (.Constant (.str x) j p2)::keys) (a::vals) (x::ns) (ag fa as) (ea++eb):=⟨Dl ha.h hr.h⟩
theorem DS(h:YP X pos keys vals ns as ea)(hn:ns.Nodup:=by decide +kernel)(hall:keys.all (·.isSome)=true:=by rfl)(hl:keys.length=vals.length:=by rfl)(h0:keys ≠ []:=by simp)(h15:keys.length<=15:=by decide):YE X (.Dict keys vals pos) (kC ns as):=⟨Dm h.h hn hall hl h0 h15⟩
end
section
variable {X:Cx} {elt tg iter a:Expr} {ifs:List Expr} {scope:Scope} {own cn:List Str} {caps:List Nat} {wi:TI} {g:TG} {tt:TT} {te:TE} {pos spos p2 pr pn:Pos} {tas:NTA} {tel:NTE} {x y:Str}
theorem sw(B:BlkOk X scope [y] caps cn)(hc:X.calm=true)(mr:X.mg "range" = none)(hi:YA X [a] tas)(hg:∀ s H cl ex,PG (blk X ([y]++cn) s H scope cl ex) tg (bq 0))(he:∀ s H cl ex,YE (blk X ([y]++cn) s H scope cl ex) elt tel)(hgr:Gl X "range":=by rfl)(hst:starEach [a] X.env=[(false,eval a X.env)]:=by rfl)(hs:∀ x,foldedSetIterable (.Call (.Name "range" pn) [a] [] pr) X.env x=pure x:=by intro _;rfl):YE X (.ListComp elt [⟨tg,.Call (.Name "range" pn) [a] [] pr,[],0⟩] scope pos) (hZ caps tas tel):=⟨Do B hc mr hi.h hg (fun s H cl ex=>(he s H cl ex).h) hgr hst hs⟩
end
section
variable {X:Cx} {a b:Expr} {tas:NTA} {pos p:Pos}
theorem sx(ml:X.mg "len" = none)(ha:YA X [a] tas)(hg:Gl X "len":=by rfl)(he:starEach [a] X.env=(false,eval a X.env)::starEach [] X.env:=by rfl)(hpl:(backTo pos (starEach [] X.env)).any (·.1)=false:=by rfl):YE X (.Call (.Name "len" p) [a] [] pos) (dZ (aL bz) tas):=⟨Dp ml ha.h hg he hpl⟩
theorem DT(hc:X.calm=true)(ml:X.mg "sum" = none)(ha:YA X [a] tas)(hg:Gl X "sum":=by rfl)(he:starEach [a] X.env=(false,eval a X.env)::starEach [] X.env:=by rfl)(hpl:(backTo pos (starEach [] X.env)).any (·.1)=false:=by rfl):YE X (.Call (.Name "sum" p) [a] [] pos) (dZ (aL cN) tas):=⟨Dq hc ml ha.h hg he hpl⟩
end
section
variable {X:Cx} {a b c:Expr} {ta tb tc:NTE} {tas:NTA} {pos p p2 ap cp:Pos} {k:Nat} {ps:List Str} {x m:Str} {es:List Expr} {T:NTF} {G:List D->Option D} {fr:Bool} {C:Addr} {ns:List Str} {fa:FE} {ea:List Es}
theorem DU(d:Def X.prog X.w X.K X.mg X.base x k ps G fr)(hr:Room k X.A)(ha:YA X (a::es) tas)(hg:Gl X x:=by rfl)(hdb:(x == ("__debug__" : Str))=false:=by decide)(he:starEach (a::es) X.env=(false,eval a X.env)::starEach es X.env:=by rfl)(hpl:(backTo pos (starEach es X.env)).any (·.1)=false:=by rfl):YE X (.Call (.Name x p) (a::es) [] pos) (kI G tas):=⟨Dr d hr ha.h hg hdb he hpl⟩
theorem DV(d:Def X.prog X.w X.K X.mg X.base x k ps G true)(hr:Room k X.A)(ha:YA X (a::es) tas)(hg:Gl X x:=by rfl)(hdb:(x == ("__debug__" : Str))=false:=by decide)(he:starEach (a::es) X.env=(false,eval a X.env)::starEach es X.env:=by rfl)(hpl:(backTo pos (starEach es X.env)).any (·.1)=false:=by rfl):YE X (.Call (.Name x p) (a::es) [] pos) (kJ G tas):=⟨Ds d hr ha.h hg hdb he hpl⟩
theorem DW(d:DefX X.prog X.w X.K X.mg X.base x k ps G)(hr:Room k X.A)(ha:YA X (a::es) tas)(hg:Gl X x:=by rfl)(hdb:(x == ("__debug__" : Str))=false:=by decide)(he:starEach (a::es) X.env=(false,eval a X.env)::starEach es X.env:=by rfl)(hpl:(backTo pos (starEach es X.env)).any (·.1)=false:=by rfl):YE X (.Call (.Name x p) (a::es) [] pos) (kK G tas):=⟨Dt d hr ha.h hg hdb he hpl⟩
theorem sy(ml:X.mg "list" = none)(ha:YE X a ta)(hg:Gl X "list":=by rfl)(he:starEach [a] X.env=(false,eval a X.env)::starEach [] X.env:=by rfl)(hpl:(backTo pos (starEach [] X.env)).any (·.1)=false:=by rfl):YE X (.Call (.Name "list" p) [a] [] pos) (iZ ta):=⟨Du ml ha.h hg he hpl⟩
end
section
variable {X:Cx} {elt tg iter a:Expr} {scope:Scope} {cn:List Str} {caps:List Nat} {pos spos p2 pr pn:Pos} {tit tel:NTE} {x y:Str}
theorem DX(B:BlkOk X scope [y] caps cn)(hc:X.calm=true)(hi:YE X iter tit)(hg:∀ s H cl ex,PG (blk X ([y]++cn) s H scope cl ex) tg (bq 0))(he:∀ s H cl ex,YE (blk X ([y]++cn) s H scope cl ex) elt tel)(hs:∀ x,foldedSetIterable iter X.env x=pure x:=by intro _;rfl):YE X (.ListComp elt [⟨tg,iter,[],0⟩] scope pos) (fQ caps tit tel):=⟨Dw B hc hi.h hg (fun s H cl ex=>(he s H cl ex).h) hs⟩
end
section
variable {X:Cx} {a b c e:Expr} {ta tb tc tv ti:NTE} {tas:NTA} {pos p p2 p3 ap cp pr pn:Pos} {st:Stmt} {aq body bs:List Stmt} {t u tbd:NTS} {x f:Str} {i:Nat}
theorem sA(ha:YE X a ta)(hbase:attributeBase a "reverse" X.env (eval a X.env)=eval a X.env:=by rfl)(hline:(ap.endLine == cp.line)=true:=by rfl)(hsw:swapsWith (.Call (.Attribute a "reverse" ap) [] [] cp) none pos.line X.env=pure false:=by rfl):YS X (.Expr (.Call (.Attribute a "reverse" ap) [] [] cp) pos) (j1 ta):=⟨Dx ha.h hbase hline hsw⟩
theorem DY(t:Nat)(hN:X.N.Nodup)(hc:X.calm=true)(hi:YE X a ta)(hb:YSs X body tbd)(hp:PassesOwn (model X.prog X.w) X.A X.env X.xe:=by exact PassesOwn.never)(hxN:X.N[t]?=some x:=by rfl)(hx:Loc X.env.scope x:=by first | exact Or.inl rfl | exact Or.inr rfl)(hfn:X.fn x=true\/X.env.scope.names.lookup x=some .local:=by first | exact .inl rfl | exact .inr rfl)(hs:∀ x,foldedSetIterable a X.env x=pure x:=by intro _;rfl):YS X (.For (.Name x p2) a body [] pos) (kM t ta tbd):=⟨Dz t hN hc hi.h hb.h hp hxN hx hfn hs⟩
end
section
variable {X:Cx} {a b c e:Expr} {ta tb tit tel:NTE} {pos p p2 p3 spos:Pos} {x y:Str} {i k:Nat} {scope:Scope} {cn:List Str} {caps:List Nat} {elt tg iter:Expr}
theorem DZ(hr:Room k X.A)(ha:YE X a ta)(hb:YE X b tb):YT X (.Compare a [.NotEq] [b] pos) (cy (n2V neD ta tb)):=⟨DB hr ha.h hb.h⟩
theorem E1{j}(ha:YE X a ta):YE X (.Subscript a (.Slice (some (.Constant (.int (k:Nat)) j p3)) none none p2) pos) (kN k ta):=⟨DC ha.h⟩
theorem E2{j}(hr:Room k X.A)(ha:YE X a ta)(hm:behindInMarks .In a=false:=by with_unfolding_all rfl):YT X (.Compare (.Constant .none j p2) [.In] [a] pos) (kO ta):=⟨DF hr ha.h hm⟩
theorem E3(i:Nat)(hN:X.N.Nodup)(B:BlkOk X scope [y] caps cn)(hc:X.calm=true)(hi:YE X iter tit)(hg:∀ s H cl ex,PG (blk X ([y]++cn) s H scope cl ex) tg (bq 0))(he:∀ s H cl ex,YE (blk X ([y]++cn) s H scope cl ex) elt tel)(hsw:swapsWith (.ListComp elt [⟨tg,iter,[],0⟩] scope pos) (some (.Name x p2)) spos.line X.env=pure true:=by rfl)(hxi:X.N[i]?=some x:=by rfl)(hx:Loc X.env.scope x:=by first | exact Or.inl rfl | exact Or.inr rfl)(hfn:X.fn x=true\/X.env.scope.names.lookup x=some .local:=by first | exact .inl rfl | exact .inr rfl)(hs:∀ x,foldedSetIterable iter X.env x=pure x:=by intro _;rfl):YS X (.Assign [.Name x p2] (.ListComp elt [⟨tg,iter,[],0⟩] scope pos) spos) (aV i (kL caps tit tel)):=⟨DG i hN B hc hi.h hg (fun s H cl ex=>(he s H cl ex).h) hsw hxi hx hfn hs⟩
theorem E4(i:Nat)(hN:X.N.Nodup)(B:BlkOk X scope [y] caps cn)(hc:X.calm=true)(hi:YE X iter tit)(hg:∀ s H cl ex,PG (blk X ([y]++cn) s H scope cl ex) tg (bq 0))(he:∀ s H cl ex,YE (blk X ([y]++cn) s H scope cl ex) elt tel)(hsw:swapsWith (.ListComp elt [⟨tg,iter,[],0⟩] scope pos) (some (.Name x p2)) spos.line X.env=pure true:=by rfl)(hxi:X.N[i]?=some x:=by rfl)(hx:Loc X.env.scope x:=by first | exact Or.inl rfl | exact Or.inr rfl)(hfn:X.fn x=true\/X.env.scope.names.lookup x=some .local:=by first | exact .inl rfl | exact .inr rfl)(hs:∀ x,foldedSetIterable iter X.env x=pure x:=by intro _;rfl):YS X (.Assign [.Name x p2] (.ListComp elt [⟨tg,iter,[],0⟩] scope pos) spos) (aV i (fQ caps tit tel)):=⟨DH i hN B hc hi.h hg (fun s H cl ex=>(he s H cl ex).h) hsw hxi hx hfn hs⟩
end
section
variable {X:Cx} {o e f a:Expr} {apos cpos pos tp p2:Pos} {td ty tx:TE} {ta tv:NTE} {tas:NTA} {x1:Nat} {es:List Expr} {k:Nat} {aq:List Stmt} {t:NTS} {body:List Stmt} {tbd:NTS}
end
section
variable {P:Program} {w:World} {K:PySem.W.Frag} {mg:Str->Option Value} {base:Heap} {x:Str} {k:Nat} {ps:List Str}
theorem bX{qual:Str}{st:Stmt}{f:Addr}{fd:FuncData}{N:List Str}{np n:Nat}{body:NTS}{T:NTF}(h1:ps.length=np)(h2:N.length=n)(h3:T=mkN np n body)(Fn:Fun K x qual st f fd)(S:FnScope N ps (ai st))(h:∀ (cdv:Value) (A:Around) (outer:List PySem.Env) (s:Shared) (H:Hp) (E:XK),Room k (A.deeper (envOfC qual (ai st) s.heap.objs.size f cdv)) ->
      YSs (cK CX0 P w K mg base N qual (ai st) f cdv A outer s H E).nox (aD st) body):
    FnOk P w K mg base CX0 (k+1) f fd ps (spN K T):=Di h1 h2 h3 Fn S fun cdv A outer s H E hr=>(h cdv A outer s H E hr).h
end
end VL
namespace VL
open PySem (Str)
open L2 (atI ixN)
section
variable {ρ:ae} {M:Sto} {Q:QE} {QB:Bool->Sto->Prop} {QL:List D->Sto->Prop} {ta tb tv ti:NTE} {tas:NTA} {ka kb:NTB} {f:FE} {fb:ae->Option Bool} {as:FEs} {g:D->D->Option D} {g1:D->Option D} {G:List D->Option D} {T:NTF} {C i t:Nat} {ns:List Str} {E:EndN} {u v w:NTS} {is caps:List Nat}
theorem E5(h:WE f ρ fun d=>Q d M):nP f ρ M Q:=h
theorem E6(h:WB fb ρ fun b=>QB b M):nPB fb ρ M QB:=h
theorem E7(h:ta ρ M fun x M1=>tb ρ M1 fun y M2=>W2 g x y fun d=>Q d M2):n2 g ta tb ρ M Q:=h
theorem E8(h:ta ρ M fun x M1=>W1 g1 x fun d=>Q d M1):n1 g1 ta ρ M Q:=h
theorem E9(h:ta ρ M fun x M1=>kT (fun b=>QB b M1) x):cy ta ρ M QB:=h
theorem Ea(h:ta ρ M fun x M1=>∃ b,tru x=some b/\QB b M1):dA ta ρ M QB:=h
theorem Eb(h:ka ρ M fun b M1=>kIf b (kb ρ M1 QB) (QB false M1)):hG ka kb ρ M QB:=h
theorem Ec(h:ka ρ M fun b M1=>QB (!b) M1):eQ ka ρ M QB:=h
theorem Ed(h:ka ρ M fun b M1=>kIf b (ta ρ M1 Q) (tb ρ M1 Q)):nIf ka ta tb ρ M Q:=h
theorem Ee(h:ta ρ M fun x M1=>kT (fun b=>kIf b (tb ρ M1 Q) (Q (.bl false) M1)) x):hJ ta tb ρ M Q:=h
theorem Ef(h:QL [] M):aA ρ M QL:=h
theorem Eg(h:ta ρ M fun x M1=>tas ρ M1 fun xs M2=>QL (x::xs) M2):ak ta tas ρ M QL:=h
theorem Eh(h:tas ρ M fun ds M1=>ds.length<=1000/\Q (.lst ds) M1):fN tas ρ M Q:=h
theorem Ei(h:tas ρ M fun ds M1=>ds.length<=1000/\Q (.tup ds) M1):hU tas ρ M Q:=h
theorem na(h:WE f ρ fun d=>∃ ds,d=.lst ds/\∀ a,M a=none->Q (.ptr a) (aG M a (.lst ds))):hV f ρ M Q:=h
theorem Ej(h:WA as ρ fun ds=>ds.length=ns.length/\∀ a,M a=none->Q (.ptr a) (aG M a (.dic ns ds))):kC ns as ρ M Q:=h
theorem Ek{a j:Nat}{ds:List D}{d:D}(hv:aa j ρ=some (.ptr a))(hm:M a=some (.dic ns ds))(hd:ds[i]?=some d)(h:Q d M):nDg ns i (nP (aa j)) ρ M Q:=⟨_,hv,a,ds,d,rfl,hm,hd,h⟩
theorem El{a j:Nat}{ds:List D}{d:D}(hv:aa j ρ=some (.ptr a))(hm:M a=some (.ins C ns ds))(hd:ds[i]?=some d)(h:Q d M):bw C ns i (nP (aa j)) ρ M Q:=⟨_,hv,a,ds,d,rfl,hm,hd,h⟩
theorem Em(h:tas ρ M fun ds M1=>T ds M1 Q):aZ T tas ρ M Q:=h
theorem En(h:tas ρ M fun ds M1=>WF G (ds.map (vw1 M1)) fun d=>b0 d=true/\Q d M1):dZ G tas ρ M Q:=h
theorem Eo(h:tas ρ M fun ds M1=>WF G ds fun d=>Q d M1):fO G tas ρ M Q:=h
theorem Ep{a j:Nat}{ds0:List D}(hv:aa j ρ=some (.ptr a))(hm:M a=some (.ins C ns ds0))(h:tas ρ M fun ds M2=>T (.ptr a::ds) M2 Q):cb C ns T (nP (aa j)) tas ρ M Q:=⟨_,hv,a,ds0,rfl,hm,h⟩
theorem Er(h:tas ρ M fun ds M1=>∀ a,M1 a=none->T (.ptr a::ds) (aG M1 a (.ins C [] [])) fun d M2=>d=.non/\Q (.ptr a) M2):kD C T tas ρ M Q:=h
theorem bC{np n:Nat}{ds:List D}(hl:ds.length=np)(h:u { nx:=fun _ M'=>Q .non M',rt:=Q } (ds.map some++List.replicate (n - np) none) M):mkN np n u ds M Q:=⟨hl,h⟩
theorem Et(h:E.nx ρ M):sN E ρ M:=h
theorem Eu(h:u { E with nx:=fun ρ M=>v E ρ M } ρ M):aw u v E ρ M:=h
theorem Ev(h:ka ρ M fun b M1=>kIf b (u E ρ M1) (v E ρ M1)):bB ka u v E ρ M:=h
theorem Ex(h:ta ρ M E.rt):bc ta E ρ M:=h
theorem sB{a:Nat}{ds:List D}(hv:aa i ρ=some (.ptr a))(hm:M a=some (.lst ds))(h:E.rt (.lst ds) (db M a)):kE i E ρ M:=⟨a,ds,hv,hm,h⟩
theorem Ey(h:ta ρ M fun d M1=>E.nx (ρ.set i (some d)) M1):aV i ta E ρ M:=h
theorem Ez(h:ta ρ M fun d M1=>∃ ds,d=.tup ds/\ds.length=is.length/\E.nx ((is.zip ds).foldl (fun r p=>r.set p.1 (some p.2)) ρ) M1):kF is ta E ρ M:=h
theorem EA(h:tv ρ M fun x M1=>ta ρ M1 fun y M2=>∃ a ds,y=.ptr a/\M2 a=some (.dic ns ds)/\E.nx ρ (aG M2 a (.dic ns (ds.set i x)))):hX ns i ta tv E ρ M:=h
theorem EB(h:tv ρ M fun x M1=>ta ρ M1 fun y M2=>∃ a ds,y=.ptr a/\M2 a=some (.ins C ns ds)/\E.nx ρ (aG M2 a (.ins C ns (ds.set i x)))):fP C ns i ta tv E ρ M:=h
theorem fV{fl:Str}(h:tv ρ M fun x M1=>ta ρ M1 fun y M2=>∃ a ds,y=.ptr a/\M2 a=some (.ins C ns ds)/\E.nx ρ (aG M2 a (.ins C (ns++[fl]) (ds++[x])))):cS C ns fl ta tv E ρ M:=h
theorem EC(h:ta ρ M fun x M1=>∃ a ds0,x=.ptr a/\M1 a=some (.lst ds0)/\tv ρ M1 fun y M2=>∃ ds,M2 a=some (.lst ds)/\ds.length < 100000/\E.nx ρ (aG M2 a (.lst (ds++[y])))):iY ta tv E ρ M:=h
theorem ED(h:tv ρ M fun x M1=>ta ρ M1 fun y M2=>ti ρ M2 fun z M3=>∃ a ds k j,y=.ptr a/\M3 a=some (.lst ds)/\z=.int k/\ixN ds.length k=some j/\E.nx ρ (aG M3 a (.lst (ds.set j x)))):dC ta ti tv E ρ M:=h
theorem EE(h:tas ρ M fun ds M1=>∃ j,ds=[.int j]/\okR j/\cT (fun x E ρ M=>u E (ρ.set t (some x)) M) ((List.range j.toNat).map fun k=>.int (k:Nat)) E ρ M1):kG t tas u E ρ M:=h
theorem EF(h:tas ρ M fun ds M1=>∃ i j,ds=[.int i,.int j]/\okR i/\okR j/\cT (fun x E ρ M=>u E (ρ.set t (some x)) M) ((List.range (j - i).toNat).map fun k=>.int (i+(k:Nat))) E ρ M1):kH t tas u E ρ M:=h
theorem sC(h:tas ρ M fun ds M1=>∃ j,ds=[.int j]/\okR j/\j < 1000/\dc 1 ta (aW 1 caps ρ) ((List.range j.toNat).map fun k=>.int (k:Nat)) [] M1 fun ds M2=>Q (.lst ds) M2):hZ caps tas ta ρ M Q:=h
theorem EG(h:tas ρ M fun ds M1=>WF G (ds.map (vw2 M1)) fun d=>b0 d=true/\Q d M1):kI G tas ρ M Q:=h
theorem EH(h:tas ρ M fun ds M1=>WF G (ds.map (vw2 M1)) fun d=>(∃ xs:List Int,d=.lst (xs.map .int))/\Q d M1):kJ G tas ρ M Q:=h
theorem EI(h:tas ρ M fun ds M1=>WF G (ds.map (vw2 M1)) fun d=>Q d M1):kK G tas ρ M Q:=h
theorem EJ(h:ta ρ M fun x M1=>∃ ds,vw1 M1 x=.lst ds/\Q (.lst ds) M1):iZ ta ρ M Q:=h
theorem EK(h:ti ρ M fun d M1=>∃ ds,bM d=some ds/\ds.length<=1000/\dc 1 ta (aW 1 caps ρ) ds [] M1 fun ds M2=>Q (.lst ds) M2):kL caps ti ta ρ M Q:=h
theorem EL(h:ti ρ M fun d M1=>∃ ds,bM d=some ds/\ds.length<=1000/\dc 1 ta (aW 1 caps ρ) ds [] M1 fun ds M2=>∀ a,M2 a=none->Q (.ptr a) (aG M2 a (.lst ds))):fQ caps ti ta ρ M Q:=h
theorem EM(h:ta ρ M fun x M1=>∃ a ds,x=.ptr a/\M1 a=some (.lst ds)/\E.nx ρ (aG M1 a (.lst ds.reverse))):j1 ta E ρ M:=h
theorem EN(h:ta ρ M fun x M1=>∃ a,∃ bs:List Nat,x=.ptr a/\dh (fun x E ρ M=>u E (ρ.set t (some x)) M) a (bs.map .ptr) (bs.map .ptr) E ρ M1):kM t ta u E ρ M:=h
theorem EO(h:ta ρ M fun x M1=>tb ρ M1 fun y M2=>W2 g (vw3 M2 x) (vw3 M2 y) fun d=>b0 d=true/\Q d M2):n2V g ta tb ρ M Q:=h
theorem EQ{n:Nat}(h:ta ρ M fun x M1=>∃ a ds,x=.ptr a/\M1 a=some (.lst ds)/\n<=1000/\Q (.lst (cX ds (some (n:Nat)) none)) M1):kN n ta ρ M Q:=h
theorem ER(h:ta ρ M fun x M1=>∃ a,∃ bs:List Nat,x=.ptr a/\M1 a=some (.lst (bs.map .ptr))/\(∀ b ∈ bs,∃ ds,M1 b=some (.lst ds))/\QB false M1):kO ta ρ M QB:=h
theorem ES(h:tas ρ M fun ds M1=>ds.length<=1000/\∀ a,M1 a=none->Q (.ptr a) (aG M1 a (.lst ds))):kB tas ρ M Q:=h
theorem ET(h:ta ρ M fun x M1=>tb ρ M1 fun y M2=>∃ a ds i d,x=.ptr a/\M2 a=some (.lst ds)/\y=.int i/\atI ds i=some d/\Q d M2):bO ta tb ρ M Q:=h
theorem j7(h:ta ρ M fun x M1=>∃ a ds0,x=.ptr a/\M1 a=some (.ins C ns ds0)/\tas ρ M1 fun ds M2=>T (x::ds) M2 Q):cb C ns T ta tas ρ M Q:=h
theorem sD{a b c:ae->Sto->Prop}{d:D->Sto->Prop}(h:a ρ M):EndN.nx ⟨a,d,b,c⟩ ρ M:=h
theorem sE{a b c:ae->Sto->Prop}{d:D->Sto->Prop}{x:D}(h:d x M):EndN.rt ⟨a,d,b,c⟩ x M:=h
theorem sF{α:Type}{body:D->NTS}(enc:α->D)(xs:List α)(I:Nat->ae->Sto->Prop)(h0:I 0 ρ M)(he:∀ ρ M,I xs.length ρ M->E.nx ρ M)(hs:∀ k (hk:k < xs.length) ρ M,I k ρ M->∀ N:ae->Sto->Prop,(∀ ρ M,I (k+1) ρ M->N ρ M)->body (enc xs[k]) { E with nx:=N,ct:=N,bk:=E.nx } ρ M):cT body (xs.map enc) E ρ M:=by
  have gen:∀ (m k:Nat),m=xs.length - k->k<=xs.length->∀ ρ M,I k ρ M->cT body ((xs.drop k).map enc) E ρ M:=by
    intro m
    induction m with
    | zero =>
      intro k hm hk ρ M h
      have:k=xs.length:=by omega
      subst this
      rw[List.drop_length]
      exact he ρ M h
    | succ m ih =>
      intro k hm hk ρ M h
      have hlt:k < xs.length:=by omega
      rw[List.drop_eq_getElem_cons hlt,List.map_cons]
      exact hs k hlt ρ M h _ fun ρ M z=>ih (k+1) (by omega) hlt ρ M z
  simpa using gen xs.length 0 (by simp) (Nat.zero_le _) ρ M h0
theorem EU{body:D->NTS}{a:Nat}(xs:List Nat)(I:Nat->ae->Sto->Prop)(hI:∀ k ρ M,I k ρ M->M a=some (.lst (xs.map .ptr)))(h0:I 0 ρ M)(he:∀ ρ M,I xs.length ρ M->E.nx ρ M)(hs:∀ k (hk:k < xs.length) ρ M,I k ρ M->∀ N:ae->Sto->Prop,(∀ ρ M,I (k+1) ρ M->N ρ M)->body (.ptr xs[k]) { E with nx:=N,ct:=N,bk:=E.nx } ρ M):dh body a (xs.map .ptr) (xs.map .ptr) E ρ M:=by
  have gen:∀ (m k:Nat),m=xs.length - k->k<=xs.length->∀ ρ M,I k ρ M->dh body a (xs.map .ptr) ((xs.drop k).map .ptr) E ρ M:=by
    intro m
    induction m with
    | zero =>
      intro k hm hk ρ M h
      have:k=xs.length:=by omega
      subst this
      rw[List.drop_length]
      exact⟨hI _ ρ M h,he ρ M h⟩
    | succ m ih =>
      intro k hm hk ρ M h
      have hlt:k < xs.length:=by omega
      rw[List.drop_eq_getElem_cons hlt,List.map_cons]
      exact⟨hI _ ρ M h,hs k hlt ρ M h _ fun ρ M z=>ih (k+1) (by omega) hlt ρ M z⟩
  simpa using gen xs.length 0 (by simp) (Nat.zero_le _) ρ M h0
theorem j8{α:Type}{ρb:ae}(enc:α->D)(xs:List α)(I:Nat->List D->Sto->Prop)(h0:I 0 [] M)(he:∀ ds M,I xs.length ds M->QL ds M)(hs:∀ k (hk:k < xs.length) ds M,I k ds M->∀ N:QE,(∀ d M1,I (k+1) (ds++[d]) M1->N d M1)->ta (ρb.set 0 (some (enc xs[k]))) M N):dc 1 ta ρb (xs.map enc) [] M QL:=by
  have gen:∀ (m k:Nat),m=xs.length - k->k<=xs.length->∀ ds M,I k ds M->dc 1 ta ρb ((xs.drop k).map enc) ds M QL:=by
    intro m
    induction m with
    | zero =>
      intro k hm hk ds M h
      have:k=xs.length:=by omega
      subst this
      rw[List.drop_length]
      exact he ds M h
    | succ m ih =>
      intro k hm hk ds M h
      have hlt:k < xs.length:=by omega
      rw[List.drop_eq_getElem_cons hlt,List.map_cons]
      exact hs k hlt ds M h _ fun d M1 z=>ih (k+1) (by omega) hlt (ds++[d]) M1 z
  simpa using gen xs.length 0 (by simp) (Nat.zero_le _) [] M h0
end
theorem EV{K:D->Prop}{j:Int}(h1:-100000<=j)(h2:j<=100000)(h:K (.lst ((List.range j.toNat).map fun k=>.int (k:Nat)))):WF iT [.int j] K:=⟨_,by simp only[iT,if_pos (And.intro h1 h2)],h⟩
theorem EW{K:D->Prop}(h:K (.bl true)):W1 cQ .non K:=⟨_,rfl,h⟩
theorem EX{K:D->Prop}{i:Int}(h:K (.bl false)):W1 cQ (.int i) K:=⟨_,rfl,h⟩
theorem EY{K:D->Prop}(h:K (.bl false)):W1 dq .non K:=⟨_,rfl,h⟩
theorem EZ{K:D->Prop}{i:Int}(h:K (.bl true)):W1 dq (.int i) K:=⟨_,rfl,h⟩
def Kp(S:Nat->Prop)(M M':Sto):Prop:=∀ b c,M b=some c->¬ S b->M' b=some c
theorem Kp.refl{S:Nat->Prop}{M:Sto}:Kp S M M:=fun _ _ h _=>h
theorem Kp.trans{S S':Nat->Prop}{M M1 M2:Sto}(a:Kp S M M1)(b:Kp S' M1 M2)(h:∀ x,S' x->M x ≠ none->S x):Kp S M M2:=fun x c e n=>b x c (a x c e n) fun z=>n (h x z (by rw[e];exact fun q=>nomatch q))
theorem Kp.upd{S:Nat->Prop}{M:Sto}{a:Nat}{c:Cell}(h:S a\/M a=none):Kp S M (aG M a c):=fun b d e n=>by
  by_cases q:b=a
  · subst q;rcases h with h | h
    · exact absurd h n
    · rw[h] at e;cases e
  · rw[bv q];exact e
theorem Kp.del{S:Nat->Prop}{M:Sto}{a:Nat}(h:S a):Kp S M (db M a):=fun b d e n=>by
  have ne:b ≠ a:=fun q=>n (by rw[q];exact h)
  rw[mO ne];exact e
end VL
namespace VL
namespace My
open PySem (Str)
open L2 (atI ixN)
local macro_rules | `(tactic| walk_at "env")=>`(tactic| (simp only[List.set_cons_zero,List.set_cons_succ,List.map_cons,List.map_nil,List.cons_append,List.nil_append,List.replicate_succ,List.replicate_zero,Nat.reduceSub,Nat.reduceAdd,List.zip_cons_cons,List.zip_nil_left,List.zip_nil_right,List.foldl_cons,List.foldl_nil,aX,aW,List.getElem?_cons_zero,List.getElem?_cons_succ,Option.getD_some,Option.getD_none]))
local macro_rules | `(tactic| walk_at "side")=>`(tactic| first | assumption | exact kt (by omega) (by omega) | exact BI (by omega) (by omega) | exact rz (iX (by omega) (by omega)) (iX (by omega) (by omega)) | exact BK (by omega) | exact BJ (by omega) (iX (by omega) (by omega)) | exact BL (by omega) (by omega) (by omega) (by omega) | omega)
local macro_rules | `(tactic| walk_at "run1")=>`(tactic| first
  | (with_reducible refine AT ?_) | (with_reducible refine AR ?_) | (with_reducible refine Ba ?_) | ((with_reducible refine' AQ ?h ?_);(case h=>exact rfl)) | (with_reducible refine AV ?_) | (with_reducible refine AW ?_)
  | ((with_reducible refine AX ?h ?_);(case h=>walk_at "side")) | ((with_reducible refine AY ?h ?_);(case h=>walk_at "side")) | ((with_reducible refine AZ ?h ?_);(case h=>walk_at "side")) | ((with_reducible refine B0 ?h (fun v hv=>?_));(case h=>walk_at "side");(simp only[Int.reduceToNat,Int.reducePow] at hv);(subst hv))
  | (with_reducible exact rfl) | (with_reducible refine B1 ?_) | (with_reducible refine B2 ?_) | (with_reducible refine B3 ?_) | (with_reducible refine B5 ?_) | (with_reducible refine B6 ?_) | (with_reducible refine B7 ?_) | (with_reducible refine AU ?_) | (with_reducible refine B4 ?_)
  | (with_reducible refine B8 ?_) | (with_reducible refine B9 ?_) | (with_reducible refine Bc ?_) | (with_reducible refine Bd ?_) | (with_reducible refine Be ?_) | (with_reducible refine Bf ?_) | (with_reducible refine Bn ?_)
  | (with_reducible refine Bi ?_) | (with_reducible refine Bj ?_) | (with_reducible refine Bk ?_) | (with_reducible refine Bl ?_) | (with_reducible refine Bm ?_)
  | (with_reducible refine Bp ?_) | (with_reducible refine Bo ?_) | (with_reducible refine Bq ?_) | (with_reducible refine Br ?_) | (with_reducible refine Bs ?_) | (with_reducible refine Bt ?_) | ((with_reducible refine rf ?_);(try walk_at "env")) | (with_reducible refine Bb ?_) | (with_reducible refine rg ?_) | (with_reducible refine rl ?_)
  | (with_reducible refine Bv ?_) | (with_reducible refine rh ?_) | (with_reducible refine rj ?_) | (with_reducible refine Bg ?_) | (with_reducible refine Bh ?_) | (with_reducible refine Bw ?_) | (with_reducible refine Ce ?_)
  | (with_reducible refine BP ?_) | (with_reducible refine BQ ?_) | (with_reducible refine BR ?_)
  | ((with_reducible refine BO ?h ?_);(case h=>first | exact Nat.le_of_ble_eq_true rfl | decide | (simp;done) | (simp;omega)))
  | ((with_reducible refine And.intro ?h ?_);(case h=>first | exact Nat.le_of_ble_eq_true rfl | exact rfl | (with_reducible show ¬ (HT.sIx _ _ _=_/\_);simp[HT.sIx];done))) | ((with_reducible refine Exists.intro _ (And.intro rfl ?_))) | ((with_reducible refine Exists.intro _ (And.intro (seqD_lst _) ?_))) | ((with_reducible refine Exists.intro _ (And.intro (seqD_scr _) ?_))) | (with_reducible refine By ?_) | (with_reducible refine Bz ?_) | (with_reducible refine BA ?_) | (with_reducible refine BB ?_) | ((with_reducible refine' Cm ?h ?_);(case h=>exact rfl)) | (with_reducible refine BC ?_) | (with_reducible refine BD ?_) | (with_reducible refine BE ?_) | (with_reducible refine Ca ?_) | (with_reducible refine BX ?_) | (with_reducible refine BY ?_) | (with_reducible refine BZ ?_) | (with_reducible refine C0 ?_) | (with_reducible refine BW ?_) | (with_reducible refine C1 ?_) | (with_reducible refine C2 ?_)
  | ((with_reducible refine' dY ?h ?_);(case h=>exact rfl)))
local macro_rules | `(tactic| walk_at "run")=>`(tactic| repeat (first | walk_at "run1" | walk_at "call"))
local macro_rules | `(tactic| walk_at "all")=>`(tactic| (walk_at "run";try ((with_reducible first | refine cu (fun h=>?_) (fun h=>?_) | refine ko (fun h=>?_) (fun h=>?_)) <;> walk_at "all")))
local macro_rules | `(tactic| walk_at "leaf")=>`(tactic| first | omega | exact congrArg D.bl (decide_eq_decide.mpr (by omega)) | exact congrArg D.bl (decide_eq_false (by omega)).symm | exact congrArg D.bl (decide_eq_true (by omega)).symm)
local macro_rules | `(tactic| walk_at "n1")=>`(tactic| first
  | (with_reducible refine E5 ?_) | (with_reducible refine E6 ?_) | (with_reducible refine E7 ?_) | (with_reducible refine E8 ?_) | (with_reducible refine E9 ?_) | (with_reducible refine Ea ?_)
  | (with_reducible refine Eb ?_) | (with_reducible refine Ec ?_) | (with_reducible refine Ed ?_) | (with_reducible refine Ee ?_)
  | (with_reducible refine Ef ?_) | (with_reducible refine Eg ?_) | (with_reducible refine Eh ?_) | (with_reducible refine Ei ?_) | (with_reducible refine Em ?_) | (with_reducible refine En ?_)
  | (with_reducible refine Eo ?_) | (with_reducible refine Et ?_) | (with_reducible refine Eu ?_) | (with_reducible refine Ev ?_) | (with_reducible refine Ex ?_) | (with_reducible refine Ey ?_)
  | (with_reducible refine Ez ?_) | (with_reducible refine EA ?_) | (with_reducible refine EB ?_) | (with_reducible refine EC ?_) | (with_reducible refine ED ?_)
  | (with_reducible refine EE ?_) | (with_reducible refine EF ?_) | (with_reducible refine EG ?_) | (with_reducible refine EH ?_) | (with_reducible refine EI ?_) | (with_reducible refine EJ ?_) | (with_reducible refine EM ?_) | (with_reducible refine EN ?_) | (with_reducible refine EK ?_) | (with_reducible refine EL ?_) | (with_reducible refine EO ?_) | (with_reducible refine EQ ?_) | (with_reducible refine ER ?_) | (with_reducible refine ES ?_) | (with_reducible refine ET ?_)
  | (with_reducible refine EW ?_) | (with_reducible refine EX ?_) | (with_reducible refine EY ?_) | (with_reducible refine EZ ?_)
  | ((with_reducible refine sD ?_);(try walk_at "env")) | (with_reducible refine sE ?_))
local macro_rules | `(tactic| walk_at "call")=>`(tactic| walk_at "n1")
local macro_rules | `(tactic| walk_at "call")=>`(tactic| first
  | ((with_reducible refine' El ?h1 ?h2 ?h3 ?_);(case h1=>exact rfl);(case h2=>first | assumption | exact aK);(case h3=>exact rfl))
  | ((with_reducible refine' Ek ?h1 ?h2 ?h3 ?_);(case h1=>exact rfl);(case h2=>first | assumption | exact aK);(case h3=>exact rfl))
  | ((with_reducible refine' Ep ?h1 ?h2 ?_);(case h1=>exact rfl);(case h2=>first | assumption | exact aK)))
def nc:FS:=aQ (cg (e1 (d9 "int") (aa 0)) (cg (gM (e1 (d9 "bool") (aa 0))) (e3c leI leI (aa 1) (aa 0) (aa 2))))
def sG:List D->Option D:=mkF false 3 3 nc
abbrev bY:List D->Option D:=scF sG
def ng:FS:=aN (bf 2 (eC (.int 1))) (aN (gQ 3 (ag (aa 1) (ar)) (bf 2 (e2 ce (aa 2) (aa 0)))) (aQ (aa 2)))
def sH:List D->Option D:=mkF false 2 4 ng
abbrev eR:List D->Option D:=scF sH
def nh:FS:=aQ (cg (e3c leI leI (eC (.int 1)) (eA (aL bz) (ag (aa 0) (ar))) (eC (.int 6))) (eA (aL (eD fun bs=>bs.all id)) (ag (br 1 [] [0] un1 (cO (aa 0)) bL (eA bY (ag (aa 0) (ag (eC (.int 1)) (ag (eC (.int 1000000)) (ar)))))) (ar))))
def sI:List D->Option D:=mkF false 1 1 nh
abbrev j9:List D->Option D:=scF sI
def ni:FS:=aQ (eA (aL cN) (ag (aa 0) (ar)))
def sJ:List D->Option D:=mkF false 1 1 ni
abbrev eS:List D->Option D:=scF sJ
def nj:FS:=aN (sIf (eT (e2 neD (eA (aL bz) (ag (aa 0) (ar))) (e2 b8 (aa 1) (eC (.int 1))))) (aQ (eC (.bl false))) (iG)) (aQ (cg (eA (aL (eD fun bs=>bs.all id)) (ag (br 1 [] [0] un1 (cO (aa 0)) bL (eA bY (ag (aa 0) (ag (eC (.int 0)) (ag (eC (.int 1000)) (ar)))))) (ar))) (e2 gtI (eA eS (ag (aa 0) (ar))) (eC (.int 0)))))
def sK:List D->Option D:=mkF false 2 2 nj
abbrev ja:List D->Option D:=scF sK
def nk:FS:=aQ (cg (e2 leI (eA (aL bz) (ag (aa 0) (ar))) (eC (.int 8))) (eA (aL (eD fun bs=>bs.all id)) (ag (br 1 [1] [0] un1 (cO (aa 0)) bL (eA ja (ag (aa 0) (ag (aa 1) (ar))))) (ar))))
def sL:List D->Option D:=mkF false 2 2 nk
abbrev jb:List D->Option D:=scF sL
def no:FS:=aQ (cg (eA bY (ag (aa 0) (ag (eC (.int 0)) (ag (eC (.int 10)) (ar))))) (cg (eA j9 (ag (aa 1) (ar))) (eA jb (ag (aa 2) (ag (eA (aL bz) (ag (aa 1) (ar))) (ar))))))
def sM:List D->Option D:=mkF false 3 3 no
abbrev kY:List D->Option D:=scF sM
def nq:FS:=aN (bf 2 (ci (ag (aa 1) (ar)))) (aN (iN 3 (aa 0) (iI 2 (e2 ce (e2 ixD (aa 2) (e1 cW (eC (.int 1)))) (eA eS (ag (aa 3) (ar)))))) (aQ (e1 kg (aa 2))))
def sO:List D->Option D:=mkF true 2 4 nq
abbrev dE:List D->Option D:=sO
def nr:FS:=aQ (eA (aL cN) (ag (br 2 [] [0,1] (unT 2) (gS (aa 0) (e2 eu (aa 1) (ci (ag (aa 2) (ar))))) bL (e2 ce (aa 0) (aa 1))) (ar)))
def sP:List D->Option D:=mkF false 3 3 nr
abbrev jc:List D->Option D:=scF sP
def nt:FS:=aQ (e2 b8 (e2 ce (aa 0) (aa 1)) (e2 ixD (aa 2) (e2 bZ (aa 3) (eC (.int 1)))))
def sQ:List D->Option D:=mkF false 4 4 nt
abbrev eU:List D->Option D:=scF sQ
def nu:FS:=aN (sIf (eT (e2 eqD (aa 3) (eC (.int 0)))) (aQ (e2 ixD (aa 2) (aa 3))) (iG)) (aQ (eA (cM fI) (ag (e2 ixD (aa 2) (aa 3)) (ag (eA eU (ag (aa 0) (ag (aa 1) (ag (aa 2) (ag (aa 3) (ar)))))) (ar)))))
def sR:List D->Option D:=mkF false 4 4 nu
abbrev jd:List D->Option D:=scF sR
def nv:FS:=aQ (eA jc (ag (aa 1) (ag (br 1 [2,3,4] [0] un1 (cO (aa 0)) bL (eA jd (ag (aa 0) (ag (aa 1) (ag (aa 2) (ag (aa 3) (ar))))))) (ag (e2 ixD (aa 3) (aa 4)) (ar)))))
def sS:List D->Option D:=mkF false 5 5 nv
abbrev je:List D->Option D:=scF sS
def nw:FS:=aQ (br 1 [0,1,2,3] [0] un1 (iR1 (ag (eA (aL bz) (ag (aa 3) (ar))) (ar))) bL (eA je (ag (aa 1) (ag (aa 2) (ag (aa 3) (ag (aa 4) (ag (aa 0) (ar))))))))
def sT:List D->Option D:=mkF true 4 4 nw
abbrev jf:List D->Option D:=sT
def ny:FS:=aN (bf 4 (eA dE (ag (aa 1) (ag (aa 2) (ar))))) (aN (bf 5 (ci (ag (e1 dS (aa 3)) ar))) (aN (iQ 6 (ag (e2 bZ (eA (aL bz) (ag (aa 1) (ar))) (eC (.int 1))) (ag (e1 cW (eC (.int 1))) (ag (e1 cW (eC (.int 1))) (ar)))) (iS 5 (eA jf (ag (aa 0) (ag (e2 ixD (aa 1) (aa 6)) (ag (e2 ixD (aa 4) (e2 b8 (aa 6) (eC (.int 1)))) (ag (e2 ixD (aa 5) (e1 cW (eC (.int 1)))) (ar)))))))) (gU 5)))
def sU:List D->Option D:=mkF true 4 7 ny
abbrev fW:List D->Option D:=sU
def nz:FS:=aQ (cg (e2 gtI (aa 3) (eC (.int 0))) (e2 geI (eA eU (ag (aa 0) (ag (aa 1) (ag (aa 2) (ag (aa 3) (ar)))))) (e2 ixD (aa 2) (aa 3))))
def sV:List D->Option D:=mkF false 4 4 nz
abbrev i4:List D->Option D:=scF sV
def nA:FS:=aQ (e1 cW (e2 gH (e2 bZ (e2 ixD (aa 1) (e2 bZ (aa 2) (eC (.int 1)))) (e2 ixD (aa 1) (aa 2))) (aa 0)))
def sW:List D->Option D:=mkF false 3 3 nA
abbrev kZ:List D->Option D:=scF sW
def nB:FS:=aN (bf 1 (e2 ixD (aa 0) (eC (.int 0)))) (aN (bf 2 (e2 ixD (aa 0) (eC (.int 1)))) (aN (bf 3 (e2 ixD (aa 0) (eC (.int 2)))) (aN (bf 4 (e2 ixD (aa 0) (eC (.int 3)))) (aN (bf 5 (cg (eA bY (ag (aa 3) (ag (eC (.int 1)) (ag (eC (.int 1000)) (ar))))) (eA bY (ag (aa 2) (ag (eC (.int 0)) (ag (aa 3) (ar))))))) (aQ (cg (eA bY (ag (aa 1) (ag (eC (.int 0)) (ag (eC (.int 10)) (ar))))) (cg (aa 5) (eA bY (ag (aa 4) (ag (eC (.int 0)) (ag (eC (.int 1000000)) (ar))))))))))))
def sX:List D->Option D:=mkF false 1 6 nB
abbrev l0:List D->Option D:=scF sX
def nC:FS:=aN (bf 3 (e2 eu (br 1 [2] [0] un1 (cO (aa 0)) bL (e2 ce (aa 0) (aa 1))) (ci (ag (eC (.int 0)) (ar))))) (aN (bf 4 (e2 eu (ci (ag (eC (.int 0)) (ar))) (br 1 [1] [0] un1 (cO (aa 0)) bL (e2 ce (aa 0) (aa 1))))) (aQ (br 2 [] [0,1] (unT 2) (gS (aa 3) (aa 4)) bL (e2 b8 (aa 0) (aa 1)))))
def sY:List D->Option D:=mkF true 3 5 nC
abbrev jh:List D->Option D:=sY
def nD:FS:=aN (bf 3 (ci (ag (eC (.int 1)) (ar)))) (aN (gQ 4 (ag (aa 0) (ar)) (bf 3 (eA jh (ag (aa 3) (ag (aa 1) (ag (e2 bZ (aa 2) (aa 1)) (ar))))))) (aQ (eL (aa 3))))
def sZ:List D->Option D:=mkF true 3 5 nD
abbrev ji:List D->Option D:=sZ
def nE:FS:=aN (bf 2 (e2 ixD (aa 1) (eC (.int 0)))) (aN (bf 3 (eA ji (ag (aa 0) (ag (e2 ixD (aa 1) (eC (.int 1))) (ag (e2 ixD (aa 1) (eC (.int 2))) (ar)))))) (aQ (eA (aL cN) (ag (br 2 [2] [0,1] (unT 2) (iO (aa 3)) bL (e2 ce (aa 1) (eA (cM fI) (ag (e2 bZ (aa 0) (aa 2)) (ag (eC (.int 0)) (ar)))))) (ar)))))
def t3:List D->Option D:=mkF false 2 4 nE
abbrev jj:List D->Option D:=scF t3
def nF:FS:=aN (bf 3 (e2 ixD (aa 2) (eC (.int 3)))) (aQ (e2 ce (e2 ce (e1 cW (aa 3)) (eA jj (ag (aa 0) (ag (aa 2) (ar))))) (eA eR (ag (e2 ixD (aa 2) (eC (.int 2))) (ag (aa 1) (ar))))))
def t4:List D->Option D:=mkF false 3 4 nF
abbrev jk:List D->Option D:=scF t4
def nG:FS:=aQ (br 1 [0,1] [0] un1 (iR1 (ag (e2 b8 (aa 0) (eC (.int 1))) (ar))) bL (eA jk (ag (e2 bZ (aa 1) (aa 0)) (ag (aa 0) (ag (aa 2) (ar))))))
def t5:List D->Option D:=mkF true 2 2 nG
abbrev fX:List D->Option D:=t5
def nH:FS:=aQ (eA eR (ag (e2 ixD (aa 1) (eC (.int 2))) (ag (aa 0) (ar))))
def t6:List D->Option D:=mkF false 2 2 nH
abbrev fY:List D->Option D:=scF t6
def nI:FS:=aN (iL 2 (eSl (aa 0) (gN (aa 1)) (gN (e2 b8 (aa 1) (eC (.int 1))))) (aQ (aa 2))) (aQ (eC (.int 0)))
def t7:List D->Option D:=mkF false 2 3 nI
abbrev jl:List D->Option D:=scF t7
def nJ:FS:=aQ (cg (e1 (d9 "int") (aa 0)) (gM (e1 (d9 "bool") (aa 0))))
def t8:List D->Option D:=mkF false 1 1 nJ
abbrev la:List D->Option D:=scF t8
def nK:FS:=aN (iJ [1,2,3,4] (aa 0)) (aN (bf 5 (eA fY (ag (aa 1) (ag (aa 4) (ar))))) (aN (bf 6 (eA fW (ag (e1 dS (aa 2)) (ag (br 1 [] [0] un1 (cO (aa 3)) bL (e1 dS (aa 0))) (ag (aa 5) (ag (eA fX (ag (aa 1) (ag (aa 4) (ar)))) (ar))))))) (aQ (iB (ag (eA dE (ag (br 1 [] [0] un1 (cO (aa 3)) bL (e1 dS (aa 0))) (ag (aa 5) (ar)))) (ag (aa 6) (ar)))))))
def t9:List D->Option D:=mkF false 1 7 nK
abbrev lc:List D->Option D:=t9
abbrev NS_Office:List Str:=["seats","fares","rule","scales","table","told","sold","paid","dues","latest"]
def nL(C_Office:Nat):NTS:=aw (bB (eQ (dA (kI kY (ak (nP (aa 1)) (ak (nP (aa 2)) (ak (nP (aa 3)) (aA))))))) (hW) (sN)) (aw (bB (nPB (er (dQ (eA l0 (ag (aa 4) (ar)))))) (hW) (sN)) (aw (aV 5 (nP (eA fY (ag (aa 1) (ag (aa 4) (ar)))))) (aw (cS C_Office (NS_Office.take 0) "seats" (nP (aa 0)) (nP (aa 1))) (aw (cS C_Office (NS_Office.take 1) "fares" (nP (aa 0)) (iZ (nP (aa 2)))) (aw (cS C_Office (NS_Office.take 2) "rule" (nP (aa 0)) (nP (aa 4))) (aw (cS C_Office (NS_Office.take 3) "scales" (nP (aa 0)) (kJ dE (ak (nP (aa 3)) (ak (nP (aa 5)) (aA))))) (aw (cS C_Office (NS_Office.take 4) "table" (nP (aa 0)) (kK fW (ak (nP (aa 2)) (ak (nP (aa 3)) (ak (nP (aa 5)) (ak (nP (eA fX (ag (aa 1) (ag (aa 4) (ar))))) (aA))))))) (aw (cS C_Office (NS_Office.take 5) "told" (nP (aa 0)) (nP (eC (.int 0)))) (aw (cS C_Office (NS_Office.take 6) "sold" (nP (aa 0)) (nP (eC (.int 0)))) (aw (cS C_Office (NS_Office.take 7) "paid" (nP (aa 0)) (nP (eC (.int 0)))) (aw (cS C_Office (NS_Office.take 8) "dues" (nP (aa 0)) (nP (eC .non))) (cS C_Office (NS_Office.take 9) "latest" (nP (aa 0)) (nP (eC .non))))))))))))))
def jm(C_Office:Nat):NTF:=mkN 5 6 (nL C_Office)
def nM(C_Office:Nat):NTS:=aw (kF [1,2,3,4] (nP (aa 0))) (aw (aV 5 (fN (ak (hV (e1 dS (aa 2))) (ak (fQ [] (nP (aa 3)) (hV (e1 dS (aa 0)))) (aA))))) (aw (aV 6 (kD C_Office (jm C_Office) (ak (nP (aa 1)) (ak (n2 ixD (nP (aa 5)) (nP (eC (.int 0)))) (ak (n2 ixD (nP (aa 5)) (nP (eC (.int 1)))) (ak (nP (aa 4)) (aA))))))) (aw (bB (cy (n2V neD (nP (aa 5)) (nP (ci (ag (aa 2) (ag (aa 3) (ar))))))) (bc (nP (eC .non))) (sN)) (aw (j1 (n2 ixD (nP (aa 5)) (nP (eC (.int 0))))) (aw (dC (n2 ixD (nP (aa 5)) (nP (eC (.int 0)))) (nP (eC (.int 0))) (nP (e2 gJ (eC (.int 10)) (eC (.int 6))))) (aw (kM 7 (n2 ixD (nP (aa 5)) (nP (eC (.int 1)))) (aw (j1 (nP (aa 7))) (dC (nP (aa 7)) (nP (eC (.int 0))) (nP (eC (.int 1000)))))) (aw (iY (n2 ixD (nP (aa 5)) (nP (eC (.int 1)))) (nP (e2 iD (ci (ag (eC (.int 1000)) (ar))) (e2 b8 (eA (aL bz) (ag (aa 2) (ar))) (eC (.int 1)))))) (bc (kB (ak (nP (aa 6)) (ak (nP (eC (.int 0))) (ak (nP (aa 1)) (ak (nP (eC (.int 0))) (aA))))))))))))))
def i5(C_Office:Nat):NTF:=mkN 1 8 (nM C_Office)
def nN(C_Office:Nat):NTS:=bc (kC ["rest","mixed","count"] (ag (eA jl (ag (aa 0) (ag (aa 1) (ar)))) (ag (e2 eqD (e2 dP (eA jl (ag (aa 0) (ag (eC (.int 0)) (ar)))) (eC (.int 2))) (eC (.int 1))) (ag (e2 b8 (eC (.int 1)) (aa 1)) (ar)))))
def eV(C_Office:Nat):NTF:=mkN 2 2 (nN C_Office)
def nO(C_Office:Nat):NTS:=bc (bw C_Office NS_Office 5 (nP (aa 0)))
def jn(C_Office:Nat):NTF:=mkN 1 1 (nO C_Office)
def nQ(C_Office:Nat):NTS:=bc (n2 bZ (bw C_Office NS_Office 0 (nP (aa 0))) (bw C_Office NS_Office 6 (nP (aa 0))))
def de(C_Office:Nat):NTF:=mkN 1 1 (nQ C_Office)
def nR(C_Office:Nat):NTS:=bc (nIf (cy (n1 cQ (bw C_Office NS_Office 8 (nP (aa 0))))) (bw C_Office NS_Office 7 (nP (aa 0))) (n2 bZ (bw C_Office NS_Office 7 (nP (aa 0))) (bw C_Office NS_Office 8 (nP (aa 0)))))
def jo(C_Office:Nat):NTF:=mkN 1 1 (nR C_Office)
def nS(C_Office:Nat):NTS:=aw (aV 1 (fN (ak (cb C_Office NS_Office (jn C_Office) (bO (nP (aa 0)) (nP (eC (.int 0)))) aA) (ak (cb C_Office NS_Office (de C_Office) (bO (nP (aa 0)) (nP (eC (.int 0)))) aA) (ak (cb C_Office NS_Office (jo C_Office) (bO (nP (aa 0)) (nP (eC (.int 0)))) aA) (aA)))))) (bc (hJ (n2 eqD (nP (aa 1)) (kN 1 (nP (aa 0)))) (nP (e2 eqD (br 1 [] [0] un1 (cO (aa 1)) (er (dQ (eA la (ag (aa 0) (ar))))) (aa 0)) (ci (ar))))))
def eW(C_Office:Nat):NTF:=mkN 1 2 (nS C_Office)
def nT(C_Office:Nat):NTS:=aw (aV 2 (nDg ["rest","mixed","count"] 0 (nP (aa 0)))) (aw (bB (eQ (dA (nDg ["rest","mixed","count"] 1 (nP (aa 0))))) (aw (hX ["rest","mixed","count"] 0 (nP (aa 0)) (nP (e2 gH (aa 2) (aa 1)))) (bc (nP (e2 dP (aa 2) (aa 1))))) (sN)) (aw (hX ["rest","mixed","count"] 2 (nP (aa 0)) (n2 b8 (nDg ["rest","mixed","count"] 2 (nP (aa 0))) (nP (eC (.int 1))))) (aw (aV 2 (n2 b8 (nP (e2 dP (aa 2) (eC (.int 1000000000039)))) (n2 ce (nP (eC (.int 60013))) (nDg ["rest","mixed","count"] 2 (nP (aa 0)))))) (aw (aV 2 (nP (e2 dP (e2 ce (aa 2) (e2 b8 (aa 2) (eC (.int 17)))) (eC (.int 1000000000061))))) (aw (aV 2 (nP (e2 dP (e2 ce (aa 2) (aa 2)) (eC (.int 999999999989))))) (aw (hX ["rest","mixed","count"] 0 (nP (aa 0)) (nP (aa 2))) (bc (nP (e2 dP (e2 gH (aa 2) (eC (.int 5))) (aa 1))))))))))
def bG(C_Office:Nat):NTF:=mkN 2 3 (nT C_Office)
def nU(C_Office:Nat):NTS:=aw (aV 2 (aZ (bG C_Office) (ak (nP (aa 0)) (ak (nP (eC (.int 4))) (aA))))) (aw (bB (nPB (eT (e2 eqD (aa 2) (eC (.int 0))))) (bc (aZ (bG C_Office) (ak (nP (aa 0)) (ak (nP (eA (cM fJ) (ag (eC (.int 10)) (ag (aa 1) (ar))))) (aA))))) (sN)) (aw (bB (nPB (eT (e2 eqD (aa 2) (eC (.int 1))))) (bc (nP (e2 bZ (aa 1) (eC (.int 1))))) (sN)) (bc (aZ (bG C_Office) (ak (nP (aa 0)) (ak (nP (aa 1)) (aA)))))))
def eX(C_Office:Nat):NTF:=mkN 2 3 (nU C_Office)
def nV(C_Office:Nat):NTS:=aw (aV 1 (n2 b8 (nP (eC (.int 1))) (aZ (eX C_Office) (ak (nP (aa 0)) (ak (nP (eC (.int 1000))) (aA)))))) (bc (hU (ak (aZ (bG C_Office) (ak (nP (aa 0)) (ak (nP (eC (.int 11))) (aA)))) (ak (aZ (bG C_Office) (ak (nP (aa 0)) (ak (nP (e2 b8 (aa 1) (eC (.int 1)))) (aA)))) (ak (nP (aa 1)) (ak (aZ (eX C_Office) (ak (nP (aa 0)) (ak (nP (e2 b8 (e2 gJ (eC (.int 10)) (eC (.int 6))) (eC (.int 1)))) (aA)))) (aA)))))))
def jp(C_Office:Nat):NTF:=mkN 1 2 (nV C_Office)
def nW(C_Office:Nat):NTS:=aw (aV 2 (hV (ci (ar)))) (aw (kG 3 (ak (nP (e2 b8 (aa 1) (eC (.int 1)))) (aA)) (iY (nP (aa 2)) (n2 ixD (fN (ak (nP (eC (.int 0))) (ak (aZ (bG C_Office) (ak (nP (aa 0)) (ak (nP (eC (.int 10))) (aA)))) (ak (aZ (bG C_Office) (ak (nP (aa 0)) (ak (nP (eC (.int 1001))) (aA)))) (aA))))) (aZ (bG C_Office) (ak (nP (aa 0)) (ak (nP (eC (.int 3))) (aA))))))) (aw (bB (cy (n2 eqD (dZ (aL cN) (ak (nP (aa 2)) (aA))) (nP (eC (.int 0))))) (dC (nP (aa 2)) (nP (aa 1)) (nP (eC (.int 1)))) (sN)) (kE 2)))
def jq(C_Office:Nat):NTF:=mkN 2 4 (nW C_Office)
def nX(C_Office:Nat):NTS:=aw (aV 2 (aZ (eV C_Office) (ak (nP (aa 0)) (ak (nP (aa 1)) (aA))))) (aw (aV 3 (aZ (bG C_Office) (ak (nP (aa 2)) (ak (nP (eC (.int 11))) (aA))))) (aw (aV 4 (hZ [2] (ak (n2 b8 (nP (eC (.int 1))) (aZ (bG C_Office) (ak (nP (aa 2)) (ak (nP (eC (.int 6))) (aA))))) (aA)) (n2 b8 (nP (eC (.int 1))) (aZ (eX C_Office) (ak (nP (aa 1)) (ak (nP (e2 gJ (eC (.int 10)) (eC (.int 6)))) (aA))))))) (aw (aV 5 (aZ (jp C_Office) (ak (nP (aa 2)) (aA)))) (aw (aV 6 (aZ (bG C_Office) (ak (nP (aa 2)) (ak (nP (eC (.int 9))) (aA))))) (aw (aV 2 (aZ (eV C_Office) (ak (nP (aa 0)) (ak (nP (e2 b8 (aa 1) (eC (.int 1)))) (aA))))) (bc (hU (ak (nP (aa 3)) (ak (nP (aa 4)) (ak (hZ [2,4] (ak (nP (aa 6)) (aA)) (aZ (jq C_Office) (ak (nP (aa 1)) (ak (nP (eA (aL bz) (ag (aa 2) (ar)))) (aA))))) (ak (nP (aa 5)) (aA))))))))))))
def i6(C_Office:Nat):NTF:=mkN 2 7 (nX C_Office)
def nY(C_Office:Nat):NTS:=bc (n2 eqD (bw C_Office NS_Office 5 (nP (aa 0))) (n2 bZ (dZ (aL bz) (ak (bw C_Office NS_Office 3 (nP (aa 0))) (aA))) (nP (eC (.int 1)))))
def jr(C_Office:Nat):NTF:=mkN 1 1 (nY C_Office)
def ld(C_Office:Nat):NTS:=aw (bB (nPB (eT (e1 cQ (aa 1)))) (bc (nP (eC .non))) (sN)) (aw (bB (eQ (dA (fO bY (ak (nP (aa 1)) (ak (nP (eC (.int 0))) (ak (n2 bZ (dZ (aL bz) (ak (bw C_Office NS_Office 1 (nP (aa 0))) (aA))) (nP (eC (.int 1)))) (aA))))))) (hW) (sN)) (bc (n2 ixD (bw C_Office NS_Office 1 (nP (aa 0))) (nP (aa 1)))))
def i7(C_Office:Nat):NTF:=mkN 2 2 (ld C_Office)
def lf(C_Office:Nat):NTS:=aw (aV 2 (n2 b8 (bw C_Office NS_Office 5 (nP (aa 0))) (nP (eC (.int 1))))) (bc (hJ (nP (e1 dq (aa 1))) (fO i4 (ak (nP (aa 1)) (ak (n2 ixD (bw C_Office NS_Office 3 (nP (aa 0))) (nP (aa 2))) (ak (n2 ixD (bw C_Office NS_Office 4 (nP (aa 0))) (nP (aa 2))) (ak (cb C_Office NS_Office (de C_Office) (nP (aa 0)) aA) (aA))))))))
def i8(C_Office:Nat):NTF:=mkN 2 3 (lf C_Office)
def nZ(C_Office:Nat):NTS:=aw (bB (cy (n2 eqD (cb C_Office NS_Office (de C_Office) (nP (aa 0)) aA) (nP (eC (.int 0))))) (bc (nP (eC .non))) (sN)) (aw (aV 1 (n2 b8 (bw C_Office NS_Office 5 (nP (aa 0))) (nP (eC (.int 1))))) (bc (fO kZ (ak (n2 ixD (bw C_Office NS_Office 3 (nP (aa 0))) (nP (aa 1))) (ak (n2 ixD (bw C_Office NS_Office 4 (nP (aa 0))) (nP (aa 1))) (ak (cb C_Office NS_Office (de C_Office) (nP (aa 0)) aA) (aA)))))))
def js(C_Office:Nat):NTF:=mkN 1 2 (nZ C_Office)
def lg(C_Office:Nat):NTS:=aw (bB (dA (cb C_Office NS_Office (jr C_Office) (nP (aa 0)) aA)) (hW) (sN)) (aw (aV 2 (cb C_Office NS_Office (i7 C_Office) (nP (aa 0)) (ak (nP (aa 1)) (aA)))) (aw (aV 3 (cb C_Office NS_Office (i8 C_Office) (nP (aa 0)) (ak (nP (aa 2)) (aA)))) (aw (fP C_Office NS_Office 9 (nP (aa 0)) (hU (ak (bw C_Office NS_Office 5 (nP (aa 0))) (ak (cb C_Office NS_Office (de C_Office) (nP (aa 0)) aA) (ak (cb C_Office NS_Office (js C_Office) (nP (aa 0)) aA) (ak (nP (aa 2)) (aA))))))) (aw (fP C_Office NS_Office 5 (nP (aa 0)) (n2 b8 (bw C_Office NS_Office 5 (nP (aa 0))) (nP (eC (.int 1))))) (aw (bB (nPB (dQ (aa 3))) (aw (fP C_Office NS_Office 6 (nP (aa 0)) (n2 b8 (bw C_Office NS_Office 6 (nP (aa 0))) (nP (eC (.int 1))))) (fP C_Office NS_Office 7 (nP (aa 0)) (n2 b8 (bw C_Office NS_Office 7 (nP (aa 0))) (nP (aa 2))))) (sN)) (bc (nP (aa 3))))))))
def i9(C_Office:Nat):NTF:=mkN 2 4 (lg C_Office)
def lh(C_Office:Nat):NTS:=aw (aV 4 (nP (eC (.bl false)))) (aw (bB (nPB (eT (e1 dq (aa 3)))) (aV 4 (fO i4 (ak (nP (e2 ixD (e2 ixD (aa 0) (eC (.int 1))) (aa 3))) (ak (n2 ixD (nP (e2 ixD (aa 1) (eC (.int 0)))) (n2 b8 (bO (nP (aa 2)) (nP (eC (.int 1)))) (nP (eC (.int 1))))) (ak (iZ (n2 ixD (nP (e2 ixD (aa 1) (eC (.int 1)))) (n2 b8 (bO (nP (aa 2)) (nP (eC (.int 1)))) (nP (eC (.int 1)))))) (ak (bO (nP (aa 2)) (nP (eC (.int 2)))) (aA))))))) (sN)) (aw (aV 5 (cb C_Office NS_Office (i9 C_Office) (bO (nP (aa 2)) (nP (eC (.int 0)))) (ak (nP (aa 3)) (aA)))) (aw (bB (nPB (bOr (er (dQ (e1 (d9 "bool") (aa 5)))) (eT (e2 neD (aa 5) (aa 4))))) (bc (nP (eC (.bl false)))) (sN)) (aw (dC (nP (aa 2)) (nP (eC (.int 1))) (n2 b8 (bO (nP (aa 2)) (nP (eC (.int 1)))) (nP (eC (.int 1))))) (aw (bB (nPB (dQ (aa 4))) (aw (dC (nP (aa 2)) (nP (eC (.int 2))) (n2 bZ (bO (nP (aa 2)) (nP (eC (.int 2)))) (nP (eC (.int 1))))) (dC (nP (aa 2)) (nP (eC (.int 3))) (n2 b8 (bO (nP (aa 2)) (nP (eC (.int 3)))) (nP (e2 ixD (e2 ixD (aa 0) (eC (.int 1))) (aa 3)))))) (sN)) (bc (nP (eC (.bl true)))))))))
def ia(C_Office:Nat):NTF:=mkN 4 6 (lh C_Office)
def o3(C_Office:Nat):NTS:=aw (aV 1 (fN (ak (aZ (i6 C_Office) (ak (nP (aa 0)) (ak (nP (eC (.int 1))) (aA)))) (ak (aZ (i6 C_Office) (ak (nP (aa 0)) (ak (nP (eC (.int 3))) (aA)))) (aA))))) (aw (aV 2 (kL [] (nP (aa 1)) (nP (eA lc (ag (aa 0) (ar)))))) (aw (aV 3 (fQ [] (nP (aa 1)) (aZ (i5 C_Office) (ak (nP (aa 0)) (aA))))) (aw (bB (kO (nP (aa 3))) (bc (nP (eC (.bl false)))) (sN)) (aw (kH 4 (ak (nP (eC (.int 5))) (ak (nP (eA (cM fJ) (ag (eC (.int 63)) (ag (eA (aL bz) (ag (aa 0) (ar))) (ar))))) (aA))) (aw (aV 5 (aZ (eV C_Office) (ak (nP (aa 0)) (ak (nP (aa 4)) (aA))))) (aw (aV 6 (aZ (bG C_Office) (ak (nP (aa 5)) (ak (nP (eC (.int 2))) (aA))))) (aw (aV 7 (n2 ixD (nP (e2 eu (eA iT (ag (eA (aL bz) (ag (e2 ixD (e2 ixD (aa 1) (aa 6)) (eC (.int 1))) (ar))) (ar))) (ci (ag (eC .non) (ar))))) (aZ (bG C_Office) (ak (nP (aa 5)) (ak (nP (e2 b8 (eA (aL bz) (ag (e2 ixD (e2 ixD (aa 1) (aa 6)) (eC (.int 1))) (ar))) (eC (.int 1)))) (aA)))))) (aw (bB (cy (n2 eqD (bO (bO (nP (aa 3)) (nP (aa 6))) (nP (eC (.int 1)))) (nP (eA (aL bz) (ag (e2 ixD (e2 ixD (aa 1) (aa 6)) (eC (.int 2))) (ar)))))) (dC (nP (aa 3)) (nP (aa 6)) (aZ (i5 C_Office) (ak (nP (e2 ixD (aa 1) (aa 6))) (aA)))) (sN)) (aw (bB (cy (n1 cQ (bO (nP (aa 3)) (nP (aa 6))))) (bc (nP (eC (.bl false)))) (sN)) (aw (bB (hG (nPB (eT (e2 gtI (eA (aL bz) (ag (e2 ixD (e2 ixD (aa 1) (aa 6)) (eC (.int 2))) (ar))) (eC (.int 0))))) (eQ (dA (aZ (ia C_Office) (ak (nP (e2 ixD (aa 1) (aa 6))) (ak (nP (e2 ixD (aa 2) (aa 6))) (ak (bO (nP (aa 3)) (nP (aa 6))) (ak (nP (aa 7)) (aA))))))))) (bc (nP (eC (.bl false)))) (sN)) (bB (hG (cy (n2 eqD (aZ (bG C_Office) (ak (nP (aa 5)) (ak (nP (eC (.int 3))) (aA)))) (nP (eC (.int 0))))) (eQ (hG (dA (aZ (eW C_Office) (ak (bO (nP (aa 3)) (nP (eC (.int 0)))) (aA)))) (dA (aZ (eW C_Office) (ak (bO (nP (aa 3)) (nP (eC (.int 1)))) (aA))))))) (bc (nP (eC (.bl false)))) (sN))))))))) (bc (hJ (aZ (eW C_Office) (ak (bO (nP (aa 3)) (nP (eC (.int 0)))) (aA))) (aZ (eW C_Office) (ak (bO (nP (aa 3)) (nP (eC (.int 1)))) (aA)))))))))
def o6(C_Office:Nat):NTF:=mkN 1 8 (o3 C_Office)
def Pool(M:Sto)(a:Nat)(n:Nat):Prop:=∃ (r:Int) (m:Bool) (c:Int),M a=some (.dic ["rest","mixed","count"] [.int r,.bl m,.int c])/\0<=c/\c<=(n:Nat)
theorem Pool.keep{M M':Sto}{a n:Nat}{S:Nat->Prop}(h:Pool M a n)(k:Kp S M M')(hs:¬ S a):Pool M' a n:=by
  obtain⟨r,m,c,h1,h2⟩:=h
  exact⟨r,m,c,k _ _ h1 hs,h2⟩
theorem Pool.le{M:Sto}{a n n':Nat}(h:Pool M a n)(k:n<=n'):Pool M a n':=by
  obtain⟨r,m,c,h1,h2,h3⟩:=h
  exact⟨r,m,c,h1,h2,by omega⟩
theorem cv{C a n:Nat}{M:Sto}{Q:QE}{many:Int}(hp:Pool M a n)(hn:n<=100000)(h0:0 < many)(h1:many<=10 ^ 41)(h:∀ r M',0<=r->r < many->Pool M' a (n+1)->Kp (· = a) M M'->Q (.int r) M'):bG C [.ptr a,.int many] M Q:=by
  obtain⟨r,m,c,hm,hc1,hc2⟩:=hp
  refine bC rfl ?_
  unfold nT
  walk_at "env"
  cases m with
  | false =>
    walk_at "run"
    refine⟨a,_,rfl,hm,?_⟩
    walk_at "run"
    refine h _ _ (Int.emod_nonneg _ (by omega)) (Int.emod_lt_of_pos _ h0) ⟨_,_,_,aK,hc1,by omega⟩ (Kp.upd (.inl rfl))
  | true =>
    walk_at "run"
    refine⟨a,_,rfl,hm,?_⟩
    walk_at "run"
    refine⟨a,_,rfl,aK,?_⟩
    walk_at "run"
    rw[cx]
    refine h _ _ (Int.emod_nonneg _ (by omega)) (Int.emod_lt_of_pos _ h0) ⟨_,_,_,aK,by omega,by omega⟩ (Kp.upd (.inl rfl))
theorem tf{ns:List Int}{k:Int}(h0:0<=k):WF jl [.scr ns,.int k] fun d=>∃ x,d=.int x:=by
  refine bW (bp rfl ?_)
  unfold nI
  walk_at "env"
  walk_at "run"
  have e:cX (ns.map D.int) (some k) (some (k+1))=(cX ns (some k) (some (k+1))).map D.int:=by simp[cX,List.map_drop,List.map_take]
  rw[e]
  cases cX ns (some k) (some (k+1)) with
  | nil=>exact⟨_,rfl,_,rfl,rfl,_,rfl⟩
  | cons x r=>exact⟨_,rfl,rfl,_,rfl⟩
theorem o7{C:Nat}{M:Sto}{Q:QE}{ns:List Int}{k:Int}(h0:0<=k)(h1:k<=1000)(h:∀ a M',M a=none->Pool M' a 2000->Kp (fun _=>False) M M'->Q (.ptr a) M'):eV C [.scr ns,.int k] M Q:=by
  refine bC rfl ?_
  unfold nN
  walk_at "env"
  walk_at "run"
  refine Ej ?_
  walk_at "run"
  refine iW (tf h0) ?_
  rintro _ ⟨x,rfl⟩
  walk_at "run"
  refine iW (tf (by omega)) ?_
  rintro _ ⟨y,rfl⟩
  walk_at "run"
  intro a ha
  refine sE ?_
  exact h a _ ha ⟨_,_,_,aK,by omega,by omega⟩ (Kp.upd (.inr ha))
theorem o8{C a n:Nat}{M:Sto}{Q:QE}{most:Int}(hp:Pool M a n)(hn:n<=90000)(h0:0 < most)(h1:most<=10 ^ 41)(h:∀ r M',0<=r->r < most->Pool M' a (n+2)->Kp (· = a) M M'->Q (.int r) M'):eX C [.ptr a,.int most] M Q:=by
  refine bC rfl ?_
  unfold nU
  walk_at "env"
  walk_at "run"
  refine cv hp (by omega) (by omega) (by omega) fun r M1 a1 a2 p1 k1=>?_
  walk_at "run"
  refine cu (fun e=>?_) fun e=>?_
  · walk_at "run"
    refine cv p1 (by omega) (by omega) (by omega) fun r2 M2 b1 b2 p2 k2=>?_
    walk_at "run"
    exact h _ _ b1 (by omega) p2 (k1.trans k2 fun _ z _=>z)
  walk_at "run"
  refine cu (fun e=>?_) fun e=>?_
  · walk_at "run"
    exact h _ _ (by omega) (by omega) (p1.le (by omega)) k1
  walk_at "run"
  refine cv p1 (by omega) (by omega) (by omega) fun r2 M2 b1 b2 p2 k2=>?_
  walk_at "run"
  exact h _ _ b1 b2 p2 (k1.trans k2 fun _ z _=>z)
theorem F0{M:Sto}{a:Nat}{ds:List D}(h:M a=some (.lst ds)):vw1 M (.ptr a)=.lst ds:=by simp only[vw1,h]
def F1(m:Nat)(r:List Int):Prop:=r.length=m+1/\(∀ x ∈ r,0<=x/\x<=1000)/\0 < r.sum
theorem F2{C a n m:Nat}{M:Sto}{Q:QE}(hp:Pool M a n)(hn:n<=60000)(hm:m<=10)(h:∀ r M',F1 m r->Pool M' a (n+33)->Kp (· = a) M M'->Q (DI r) M'):jq C [.ptr a,.int (m:Nat)] M Q:=by
  refine bC rfl ?_
  unfold nW
  walk_at "env"
  walk_at "run"
  refine na ?_
  walk_at "run"
  intro x hx
  have hxa:x ≠ a:=fun e=>by subst e;obtain⟨_,_,_,h1,_⟩:=hp;rw[hx] at h1;cases h1
  walk_at "run"
  refine⟨⟨by omega,by omega⟩,?_⟩
  rw[show ((m:Int)+1).toNat=m+1 by omega]
  refine sF _ _ (fun k ρ M'=>∃ b,ρ=[some (.ptr a),some (.int (m:Nat)),some (.ptr x),b]/\∃ r:List Int,M' x=some (.lst (r.map D.int))/\r.length=k/\(∀ z ∈ r,0<=z/\z<=1000)/\Pool M' a (n+3 * k)/\Kp (· = a) M M') ⟨_,rfl,[],aK,rfl,by simp,hp.keep (S:=fun _=>False) (Kp.upd (.inr hx)) id,Kp.upd (.inr hx)⟩ ?_ ?_
  · rintro ρ M1 ⟨b,rfl,r,h1,h2,h3,p1,k1⟩
    rw[List.length_range] at h2 p1
    walk_at "run"
    rw[show List.map (vw1 M1) [D.ptr x]=[DI r] by simp[F0 h1]]
    walk_at "run"
    have hnn:=ky fun z hz=>(h3 z hz).1
    have hdel:∀ c,Kp (· = a) M (db (aG M1 x c) x):=fun c=>(k1.trans (Kp.upd (S:=(· = x)) (.inl rfl)) fun b z n=>by subst z;exact absurd hx n).trans (Kp.del (S:=(· = x)) rfl) fun b z n=>by subst z;exact absurd hx n
    have hpd:∀ M2:Sto,Pool M2 a (n+3 * (m+1))->Pool (db M2 x) a (n+33):=fun M2 p=>(p.keep (S:=(· = x)) (Kp.del rfl) (Ne.symm hxa)).le (by omega)
    refine cu (fun e=>?_) fun e=>?_
    · walk_at "run"
      refine⟨x,_,_,m,rfl,h1,rfl,?_,?_⟩
      · rw[List.length_map,h2];unfold ixN;rw[if_pos (by omega),if_pos (by omega)];congr 1
      walk_at "run"
      refine sB rfl aK ?_
      walk_at "run"
      have hs:(r.map D.int).set m (D.int 1)=(r.set m 1).map D.int:=by rw[List.map_set]
      rw[hs]
      refine h (r.set m 1) _ ⟨by rw[List.length_set,h2],fun z hz=>?_,?_⟩ ?_ ?_
      · rcases List.mem_or_eq_of_mem_set hz with hz | hz
        · exact h3 z hz
        · subst hz;omega
      · have hall:∀ z ∈ r.set m 1,0<=z:=fun z hz=>by
          rcases List.mem_or_eq_of_mem_set hz with hz | hz
          · exact (h3 z hz).1
          · subst hz;omega
        have hmem:(1:Int) ∈ r.set m 1:=List.mem_set (by omega) ..
        obtain⟨u,w,e⟩:=List.append_of_mem hmem
        rw[e] at hall ⊢
        rw[List.sum_append,List.sum_cons]
        have g1:=ky fun y hy=>hall y (List.mem_append_left _ hy)
        have g2:=ky fun y hy=>hall y (List.mem_append_right _ (List.mem_cons_of_mem _ hy))
        omega
      · exact hpd _ (p1.keep (S:=(· = x)) (Kp.upd (.inl rfl)) (Ne.symm hxa))
      · exact hdel _
    · walk_at "run"
      refine sB rfl h1 ?_
      walk_at "run"
      refine h r _ ⟨h2,h3,by omega⟩ (hpd _ p1) ?_
      have:=hdel (.lst (r.map D.int))
      rwa [Cn h1] at this
  · rintro k hk ρ M1 ⟨b,rfl,r,h1,h2,h3,p1,k1⟩ N hN
    rw[List.length_range] at hk
    walk_at "env"
    walk_at "run"
    refine⟨x,_,rfl,h1,?_⟩
    walk_at "run"
    refine cv p1 (by omega) (by omega) (by omega) fun v1 M2 a1 a2 p2 k2=>?_
    walk_at "run"
    refine cv p2 (by omega) (by omega) (by omega) fun v2 M3 b1 b2 p3 k3=>?_
    walk_at "run"
    refine cv p3 (by omega) (by omega) (by omega) fun v3 M4 c1 c2 p4 k4=>?_
    walk_at "run"
    refine BN 0 1000 c1 (by show _ < (3:Int);omega) (by simp only[AllI,and_true];omega) fun v e1 e2=>?_
    have x4:M4 x=some (.lst (r.map D.int)):=k4 _ _ (k3 _ _ (k2 _ _ h1 hxa) hxa) hxa
    refine⟨_,x4,by simp;omega,sD (hN _ _ ⟨_,rfl,r++[v],?_,by simp[h2],fun z hz=>?_,?_,?_⟩)⟩
    · rw[aK,List.map_append];rfl
    · rcases List.mem_append.mp hz with hz | hz
      · exact h3 z hz
      · rw[List.mem_singleton.mp hz];exact⟨e1,e2⟩
    · exact (p4.keep (S:=(· = x)) (Kp.upd (.inl rfl)) (Ne.symm hxa)).le (by omega)
    · exact (((k1.trans k2 fun _ z _=>z).trans k3 fun _ z _=>z).trans k4 fun _ z _=>z).trans (Kp.upd (S:=(· = x)) (.inl rfl)) fun b z n=>by subst z;exact absurd hx n
theorem F3{C a n:Nat}{M:Sto}{Q:QE}(hp:Pool M a n)(hn:n<=80000)(h:∀ r c o d M',0<=r->r<=10->0<=c->c<=o->1<=o->o<=1000->0<=d->d<=1000000->Pool M' a (n+6)->Kp (· = a) M M'->Q (.tup [.int r,.int c,.int o,.int d]) M'):jp C [.ptr a] M Q:=by
  refine bC rfl ?_
  unfold nV
  walk_at "env"
  walk_at "run"
  refine o8 hp (by omega) (by omega) (by omega) fun o M1 a1 a2 p1 k1=>?_
  walk_at "run"
  refine cv p1 (by omega) (by omega) (by omega) fun r M2 b1 b2 p2 k2=>?_
  walk_at "run"
  refine cv p2 (by omega) (by omega) (by omega) fun c M3 c1 c2 p3 k3=>?_
  walk_at "run"
  refine o8 p3 (by omega) (by omega) (by omega) fun d M4 d1 d2 p4 k4=>?_
  walk_at "run"
  exact h _ _ _ _ _ b1 (by omega) c1 (by omega) (by omega) (by omega) d1 (by omega) p4 (((k1.trans k2 fun _ z _=>z).trans k3 fun _ z _=>z).trans k4 fun _ z _=>z)
def RowsOk(n:Nat)(ts:List (List Int)):Prop:=∀ r ∈ ts,r.length=n+1/\(∀ x ∈ r,0<=x/\x<=1000)/\0 < r.sum
theorem RowsOk.sum{n:Nat}{ts:List (List Int)}(h:RowsOk n ts)(hn:n<=10):∀ r ∈ ts,0<=r.sum/\r.sum < 1000000:=fun r hr=>by
  obtain⟨h1,h2,h3⟩:=h r hr
  have h4:=rC (b:=1000) fun x hx=>(h2 x hx).2
  omega
theorem tj{C:Nat}{M:Sto}{Q:QE}{ns:List Int}{k:Int}(h0:0<=k)(h1:k<=900)(h:∀ (S:Nat) fares turns r c o d M',S<=10->1<=fares.length->fares.length<=6->(∀ x ∈ fares,1<=x/\x<=1000000)->turns.length<=8->RowsOk fares.length turns->0<=r->r<=10->0<=c->c<=o->1<=o->o<=1000->0<=d->d<=1000000->Kp (fun _=>False) M M' ->
      Q (.tup [.int (S:Nat),DI fares,DII turns,.tup [.int r,.int c,.int o,.int d]]) M'):i6 C [.scr ns,.int k] M Q:=by
  refine bC rfl ?_
  unfold nX
  walk_at "env"
  walk_at "run"
  refine o7 h0 (by omega) fun p M1 hp P1 K1=>?_
  walk_at "run"
  refine cv P1 (by omega) (by omega) (by omega) fun s M2 a1 a2 P2 K2=>?_
  walk_at "run"
  refine sC ?_
  walk_at "run"
  refine cv P2 (by omega) (by omega) (by omega) fun j M3 b1 b2 P3 K3=>?_
  walk_at "run"
  refine⟨⟨by omega,by omega⟩,by omega,?_⟩
  obtain⟨J,rfl⟩:∃ J:Nat,j=J:=⟨j.toNat,by omega⟩
  rw[show (1+(J:Int)).toNat=J+1 by omega]
  refine j8 _ _ (fun k ds M'=>∃ fs:List Int,ds=fs.map D.int/\fs.length=k/\(∀ x ∈ fs,1<=x/\x<=1000000)/\Pool M' p (3000+2 * k)/\Kp (· = p) M3 M') ⟨[],rfl,rfl,by simp,P3.le (by omega),Kp.refl⟩ ?_ ?_
  · rintro _ M4 ⟨fares,rfl,c1,c2,P4,K4⟩
    rw[List.length_range] at c1 P4
    walk_at "run"
    refine F3 P4 (by omega) fun r c o d M5 d1 d2 d3 d4 d5 d6 d7 d8 P5 K5=>?_
    walk_at "run"
    refine cv P5 (by omega) (by omega) (by omega) fun m M6 e1 e2 P6 K6=>?_
    walk_at "run"
    refine o7 (by omega) (by omega) fun q M7 hq P7 K7=>?_
    walk_at "run"
    refine sC ?_
    walk_at "run"
    refine⟨⟨by omega,by omega⟩,by omega,?_⟩
    obtain⟨T,rfl⟩:∃ T:Nat,m=T:=⟨m.toNat,by omega⟩
    obtain⟨S,rfl⟩:∃ S:Nat,s=S:=⟨s.toNat,by omega⟩
    rw[Int.toNat_natCast]
    have KK:Kp (fun _=>False) M M7:=by
      have z:Kp (· = p) M1 M6:=(((K2.trans K3 fun _ z _=>z).trans K4 fun _ z _=>z).trans K5 fun _ z _=>z).trans K6 fun _ z _=>z
      exact (K1.trans z fun x e n=>by subst e;exact absurd hp n).trans K7 fun _ z _=>z
    refine j8 _ _ (fun k ds M'=>∃ ts:List (List Int),ds=ts.map DI/\ts.length=k/\RowsOk fares.length ts/\Pool M' q (2000+33 * k)/\Kp (· = q) M7 M') ⟨[],rfl,rfl,fun _ z=>by simp at z,P7,Kp.refl⟩ ?_ ?_
    · rintro _ M8 ⟨ts,rfl,f1,f2,P8,K8⟩
      rw[List.length_range] at f1
      walk_at "run"
      have hq':M q=none:=by
        cases e:M q with
        | none=>rfl
        | some c =>
          have z:Kp (· = p) M1 M6:=(((K2.trans K3 fun _ z _=>z).trans K4 fun _ z _=>z).trans K5 fun _ z _=>z).trans K6 fun _ z _=>z
          have:=z _ _ (K1 _ _ e id) (fun e'=>by subst e';rw[e] at hp;cases hp)
          rw[hq] at this;cases this
      exact h S fares ts r c o d M8 (by omega) (by omega) (by omega) c2 (by omega) f2 d1 d2 d3 d4 d5 d6 d7 d8 (KK.trans K8 fun x e n=>by subst e;exact absurd hq' n)
    · rintro k hk _ M8 ⟨ts,rfl,f1,f2,P8,K8⟩ N hN
      rw[List.length_range] at hk
      walk_at "env"
      walk_at "run"
      rw[List.length_map]
      refine F2 P8 (by omega) (by omega) fun row M9 g1 P9 K9=>?_
      refine hN _ _ ⟨ts++[row],by simp[DI],by simp[f1],fun r' hr'=>?_,P9.le (by omega),K8.trans K9 fun _ z _=>z⟩
      rcases List.mem_append.mp hr' with hr' | hr'
      · exact f2 r' hr'
      · rw[List.mem_singleton.mp hr'];exact g1
  · rintro k hk _ M4 ⟨fs,rfl,c1,c2,P4,K4⟩ N hN
    rw[List.length_range] at hk
    walk_at "env"
    walk_at "run"
    refine o8 P4 (by omega) (by omega) (by omega) fun v M5 d1 d2 P5 K5=>?_
    walk_at "run"
    refine hN _ _ ⟨fs++[1+v],by simp,by simp[c1],fun x hx=>?_,P5.le (by omega),K4.trans K5 fun _ z _=>z⟩
    rcases List.mem_append.mp hx with hx | hx
    · exact c2 x hx
    · rw[List.mem_singleton.mp hx];omega
theorem tm(n l m:Int):bY [.int n,.int l,.int m]=some (.bl (decide (l<=n/\n<=m))):=by
  refine bN (bW (bp rfl ?_))
  unfold nc
  walk_at "env"
  walk_at "all" <;> walk_at "leaf"
local macro_rules | `(tactic| walk_at "call")=>`(tactic| (with_reducible refine bb (tm _ _ _) ?_))
theorem tq{row:List Int}:eS [DI row]=some (.int row.sum):=by
  refine bN (bW (bp rfl ?_))
  unfold ni
  walk_at "env"
  walk_at "run"
structure SaleOk (seats:Int) (fares:List Int) (turns:List (List Int)):Prop where
  s0:0<=seats
  s1:seats<=10
  f0:1<=fares.length
  f1:fares.length<=6
  f:∀ x ∈ fares,1<=x/\x<=1000000
  t:turns.length<=8
  r:∀ r ∈ turns,r.length=fares.length+1/\(∀ x ∈ r,0<=x/\x<=1000)/\0 < r.sum
local macro_rules | `(tactic| walk_at "call")=>`(tactic| (with_reducible refine bb (tm _ _ _) ?_))
def ib(n:Nat)(r:List Int):Prop:=r.length=n+1/\(∀ x ∈ r,0<=x/\x<=1000)/\0 < r.sum
theorem F4{n:Nat}{r:List Int}(hl:r.length<=1000):WF ja [DI r,.int (n:Nat)] fun d=>∃ b,d=.bl b/\(b=true ↔ ib n r):=by
  refine bW (bp rfl ?_)
  unfold nj
  walk_at "env"
  walk_at "run"
  rw[List.length_map]
  refine ko (fun h=>?_) fun h=>?_
  · walk_at "run"
    unfold ib
    simp;omega
  · walk_at "run"
    refine mL (α:=Int) (fun x=>0<=x/\x<=1000) ?_
    walk_at "run"
    refine⟨.int,r,rfl,by omega,fun x hx=>⟨_,rfl,?_⟩,fun bs hb=>?_⟩
    · walk_at "env"
      walk_at "run"
      simp
    walk_at "run"
    refine rF hb (fun h1=>?_) fun h1=>?_
    · walk_at "run"
      refine bb tq ?_
      walk_at "run"
      unfold ib
      rw[decide_eq_true_iff]
      exact⟨fun h2=>⟨by omega,h1,h2⟩,fun h2=>h2.2.2⟩
    · walk_at "run"
      unfold ib
      simp
      intro _ h2;exact absurd h2 h1
theorem F5{f:List Int}(hl:f.length<=1000):WF j9 [DI f] fun d=>∃ b,d=.bl b/\(b=true ↔ 1<=f.length/\f.length<=6/\∀ x ∈ f,1<=x/\x<=1000000):=by
  refine bW (bp rfl ?_)
  unfold nh
  walk_at "env"
  walk_at "run"
  rw[List.length_map]
  refine cu (fun h=>?_) fun h=>?_
  · walk_at "run"
    refine cu (fun h2=>?_) fun h2=>?_
    · walk_at "run"
      refine mL (α:=Int) (fun x=>1<=x/\x<=1000000) ?_
      walk_at "run"
      refine⟨.int,f,rfl,by omega,fun x hx=>⟨_,rfl,?_⟩,fun bs hb=>?_⟩
      · walk_at "env"
        walk_at "run"
        simp
      walk_at "run"
      exact hb.trans ⟨fun h=>⟨by omega,by omega,h⟩,fun h=>h.2.2⟩
    · walk_at "run"
      simp;omega
  · walk_at "run"
    simp;omega
theorem F6{n:Nat}{t:List (List Int)}(hl:t.length<=1000)(hr:∀ r ∈ t,r.length<=1000):WF jb [DII t,.int (n:Nat)] fun d=>∃ b,d=.bl b/\(b=true ↔ t.length<=8/\∀ r ∈ t,ib n r):=by
  refine bW (bp rfl ?_)
  unfold nk
  walk_at "env"
  walk_at "run"
  rw[List.length_map]
  refine cu (fun h=>?_) fun h=>?_
  · walk_at "run"
    refine mL (α:=List Int) (ib n) ?_
    walk_at "run"
    refine⟨DI,t,rfl,by omega,fun x hx=>⟨_,rfl,?_⟩,fun bs hb=>?_⟩
    · walk_at "env"
      walk_at "run"
      exact F4 (hr x hx)
    walk_at "run"
    exact hb.trans ⟨fun h=>⟨by omega,h⟩,fun h=>h.2⟩
  · walk_at "run"
    simp;omega
theorem F7{s:Int}{f:List Int}{t:List (List Int)}(hf:f.length<=1000)(hl:t.length<=1000)(hr:∀ r ∈ t,r.length<=1000):WF kY [.int s,DI f,DII t] fun d=>∃ b,d=.bl b/\(b=true ↔ SaleOk s f t):=by
  refine bW (bp rfl ?_)
  unfold no
  walk_at "env"
  walk_at "run"
  refine cu (fun h=>?_) fun h=>?_
  · walk_at "run"
    refine iW (F5 hf) ?_
    rintro _ ⟨b,rfl,hb⟩
    walk_at "run"
    refine rF hb (fun h1=>?_) fun h1=>?_
    · walk_at "run"
      rw[List.length_map]
      refine iW (F6 hl hr) ?_
      rintro _ ⟨b,rfl,hb⟩
      walk_at "run"
      exact hb.trans ⟨fun h2=>⟨h.1,h.2,h1.1,h1.2.1,h1.2.2,h2.1,h2.2⟩,fun h2=>⟨h2.t,h2.r⟩⟩
    · walk_at "run"
      exact⟨fun h=>(nomatch h),fun h2=>absurd ⟨h2.f0,h2.f1,h2.f⟩ h1⟩
  · walk_at "run"
    exact⟨fun h=>(nomatch h),fun h2=>absurd ⟨h2.s0,h2.s1⟩ h⟩
def o9(r c o d:Int):Bool:=decide (0<=r/\r<=10/\1<=o/\o<=1000/\0<=c/\c<=o/\0<=d/\d<=1000000)
theorem F8(r c o d:Int):l0 [.tup [.int r,.int c,.int o,.int d]]=some (.bl (o9 r c o d)):=by
  refine bN (bW (bp rfl ?_))
  unfold nB o9
  walk_at "env"
  walk_at "all" <;> walk_at "leaf"
theorem tu{n:Nat}{x:Int}(hl:n<=1000)(hx:0<=x/\x<=1000000):eR [.int x,.int (n:Nat)]=some (.int (x ^ n)):=by
  refine bN (bW (bp rfl ?_))
  unfold ng
  walk_at "env"
  walk_at "run"
  refine⟨⟨by omega,by omega⟩,?_⟩
  rw[Int.toNat_natCast]
  refine kr _ _ (fun k ρ=>∃ a,ρ=[some (.int x),some (.int (n:Nat)),some (.int (x ^ k)),a]) ⟨_,by rw[Int.pow_zero]⟩ ?_ ?_
  · rintro ρ ⟨a,rfl⟩
    rw[List.length_range]
    walk_at "run"
  · rintro k hk ρ ⟨a,rfl⟩
    rw[List.length_range] at hk
    walk_at "env"
    walk_at "run"
    walk_at "env"
    rw[Int.pow_succ]
    exact⟨_,rfl⟩
def more(xs:List Int)(c s:Int):List Int:=List.zipWith (fun a b=>a+b) (xs.map (fun x=>x * s)++[0]) (0::xs.map fun x=>x * c)
theorem tz(xs:List Int)(c s:Int):(more xs c s).length=xs.length+1:=by simp[more]
theorem F9{xs:List Int}{c s:Int}(hl:xs.length<=1000)(hc:0<=c/\c<=1000000)(hs:0<=s/\s<=1000000):jh [DI xs,.int c,.int s]=some (DI (more xs c s)):=by
  refine bN (bp rfl ?_)
  unfold nC
  walk_at "env"
  walk_at "run"
  refine eO (α:=Int) ?_
  walk_at "run"
  refine⟨.int,fun x=>.int (x * s),xs,rfl,by omega,fun x hx=>⟨_,rfl,?_⟩,?_⟩
  · walk_at "env"
    walk_at "run"
  walk_at "run"
  refine eO (α:=Int) ?_
  walk_at "run"
  refine⟨.int,fun x=>.int (x * c),xs,rfl,by omega,fun x hx=>⟨_,rfl,?_⟩,?_⟩
  · walk_at "env"
    walk_at "run"
  walk_at "run"
  refine eO (α:=Int × Int) ?_
  walk_at "run"
  refine⟨fun p=>.tup [.int p.1,.int p.2],fun p=>.int (p.1+p.2),(xs.map (fun x=>x * s)++[0]).zip (0::xs.map fun x=>x * c),?_,by simp;omega,fun x hx=>⟨_,rfl,?_⟩,?_⟩
  · rw[<- rD];simp;rfl
  · walk_at "env"
    walk_at "run"
  · walk_at "run"
    congr 1
    rw[more,<- List.map_uncurry_zip_eq_zipWith,List.map_map]
    rfl
def cA:Nat->Int->Int->List Int
  | 0,_,_=>[1]
  | n+1,c,s=>more (cA n c s) c s
theorem oa(n:Nat)(c s:Int):(cA n c s).length=n+1:=by
  induction n with
  | zero=>rfl
  | succ n ih=>rw[cA,tz,ih]
theorem Fa{n:Nat}{c o:Int}(hl:n<=100)(hc:0<=c/\c<=o)(ho:o<=1000000):ji [.int (n:Nat),.int c,.int o]=some (DI (cA n c (o - c))):=by
  refine bN (bp rfl ?_)
  unfold nD
  walk_at "env"
  walk_at "run"
  refine⟨⟨by omega,by omega⟩,?_⟩
  rw[Int.toNat_natCast]
  refine kr _ _ (fun k ρ=>∃ a,ρ=[some (.int (n:Nat)),some (.int c),some (.int o),some (DI (cA k c (o - c))),a]) ⟨_,rfl⟩ ?_ ?_
  · rintro ρ ⟨a,rfl⟩
    rw[List.length_range]
    walk_at "run"
  · rintro k hk ρ ⟨a,rfl⟩
    rw[List.length_range] at hk
    walk_at "env"
    walk_at "run"
    refine bb (F9 (by rw[oa];omega) (by omega) (by omega)) ?_
    walk_at "run"
    walk_at "env"
    exact⟨_,rfl⟩
theorem tB:∀ (xs ys:List Int),xs.length=ys.length->(List.zipWith (fun a b=>a+b) xs ys).sum=xs.sum+ys.sum
  | [],[],_=>by simp
  | x::xs,y::ys,h=>by
    have:=tB xs ys (by simpa using h)
    rw[List.zipWith_cons_cons,List.sum_cons,this,List.sum_cons,List.sum_cons];omega
theorem tD(xs:List Int)(c:Int):(xs.map fun x=>x * c).sum=xs.sum * c:=by
  induction xs with
  | nil=>simp
  | cons x r ih=>rw[List.map_cons,List.sum_cons,ih,List.sum_cons,Int.add_mul]
theorem Fb(xs:List Int)(c s:Int):(more xs c s).sum=xs.sum * (c+s):=by
  rw[more,tB _ _ (by simp),List.sum_append,tD,List.sum_cons (a:=0) (l:=xs.map _),tD,Int.mul_add]
  simp;omega
theorem Fc(n:Nat)(c s:Int):(cA n c s).sum=(c+s) ^ n:=by
  induction n with
  | zero=>simp[cA]
  | succ n ih=>rw[cA,Fb,ih,Int.pow_succ]
theorem Fd{xs:List Int}{c s:Int}{j:Nat}(h:j < (more xs c s).length):(more xs c s)[j]=xs.getD j 0 * s+(if j=0 then 0 else xs.getD (j - 1) 0 * c):=by
  have hl:=tz xs c s
  simp only[more,List.getElem_zipWith]
  congr 1
  · by_cases hj:j < xs.length
    · rw[List.getElem_append_left (by simpa using hj),List.getElem_map,eP _ _ _ hj]
    · have:j=xs.length:=by omega
      subst this
      rw[List.getElem_append_right (by simp)]
      simp[List.getD_eq_getElem?_getD]
  · cases j with
    | zero=>simp
    | succ j=>simp only[List.getElem_cons_succ,List.getElem_map,Nat.add_sub_cancel];rw[if_neg (by omega),eP _ _ _ (by omega)]
def wt(f:Nat->Int):Nat->List Int->Int
  | _,[]=>0
  | k,x::r=>x * f k+wt f (k+1) r
theorem Fe{f g:Nat->Int}{xs:List Int}{k:Nat}(hx:∀ x ∈ xs,0<=x)(h:∀ j,k<=j->j < k+xs.length->f j<=g j):wt f k xs<=wt g k xs:=by
  induction xs generalizing k with
  | nil=>simp[wt]
  | cons x r ih =>
    have h1:=ih (k:=k+1) (fun y hy=>hx y (List.mem_cons_of_mem _ hy)) fun j h1 h2=>h j (by omega) (by rw[List.length_cons];omega)
    have h2:=Int.mul_le_mul_of_nonneg_left (h k (by omega) (by rw[List.length_cons];omega)) (hx x (List.mem_cons_self ..))
    simp only[wt];omega
theorem Ff(a:Int)(xs:List Int)(k:Nat):wt (fun _=>a) k xs=a * xs.sum:=by
  induction xs generalizing k with
  | nil=>simp[wt]
  | cons x r ih=>simp only[wt];rw[ih,List.sum_cons];grind
theorem Fg{f:Nat->Int}{xs:List Int}{k:Nat}(hx:∀ x ∈ xs,0<=x)(h:∀ j,0<=f j):0<=wt f k xs:=by
  induction xs generalizing k with
  | nil=>simp[wt]
  | cons x r ih =>
    have h1:=ih (k:=k+1) fun y hy=>hx y (List.mem_cons_of_mem _ hy)
    have h2:=Int.mul_nonneg (hx x (List.mem_cons_self ..)) (h k)
    simp only[wt];omega
theorem Fh(F:Int->Nat->Int)(f:Nat->Int)(h:∀ x j,F x j=x * f j)(xs:List Int)(k:Nat):((xs.zipIdx k).map fun p=>F p.1 p.2).sum=wt f k xs:=by
  induction xs generalizing k with
  | nil=>rfl
  | cons x r ih=>rw[List.zipIdx_cons,List.map_cons,List.sum_cons,ih];simp only[wt];rw[h]
theorem Fi{xs:List Int}{c s:Int}(hc:0<=c)(hs:0<=s)(hx:∀ x ∈ xs,0<=x):∀ x ∈ more xs c s,0<=x:=by
  intro x hx'
  obtain⟨j,hj,rfl⟩:=List.getElem_of_mem hx'
  have hg:∀ i,0<=xs.getD i 0:=fun i=>by
    by_cases hi:i < xs.length
    · rw[eP _ _ _ hi];exact hx _ (List.getElem_mem _)
    · rw[List.getD_eq_getElem?_getD,List.getElem?_eq_none (by omega)];exact Int.le_refl 0
  rw[Fd hj]
  have h1:=Int.mul_nonneg (hg j) hs
  have h2:=Int.mul_nonneg (hg (j - 1)) hc
  split <;> omega
theorem tE{c s:Int}(hc:0<=c)(hs:0<=s)(n:Nat):∀ x ∈ cA n c s,0<=x:=by
  induction n with
  | zero=>intro x hx;simp[cA] at hx;omega
  | succ n ih=>exact Fi hc hs ih
def e9(room:Int)(j:Nat):Int:=max ((j:Int) - room) 0
def ef(room c s:Int)(n:Nat):Int:=wt (e9 room) 0 (cA n c s)
theorem Fj{n:Nat}{r c o d:Int}(hl:n<=100)(hr:0<=r/\r<=1000)(hc:0<=c/\c<=o)(ho:o<=1000000):jj [.int (n:Nat),.tup [.int r,.int c,.int o,.int d]]=some (.int (ef r c (o - c) n)):=by
  refine bN (bW (bp rfl ?_))
  unfold nE
  walk_at "env"
  walk_at "run"
  refine bb (Fa hl hc ho) ?_
  have hlen:=oa n c (o - c)
  walk_at "run"
  refine eO (α:=Int × Nat) ?_
  walk_at "run"
  refine⟨fun p=>.tup [.int (p.2:Nat),.int p.1],fun p=>.int (p.1 * e9 r p.2),(cA n c (o - c)).zipIdx,C8 _ _,by simp;omega,fun p hp=>⟨_,rfl,?_⟩,?_⟩
  · have hp:=List.snd_lt_of_mem_zipIdx hp
    walk_at "env"
    walk_at "run"
    rfl
  rw[show ((cA n c (o - c)).zipIdx.map fun p=>D.int (p.1 * e9 r p.2))=((cA n c (o - c)).zipIdx.map fun p=>p.1 * e9 r p.2).map D.int by rw[List.map_map];rfl]
  walk_at "run"
  rw[Fh (fun x j=>x * e9 r j) (e9 r) (fun _ _=>rfl)]
  rfl
def oe(r c o d:Int)(sold left:Nat):Int:=-d * ef r c (o - c) sold * o ^ left
theorem Fk{n l:Nat}{r c o d:Int}(hn:n<=100)(hl:l<=100)(hr:0<=r/\r<=1000)(hc:0<=c/\c<=o)(ho:o<=1000000)(hd:0<=d/\d<=1000000)(hm:okMul (-d * ef r c (o - c) n) (o ^ l)):jk [.int (n:Nat),.int (l:Nat),.tup [.int r,.int c,.int o,.int d]]=some (.int (oe r c o d n l)):=by
  refine bN (bW (bp rfl ?_))
  unfold nF
  walk_at "env"
  walk_at "run"
  refine bb (Fj hn hr hc ho) ?_
  walk_at "run"
  refine bb (tu (by omega) (by omega)) ?_
  walk_at "run"
  rfl
def ends(r c o d:Int)(S:Nat):List Int:=(List.range (S+1)).map fun l=>oe r c o d (S - l) l
theorem jt(r c o d:Int)(S:Nat):(ends r c o d S).length=S+1:=by simp[ends]
theorem Fl{r c s:Int}(hc:0<=c)(hs:0<=s)(n:Nat):0<=ef r c s n:=Fg (tE hc hs n) fun j=>by unfold e9;omega
theorem Fo{r c s:Int}(hr:0<=r)(hc:0<=c)(hs:0<=s)(n:Nat):ef r c s n<=n * (c+s) ^ n:=by
  have:=Fe (f:=e9 r) (g:=fun _=>(n:Int)) (xs:=cA n c s) (k:=0) (tE hc hs n) fun j _ h=>by
    rw[oa] at h;unfold e9;omega
  rwa [Ff,Fc] at this
theorem Fp{r c o d:Int}{n l:Nat}(hn:n<=10)(hl:l<=10)(hr:0<=r/\r<=1000)(hc:0<=c/\c<=o)(ho:o<=1000)(h1:1<=o)(hd:0<=d/\d<=1000000):okMul (-d * ef r c (o - c) n) (o ^ l):=by
  have a1:=Fl (r:=r) hc.1 (show 0<=o - c by omega) n
  have a2:=Fo hr.1 hc.1 (show 0<=o - c by omega) n
  rw[show c+(o - c)=o by omega] at a2
  have a3:o ^ n<=1000 ^ 10:=kz 10 (by omega) ho (by omega) hn
  have a4:(n:Int) * o ^ n<=10 * 1000 ^ 10:=Int.mul_le_mul (by omega) a3 (mJ (by omega) n) (by omega)
  have b1:=Int.mul_nonneg hd.1 a1
  have b2:d * ef r c (o - c) n<=1000000 * (10 * 1000 ^ 10):=Int.mul_le_mul hd.2 (by omega) a1 (by omega)
  have c1:=mJ (show 0<=o by omega) l
  have c2:o ^ l<=1000 ^ 10:=kz 10 (by omega) ho (by omega) hl
  have e:-d * ef r c (o - c) n = -(d * ef r c (o - c) n):=Int.neg_mul ..
  exact rz (iX (by omega) (by omega)) (iX (by omega) (by omega))
theorem tF{S:Nat}{r c o d:Int}(hS:S<=10)(hr:0<=r/\r<=1000)(hc:0<=c/\c<=o)(ho:o<=1000)(h1:1<=o)(hd:0<=d/\d<=1000000):fX [.int (S:Nat),.tup [.int r,.int c,.int o,.int d]]=some (DI (ends r c o d S)):=by
  refine bN (bp rfl ?_)
  unfold nG
  walk_at "env"
  walk_at "run"
  refine eO (α:=Nat) ?_
  walk_at "run"
  refine⟨⟨by omega,by omega⟩,fun l=>.int (l:Nat),fun l=>.int (oe r c o d (S - l) l),List.range (S+1),by rw[show ((S:Int)+1).toNat=S+1 by omega],by simp;omega,fun l hl=>⟨_,rfl,?_⟩,?_⟩
  · have hl:=List.mem_range.mp hl
    walk_at "env"
    walk_at "run"
    rw[show (S:Int) - (l:Int)=((S - l:Nat):Int) by omega]
    refine bb (Fk (by omega) (by omega) hr hc (by omega) hd (Fp (by omega) (by omega) hr hc ho h1 hd)) ?_
    walk_at "run"
  walk_at "run"
  simp[ends]
def aP:List (List Int)->Int->List Int
  | [],l=>[l]
  | r::rs,l=>((aP rs l).headD 0 * r.sum)::aP rs l
theorem tG(rs:List (List Int))(l:Int):aP rs l ≠ []:=by cases rs <;> simp[aP]
theorem ic(rs:List (List Int))(l:Int):(aP rs l).length=rs.length+1:=by
  induction rs with
  | nil=>rfl
  | cons r rs ih=>simp[aP,ih]
theorem Fq{xs:List Int}(h:xs ≠ [])(h':xs.reverse ≠ []):xs.reverse.getLast h'=xs.headD 0:=by
  cases xs with
  | nil=>exact absurd rfl h
  | cons x r=>simp
theorem og{turns:List (List Int)}{last:Int}(hr:∀ r ∈ turns,0<=r.sum/\r.sum < 1000000)(hl:turns.length<=1000):dE [DII turns,.int last]=some (DI (aP turns last)):=by
  refine bN (bp rfl ?_)
  unfold nq
  walk_at "env"
  walk_at "run"
  rw[<- List.map_reverse]
  refine kr _ _ (fun k ρ=>∃ o,ρ=[some (DII turns),some (.int last),some (DI (aP ((turns.reverse.take k).reverse) last).reverse),o]) ⟨_,rfl⟩ ?_ ?_
  · rintro ρ ⟨o,rfl⟩
    walk_at "run"
    rw[List.length_reverse,List.take_of_length_le (by simp),List.reverse_reverse,<- List.map_reverse,List.reverse_reverse]
  · rintro k hk ρ ⟨o,rfl⟩
    rw[List.length_reverse] at hk
    walk_at "env"
    refine Bu rfl (by simp[ic];omega) ?_
    walk_at "run"
    refine C3 (by simp[tG]) ?_
    walk_at "run"
    refine bb tq ?_
    have hm:=hr (turns.reverse[k]) (by rw[<- List.mem_reverse];exact List.getElem_mem _)
    walk_at "run"
    walk_at "env"
    rw[C7]
    have e:(aP (turns.reverse.take (k+1)).reverse last).reverse=(aP (turns.reverse.take k).reverse last).reverse++[(aP (turns.reverse.take k).reverse last).headD 0 * turns.reverse[k].sum]:=by
      rw[List.take_succ_eq_append_getElem (by simpa using hk),List.reverse_append,List.reverse_singleton,List.singleton_append,aP,List.reverse_cons]
    rw[e,Fq (tG _ _)]
    exact⟨_,rfl⟩
theorem tH{bs:List Int}{f scale:Int}{s:Nat}(hm:okMul f scale)(hs:s < bs.length)(h0:0 < s):eU [.int f,.int scale,DI bs,.int (s:Nat)]=some (.int (f * scale+bs.getD (s - 1) 0)):=by
  refine bN (bW (bp rfl ?_))
  unfold nt
  walk_at "env"
  walk_at "run"
  refine cG (by omega) (by omega) ?_
  walk_at "run"
  rw[show ((s:Int) - 1).toNat=s - 1 by omega]
def li(f scale:Int)(bs:List Int)(s:Nat):Int:=if s=0 then bs.getD 0 0 else max (bs.getD s 0) (f * scale+bs.getD (s - 1) 0)
def oh(row cs:List Int)(kept:Int):Int:=(List.zipWith (fun a b=>a * b) row (cs++[kept])).sum
def oi(fares row:List Int)(scale:Int)(bs:List Int)(s:Nat):Int:=oh row (fares.map fun f=>li f scale bs s) (bs.getD s 0)
def fZ(fares row:List Int)(scale:Int)(bs:List Int):List Int:=(List.range bs.length).map (oi fares row scale bs)
def di(xs:List Int):Prop:=∀ x ∈ xs,-1000000000000<=x/\x<=1000000000000
theorem Fs{f scale:Int}{bs:List Int}{s:Nat}(hf:-1000000000000<=f/\f<=1000000000000)(hs:s < bs.length):jd [.int f,.int scale,DI bs,.int (s:Nat)]=some (.int (li f scale bs s)):=by
  refine bN (bW (bp rfl ?_))
  unfold nu li
  walk_at "env"
  walk_at "run"
  refine cu (fun h=>?_) fun h=>?_
  · walk_at "run"
    refine cG (by omega) (by omega) ?_
    walk_at "run"
    have:s=0:=by omega
    subst this
    simp
  · walk_at "run"
    refine cG (by omega) (by omega) ?_
    walk_at "run"
    refine bb (tH (kt (by omega) (by omega)) hs (by omega)) ?_
    walk_at "run"
    rw[if_neg (by omega),Int.toNat_natCast]
theorem Ft{row cs:List Int}{kept:Int}(hr:di row)(hl:row.length<=1000)(hc:cs.length<=1000):jc [DI row,DI cs,.int kept]=some (.int (oh row cs kept)):=by
  refine bN (bW (bp rfl ?_))
  unfold nr
  walk_at "env"
  walk_at "run"
  refine mK (α:=Int × Int) ?_
  walk_at "run"
  rw[Cd]
  walk_at "run"
  refine⟨_,fun p=>p.1 * p.2,_,rD _ _ _ _,by simp;omega,fun p hp=>⟨_,rfl,?_⟩,?_⟩
  · have:=hr _ (List.of_mem_zip hp).1
    walk_at "env"
    walk_at "run"
  walk_at "run"
  rw[oh,<- List.map_uncurry_zip_eq_zipWith]
  rfl
theorem Fu{fares row:List Int}{scale:Int}{bs:List Int}{s:Nat}(hf:di fares)(hr:di row)(hlf:fares.length<=1000)(hl:row.length<=1000)(hs:s < bs.length):je [DI fares,DI row,.int scale,DI bs,.int (s:Nat)]=some (.int (oi fares row scale bs s)):=by
  refine bN (bW (bp rfl ?_))
  unfold nv
  walk_at "env"
  walk_at "run"
  refine mK (α:=Int) ?_
  walk_at "run"
  refine⟨.int,fun f=>li f scale bs s,fares,rfl,by omega,fun f hx=>⟨_,rfl,?_⟩,?_⟩
  · walk_at "env"
    walk_at "run"
    refine bb (Fs (hf f hx) hs) ?_
    walk_at "run"
  walk_at "run"
  refine cG (by omega) (by omega) ?_
  walk_at "run"
  rw[Int.toNat_natCast]
  refine bb (Ft hr hl (by simp;omega)) ?_
  walk_at "run"
  rfl
theorem Fv{fares row:List Int}{scale:Int}{bs:List Int}(hf:di fares)(hr:di row)(hlf:fares.length<=1000)(hl:row.length<=1000)(hs:bs.length<=1000):jf [DI fares,DI row,.int scale,DI bs]=some (DI (fZ fares row scale bs)):=by
  refine bN (bp rfl ?_)
  unfold nw
  walk_at "env"
  walk_at "run"
  refine mK (α:=Nat) ?_
  walk_at "run"
  rw[List.length_map]
  refine⟨⟨by omega,by omega⟩,fun s=>.int (s:Nat),fun s=>oi fares row scale bs s,List.range bs.length,by rw[Int.toNat_natCast],by simp;omega,fun s hx=>⟨_,rfl,?_⟩,?_⟩
  · have hx:=List.mem_range.mp hx
    walk_at "env"
    walk_at "run"
    refine bb (Fu hf hr hlf hl hx) ?_
    walk_at "run"
  walk_at "run"
  rfl
theorem Fw(fares row:List Int)(scale:Int)(bs:List Int):(fZ fares row scale bs).length=bs.length:=by simp[fZ]
def aY(fares:List Int):List (List Int)->Int->List Int->List (List Int)
  | [],_,ends=>[ends]
  | r::rs,last,ends=>fZ fares r ((aP rs last).headD 0) ((aY fares rs last ends).headD [])::aY fares rs last ends
theorem lj(fares:List Int)(rs:List (List Int))(last:Int)(ends:List Int):aY fares rs last ends ≠ []:=by cases rs <;> simp[aY]
theorem ll(fares:List Int)(rs:List (List Int))(last:Int)(ends:List Int):(aY fares rs last ends).length=rs.length+1:=by
  induction rs with
  | nil=>rfl
  | cons r rs ih=>simp[aY,ih]
theorem Fx(fares:List Int)(rs:List (List Int))(last:Int)(ends:List Int):∀ r ∈ aY fares rs last ends,r.length=ends.length:=by
  induction rs with
  | nil=>intro r hr;simp[aY] at hr;rw[hr]
  | cons r rs ih =>
    intro q hq
    simp only[aY,List.mem_cons] at hq
    rcases hq with rfl | hq
    · rw[Fw]
      cases ht:aY fares rs last ends with
      | nil=>exact absurd ht (lj _ _ _ _)
      | cons a b=>rw[List.headD_cons];exact ih a (by rw[ht];exact List.mem_cons_self)
    · exact ih q hq
theorem tI(fares:List Int)(rs:List (List Int))(last:Int)(ends:List Int):((aY fares rs last ends).headD []).length=ends.length:=by
  cases ht:aY fares rs last ends with
  | nil=>exact absurd ht (lj _ _ _ _)
  | cons a b=>rw[List.headD_cons];exact Fx fares rs last ends a (by rw[ht];exact List.mem_cons_self)
theorem Fy{xs:List (List Int)}(h:xs ≠ [])(h':xs.reverse ≠ []):xs.reverse.getLast h'=xs.headD []:=by
  cases xs with
  | nil=>exact absurd rfl h
  | cons x r=>simp
theorem oj(l:Int):∀ (rs:List (List Int)) (k:Nat),k<=rs.length->(aP rs l).getD k 0=(aP (rs.drop k) l).headD 0
  | rs,0,_=>by cases h:aP rs l <;> simp[h]
  | r::rs,k+1,h=>by rw[aP,List.getD_cons_succ,List.drop_succ_cons,oj l rs k (by simpa using h)]
theorem tJ{fares:List Int}{turns:List (List Int)}{last:Int}{ends:List Int}(hf:di fares)(hlf:fares.length<=1000)(hr:∀ r ∈ turns,di r/\r.length<=1000)(hs:∀ r ∈ turns,0<=r.sum/\r.sum < 1000000)(ht:turns.length<=1000)(he:ends.length<=1000):
    fW [DI fares,DII turns,.int last,DI ends]=some (DII (aY fares turns last ends)):=by
  refine bN (bp rfl ?_)
  unfold ny
  walk_at "env"
  walk_at "run"
  refine bb (og hs ht) ?_
  walk_at "run"
  rw[List.length_map]
  refine⟨_,_,rfl,⟨by omega,by omega⟩,⟨by omega,by omega⟩,?_⟩
  rw[show ((turns.length:Int) - 1 - -1).toNat=turns.length by omega]
  refine kr _ _ (fun k ρ=>∃ a,ρ=[some (DI fares),some (DII turns),some (.int last),some (DI ends),some (DI (aP turns last)),some (DII (aY fares (turns.drop (turns.length - k)) last ends).reverse),a]) ⟨none,by rw[Nat.sub_zero,List.drop_length];rfl⟩ ?_ ?_
  · rintro ρ ⟨a,rfl⟩
    rw[List.length_range,Nat.sub_self,List.drop_zero]
    refine rf ?_
    refine Ck rfl ?_
    rw[List.reverse_reverse]
    refine rg ?_
    rfl
  · rintro k hk ρ ⟨a,rfl⟩
    rw[List.length_range] at hk
    simp only[List.getElem_range]
    walk_at "env"
    have htl:=ll fares (turns.drop (turns.length - k)) last ends
    rw[List.length_drop] at htl
    refine Cj rfl (by rw[List.length_map,List.length_reverse,htl];omega) ?_
    walk_at "run"
    refine ku (by omega) (by omega) ?_
    walk_at "run"
    refine cG (by omega) (by rw[ic];omega) ?_
    walk_at "run"
    refine Cf (by simp[lj]) ?_
    walk_at "run"
    have hi:turns.length - 1 - k < turns.length:=by omega
    rw[Fy (lj _ _ _ _),show ((turns.length:Int) - 1 - (k:Nat)).toNat=turns.length - 1 - k by omega,show ((turns.length:Int) - 1 - (k:Nat)+1).toNat=turns.length - k by omega,oj _ _ _ (by omega),eP _ _ _ hi]
    have hm:=hr _ (List.getElem_mem hi)
    refine bb (Fv hf hm.1 hlf hm.2 (by rw[tI];exact he)) ?_
    refine⟨_,rfl,?_⟩
    rw[show (aY fares (turns.drop (turns.length - k)) last ends).reverse.map DI++[DI (fZ fares turns[turns.length - 1 - k] ((aP (turns.drop (turns.length - k)) last).headD 0) ((aY fares (turns.drop (turns.length - k)) last ends).headD []))]=((aY fares (turns.drop (turns.length - k)) last ends).reverse++[fZ fares turns[turns.length - 1 - k] ((aP (turns.drop (turns.length - k)) last).headD 0) ((aY fares (turns.drop (turns.length - k)) last ends).headD [])]).map DI by simp]
    refine rl ?_
    walk_at "env"
    have e:aY fares (turns.drop (turns.length - (k+1))) last ends=fZ fares turns[turns.length - 1 - k] ((aP (turns.drop (turns.length - k)) last).headD 0) ((aY fares (turns.drop (turns.length - k)) last ends).headD [])::aY fares (turns.drop (turns.length - k)) last ends:=by
      rw[show turns.length - (k+1)=turns.length - 1 - k by omega,List.drop_eq_getElem_cons hi,aY,show turns.length - 1 - k+1=turns.length - k by omega]
    rw[e,List.reverse_cons]
    exact⟨_,rfl⟩
theorem tK(fares:List Int)(last:Int)(ends:List Int):∀ (rs:List (List Int)) (k:Nat),k<=rs.length->(aY fares rs last ends).getD k []=(aY fares (rs.drop k) last ends).headD []
  | rs,0,_=>by rw[List.drop_zero];cases aY fares rs last ends <;> rfl
  | r::rs,k+1,h=>by rw[aY,List.getD_cons_succ,List.drop_succ_cons,tK fares last ends rs k (by simpa using h)]
theorem ol(fares:List Int)(last:Int)(ends:List Int)(rs:List (List Int))(t:Nat)(h:t<=rs.length):((aY fares rs last ends).getD t []).length=ends.length:=by
  rw[tK _ _ _ _ _ h,tI]
theorem tL{n:Nat}{l:Int}(hn:n<=10)(h1:1<=l)(h2:l<=10 ^ 40):∀ {rs:List (List Int)},RowsOk n rs->1<=(aP rs l).headD 0/\(aP rs l).headD 0<=10 ^ 40 * 1000000 ^ rs.length
  | [],_=>by simp[aP];omega
  | r::rs,h=>by
    obtain⟨i1,i2⟩:=tL hn h1 h2 (rs:=rs) fun q hq=>h q (List.mem_cons_of_mem _ hq)
    have hs:=h.sum hn r List.mem_cons_self
    have hp:=(h r List.mem_cons_self).2.2
    rw[aP,List.headD_cons,List.length_cons,Int.pow_succ]
    generalize (aP rs l).headD 0=x at i1 i2 ⊢
    generalize r.sum=y at hs hp ⊢
    have e1:x * 1<=x * y:=Int.mul_le_mul_of_nonneg_left (by omega) (by omega)
    have e2:x * y<=(10 ^ 40 * 1000000 ^ rs.length) * 1000000:=Int.mul_le_mul i2 (by omega) (by omega) (by omega)
    rw[Int.mul_assoc] at e2
    exact⟨by omega,e2⟩
theorem Fz{n:Nat}{l:Int}(hn:n<=10)(h1:1<=l)(h2:l<=10 ^ 40){rs:List (List Int)}(h:RowsOk n rs)(h8:rs.length<=8):1<=(aP rs l).headD 0/\(aP rs l).headD 0<=10 ^ 88:=by
  obtain⟨i1,i2⟩:=tL hn h1 h2 h
  have:=kz (x:=1000000) (B:=1000000) (n:=rs.length) 8 (by omega) (by omega) (by omega) h8
  exact⟨i1,by omega⟩
theorem RowsOk.drop{n k:Nat}{ts:List (List Int)}(h:RowsOk n ts):RowsOk n (ts.drop k):=fun r hr=>h r (List.mem_of_mem_drop hr)
def ju(f scale:Int)(bs:List Int)(s:Nat):Bool:=decide (0 < s/\bs.getD s 0<=f * scale+bs.getD (s - 1) 0)
theorem tM{bs:List Int}{f scale:Int}{s:Nat}(hm:okMul f scale)(hs:s < bs.length):i4 [.int f,.int scale,DI bs,.int (s:Nat)]=some (.bl (ju f scale bs s)):=by
  refine bN (bW (bp rfl ?_))
  unfold nz ju
  walk_at "env"
  walk_at "run"
  refine cu (fun h=>?_) fun h=>?_
  · walk_at "run"
    refine bb (tH hm hs (by omega)) ?_
    walk_at "run"
    refine cG (by omega) (by omega) ?_
    walk_at "run"
    rw[Int.toNat_natCast]
    exact congrArg D.bl (decide_eq_decide.mpr ⟨fun q=>⟨by omega,q⟩,fun q=>q.2⟩)
  · walk_at "run"
    exact congrArg D.bl (decide_eq_false fun q=>h (by omega)).symm
theorem FA{bs:List Int}{scale:Int}{s:Nat}(h1:1<=scale)(h2:scale<=10 ^ 130)(h0:0 < s)(hs:s < bs.length):kZ [.int scale,DI bs,.int (s:Nat)]=some (.int (-((bs.getD (s - 1) 0 - bs.getD s 0) / scale))):=by
  refine bN (bW (bp rfl ?_))
  unfold nA
  walk_at "env"
  walk_at "run"
  refine cG (by omega) (by omega) ?_
  walk_at "run"
  refine cG (by omega) (by omega) ?_
  walk_at "run"
  rw[show ((s:Int) - 1).toNat=s - 1 by omega,Int.toNat_natCast]
structure Sale (S:Nat) (fares:List Int) (turns:List (List Int)) (r c o d:Int):Prop where
  hS:S<=10
  f1:1<=fares.length
  f2:fares.length<=6
  f3:∀ x ∈ fares,1<=x/\x<=1000000
  t1:turns.length<=8
  t2:RowsOk fares.length turns
  r1:0<=r
  r2:r<=10
  c1:0<=c
  c2:c<=o
  o1:1<=o
  o2:o<=1000
  d1:0<=d
  d2:d<=1000000
def bH(S:Nat)(fares:List Int)(turns:List (List Int))(r c o d:Int)(told sold:Nat)(paid:Int)(dues latest:D):List D :=
  [.int (S:Nat),DI fares,.tup [.int r,.int c,.int o,.int d],DI (aP turns (o ^ S)),DII (aY fares turns (o ^ S) (ends r c o d S)),.int (told:Nat),.int (sold:Nat),.int paid,dues,latest]
theorem tN{n:Nat}{r c o d:Int}(hn:n<=100)(ho:0<=o/\o<=1000):fY [.int (n:Nat),.tup [.int r,.int c,.int o,.int d]]=some (.int (o ^ n)):=by
  refine bN (bW (bp rfl ?_))
  unfold nH
  walk_at "env"
  walk_at "run"
  refine bb (tu (by omega) (by omega)) ?_
  walk_at "run"
section
variable {C o:Nat} {M:Sto} {Q:QE} {S:Nat} {fares:List Int} {turns:List (List Int)} {r c of d:Int} {told sold:Nat} {paid:Int} {dues latest:D}
theorem FB(hm:M o=some (.ins C NS_Office (bH S fares turns r c of d told sold paid dues latest)))(h:Q (.int (told:Nat)) M):jn C [.ptr o] M Q:=by
  refine bC rfl ?_
  unfold nO
  walk_at "env"
  walk_at "run"
  exact h
end
section
variable {C o:Nat} {M:Sto} {Q:QE} {S:Nat} {fares:List Int} {turns:List (List Int)} {r c of d:Int} {told sold:Nat} {paid:Int} {dues latest:D}
theorem ie(hm:M o=some (.ins C NS_Office (bH S fares turns r c of d told sold paid dues latest)))(hs:sold<=S)(h:Q (.int ((S - sold:Nat):Int)) M):de C [.ptr o] M Q:=by
  refine bC rfl ?_
  unfold nQ
  walk_at "env"
  walk_at "run"
  rw[show (S:Int) - (sold:Int)=((S - sold:Nat):Int) by omega]
  exact h
theorem tO(hm:M o=some (.ins C NS_Office (bH S fares turns r c of d told sold paid dues latest)))(h:Q (.bl (decide (told=turns.length))) M):jr C [.ptr o] M Q:=by
  refine bC rfl ?_
  unfold nY
  walk_at "env"
  walk_at "run"
  rw[show List.map (vw1 M) [DI (aP turns (of ^ S))]=[DI (aP turns (of ^ S))] from rfl]
  walk_at "run"
  rw[List.length_map,ic,show decide ((told:Int)=((turns.length+1:Nat):Int) - 1)=decide (told=turns.length) from decide_eq_decide.mpr (by omega)]
  exact h
theorem FC(hm:M o=some (.ins C NS_Office (bH S fares turns r c of d told sold paid dues latest)))(h:Q .non M):i7 C [.ptr o,.non] M Q:=by
  refine bC rfl ?_
  unfold ld
  walk_at "env"
  walk_at "run"
  exact h
theorem FD{k:Nat}(hm:M o=some (.ins C NS_Office (bH S fares turns r c of d told sold paid dues latest)))(hk:k < fares.length)(h:Q (.int (fares.getD k 0)) M):i7 C [.ptr o,.int (k:Nat)] M Q:=by
  refine bC rfl ?_
  unfold ld
  walk_at "env"
  walk_at "run"
  rw[show List.map (vw1 M) [DI fares]=[DI fares] from rfl]
  walk_at "run"
  rw[List.length_map,decide_eq_true (show (0:Int)<=(k:Nat)/\((k:Nat):Int)<=(fares.length:Int) - 1 by omega)]
  walk_at "run"
  refine cG (by omega) (by omega) ?_
  rw[Int.toNat_natCast]
  exact h
theorem FF(hm:M o=some (.ins C NS_Office (bH S fares turns r c of d told sold paid dues latest)))(h:Q (.bl false) M):i8 C [.ptr o,.non] M Q:=by
  refine bC rfl ?_
  unfold lf
  walk_at "env"
  walk_at "run"
  exact h
theorem FG{f:Int}(hm:M o=some (.ins C NS_Office (bH S fares turns r c of d told sold paid dues latest)))(hs:sold<=S)(ht:told < turns.length)(hf:1<=f/\f<=1000000)(h:Q (.bl (ju f ((aP turns (of ^ S)).getD (told+1) 0) ((aY fares turns (of ^ S) (ends r c of d S)).getD (told+1) []) (S - sold))) M):i8 C [.ptr o,.int f] M Q:=by
  refine bC rfl ?_
  unfold lf
  walk_at "env"
  walk_at "run"
  refine cG (by omega) (by rw[ic];omega) ?_
  walk_at "run"
  refine ku (by omega) (by rw[ll];omega) ?_
  walk_at "run"
  rw[show ((told:Int)+1).toNat=told+1 by omega]
  refine ie hm hs ?_
  walk_at "run"
  refine bb (tM (kt (by omega) (by omega)) (by rw[ol _ _ _ _ _ (by omega),jt];omega)) ?_
  walk_at "run"
  exact h
def jv(S sold told:Nat)(fares:List Int)(turns:List (List Int))(r c of d:Int):D :=
  if S - sold=0 then .non else .int (-((((aY fares turns (of ^ S) (ends r c of d S)).getD (told+1) []).getD (S - sold - 1) 0 - ((aY fares turns (of ^ S) (ends r c of d S)).getD (told+1) []).getD (S - sold) 0) / (aP turns (of ^ S)).getD (told+1) 0))
theorem FH(s:Sale S fares turns r c of d){t:Nat}(ht:t<=turns.length):1<=(aP turns (of ^ S)).getD t 0/\(aP turns (of ^ S)).getD t 0<=10 ^ 88:=by
  rw[oj _ _ _ ht]
  have h1:=s.o1
  have h2:=s.o2
  have h3:=s.hS
  have p0:(1:Int)<=of ^ S:=by
    have:∀ n:Nat,(1:Int)<=of ^ n:=fun n=>by
      induction n with
      | zero=>simp
      | succ n ih=>rw[Int.pow_succ];have:=Int.mul_le_mul ih h1 (by omega) (by omega);omega
    exact this S
  have p1:of ^ S<=1000 ^ 10:=kz 10 (by omega) h2 (by omega) h3
  exact Fz (by have:=s.f2;omega) p0 (by omega) s.t2.drop (by have:=s.t1;rw[List.length_drop];omega)
theorem tP(s:Sale S fares turns r c of d)(hm:M o=some (.ins C NS_Office (bH S fares turns r c of d told sold paid dues latest)))(hs:sold<=S)(ht:told < turns.length)(h:Q (jv S sold told fares turns r c of d) M):js C [.ptr o] M Q:=by
  refine bC rfl ?_
  unfold nZ
  walk_at "env"
  walk_at "run"
  refine ie hm hs ?_
  walk_at "run"
  refine cu (fun e=>?_) fun e=>?_
  · walk_at "run"
    rw[jv,if_pos (by omega)] at h
    exact h
  · walk_at "run"
    refine cG (by omega) (by rw[ic];omega) ?_
    walk_at "run"
    refine ku (by omega) (by rw[ll];omega) ?_
    walk_at "run"
    rw[show ((told:Int)+1).toNat=told+1 by omega]
    refine ie hm hs ?_
    walk_at "run"
    have hsc:=FH s (t:=told+1) (by omega)
    refine bb (FA hsc.1 (by omega) (by omega) (by rw[ol _ _ _ _ _ (by omega),jt];omega)) ?_
    walk_at "run"
    rw[jv,if_neg (by omega)] at h
    exact h
theorem FI(s:Sale S fares turns r c of d)(hm:M o=some (.ins C NS_Office (bH S fares turns r c of d told sold paid dues latest)))(hs:sold<=S)(ht:told < turns.length)(h:∀ M',M' o=some (.ins C NS_Office (bH S fares turns r c of d (told+1) sold paid dues (.tup [.int (told:Nat),.int ((S - sold:Nat):Int),jv S sold told fares turns r c of d,.non])))->Kp (· = o) M M'->Q (.bl false) M'):i9 C [.ptr o,.non] M Q:=by
  refine bC rfl ?_
  unfold lg
  walk_at "env"
  walk_at "run"
  refine tO hm ?_
  rw[decide_eq_false (by omega)]
  walk_at "run"
  refine FC hm ?_
  walk_at "run"
  refine FF hm ?_
  walk_at "run"
  refine ie hm hs ?_
  walk_at "run"
  refine tP s hm hs ht ?_
  walk_at "run"
  refine⟨o,_,rfl,hm,?_⟩
  walk_at "run"
  refine⟨o,_,rfl,aK,?_⟩
  rw[cx]
  walk_at "run"
  refine h _ ?_ (Kp.upd (.inl rfl))
  rw[aK]
  rfl
theorem FJ{k:Nat}{b:Bool}(s:Sale S fares turns r c of d)(hm:M o=some (.ins C NS_Office (bH S fares turns r c of d told sold paid dues latest)))(hs:sold<=S)(ht:told < turns.length)(hk:k < fares.length)(hb:ju (fares.getD k 0) ((aP turns (of ^ S)).getD (told+1) 0) ((aY fares turns (of ^ S) (ends r c of d S)).getD (told+1) []) (S - sold)=b)(h:∀ M',M' o=some (.ins C NS_Office (bH S fares turns r c of d (told+1) (sold+(if b=true then 1 else 0)) (paid+(if b=true then fares.getD k 0 else 0)) dues (.tup [.int (told:Nat),.int ((S - sold:Nat):Int),jv S sold told fares turns r c of d,.int (fares.getD k 0)])))->Kp (· = o) M M'->Q (.bl b) M'):i9 C [.ptr o,.int (k:Nat)] M Q:=by
  have hf:1<=fares.getD k 0/\fares.getD k 0<=1000000:=by rw[eP _ _ _ hk];exact s.f3 _ (List.getElem_mem _)
  refine bC rfl ?_
  unfold lg
  walk_at "env"
  walk_at "run"
  refine tO hm ?_
  rw[decide_eq_false (by omega)]
  walk_at "run"
  refine FD hm hk ?_
  walk_at "run"
  refine FG hm hs ht hf ?_
  rw[hb]
  walk_at "run"
  refine ie hm hs ?_
  walk_at "run"
  refine tP s hm hs ht ?_
  walk_at "run"
  refine⟨o,_,rfl,hm,?_⟩
  walk_at "run"
  refine⟨o,_,rfl,aK,?_⟩
  rw[cx]
  cases b with
  | true =>
    walk_at "run"
    refine⟨o,_,rfl,aK,?_⟩
    rw[cx]
    walk_at "run"
    refine⟨o,_,rfl,aK,?_⟩
    rw[cx]
    walk_at "run"
    refine h _ ?_ (Kp.upd (.inl rfl))
    rw[aK]
    rfl
  | false =>
    walk_at "run"
    refine h _ ?_ (Kp.upd (.inl rfl))
    rw[aK,if_neg Bool.false_ne_true,if_neg Bool.false_ne_true,Int.add_zero]
    rfl
end
def dF(S:Nat)(fares:List Int)(turns:List (List Int))(r c of d:Int):D:=.tup [.int (S:Nat),DI fares,DII turns,.tup [.int r,.int c,.int of,.int d]]
theorem FK{F v:Nat}(h:v < F):ixD (.lst (((List.range F).map fun (k:Nat)=>D.int (k:Nat))++[D.non])) (.int (v:Nat))=some (.int (v:Nat)):=by
  have e:ixN (((List.range F).map fun (k:Nat)=>D.int (k:Nat))++[D.non]).length (v:Nat)=some v:=by
    unfold ixN;rw[if_pos (by omega),if_pos (by simp;omega)];congr 1
  simp only[ixD,items,Option.bind_some,atI]
  rw[e,Option.bind_some,List.getElem?_append_left (by simpa using h)]
  simp[h]
theorem FL{F:Nat}:ixD (.lst (((List.range F).map fun (k:Nat)=>D.int (k:Nat))++[D.non])) (.int (F:Nat))=some .non:=by
  have e:ixN (((List.range F).map fun (k:Nat)=>D.int (k:Nat))++[D.non]).length (F:Nat)=some F:=by
    unfold ixN;rw[if_pos (by omega),if_pos (by simp;omega)];congr 1
  simp only[ixD,items,Option.bind_some,atI]
  rw[e,Option.bind_some,List.getElem?_append_right (by simp)]
  simp
theorem FM{i:Int}:la [.int i]=some (.bl true):=by
  refine bN (bW (bp rfl ?_))
  unfold nJ
  walk_at "env"
  walk_at "run"
  rfl
local macro_rules | `(tactic| walk_at "call")=>`(tactic| (with_reducible refine bb FM ?_))
structure Handed (M:Sto) (a b:Nat) (bs:List Nat) (fares:List Int) (turns:List (List Int)):Prop where
  ha:M a=some (.lst (fares.map .int))
  hb:M b=some (.lst (bs.map .ptr))
  hl:bs.length=turns.length
  hv:∀ i (h:i < bs.length) (h':i < turns.length),M bs[i]=some (.lst (turns[i].map .int))
theorem Handed.keep{M M':Sto}{a b:Nat}{bs:List Nat}{fares:List Int}{turns:List (List Int)}{S:Nat->Prop}(h:Handed M a b bs fares turns)(k:Kp S M M')(hS:∀ x ds,S x->M x ≠ some (.lst ds)):Handed M' a b bs fares turns :=
  ⟨k _ _ h.ha fun z=>hS _ _ z h.ha,k _ _ h.hb fun z=>hS _ _ z h.hb,h.hl,fun i h1 h2=>k _ _ (h.hv i h1 h2) fun z=>hS _ _ z (h.hv i h1 h2)⟩
theorem FN(M:Sto)(xs:List Int):(xs.map D.int).map (vw1 M)=xs.map D.int:=by rw[List.map_map];rfl
theorem Handed.va{M:Sto}{a b:Nat}{bs:List Nat}{fares:List Int}{turns:List (List Int)}(h:Handed M a b bs fares turns):vw2 M (.ptr a)=DI fares:=by
  simp only[vw2,h.ha,FN]
theorem Handed.v1{M:Sto}{a b:Nat}{bs:List Nat}{fares:List Int}{turns:List (List Int)}(h:Handed M a b bs fares turns):vw1 M (.ptr a)=DI fares:=by
  simp only[vw1,h.ha]
theorem Handed.vb{M:Sto}{a b:Nat}{bs:List Nat}{fares:List Int}{turns:List (List Int)}(h:Handed M a b bs fares turns):vw2 M (.ptr b)=DII turns:=by
  simp only[vw2,h.hb]
  congr 1
  apply List.ext_getElem
  · simp[h.hl]
  · intro i h1 h2
    have q1:i < bs.length:=by simpa using h1
    have q2:i < turns.length:=by simpa using h2
    simp only[List.getElem_map,vw1,h.hv i q1 q2]
section
variable {C o a b:Nat} {bs:List Nat} {M:Sto} {Q:QE} {S:Nat} {fares:List Int} {turns:List (List Int)} {r c of d:Int}
theorem FP(s:Sale S fares turns r c of d)(hh:Handed M a b bs fares turns)(ho:M o=some (.ins C [] []))(h:∀ M',M' o=some (.ins C NS_Office (bH S fares turns r c of d 0 0 0 .non .non))->Kp (· = o) M M'->Q .non M'):
    jm C [.ptr o,.int (S:Nat),.ptr a,.ptr b,.tup [.int r,.int c,.int of,.int d]] M Q:=by
  obtain⟨hS,f1,f2,f3,t1,t2,r1,r2,c1,c2,o1,o2,d1,d2⟩:=s
  have hrl:∀ x ∈ turns,x.length<=1000:=fun x hx=>by have:=(t2 x hx).1;omega
  have hk:∀ c',Handed (aG M o c') a b bs fares turns:=fun c'=>hh.keep (S:=(· = o)) (Kp.upd (.inl rfl)) fun x ds e q=>by subst e;rw[ho] at q;cases q
  refine bC rfl ?_
  unfold nL
  walk_at "env"
  walk_at "run"
  simp only[List.map_cons,List.map_nil]
  rw[hh.va,hh.vb]
  refine iW (F7 (by omega) (by omega) hrl) ?_
  rintro _ ⟨b',rfl,hb⟩
  have hb':b'=true:=hb.mpr ⟨by omega,by omega,f1,f2,f3,t1,t2⟩
  subst hb'
  walk_at "run"
  refine bb (F8 r c of d) ?_
  rw[show o9 r c of d=true from decide_eq_true ⟨r1,r2,o1,o2,c1,c2,d1,d2⟩]
  walk_at "run"
  refine bb (tN (by omega) (by omega)) ?_
  have hfs:di fares:=fun x hx=>by have:=f3 x hx;omega
  have hts:∀ x ∈ turns,di x/\x.length<=1000:=fun x hx=>⟨fun y hy=>by have:=(t2 x hx).2.1 y hy;omega,hrl x hx⟩
  have hsum:=t2.sum (by omega)
  walk_at "run"
  refine fV ?_
  walk_at "run"
  refine⟨o,_,rfl,ho,?_⟩
  walk_at "run"
  refine fV ?_
  walk_at "run"
  refine⟨fares.map .int,(hk _).v1,?_⟩
  walk_at "run"
  refine⟨o,_,rfl,aK,?_⟩
  rw[cx]
  walk_at "run"
  refine fV ?_
  walk_at "run"
  refine⟨o,_,rfl,aK,?_⟩
  rw[cx]
  walk_at "run"
  refine fV ?_
  walk_at "run"
  simp only[List.map_cons,List.map_nil]
  rw[(hk _).vb]
  refine bb (og hsum (by omega)) ?_
  refine⟨⟨_,rfl⟩,?_⟩
  walk_at "run"
  refine⟨o,_,rfl,aK,?_⟩
  rw[cx]
  walk_at "run"
  refine fV ?_
  walk_at "run"
  refine bb (tF hS (by omega) (by omega) (by omega) (by omega) (by omega)) ?_
  walk_at "run"
  simp only[List.map_cons,List.map_nil]
  rw[(hk _).vb,(hk _).va]
  refine bb (tJ hfs (by omega) hts hsum (by omega) (by rw[jt];omega)) ?_
  walk_at "run"
  refine⟨o,_,rfl,aK,?_⟩
  rw[cx]
  walk_at "run"
  iterate 4
    refine fV ?_
    walk_at "run"
    refine⟨o,_,rfl,aK,?_⟩
    rw[cx]
    walk_at "run"
  refine fV ?_
  walk_at "run"
  refine⟨o,_,rfl,aK,?_⟩
  rw[cx]
  walk_at "run"
  exact h _ aK (Kp.upd (.inl rfl))
end
theorem FQ{k:Nat}(fares:List Int)(turns:List (List Int)):aU 4 (.lst [DI fares,DII turns])=true:=by
  rw[aU]
  simp only[List.all_cons,List.all_nil,kx,C5,Bool.and_true]
section
variable {C:Nat} {M:Sto} {Q:QE} {S:Nat} {fares:List Int} {turns:List (List Int)} {r c of d:Int}
theorem tQ(s:Sale S fares turns r c of d)(h:∀ o q M',M o=none->M q=none->M' o=some (.ins C NS_Office (bH S fares turns r c of d 0 0 0 .non .non))->M' q=some (.lst [.ptr o,.int 0,.int (S:Nat),.int 0])->Kp (fun _=>False) M M'->Q (.ptr q) M'):
    i5 C [dF S fares turns r c of d] M Q:=by
  have f1:=s.f1
  have f2:=s.f2
  have t1:=s.t1
  refine bC rfl ?_
  unfold nM dF
  walk_at "env"
  walk_at "run"
  walk_at "env"
  walk_at "run"
  refine na ?_
  walk_at "run"
  intro a ha
  walk_at "run"
  refine⟨by rw[List.length_map];omega,?_⟩
  refine j8 DI turns (fun k ds M'=>∃ bs:List Nat,ds=bs.map .ptr/\bs.length=k/\(∀ i (h:i < bs.length) (h':i < turns.length),M' bs[i]=some (.lst (turns[i].map .int)))/\(∀ x ∈ bs,M x=none/\x ≠ a)/\Kp (fun _=>False) (aG M a (.lst (fares.map .int))) M') ⟨[],rfl,rfl,fun i h=>absurd h (by simp),by simp,Kp.refl⟩ ?_ ?_
  · rintro _ M1 ⟨bs,rfl,b1,b2,b3,K1⟩ b hb
    have Ka:Kp (fun _=>False) M M1:=(Kp.upd (S:=fun _=>False) (.inr ha)).trans K1 fun _ z _=>z
    have hbM:M b=none:=by
      cases e:M b with
      | none=>rfl
      | some c=>have:=Ka _ _ e id;rw[hb] at this;cases this
    have ha1:M1 a=some (.lst (fares.map .int)):=K1 _ _ aK id
    have hab:a ≠ b:=fun e=>by subst e;rw[ha1] at hb;cases hb
    have hbs:∀ x ∈ bs,x ≠ b:=fun x hx e=>by
      obtain⟨i,hi,rfl⟩:=List.getElem_of_mem hx
      have:=b2 i hi (by omega)
      rw[e,hb] at this;cases this
    have hh:Handed (aG M1 b (.lst (bs.map .ptr))) a b bs fares turns:=⟨by rw[bv hab];exact ha1,aK,b1,fun i h1 h2=>by rw[bv (hbs _ (List.getElem_mem _))];exact b2 i h1 h2⟩
    walk_at "run"
    refine Er ?_
    walk_at "run"
    intro o ho
    have K2:Kp (fun _=>False) M (aG M1 b (.lst (bs.map .ptr))):=Ka.trans (Kp.upd (.inr hb)) fun _ z _=>z
    have hoM:M o=none:=by
      cases e:M o with
      | none=>rfl
      | some c=>have:=K2 _ _ e id;rw[ho] at this;cases this
    have hh2:Handed (aG (aG M1 b (.lst (bs.map .ptr))) o (.ins C [] [])) a b bs fares turns:=hh.keep (S:=fun _=>False) (Kp.upd (.inr ho)) fun _ _ z=>z.elim
    refine FP s hh2 aK fun M3 h3 K3=>⟨rfl,?_⟩
    have K4:Kp (fun _=>False) M M3:=fun x c e n=>K3 x c (Kp.upd (S:=fun _=>False) (.inr ho) x c (K2 x c e id) id) fun z=>by subst z;rw[hoM] at e;cases e
    have hh3:Handed M3 a b bs fares turns:=hh2.keep K3 fun x ds e q=>by subst e;rw[aK] at q;cases q
    have hoa:o ≠ a:=fun e=>by subst e;rw[hh3.ha] at h3;cases h3
    have hob:o ≠ b:=fun e=>by subst e;rw[hh3.hb] at h3;cases h3
    have hobs:∀ x ∈ bs,x ≠ o:=fun x hx e=>by
      obtain⟨i,hi,rfl⟩:=List.getElem_of_mem hx
      have:=hh3.hv i hi (by omega)
      rw[e,h3] at this;cases this
    walk_at "env"
    walk_at "run"
    simp only[vw3,List.map_cons,List.map_nil]
    rw[hh3.va,hh3.vb,show vw2 M3 (DI fares)=DI fares from rfl,show vw2 M3 (DII turns)=DII turns from rfl]
    refine Cg (FQ (k:=0) fares turns) ?_
    refine⟨rfl,?_⟩
    walk_at "run"
    refine⟨a,_,rfl,hh3.ha,?_⟩
    walk_at "run"
    refine⟨a,_,0,0,rfl,aK,rfl,by rw[List.length_reverse,List.length_map];unfold ixN;rw[if_pos (by omega),if_pos (by omega)];rfl,?_⟩
    rw[cx]
    walk_at "run"
    refine⟨b,bs,rfl,?_⟩
    refine EU bs (fun k ρ M'=>∃ b1,ρ=[some (dF S fares turns r c of d),some (.int (S:Nat)),some (DI fares),some (DII turns),some (.tup [.int r,.int c,.int of,.int d]),some (.lst [.ptr a,.ptr b]),some (.ptr o),b1]/\Kp (fun x=>x=a\/x ∈ bs) M3 M'/\(∃ fs:List D,M' a=some (.lst fs)/\fs.length=fares.length)/\∀ i (h:i < bs.length),∃ ds:List D,M' bs[i]=some (.lst ds)/\0 < ds.length) ?_ ⟨_,rfl,Kp.upd (.inl (.inl rfl)),⟨_,aK,by simp⟩,?_⟩ ?_ ?_
    · rintro k ρ M4 ⟨b1,rfl,K5,_,_⟩
      exact K5 _ _ hh3.hb fun z=>z.elim (fun e=>hab e.symm) fun z=>hbs b z rfl
    · intro i hi
      have hr:=hh3.hv i hi (by omega)
      by_cases e:bs[i]=a
      · exact⟨_,by rw[e];exact aK,by simp;omega⟩
      · have:=(s.t2 _ (List.getElem_mem (show i < turns.length by omega))).1
        exact⟨_,by rw[bv e];exact hr,by rw[List.length_map];omega⟩
    · rintro ρ M4 ⟨b1,rfl,K5,⟨fs,e1,e2⟩,_⟩
      walk_at "run"
      have hb4:=K5 _ _ hh3.hb fun z=>z.elim (fun e=>hab e.symm) fun z=>hbs b z rfl
      have ho4:=K5 _ _ h3 fun z=>z.elim (fun e=>hoa e) fun z=>hobs o z rfl
      refine⟨b,_,rfl,hb4,?_⟩
      walk_at "run"
      rw[List.length_map]
      refine Cc (by omega) (by omega) ?_
      refine⟨_,hb4,by rw[List.length_map];omega,?_⟩
      walk_at "run"
      intro q hq
      have K6:Kp (fun _=>False) M (aG M4 b (.lst (bs.map .ptr++[DI (List.replicate ((fares.length:Int)+1).toNat 1000)]))):=fun x c e _=>by
        have hx:x ≠ b:=fun z=>by subst z;rw[hbM] at e;cases e
        rw[bv hx]
        exact K5 _ _ (K4 _ _ e id) fun z=>by
          rcases z with rfl | z
          · rw[ha] at e;cases e
          · rw[(b3 x z).1] at e;cases e
      have hqM:M q=none:=by
        cases e:M q with
        | none=>rfl
        | some c=>have:=K6 _ _ e id;rw[hq] at this;cases this
      have ho5:aG M4 b (.lst (bs.map .ptr++[DI (List.replicate ((fares.length:Int)+1).toNat 1000)])) o=_:=(bv hob).trans ho4
      have hoq:o ≠ q:=fun e=>by subst e;rw[ho5] at hq;cases hq
      walk_at "run"
      exact h o q _ hoM hqM (by rw[bv hoq];exact ho5) aK (K6.trans (Kp.upd (.inr hq)) fun _ z _=>z)
    · rintro k hk ρ M4 ⟨b1,rfl,K5,⟨fs,e1,e2⟩,hv⟩ N hN
      obtain⟨ds,e3,e4⟩:=hv k hk
      walk_at "env"
      walk_at "run"
      refine⟨bs[k],ds,rfl,e3,?_⟩
      walk_at "run"
      refine⟨bs[k],_,0,0,rfl,aK,rfl,by rw[List.length_reverse];unfold ixN;rw[if_pos (by omega),if_pos (by omega)];rfl,?_⟩
      rw[cx]
      walk_at "run"
      refine hN _ _ ⟨_,rfl,K5.trans (Kp.upd (S:=(· = bs[k])) (.inl rfl)) (fun x z _=>.inr (by rw[z];exact List.getElem_mem _)),?_,fun i hi=>?_⟩
      · by_cases e:a=bs[k]
        · exact absurd e.symm (b3 _ (List.getElem_mem hk)).2
        · exact⟨fs,by rw[bv e];exact e1,e2⟩
      · by_cases e:bs[i]=bs[k]
        · exact⟨_,by rw[e];exact aK,by simp;omega⟩
        · obtain⟨ds',e5,e6⟩:=hv i hi
          exact⟨ds',by rw[bv e];exact e5,e6⟩
  · rintro k hk _ M1 ⟨bs,rfl,b1,b2,b3,K1⟩ N hN
    walk_at "env"
    walk_at "run"
    refine na ?_
    walk_at "run"
    intro x hx
    have hxa:x ≠ a:=fun e=>by subst e;have:=K1 _ _ aK id;rw[hx] at this;cases this
    have Ka:Kp (fun _=>False) M M1:=(Kp.upd (S:=fun _=>False) (.inr ha)).trans K1 fun _ z _=>z
    refine hN _ _ ⟨bs++[x],by simp,by simp[b1],fun i h1 h2=>?_,fun y hy=>?_,K1.trans (Kp.upd (.inr hx)) fun _ z _=>z⟩
    · by_cases hi:i < bs.length
      · rw[List.getElem_append_left hi,bv]
        · exact b2 i hi h2
        · intro e;have:=b2 i hi h2;rw[e,hx] at this;cases this
      · have:i=bs.length:=by simp at h1;omega
        subst this
        rw[List.getElem_append_right (Nat.le_refl _)]
        simp only[Nat.sub_self,List.getElem_cons_zero,b1]
        exact aK
    · rcases List.mem_append.mp hy with hy | hy
      · exact b3 y hy
      · rw[List.mem_singleton.mp hy]
        refine⟨?_,hxa⟩
        cases e:M x with
        | none=>rfl
        | some c=>have:=Ka _ _ e id;rw[hx] at this;cases this
end
section
variable {C o:Nat} {M:Sto} {Q:QE} {S:Nat} {fares:List Int} {turns:List (List Int)} {r c of d:Int} {told sold:Nat} {paid:Int} {dues latest:D}
theorem FR(hm:M o=some (.ins C NS_Office (bH S fares turns r c of d told sold paid .non latest)))(h:Q (.int paid) M):jo C [.ptr o] M Q:=by
  refine bC rfl ?_
  unfold nR
  walk_at "env"
  walk_at "run"
  exact h
end
theorem bx{ds:List D}{j:Nat}{d:D}(h:ds[j]?=some d):atI ds (j:Nat)=some d:=by
  have hj:=(List.getElem?_eq_some_iff.mp h).1
  unfold atI ixN
  rw[if_pos (by omega),if_pos (by omega),Option.bind_some,Int.toNat_natCast]
  exact h
theorem FT{S:Nat}{fares:List Int}{turns:List (List Int)}{r c of d:Int}(s:Sale S fares turns r c of d):
    lc [dF S fares turns r c of d]=some (.tup [DI (aP turns (of ^ S)),DII (aY fares turns (of ^ S) (ends r c of d S))]):=by
  obtain⟨hS,f1,f2,f3,t1,t2,r1,r2,c1,c2,o1,o2,d1,d2⟩:=s
  have hrl:∀ x ∈ turns,x.length<=1000:=fun x hx=>by have:=(t2 x hx).1;omega
  have hfs:di fares:=fun x hx=>by have:=f3 x hx;omega
  have hts:∀ x ∈ turns,di x/\x.length<=1000:=fun x hx=>⟨fun y hy=>by have:=(t2 x hx).2.1 y hy;omega,hrl x hx⟩
  have hsum:=t2.sum (by omega)
  refine bN (bp rfl ?_)
  unfold nK dF
  walk_at "env"
  walk_at "run"
  walk_at "env"
  walk_at "run"
  refine bb (tN (by omega) (by omega)) ?_
  walk_at "run"
  refine eO (α:=List Int) ?_
  walk_at "run"
  refine⟨DI,DI,turns,rfl,by omega,fun x hx=>⟨_,rfl,?_⟩,?_⟩
  · walk_at "env"
    walk_at "run"
  walk_at "run"
  refine bb (tF hS (by omega) (by omega) (by omega) (by omega) (by omega)) ?_
  walk_at "run"
  refine bb (tJ hfs (by omega) hts hsum (by omega) (by rw[jt];omega)) ?_
  walk_at "run"
  refine eO (α:=List Int) ?_
  walk_at "run"
  refine⟨DI,DI,turns,rfl,by omega,fun x hx=>⟨_,rfl,?_⟩,?_⟩
  · walk_at "env"
    walk_at "run"
  walk_at "run"
  refine bb (og hsum (by omega)) ?_
  walk_at "run"
def jw(S:Nat)(fares:List Int)(turns:List (List Int))(r c of d:Int):D:=.tup [DI (aP turns (of ^ S)),DII (aY fares turns (of ^ S) (ends r c of d S))]
def stD(o:Nat)(S told sold:Nat)(paid:Int):List D:=[.ptr o,.int (told:Nat),.int ((S - sold:Nat):Int),.int paid]
section
variable {C o q:Nat} {M:Sto} {Q:QE} {S:Nat} {fares:List Int} {turns:List (List Int)} {r c of d:Int} {told sold:Nat} {paid:Int} {latest:D}
theorem eY(hm:M o=some (.ins C NS_Office (bH S fares turns r c of d told sold paid .non latest)))(hs:sold<=S)(hq:M q=some (.lst (stD o S told sold paid)))(h:Q (.bl true) M):eW C [.ptr q] M Q:=by
  refine bC rfl ?_
  unfold nS
  walk_at "env"
  walk_at "run"
  refine j7 ?_
  walk_at "run"
  refine⟨q,_,0,.ptr o,rfl,hq,rfl,bx (j:=0) rfl,o,_,rfl,hm,?_⟩
  walk_at "run"
  refine FB hm ?_
  walk_at "run"
  refine j7 ?_
  walk_at "run"
  refine⟨q,_,0,.ptr o,rfl,hq,rfl,bx (j:=0) rfl,o,_,rfl,hm,?_⟩
  walk_at "run"
  refine ie hm hs ?_
  walk_at "run"
  refine j7 ?_
  walk_at "run"
  refine⟨q,_,0,.ptr o,rfl,hq,rfl,bx (j:=0) rfl,o,_,rfl,hm,?_⟩
  walk_at "run"
  refine FR hm ?_
  walk_at "run"
  refine⟨q,_,rfl,hq,by omega,?_⟩
  rw[BU,show (stD o S told sold paid).drop 1=[D.int (told:Nat),.int ((S - sold:Nat):Int),.int paid] from rfl]
  refine Ch rfl ?_
  walk_at "run"
  refine BH (α:=Int) ?_
  walk_at "run"
  refine⟨.int,[(told:Int),((S - sold:Nat):Int),paid],rfl,by simp,fun x hx=>⟨_,rfl,?_⟩,?_⟩
  · walk_at "env"
    walk_at "run"
    rfl
  walk_at "run"
  refine C6 (xs:=[]) (ys:=[]) ?_
  rw[decide_eq_true rfl]
  walk_at "run"
  exact h
end
section
variable {C o q:Nat} {M:Sto} {Q:QE} {S:Nat} {fares:List Int} {turns:List (List Int)} {r c of d:Int} {told sold:Nat} {paid:Int} {latest:D}
theorem om{ds:List D}{j:Nat}(h:j < ds.length):ixN ds.length (j:Nat)=some j:=by
  unfold ixN
  rw[if_pos (by omega),if_pos (by omega)]
  rfl
theorem FU(s:Sale S fares turns r c of d)(hm:M o=some (.ins C NS_Office (bH S fares turns r c of d told sold paid .non latest)))(hs:sold<=S)(ht:told < turns.length)(hq:M q=some (.lst (stD o S told sold paid)))(h:∀ M' latest',M' o=some (.ins C NS_Office (bH S fares turns r c of d (told+1) sold paid .non latest'))->M' q=some (.lst (stD o S (told+1) sold paid))->Kp (fun x=>x=o\/x=q) M M'->Q (.bl true) M'):
    ia C [dF S fares turns r c of d,jw S fares turns r c of d,.ptr q,.non] M Q:=by
  have hoq:q ≠ o:=fun e=>by subst e;rw[hm] at hq;cases hq
  refine bC rfl ?_
  unfold lh dF jw
  walk_at "env"
  walk_at "run"
  refine j7 ?_
  walk_at "run"
  refine⟨q,_,0,.ptr o,rfl,hq,rfl,bx (j:=0) rfl,o,_,rfl,hm,?_⟩
  walk_at "run"
  refine FI s hm hs ht fun M1 h1 K1=>?_
  have q1:=K1 _ _ hq hoq
  walk_at "run"
  refine ko (fun e=>absurd rfl e) fun _=>?_
  walk_at "run"
  refine⟨q,_,1,.int (told:Nat),rfl,q1,rfl,bx (j:=1) rfl,?_⟩
  walk_at "run"
  refine⟨q,_,1,1,rfl,q1,rfl,om (ds:=stD o S told sold paid) (j:=1) (by simp[stD]),?_⟩
  walk_at "run"
  refine h _ _ (by rw[bv (Ne.symm hoq)];exact h1) (by rw[aK];rfl) fun x c' e n=>?_
  rw[bv fun z=>n (.inr z)]
  exact K1 _ _ e fun z=>n (.inl z)
theorem FV{k:Nat}(s:Sale S fares turns r c of d)(hm:M o=some (.ins C NS_Office (bH S fares turns r c of d told sold paid .non latest)))(hs:sold<=S)(ht:told < turns.length)(hk:k < fares.length)(hq:M q=some (.lst (stD o S told sold paid)))(h:∀ M' sold' paid' latest',sold'<=S->M' o=some (.ins C NS_Office (bH S fares turns r c of d (told+1) sold' paid' .non latest'))->M' q=some (.lst (stD o S (told+1) sold' paid'))->Kp (fun x=>x=o\/x=q) M M'->Q (.bl true) M'):
    ia C [dF S fares turns r c of d,jw S fares turns r c of d,.ptr q,.int (k:Nat)] M Q:=by
  have hoq:q ≠ o:=fun e=>by subst e;rw[hm] at hq;cases hq
  have hf:=s.f3 _ (List.getElem_mem hk)
  have hf':1<=fares.getD k 0/\fares.getD k 0<=1000000:=by rw[eP _ _ _ hk];exact hf
  refine bC rfl ?_
  unfold lh dF jw
  walk_at "env"
  walk_at "run"
  refine cG (by omega) (by omega) ?_
  walk_at "run"
  refine⟨q,_,1,.int (told:Nat),rfl,hq,rfl,bx (j:=1) rfl,?_⟩
  walk_at "run"
  refine cG (by omega) (by rw[ic];omega) ?_
  walk_at "run"
  refine⟨q,_,1,.int (told:Nat),rfl,hq,rfl,bx (j:=1) rfl,?_⟩
  walk_at "run"
  refine ku (by omega) (by rw[ll];omega) ?_
  refine⟨_,rfl,?_⟩
  walk_at "run"
  refine⟨q,_,2,.int ((S - sold:Nat):Int),rfl,hq,rfl,bx (j:=2) rfl,?_⟩
  walk_at "run"
  rw[show ((told:Int)+1).toNat=told+1 by omega,Int.toNat_natCast]
  refine bb (tM (kt (by omega) (by omega)) (by rw[ol _ _ _ _ _ (by omega),jt];omega)) ?_
  generalize hb:ju (fares.getD k 0) ((aP turns (of ^ S)).getD (told+1) 0) ((aY fares turns (of ^ S) (ends r c of d S)).getD (told+1) []) (S - sold)=b
  walk_at "run"
  refine j7 ?_
  walk_at "run"
  refine⟨q,_,0,.ptr o,rfl,hq,rfl,bx (j:=0) rfl,o,_,rfl,hm,?_⟩
  walk_at "run"
  refine FJ s hm hs ht hk hb fun M1 h1 K1=>?_
  have q1:=K1 _ _ hq hoq
  walk_at "run"
  refine ko (fun e=>absurd rfl e) fun _=>?_
  walk_at "run"
  refine⟨q,_,1,.int (told:Nat),rfl,q1,rfl,bx (j:=1) rfl,?_⟩
  walk_at "run"
  refine⟨q,_,1,1,rfl,q1,rfl,om (ds:=stD o S told sold paid) (j:=1) (by simp[stD]),?_⟩
  cases b with
  | false =>
    walk_at "run"
    rw[if_neg Bool.false_ne_true,if_neg Bool.false_ne_true,Int.add_zero] at h1
    refine h _ sold paid _ hs (by rw[bv (Ne.symm hoq)];exact h1) (by rw[aK];rfl) fun x c' e n=>?_
    rw[bv fun z=>n (.inr z)]
    exact K1 _ _ e fun z=>n (.inl z)
  | true =>
    have hlt:=(of_decide_eq_true (show decide _=true from hb)).1
    rw[if_pos rfl,if_pos rfl] at h1
    walk_at "run"
    refine⟨q,_,2,.int ((S - sold:Nat):Int),rfl,aK,rfl,bx (j:=2) rfl,?_⟩
    walk_at "run"
    refine⟨q,_,2,2,rfl,aK,rfl,by simp[stD,ixN],?_⟩
    rw[cx]
    walk_at "run"
    refine⟨q,_,3,.int paid,rfl,aK,rfl,bx (j:=3) rfl,?_⟩
    walk_at "run"
    refine cG (by omega) (by omega) ?_
    rw[Int.toNat_natCast]
    walk_at "run"
    refine⟨q,_,3,3,rfl,aK,rfl,by simp[stD,ixN],?_⟩
    rw[cx]
    walk_at "run"
    refine h _ (sold+1) (paid+fares.getD k 0) _ (by omega) (by rw[bv (Ne.symm hoq)];exact h1) ?_ fun x c' e n=>?_
    · rw[aK]
      simp only[stD,List.set_cons_succ,List.set_cons_zero]
      rw[show ((S - sold:Nat):Int) - 1=((S - (sold+1):Nat):Int) by omega]
      rfl
    · rw[bv fun z=>n (.inr z)]
      exact K1 _ _ e fun z=>n (.inl z)
end
structure Sl where
  S:Nat
  f:List Int
  t:List (List Int)
  r:Int
  c:Int
  o:Int
  d:Int
def Sl.D(x:Sl):D:=dF x.S x.f x.t x.r x.c x.o x.d
def Sl.tab(x:Sl):VL.D:=jw x.S x.f x.t x.r x.c x.o x.d
def Sl.ok(x:Sl):Prop:=Sale x.S x.f x.t x.r x.c x.o x.d
def StI(C:Nat)(M:Sto)(x:Sl)(o q:Nat):Prop:=∃ told sold paid latest,told<=x.t.length/\sold<=x.S/\M o=some (.ins C NS_Office (bH x.S x.f x.t x.r x.c x.o x.d told sold paid .non latest))/\M q=some (.lst (stD o x.S told sold paid))
theorem StI.keep{C:Nat}{M M':Sto}{x:Sl}{o q:Nat}{S:Nat->Prop}(h:StI C M x o q)(k:Kp S M M')(h1:¬ S o)(h2:¬ S q):StI C M' x o q:=by
  obtain⟨told,sold,paid,latest,a,b,c,d⟩:=h
  exact⟨told,sold,paid,latest,a,b,k _ _ c h1,k _ _ d h2⟩
structure Two (C:Nat) (M:Sto) (sl:Nat->Sl) (st:Nat) (qs os:Nat->Nat):Prop where
  st:M st=some (.lst [.ptr (qs 0),.ptr (qs 1)])
  qn:qs 0 ≠ qs 1
  on:os 0 ≠ os 1
  at':∀ i,i < 2->StI C M (sl i) (os i) (qs i)
theorem cI{i:Nat}(h:i < 2):i=0\/i=1:=by omega
section
variable {C:Nat} {M M':Sto} {sl:Nat->Sl} {st:Nat} {qs os:Nat->Nat}
theorem Two.keep{S:Nat->Prop}(h:Two C M sl st qs os)(k:Kp S M M')(h0:¬ S st)(h1:∀ i,i < 2->¬ S (os i))(h2:∀ i,i < 2->¬ S (qs i)):Two C M' sl st qs os :=
  ⟨k _ _ h.st h0,h.qn,h.on,fun i hi=>(h.at' i hi).keep k (h1 i hi) (h2 i hi)⟩
theorem Two.sq(h:Two C M sl st qs os){i:Nat}(hi:i < 2):st ≠ qs i:=fun e=>by
  obtain⟨_,_,_,_,_,_,_,z⟩:=h.at' i hi
  rw[<- e,h.st] at z
  have:=congrArg (fun o=>match o with | some (Cell.lst ds)=>ds.length | _=>0) z
  simp[stD] at this
theorem Two.so(h:Two C M sl st qs os){i:Nat}(hi:i < 2):st ≠ os i:=fun e=>by
  obtain⟨_,_,_,_,_,_,z,_⟩:=h.at' i hi
  rw[<- e,h.st] at z;cases z
theorem Two.qo(h:Two C M sl st qs os){i j:Nat}(hi:i < 2)(hj:j < 2):qs i ≠ os j:=fun e=>by
  obtain⟨_,_,_,_,_,_,_,z⟩:=h.at' i hi
  obtain⟨_,_,_,_,_,_,y,_⟩:=h.at' j hj
  rw[e,y] at z;cases z
theorem Two.qq(h:Two C M sl st qs os){i j:Nat}(hi:i < 2)(hj:j < 2)(n:i ≠ j):qs i ≠ qs j:=by
  rcases cI hi with rfl | rfl <;> rcases cI hj with rfl | rfl
  · exact absurd rfl n
  · exact h.qn
  · exact h.qn.symm
  · exact absurd rfl n
theorem Two.oo(h:Two C M sl st qs os){i j:Nat}(hi:i < 2)(hj:j < 2)(n:i ≠ j):os i ≠ os j:=by
  rcases cI hi with rfl | rfl <;> rcases cI hj with rfl | rfl
  · exact absurd rfl n
  · exact h.on
  · exact h.on.symm
  · exact absurd rfl n
theorem Two.told(h:Two C M sl st qs os){a:Nat}(ha:a < 2)(k:Kp (fun x=>x=os a\/x=qs a) M M')(hn:StI C M' (sl a) (os a) (qs a)):Two C M' sl st qs os :=
  ⟨k _ _ h.st fun z=>z.elim (h.so ha) (h.sq ha),h.qn,h.on,fun i hi=>by
    by_cases e:i=a
    · subst e;exact hn
    · exact (h.at' i hi).keep k (fun z=>z.elim (h.oo hi ha e) fun z=>h.qo ha hi z.symm) fun z=>z.elim (fun z=>h.qo hi ha z) (h.qq hi ha e)⟩
theorem Two.new(h:Two C M sl st qs os){a o q:Nat}(ha:a < 2)(ho:M o=none)(hq:M q=none)(k:Kp (fun _=>False) M M')(hn:StI C M' (sl a) o q):
    Two C (aG M' st (.lst ([D.ptr (qs 0),.ptr (qs 1)].set a (.ptr q)))) sl st (fun i=>if i=a then q else qs i) (fun i=>if i=a then o else os i):=by
  have ne:∀ {x:Nat} {c:Cell},M x=some c->∀ {y:Nat},M y=none->x ≠ y:=fun e y e' z=>by rw[z,e'] at e;cases e
  have k2:Kp (· = st) M' (aG M' st (.lst ([D.ptr (qs 0),.ptr (qs 1)].set a (.ptr q)))):=Kp.upd (.inl rfl)
  have fo:∀ i,i < 2->os i ≠ o:=fun i hi=>by obtain⟨_,_,_,_,_,_,z,_⟩:=h.at' i hi;exact ne z ho
  have fq:∀ i,i < 2->qs i ≠ q:=fun i hi=>by obtain⟨_,_,_,_,_,_,_,z⟩:=h.at' i hi;exact ne z hq
  refine⟨?_,?_,?_,fun i hi=>?_⟩
  · rw[aK]
    rcases cI ha with rfl | rfl <;> rfl
  · rcases cI ha with rfl | rfl
    · exact fun z=>fq 1 (by omega) z.symm
    · exact fun z=>fq 0 (by omega) z
  · rcases cI ha with rfl | rfl
    · exact fun z=>fo 1 (by omega) z.symm
    · exact fun z=>fo 0 (by omega) z
  · by_cases e:i=a
    · subst e
      simp only[if_pos]
      exact hn.keep k2 (Ne.symm (ne h.st ho)) (Ne.symm (ne h.st hq))
    · simp only[if_neg e]
      exact ((h.at' i hi).keep k id id).keep k2 (Ne.symm (h.so hi)) (Ne.symm (h.sq hi))
theorem oq(f:Nat->D){a:Nat}(ha:a < 2):[f 0,f 1][a]?=some (f a):=by
  rcases cI ha with rfl | rfl <;> rfl
theorem tR(f:Nat->D){a:Nat}(ha:a < 2):ixD (.lst [f 0,f 1]) (.int (a:Nat))=some (f a):=by
  rcases cI ha with rfl | rfl <;> rfl
end
theorem FW{K:VL.D->Prop}{a:Nat}(h:K (.bl false)):W1 cQ (.ptr a) K:=⟨_,rfl,h⟩
theorem FX{b:Bool}{t u:NTS}{E:EndN}{ρ:ae}{M:Sto}(P:ae->Sto->Prop)(h:∀ N:ae->Sto->Prop,(∀ ρ M,P ρ M->N ρ M)->kIf b (t { E with nx:=N } ρ M) (u { E with nx:=N } ρ M))(hk:∀ ρ M,P ρ M->E.nx ρ M):kIf b (t E ρ M) (u E ρ M):=h E.nx hk
theorem FY(ns:List Int)(hl:ns.length<=63)(C:Nat):o6 C [.scr ns] (fun _=>none) fun d _=>d=.bl true:=by
  refine bC rfl ?_
  unfold o3
  walk_at "env"
  walk_at "run"
  refine tj (by omega) (by omega) fun S0 f0 t0 r0 c0 o0 d0 M1 hS f1 f2 f3 t1 t2 r1 r2 c1 c2 o1 o2 d1 d2 K1=>?_
  have s0:Sl.ok ⟨S0,f0,t0,r0,c0,o0,d0⟩:=⟨hS,f1,f2,f3,t1,t2,r1,r2,c1,c2,o1,o2,d1,d2⟩
  clear hS f1 f2 f3 t1 t2 r1 r2 c1 c2 o1 o2 d1 d2
  walk_at "run"
  refine tj (by omega) (by omega) fun S1 f1 t1 r1 c1 o1 d1 M2 hS g1 g2 g3 u1 u2 v1 v2 w1 w2 x1 x2 y1 y2 K2=>?_
  have s1:Sl.ok ⟨S1,f1,t1,r1,c1,o1,d1⟩:=⟨hS,g1,g2,g3,u1,u2,v1,v2,w1,w2,x1,x2,y1,y2⟩
  clear hS g1 g2 g3 u1 u2 v1 v2 w1 w2 x1 x2 y1 y2
  obtain⟨sl,e0,e1⟩:∃ sl:Nat->Sl,sl 0=⟨S0,f0,t0,r0,c0,o0,d0⟩/\sl 1=⟨S1,f1,t1,r1,c1,o1,d1⟩:=⟨fun i=>if i=0 then ⟨S0,f0,t0,r0,c0,o0,d0⟩ else ⟨S1,f1,t1,r1,c1,o1,d1⟩,rfl,rfl⟩
  have hs:∀ i,i < 2->(sl i).ok:=fun i hi=>by rcases cI hi with rfl | rfl <;> simp only[e0,e1] <;> assumption
  have ee0:D.tup [.int (S0:Nat),DI f0,DII t0,.tup [.int r0,.int c0,.int o0,.int d0]]=(sl 0).D:=by rw[e0];rfl
  have ee1:D.tup [.int (S1:Nat),DI f1,DII t1,.tup [.int r1,.int c1,.int o1,.int d1]]=(sl 1).D:=by rw[e1];rfl
  rw[ee0,ee1]
  clear s0 s1 e0 e1 ee0 ee1
  walk_at "run"
  refine j8 (fun i=>(sl i).D) [0,1] (fun k ds M'=>M'=M2/\ds=([0,1].take k).map fun i=>(sl i).tab) ⟨rfl,rfl⟩ ?_ ?_
  · rintro _ _ ⟨rfl,rfl⟩
    walk_at "run"
    refine j8 (fun i=>(sl i).D) [0,1] (fun k ds M'=>∃ qs os:Nat->Nat,ds=([0,1].take k).map (fun i=>D.ptr (qs i))/\(∀ i,i < k->StI C M' (sl i) (os i) (qs i))/\(k=2->qs 0 ≠ qs 1/\os 0 ≠ os 1)) ⟨fun _=>0,fun _=>0,rfl,fun i hi=>absurd hi (by omega),fun e=>absurd e (by omega)⟩ ?_ ?_
    · rintro _ M3 ⟨qs,os,rfl,h3,h4⟩ st hst
      obtain⟨h5,h6⟩:=h4 rfl
      have T3:Two C (aG M3 st (.lst [.ptr (qs 0),.ptr (qs 1)])) sl st qs os:=⟨aK,h5,h6,fun i hi=>(h3 i hi).keep (S:=fun _=>False) (Kp.upd (.inr hst)) id id⟩
      walk_at "run"
      refine⟨st,[qs 0,qs 1],rfl,aK,fun b hb=>?_,?_⟩
      · rcases List.mem_cons.mp hb with rfl | hb
        · obtain⟨_,_,_,_,_,_,_,z⟩:=T3.at' 0 (by omega);exact⟨_,z⟩
        · rw[List.mem_singleton.mp hb]
          obtain⟨_,_,_,_,_,_,_,z⟩:=T3.at' 1 (by omega);exact⟨_,z⟩
      walk_at "run"
      refine⟨_,_,rfl,⟨by omega,by omega⟩,⟨by omega,by omega⟩,?_⟩
      refine sF (fun (k:Nat)=>.int (5+(k:Nat))) _ (fun k ρ M'=>∃ b4 b5 b6 b7,ρ=[some (.scr ns),some (.lst [(sl 0).D,(sl 1).D]),some (.lst [(sl 0).tab,(sl 1).tab]),some (.ptr st),b4,b5,b6,b7]/\∃ qs os,Two C M' sl st qs os) ⟨_,_,_,_,rfl,_,_,T3⟩ ?_ ?_
      · rintro ρ M4 ⟨b4,b5,b6,b7,rfl,qs,os,T4⟩
        obtain⟨told,sold,paid,latest,a1,a2,a3,a4⟩:=T4.at' 0 (by omega)
        walk_at "run"
        refine⟨st,_,0,.ptr (qs 0),rfl,T4.st,rfl,bx (j:=0) rfl,?_⟩
        walk_at "run"
        refine eY a3 a2 a4 ?_
        walk_at "run"
        obtain⟨told',sold',paid',latest',b1,b2,b3,b4⟩:=T4.at' 1 (by omega)
        refine⟨st,_,1,.ptr (qs 1),rfl,T4.st,rfl,bx (j:=1) rfl,?_⟩
        walk_at "run"
        refine eY b3 b2 b4 ?_
        walk_at "run"
      · rintro k hk ρ M4 ⟨b4,b5,b6,b7,rfl,qs,os,T4⟩ N hN
        rw[List.length_range] at hk
        rw[List.getElem_range]
        have hk':(5:Int)+(k:Nat)<=1000:=by omega
        walk_at "env"
        walk_at "run"
        refine o7 (by omega) (by omega) fun p M5 hp P5 K5=>?_
        have ne:∀ {M:Sto} {x:Nat} {c:Cell},M x=some c->∀ {y:Nat},M y=none->x ≠ y:=fun e y e' z=>by rw[z,e'] at e;cases e
        have T5:=T4.keep K5 id (fun _ _=>id) (fun _ _=>id)
        have pst:st ≠ p:=ne T4.st hp
        have pos:∀ i,i < 2->os i ≠ p:=fun i hi=>by obtain⟨_,_,_,_,_,_,z,_⟩:=T4.at' i hi;exact ne z hp
        have pqs:∀ i,i < 2->qs i ≠ p:=fun i hi=>by obtain⟨_,_,_,_,_,_,_,z⟩:=T4.at' i hi;exact ne z hp
        walk_at "run"
        refine cv P5 (by omega) (by omega) (by omega) fun a M6 v1 v2 P6 K6=>?_
        have T6:=T5.keep K6 pst pos pqs
        obtain⟨a,rfl⟩:∃ w:Nat,a=w:=⟨a.toNat,by omega⟩
        have ha:a < 2:=by omega
        have hok:=hs a ha
        have hf2:=hok.f2
        have hf1:=hok.f1
        have ht8:=hok.t1
        have ixs:ixD (.lst [(sl 0).D,(sl 1).D]) (.int (a:Nat))=some (.tup [.int ((sl a).S:Nat),DI (sl a).f,DII (sl a).t,.tup [.int (sl a).r,.int (sl a).c,.int (sl a).o,.int (sl a).d]]):=tR (fun i=>(sl i).D) ha
        have ixt:=tR (fun i=>(sl i).tab) ha
        walk_at "run"
        refine dY ixs ?_
        walk_at "run"
        rw[List.length_map]
        refine EV (by omega) (by omega) ?_
        rw[Int.toNat_natCast]
        walk_at "run"
        refine dY ixs ?_
        walk_at "run"
        rw[List.length_map]
        refine cv P6 (by omega) (by omega) (by omega) fun w M7 w1 w2 P7 K7=>?_
        have T7:=T6.keep K7 pst pos pqs
        obtain⟨w,rfl⟩:∃ v:Nat,w=v:=⟨w.toNat,by omega⟩
        obtain⟨A,hA,hAk⟩:∃ A:D,ixD (.lst (((List.range (sl a).f.length).map fun (k:Nat)=>D.int (k:Nat))++[D.non])) (.int (w:Nat))=some A/\(A=.non\/∃ j:Nat,j < (sl a).f.length/\A=.int (j:Nat)):=by
          by_cases hw:w < (sl a).f.length
          · exact⟨_,FK hw,.inr ⟨w,hw,rfl⟩⟩
          · have:w=(sl a).f.length:=by omega
            subst this
            exact⟨_,FL,.inl rfl⟩
        refine dY hA ?_
        walk_at "run"
        obtain⟨told,sold,paid,latest,a1,a2,a3,a4⟩:=T7.at' a ha
        refine⟨st,_,(a:Nat),.ptr (qs a),rfl,T7.st,rfl,bx (oq (fun i=>D.ptr (qs i)) ha),?_⟩
        walk_at "run"
        refine⟨qs a,_,1,.int (told:Nat),rfl,a4,rfl,bx (j:=1) rfl,?_⟩
        walk_at "run"
        refine dY ixs ?_
        walk_at "run"
        rw[List.length_map]
        refine FX (fun ρ' M'=>ρ'=[some (.scr ns),some (.lst [(sl 0).D,(sl 1).D]),some (.lst [(sl 0).tab,(sl 1).tab]),some (.ptr st),some (.int (5+(k:Nat))),some (.ptr p),some (.int (a:Nat)),some A]/\∃ qs os,Two C M' sl st qs os/\Pool M' p 2002/\(∀ i,i < 2->os i ≠ p)/\(∀ i,i < 2->qs i ≠ p) /\
          (0 < (sl a).t.length->∃ told sold paid latest,told < (sl a).t.length/\sold<=(sl a).S/\M' (os a)=some (.ins C NS_Office (bH (sl a).S (sl a).f (sl a).t (sl a).r (sl a).c (sl a).o (sl a).d told sold paid .non latest))/\M' (qs a)=some (.lst (stD (os a) (sl a).S told sold paid)))) (fun N2 hN2=>?_) ?_
        · refine cu (fun et=>?_) fun et=>?_
          · walk_at "run"
            refine dY ixs ?_
            walk_at "run"
            refine tQ hok fun o' q' M8 ho' hq' h5 h6 K8=>?_
            walk_at "run"
            have hn8:StI C M8 (sl a) o' q':=⟨0,0,0,_,Nat.zero_le _,Nat.zero_le _,h5,h6⟩
            refine⟨st,_,(a:Nat),a,rfl,K8 _ _ T7.st id,rfl,om (by simpa using ha),?_⟩
            have T9:=T7.new ha ho' hq' K8 hn8
            have pp:∀ {x:Nat},M7 x=none->x ≠ p:=fun {x} e z=>by subst z;obtain⟨_,_,_,h1,_⟩:=P7;rw[e] at h1;cases h1
            refine hN2 _ _ ⟨rfl,_,_,T9,(P7.keep K8 id).keep (S:=(· = st)) (Kp.upd (.inl rfl)) (Ne.symm pst),fun i hi=>?_,fun i hi=>?_,fun hpos=>?_⟩
            · by_cases e:i=a
              · simp only[if_pos e];exact pp ho'
              · simp only[if_neg e];exact pos i hi
            · by_cases e:i=a
              · simp only[if_pos e];exact pp hq'
              · simp only[if_neg e];exact pqs i hi
            · have e1:o' ≠ st:=fun e=>by rw[e,T7.st] at ho';cases ho'
              have e2:q' ≠ st:=fun e=>by rw[e,T7.st] at hq';cases hq'
              refine⟨0,0,0,.non,hpos,Nat.zero_le _,?_,?_⟩
              · simp only[if_pos]
                rw[bv e1];exact h5
              · simp only[if_pos]
                rw[bv e2];exact h6
          · walk_at "run"
            exact hN2 _ _ ⟨rfl,qs,os,T7,P7.le (by omega),pos,pqs,fun _=>⟨told,sold,paid,latest,by omega,a2,a3,a4⟩⟩
        clear a1 a2 a3 a4 T7 P7 K7 T6 P6 K6 T5 P5 K5 T4 pos pqs
        rintro ρ M8 ⟨rfl,qs,os,T8,P8,pos,pqs,hpos⟩
        walk_at "run"
        refine⟨st,_,(a:Nat),.ptr (qs a),rfl,T8.st,rfl,bx (oq (fun i=>D.ptr (qs i)) ha),?_⟩
        refine FW ?_
        walk_at "run"
        refine dY ixs ?_
        walk_at "run"
        rw[List.length_map]
        refine cu (fun el=>?_) fun el=>?_
        · obtain⟨told,sold,paid,latest,a1,a2,a3,a4⟩:=hpos (by omega)
          walk_at "run"
          refine dY ixs ?_
          walk_at "run"
          refine dY ixt ?_
          walk_at "run"
          refine⟨st,_,(a:Nat),.ptr (qs a),rfl,T8.st,rfl,bx (oq (fun i=>D.ptr (qs i)) ha),?_⟩
          walk_at "run"
          rcases hAk with rfl | ⟨j,hj,rfl⟩
          · refine FU hok a3 a2 a1 a4 fun M9 latest' g1 g2 K9=>?_
            have T9:=T8.told ha K9 ⟨_,_,_,_,by omega,a2,g1,g2⟩
            have P9:=P8.keep K9 (fun z=>z.elim (fun z=>pos a ha z.symm) fun z=>pqs a ha z.symm)
            walk_at "run"
            refine cv P9 (by omega) (by omega) (by omega) fun v Mz v1 v2 Pz Kz=>?_
            have Tz:=T9.keep Kz pst pos pqs
            walk_at "run"
            refine cu (fun ev=>?_) fun ev=>?_
            · obtain⟨told,sold,paid,latest,a1,a2,a3,a4⟩:=Tz.at' 0 (by omega)
              walk_at "run"
              refine⟨st,_,0,.ptr (qs 0),rfl,Tz.st,rfl,bx (j:=0) rfl,?_⟩
              walk_at "run"
              refine eY a3 a2 a4 ?_
              walk_at "run"
              obtain⟨told',sold',paid',latest',b1,b2,b3,b4⟩:=Tz.at' 1 (by omega)
              refine⟨st,_,1,.ptr (qs 1),rfl,Tz.st,rfl,bx (j:=1) rfl,?_⟩
              walk_at "run"
              refine eY b3 b2 b4 ?_
              walk_at "run"
              exact hN _ _ ⟨_,_,_,_,rfl,_,_,Tz⟩
            · walk_at "run"
              exact hN _ _ ⟨_,_,_,_,rfl,_,_,Tz⟩
          · refine FV hok a3 a2 a1 hj a4 fun M9 sold' paid' latest' g0 g1 g2 K9=>?_
            have T9:=T8.told ha K9 ⟨_,_,_,_,by omega,g0,g1,g2⟩
            have P9:=P8.keep K9 (fun z=>z.elim (fun z=>pos a ha z.symm) fun z=>pqs a ha z.symm)
            walk_at "run"
            refine cv P9 (by omega) (by omega) (by omega) fun v Mz v1 v2 Pz Kz=>?_
            have Tz:=T9.keep Kz pst pos pqs
            walk_at "run"
            refine cu (fun ev=>?_) fun ev=>?_
            · obtain⟨told,sold,paid,latest,a1,a2,a3,a4⟩:=Tz.at' 0 (by omega)
              walk_at "run"
              refine⟨st,_,0,.ptr (qs 0),rfl,Tz.st,rfl,bx (j:=0) rfl,?_⟩
              walk_at "run"
              refine eY a3 a2 a4 ?_
              walk_at "run"
              obtain⟨told',sold',paid',latest',b1,b2,b3,b4⟩:=Tz.at' 1 (by omega)
              refine⟨st,_,1,.ptr (qs 1),rfl,Tz.st,rfl,bx (j:=1) rfl,?_⟩
              walk_at "run"
              refine eY b3 b2 b4 ?_
              walk_at "run"
              exact hN _ _ ⟨_,_,_,_,rfl,_,_,Tz⟩
            · walk_at "run"
              exact hN _ _ ⟨_,_,_,_,rfl,_,_,Tz⟩
        · walk_at "run"
          refine cv P8 (by omega) (by omega) (by omega) fun v Mz v1 v2 Pz Kz=>?_
          have Tz:=T8.keep Kz pst pos pqs
          walk_at "run"
          refine cu (fun ev=>?_) fun ev=>?_
          · obtain⟨told,sold,paid,latest,a1,a2,a3,a4⟩:=Tz.at' 0 (by omega)
            walk_at "run"
            refine⟨st,_,0,.ptr (qs 0),rfl,Tz.st,rfl,bx (j:=0) rfl,?_⟩
            walk_at "run"
            refine eY a3 a2 a4 ?_
            walk_at "run"
            obtain⟨told',sold',paid',latest',b1,b2,b3,b4⟩:=Tz.at' 1 (by omega)
            refine⟨st,_,1,.ptr (qs 1),rfl,Tz.st,rfl,bx (j:=1) rfl,?_⟩
            walk_at "run"
            refine eY b3 b2 b4 ?_
            walk_at "run"
            exact hN _ _ ⟨_,_,_,_,rfl,_,_,Tz⟩
          · walk_at "run"
            exact hN _ _ ⟨_,_,_,_,rfl,_,_,Tz⟩
    · rintro k hk _ M3 ⟨qs,os,rfl,h3,h4⟩ N hN
      have hk2:k < 2:=by simpa using hk
      have ek:[0,1][k]=k:=by rcases cI hk2 with rfl | rfl <;> rfl
      rw[ek]
      walk_at "env"
      walk_at "run"
      refine tQ (hs k hk2) fun o q M4 ho hq h5 h6 K4=>?_
      refine hN _ _ ⟨fun i=>if i=k then q else qs i,fun i=>if i=k then o else os i,?_,fun i hi=>?_,fun e=>?_⟩
      · rcases cI hk2 with rfl | rfl <;> rfl
      · by_cases e:i=k
        · subst e
          simp only[if_pos]
          exact⟨0,0,0,_,Nat.zero_le _,Nat.zero_le _,h5,h6⟩
        · simp only[if_neg e]
          exact (h3 i (by omega)).keep K4 id id
      · have:k=1:=by omega
        subst this
        obtain⟨_,_,_,_,_,_,y,z⟩:=h3 0 (by omega)
        refine⟨fun e=>?_,fun e=>?_⟩
        · have e:qs 0=q:=e
          rw[e,hq] at z;cases z
        · have e:os 0=o:=e
          rw[e,ho] at y;cases y
  · rintro k hk _ _ ⟨rfl,rfl⟩ N hN
    have hk2:k < 2:=by simpa using hk
    have ek:[0,1][k]=k:=by rcases cI hk2 with rfl | rfl <;> rfl
    rw[ek]
    walk_at "env"
    walk_at "run"
    refine bb (FT (hs k hk2)) ?_
    refine hN _ _ ⟨rfl,?_⟩
    rcases cI hk2 with rfl | rfl <;> rfl
end My
end VL
namespace VL
namespace My
open PySem PySem.Spec PyProof.Rows L2
def top(i:Nat):Stmt:=PySem.Challenge.pw_latefare_k39_an_office_asked.main.body.getD i (.Pass ⟨0,0,0,0⟩)
section
variable {P:Program} {w:World} {K:PySem.W.Frag} {mg:Str->Option Value} {base:Heap}
abbrev g4:Stmt:=top 10
theorem tS:FnScope ["number","least","most"] ["number","least","most"] (ai g4):=⟨rfl,rfl,rfl,by decide +kernel,rfl,by decide +kernel,by decide +kernel⟩
theorem FZ{a:Addr}{fd:FuncData}(Fn:Fun K "is_within" "is_within" g4 a fd)(b_bool:mg "bool" = none)(b_int:mg "int" = none)(b_isinstance:mg "isinstance" = none):FnOk P w K mg base CX0 1 a fd ["number","least","most"] (spF K sG false):=by
  refine bt (np:=3) (n:=3) (body:=nc) [] [] rfl rfl rfl Fn tS (fun cdv A outer s H E F hn hr=>?_)
  have sc:=tS
  exact (ba (bA (O':=[]) (da (iV qD (by decide +kernel) b_isinstance b_int (ab 0)) (da (qQ (iV mj (by decide +kernel) b_isinstance b_bool (ab 0))) (dU (qP (ab 1) (ab 0) (ab 2)))))))
theorem G0{a:Addr}{fd:FuncData}(Fn:Fun K "is_within" "is_within" g4 a fd)(m:mg "is_within" = some (.ref a))(b_bool:mg "bool" = none)(b_int:mg "int" = none)(b_isinstance:mg "isinstance" = none):Def P w K mg base "is_within" 1 ["number","least","most"] bY false :=
  Def.sc ⟨a,fd,FZ Fn b_bool b_int b_isinstance,m,Fn.kp,Fn.binds fun _ _ _ _ _ _ us hl=>match us,hl with | [_,_,_],_=>rfl⟩
abbrev g5:Stmt:=top 11
theorem tT:FnScope ["base","times","product","step"] ["base","times"] (ai g5):=⟨rfl,rfl,rfl,by decide +kernel,rfl,by decide +kernel,by decide +kernel⟩
theorem G1{a:Addr}{fd:FuncData}(Fn:Fun K "power" "power" g5 a fd)(b_range:mg "range" = none):FnOk P w K mg base CX0 1 a fd ["base","times"] (spF K sH false):=by
  refine bt (np:=2) (n:=4) (body:=ng) [] [] rfl rfl rfl Fn tT (fun cdv A outer s H E F hn hr=>?_)
  have sc:=tT
  exact (bF (du 2 sc.nd ah) (bF (qW 3 [] sc.nd rfl b_range (aj (ab 1) au) (ba (du 2 sc.nd (dg (ab 2) (ab 0))))) (ba (bA (O':=[]) (ab 2)))))
theorem G2{a:Addr}{fd:FuncData}(Fn:Fun K "power" "power" g5 a fd)(m:mg "power" = some (.ref a))(b_range:mg "range" = none):Def P w K mg base "power" 1 ["base","times"] eR false :=
  Def.sc ⟨a,fd,G1 Fn b_range,m,Fn.kp,Fn.binds fun _ _ _ _ _ _ us hl=>match us,hl with | [_,_],_=>rfl⟩
abbrev eZ:Stmt:=top 19
theorem tU:FnScope ["fares"] ["fares"] (ai eZ):=⟨rfl,rfl,rfl,by decide +kernel,rfl,by decide +kernel,by decide +kernel⟩
theorem G3{a:Addr}{fd:FuncData}(Fn:Fun K "are_fares" "are_fares" eZ a fd)(b_all:mg "all" = none)(b_len:mg "len" = none){t_MOST_FARE:Tok}(c_MOST_FARE:mg "MOST_FARE" = some (.int 1000000 t_MOST_FARE)){t_MOST_FARES:Tok}(c_MOST_FARES:mg "MOST_FARES" = some (.int 6 t_MOST_FARES))(d_is_within:Def P w K mg base "is_within" 1 ["number","least","most"] bY false):FnOk P w K mg base CX0 2 a fd ["fares"] (spF K sI false):=by
  refine bt (np:=1) (n:=1) (body:=nh) [] [] rfl rfl rfl Fn tU (fun cdv A outer s H E F hn hr=>?_)
  have sc:=tU
  exact (ba (bA (O':=[]) (da (qP ah (cR b_len (aj (ab 0) au)) (eJ c_MOST_FARES)) (dU (mF rfl b_all (aj (bi (cF (own:=["fare"]) (caps:=[]) (cn:=[]) ⟨rfl,by decide +kernel,by decide +kernel,bV (ai eZ) rfl (by decide +kernel),by first | rfl | decide +kernel,by decide +kernel,by decide +kernel⟩ rfl (dW (aF 0)) (fun _ _ _ _=>bu (i:=0) (show (["fare"]:List Str).Nodup from by decide +kernel) rfl (Or.inl rfl) (.inr rfl)) (df 0) (by decide) (fun _ _ _ _=>cP) (fun _ _ _ _=>(bo d_is_within hr (aj (ab 0) (aj ah (aj (eJ c_MOST_FARE) au))))))) au))))))
theorem G4{a:Addr}{fd:FuncData}(Fn:Fun K "are_fares" "are_fares" eZ a fd)(m:mg "are_fares" = some (.ref a))(b_all:mg "all" = none)(b_len:mg "len" = none){t_MOST_FARE:Tok}(c_MOST_FARE:mg "MOST_FARE" = some (.int 1000000 t_MOST_FARE)){t_MOST_FARES:Tok}(c_MOST_FARES:mg "MOST_FARES" = some (.int 6 t_MOST_FARES))(d_is_within:Def P w K mg base "is_within" 1 ["number","least","most"] bY false):Def P w K mg base "are_fares" 2 ["fares"] j9 false :=
  Def.sc ⟨a,fd,G3 Fn b_all b_len c_MOST_FARE c_MOST_FARES d_is_within,m,Fn.kp,Fn.binds fun _ _ _ _ _ _ us hl=>match us,hl with | [_],_=>rfl⟩
abbrev g6:Stmt:=top 22
theorem tV:FnScope ["row"] ["row"] (ai g6):=⟨rfl,rfl,rfl,by decide +kernel,rfl,by decide +kernel,by decide +kernel⟩
theorem G5{a:Addr}{fd:FuncData}(Fn:Fun K "total_of" "total_of" g6 a fd)(b_sum:mg "sum" = none):FnOk P w K mg base CX0 1 a fd ["row"] (spF K sJ false):=by
  refine bt (np:=1) (n:=1) (body:=ni) [] [] rfl rfl rfl Fn tV (fun cdv A outer s H E F hn hr=>?_)
  have sc:=tV
  exact (ba (bA (O':=[]) (mD rfl b_sum (aj (ab 0) au))))
theorem G6{a:Addr}{fd:FuncData}(Fn:Fun K "total_of" "total_of" g6 a fd)(m:mg "total_of" = some (.ref a))(b_sum:mg "sum" = none):Def P w K mg base "total_of" 1 ["row"] eS false :=
  Def.sc ⟨a,fd,G5 Fn b_sum,m,Fn.kp,Fn.binds fun _ _ _ _ _ _ us hl=>match us,hl with | [_],_=>rfl⟩
abbrev ff:Stmt:=top 21
theorem tW:FnScope ["row","classes"] ["row","classes"] (ai ff):=⟨rfl,rfl,rfl,by decide +kernel,rfl,by decide +kernel,by decide +kernel⟩
theorem G7{a:Addr}{fd:FuncData}(Fn:Fun K "is_row" "is_row" ff a fd)(b_all:mg "all" = none)(b_len:mg "len" = none){t_MOST_WEIGHT:Tok}(c_MOST_WEIGHT:mg "MOST_WEIGHT" = some (.int 1000 t_MOST_WEIGHT))(d_is_within:Def P w K mg base "is_within" 1 ["number","least","most"] bY false)(d_total_of:Def P w K mg base "total_of" 1 ["row"] eS false):FnOk P w K mg base CX0 2 a fd ["row","classes"] (spF K sK false):=by
  refine bt (np:=2) (n:=2) (body:=nj) [] [] rfl rfl rfl Fn tW (fun cdv A outer s H E F hn hr=>?_)
  have sc:=tW
  exact (bF (qV (O':=[]) (qZ hr (cR b_len (aj (ab 0) au)) (cD (ab 1) ah)) (ba (bA (O':=[]) eI)) qU) (ba (bA (O':=[]) (da (mF rfl b_all (aj (bi (cF (own:=["weight"]) (caps:=[]) (cn:=[]) ⟨rfl,by decide +kernel,by decide +kernel,bV (ai ff) rfl (by decide +kernel),by first | rfl | decide +kernel,by decide +kernel,by decide +kernel⟩ rfl (dW (aF 0)) (fun _ _ _ _=>bu (i:=0) (show (["weight"]:List Str).Nodup from by decide +kernel) rfl (Or.inl rfl) (.inr rfl)) (df 0) (by decide) (fun _ _ _ _=>cP) (fun _ _ _ _=>(bo d_is_within hr (aj (ab 0) (aj ah (aj (eJ c_MOST_WEIGHT) au))))))) au)) (dU (qO (bo d_total_of hr (aj (ab 0) au)) ah))))))
theorem G8{a:Addr}{fd:FuncData}(Fn:Fun K "is_row" "is_row" ff a fd)(m:mg "is_row" = some (.ref a))(b_all:mg "all" = none)(b_len:mg "len" = none){t_MOST_WEIGHT:Tok}(c_MOST_WEIGHT:mg "MOST_WEIGHT" = some (.int 1000 t_MOST_WEIGHT))(d_is_within:Def P w K mg base "is_within" 1 ["number","least","most"] bY false)(d_total_of:Def P w K mg base "total_of" 1 ["row"] eS false):Def P w K mg base "is_row" 2 ["row","classes"] ja false :=
  Def.sc ⟨a,fd,G7 Fn b_all b_len c_MOST_WEIGHT d_is_within d_total_of,m,Fn.kp,Fn.binds fun _ _ _ _ _ _ us hl=>match us,hl with | [_,_],_=>rfl⟩
abbrev fg:Stmt:=top 20
theorem tX:FnScope ["turns","classes"] ["turns","classes"] (ai fg):=⟨rfl,rfl,rfl,by decide +kernel,rfl,by decide +kernel,by decide +kernel⟩
theorem G9{a:Addr}{fd:FuncData}(Fn:Fun K "are_turns" "are_turns" fg a fd)(b_all:mg "all" = none)(b_len:mg "len" = none){t_MOST_TURNS:Tok}(c_MOST_TURNS:mg "MOST_TURNS" = some (.int 8 t_MOST_TURNS))(d_is_row:Def P w K mg base "is_row" 2 ["row","classes"] ja false):FnOk P w K mg base CX0 3 a fd ["turns","classes"] (spF K sL false):=by
  refine bt (np:=2) (n:=2) (body:=nk) [] [] rfl rfl rfl Fn tX (fun cdv A outer s H E F hn hr=>?_)
  have sc:=tX
  exact (ba (bA (O':=[]) (da (Aj (cR b_len (aj (ab 0) au)) (eJ c_MOST_TURNS)) (dU (mF rfl b_all (aj (bi (cF (own:=["row"]) (caps:=[1]) (cn:=["classes"]) ⟨rfl,by decide +kernel,by decide +kernel,bV (ai fg) rfl (by decide +kernel),by first | rfl | decide +kernel,by decide +kernel,by decide +kernel⟩ rfl (dW (aF 0)) (fun _ _ _ _=>bu (i:=0) (show (["row","classes"]:List Str).Nodup from by decide +kernel) rfl (Or.inl rfl) (.inr rfl)) (df 0) (by decide) (fun _ _ _ _=>cP) (fun _ _ _ _=>(bo d_is_row hr (aj (ab 0) (aj (ab 1) au)))))) au))))))
theorem Ga{a:Addr}{fd:FuncData}(Fn:Fun K "are_turns" "are_turns" fg a fd)(m:mg "are_turns" = some (.ref a))(b_all:mg "all" = none)(b_len:mg "len" = none){t_MOST_TURNS:Tok}(c_MOST_TURNS:mg "MOST_TURNS" = some (.int 8 t_MOST_TURNS))(d_is_row:Def P w K mg base "is_row" 2 ["row","classes"] ja false):Def P w K mg base "are_turns" 3 ["turns","classes"] jb false :=
  Def.sc ⟨a,fd,G9 Fn b_all b_len c_MOST_TURNS d_is_row,m,Fn.kp,Fn.binds fun _ _ _ _ _ _ us hl=>match us,hl with | [_,_],_=>rfl⟩
abbrev g7:Stmt:=top 18
theorem tY:FnScope ["seats","fares","turns"] ["seats","fares","turns"] (ai g7):=⟨rfl,rfl,rfl,by decide +kernel,rfl,by decide +kernel,by decide +kernel⟩
theorem Gb{a:Addr}{fd:FuncData}(Fn:Fun K "is_sale" "is_sale" g7 a fd)(b_len:mg "len" = none){t_MOST_SEATS:Tok}(c_MOST_SEATS:mg "MOST_SEATS" = some (.int 10 t_MOST_SEATS))(d_is_within:Def P w K mg base "is_within" 3 ["number","least","most"] bY false)(d_are_fares:Def P w K mg base "are_fares" 3 ["fares"] j9 false)(d_are_turns:Def P w K mg base "are_turns" 3 ["turns","classes"] jb false):FnOk P w K mg base CX0 4 a fd ["seats","fares","turns"] (spF K sM false):=by
  refine bt (np:=3) (n:=3) (body:=no) [] [] rfl rfl rfl Fn tY (fun cdv A outer s H E F hn hr=>?_)
  have sc:=tY
  exact (ba (bA (O':=[]) (da (bo d_is_within hr (aj (ab 0) (aj ah (aj (eJ c_MOST_SEATS) au)))) (da (bo d_are_fares hr (aj (ab 1) au)) (dU (bo d_are_turns hr (aj (ab 2) (aj (cR b_len (aj (ab 1) au)) au))))))))
theorem Gc{a:Addr}{fd:FuncData}(Fn:Fun K "is_sale" "is_sale" g7 a fd)(m:mg "is_sale" = some (.ref a))(b_len:mg "len" = none){t_MOST_SEATS:Tok}(c_MOST_SEATS:mg "MOST_SEATS" = some (.int 10 t_MOST_SEATS))(d_is_within:Def P w K mg base "is_within" 3 ["number","least","most"] bY false)(d_are_fares:Def P w K mg base "are_fares" 3 ["fares"] j9 false)(d_are_turns:Def P w K mg base "are_turns" 3 ["turns","classes"] jb false):Def P w K mg base "is_sale" 4 ["seats","fares","turns"] kY false :=
  Def.sc ⟨a,fd,Gb Fn b_len c_MOST_SEATS d_is_within d_are_fares d_are_turns,m,Fn.kp,Fn.binds fun _ _ _ _ _ _ us hl=>match us,hl with | [_,_,_],_=>rfl⟩
abbrev g8:Stmt:=top 23
theorem tZ:FnScope ["turns","last","scales","row"] ["turns","last"] (ai g8):=⟨rfl,rfl,rfl,by decide +kernel,rfl,by decide +kernel,by decide +kernel⟩
theorem Gd{a:Addr}{fd:FuncData}(Fn:Fun K "scales_of" "scales_of" g8 a fd)(b_list:mg "list" = none)(b_reversed:mg "reversed" = none)(d_total_of:Def P w K mg base "total_of" 1 ["row"] eS false):FnOk P w K mg base CX0 2 a fd ["turns","last"] (spF K sO true):=by
  refine bt (np:=2) (n:=4) (body:=nq) [] [] rfl rfl rfl Fn tZ (fun cdv A outer s H E F hn hr=>?_)
  have sc:=tZ
  exact (bF (eM 2 sc.nd (dt (aj (ab 1) au)) (by rw[hn];decide)) (bF (AD 3 [2] sc.nd rfl b_reversed (ab 0) (ba (At 2 (dg (aR (aF 2) (gY ah) (fun _ _=>rfl)) (bo d_total_of hr (aj (ab 3) au)))))) (ba (km (O':=[]) (AE b_list b_reversed (aF 2))))))
theorem Ge{a:Addr}{fd:FuncData}(Fn:Fun K "scales_of" "scales_of" g8 a fd)(m:mg "scales_of" = some (.ref a))(b_list:mg "list" = none)(b_reversed:mg "reversed" = none)(d_total_of:Def P w K mg base "total_of" 1 ["row"] eS false):Def P w K mg base "scales_of" 2 ["turns","last"] dE true :=
  ⟨a,fd,Gd Fn b_list b_reversed d_total_of,m,Fn.kp,Fn.binds fun _ _ _ _ _ _ us hl=>match us,hl with | [_,_],_=>rfl⟩
abbrev fh:Stmt:=top 28
theorem u0:FnScope ["row","classes","kept"] ["row","classes","kept"] (ai fh):=⟨rfl,rfl,rfl,by decide +kernel,rfl,by decide +kernel,by decide +kernel⟩
theorem Gf{a:Addr}{fd:FuncData}(Fn:Fun K "weighed" "weighed" fh a fd)(b_sum:mg "sum" = none)(b_zip:mg "zip" = none):FnOk P w K mg base CX0 1 a fd ["row","classes","kept"] (spF K sP false):=by
  refine bt (np:=3) (n:=3) (body:=nr) [] [] rfl rfl rfl Fn u0 (fun cdv A outer s H E F hn hr=>?_)
  have sc:=u0
  exact (ba (bA (O':=[]) (mD rfl b_sum (aj (bi (cF (own:=["weight","worth"]) (caps:=[]) (cn:=[]) ⟨rfl,by decide +kernel,by decide +kernel,bV (ai fh) rfl (by decide +kernel),by first | rfl | decide +kernel,by decide +kernel,by decide +kernel⟩ rfl (r8 b_zip (aF 0) (cE (bi (kl (aF 1) (cE (bi (dt (aj (ab 2) au)))))))) (fun _ _ _ _=>ij rfl (Tgs.ok (is:=[0,1]) (show (["weight","worth"]:List Str).Nodup from by decide +kernel) (.cons (i:=0) rfl (Or.inl rfl) (.inr rfl) (.cons (i:=1) rfl (Or.inl rfl) (.inr rfl) Tgs.nil rfl) rfl))) (ma [0,1]) (by decide) (fun _ _ _ _=>cP) (fun _ _ _ _=>(dg (ab 0) (ab 1))))) au))))
theorem Gg{a:Addr}{fd:FuncData}(Fn:Fun K "weighed" "weighed" fh a fd)(m:mg "weighed" = some (.ref a))(b_sum:mg "sum" = none)(b_zip:mg "zip" = none):Def P w K mg base "weighed" 1 ["row","classes","kept"] jc false :=
  Def.sc ⟨a,fd,Gf Fn b_sum b_zip,m,Fn.kp,Fn.binds fun _ _ _ _ _ _ us hl=>match us,hl with | [_,_,_],_=>rfl⟩
abbrev g9:Stmt:=top 30
theorem u3:FnScope ["fare","scale","behind","s"] ["fare","scale","behind","s"] (ai g9):=⟨rfl,rfl,rfl,by decide +kernel,rfl,by decide +kernel,by decide +kernel⟩
theorem Gh{a:Addr}{fd:FuncData}(Fn:Fun K "sold_worth" "sold_worth" g9 a fd):FnOk P w K mg base CX0 1 a fd ["fare","scale","behind","s"] (spF K sQ false):=by
  refine bt (np:=4) (n:=4) (body:=nt) [] [] rfl rfl rfl Fn u3 (fun cdv A outer s H E F hn hr=>?_)
  have sc:=u3
  exact (ba (bA (O':=[]) (cD (dg (ab 0) (ab 1)) (aR (aF 2) (eK (ab 3) ah) (fun _ _=>rfl)))))
theorem Gi{a:Addr}{fd:FuncData}(Fn:Fun K "sold_worth" "sold_worth" g9 a fd)(m:mg "sold_worth" = some (.ref a)):Def P w K mg base "sold_worth" 1 ["fare","scale","behind","s"] eU false :=
  Def.sc ⟨a,fd,Gh Fn , m,Fn.kp,Fn.binds fun _ _ _ _ _ _ us hl=>match us,hl with | [_,_,_,_],_=>rfl⟩
abbrev ga:Stmt:=top 29
theorem u4:FnScope ["fare","scale","behind","s"] ["fare","scale","behind","s"] (ai ga):=⟨rfl,rfl,rfl,by decide +kernel,rfl,by decide +kernel,by decide +kernel⟩
theorem Gj{a:Addr}{fd:FuncData}(Fn:Fun K "class_worth" "class_worth" ga a fd)(b_max:mg "max" = none)(d_sold_worth:Def P w K mg base "sold_worth" 1 ["fare","scale","behind","s"] eU false):FnOk P w K mg base CX0 2 a fd ["fare","scale","behind","s"] (spF K sR false):=by
  refine bt (np:=4) (n:=4) (body:=nu) [] [] rfl rfl rfl Fn u4 (fun cdv A outer s H E F hn hr=>?_)
  have sc:=u4
  exact (bF (qV (O':=[]) (mE hr (ab 3) ah) (ba (bA (O':=[]) (aR (aF 2) (ab 3) (fun _ _=>rfl)))) qU) (ba (bA (O':=[]) (qS rfl b_max (aj (aR (aF 2) (ab 3) (fun _ _=>rfl)) (aj (bo d_sold_worth hr (aj (ab 0) (aj (ab 1) (aj (ab 2) (aj (ab 3) au))))) au))))))
theorem Gm{a:Addr}{fd:FuncData}(Fn:Fun K "class_worth" "class_worth" ga a fd)(m:mg "class_worth" = some (.ref a))(b_max:mg "max" = none)(d_sold_worth:Def P w K mg base "sold_worth" 1 ["fare","scale","behind","s"] eU false):Def P w K mg base "class_worth" 2 ["fare","scale","behind","s"] jd false :=
  Def.sc ⟨a,fd,Gj Fn b_max d_sold_worth,m,Fn.kp,Fn.binds fun _ _ _ _ _ _ us hl=>match us,hl with | [_,_,_,_],_=>rfl⟩
abbrev fj:Stmt:=top 27
theorem u5:FnScope ["fares","row","scale","behind","s"] ["fares","row","scale","behind","s"] (ai fj):=⟨rfl,rfl,rfl,by decide +kernel,rfl,by decide +kernel,by decide +kernel⟩
theorem Gn{a:Addr}{fd:FuncData}(Fn:Fun K "stand_worth" "stand_worth" fj a fd)(d_weighed:Def P w K mg base "weighed" 2 ["row","classes","kept"] jc false)(d_class_worth:Def P w K mg base "class_worth" 2 ["fare","scale","behind","s"] jd false):FnOk P w K mg base CX0 3 a fd ["fares","row","scale","behind","s"] (spF K sS false):=by
  refine bt (np:=5) (n:=5) (body:=nv) [] [] rfl rfl rfl Fn u5 (fun cdv A outer s H E F hn hr=>?_)
  have sc:=u5
  exact (ba (bA (O':=[]) (bo d_weighed hr (aj (ab 1) (aj (bi (cF (own:=["fare"]) (caps:=[2,3,4]) (cn:=["scale","behind","s"]) ⟨rfl,by decide +kernel,by decide +kernel,bV (ai fj) rfl (by decide +kernel),by first | rfl | decide +kernel,by decide +kernel,by decide +kernel⟩ rfl (dW (aF 0)) (fun _ _ _ _=>bu (i:=0) (show (["fare","scale","behind","s"]:List Str).Nodup from by decide +kernel) rfl (Or.inl rfl) (.inr rfl)) (df 0) (by decide) (fun _ _ _ _=>cP) (fun _ _ _ _=>(bo d_class_worth hr (aj (ab 0) (aj (ab 1) (aj (ab 2) (aj (ab 3) au)))))))) (aj (aR (aF 3) (ab 4) (fun _ _=>rfl)) au))))))
theorem Go{a:Addr}{fd:FuncData}(Fn:Fun K "stand_worth" "stand_worth" fj a fd)(m:mg "stand_worth" = some (.ref a))(d_weighed:Def P w K mg base "weighed" 2 ["row","classes","kept"] jc false)(d_class_worth:Def P w K mg base "class_worth" 2 ["fare","scale","behind","s"] jd false):Def P w K mg base "stand_worth" 3 ["fares","row","scale","behind","s"] je false :=
  Def.sc ⟨a,fd,Gn Fn d_weighed d_class_worth,m,Fn.kp,Fn.binds fun _ _ _ _ _ _ us hl=>match us,hl with | [_,_,_,_,_],_=>rfl⟩
abbrev fk:Stmt:=top 26
theorem u6:FnScope ["fares","row","scale","behind"] ["fares","row","scale","behind"] (ai fk):=⟨rfl,rfl,rfl,by decide +kernel,rfl,by decide +kernel,by decide +kernel⟩
theorem Gp{a:Addr}{fd:FuncData}(Fn:Fun K "row_worths" "row_worths" fk a fd)(b_len:mg "len" = none)(b_range:mg "range" = none)(d_stand_worth:Def P w K mg base "stand_worth" 3 ["fares","row","scale","behind","s"] je false):FnOk P w K mg base CX0 4 a fd ["fares","row","scale","behind"] (spF K sT true):=by
  refine bt (np:=4) (n:=4) (body:=nw) [] [] rfl rfl rfl Fn u6 (fun cdv A outer s H E F hn hr=>?_)
  have sc:=u6
  exact (ba (km (O':=[]) (cF (own:=["s"]) (caps:=[0,1,2,3]) (cn:=["fares","row","scale","behind"]) ⟨rfl,by decide +kernel,by decide +kernel,bV (ai fk) rfl (by decide +kernel),by first | rfl | decide +kernel,by decide +kernel,by decide +kernel⟩ rfl (qX b_range (aj (cR b_len (aj (ab 3) au)) au)) (fun _ _ _ _=>bu (i:=0) (show (["s","fares","row","scale","behind"]:List Str).Nodup from by decide +kernel) rfl (Or.inl rfl) (.inr rfl)) (df 0) (by decide) (fun _ _ _ _=>cP) (fun _ _ _ _=>(bo d_stand_worth hr (aj (ab 1) (aj (ab 2) (aj (ab 3) (aj (ab 4) (aj (ab 0) au))))))))))
theorem Gq{a:Addr}{fd:FuncData}(Fn:Fun K "row_worths" "row_worths" fk a fd)(m:mg "row_worths" = some (.ref a))(b_len:mg "len" = none)(b_range:mg "range" = none)(d_stand_worth:Def P w K mg base "stand_worth" 3 ["fares","row","scale","behind","s"] je false):Def P w K mg base "row_worths" 4 ["fares","row","scale","behind"] jf true :=
  ⟨a,fd,Gp Fn b_len b_range d_stand_worth,m,Fn.kp,Fn.binds fun _ _ _ _ _ _ us hl=>match us,hl with | [_,_,_,_],_=>rfl⟩
abbrev gb:Stmt:=top 25
theorem u7:FnScope ["fares","turns","last","ends","scales","table","t"] ["fares","turns","last","ends"] (ai gb):=⟨rfl,rfl,rfl,by decide +kernel,rfl,by decide +kernel,by decide +kernel⟩
theorem Gr{a:Addr}{fd:FuncData}(Fn:Fun K "worths_of" "worths_of" gb a fd)(b_len:mg "len" = none)(b_list:mg "list" = none)(b_range:mg "range" = none)(b_reversed:mg "reversed" = none)(d_scales_of:Def P w K mg base "scales_of" 4 ["turns","last"] dE true)(d_row_worths:Def P w K mg base "row_worths" 4 ["fares","row","scale","behind"] jf true):FnOk P w K mg base CX0 5 a fd ["fares","turns","last","ends"] (spX K sU):=by
  refine AN (np:=4) (n:=7) (body:=ny) [] rfl rfl rfl Fn u7 (fun cdv A outer s H E F hn hr=>?_)
  have sc:=u7
  exact (AJ (OL:=[]) (fr:=true) (eM 4 sc.nd (eN d_scales_of hr (aj (ab 1) (aj (ab 2) au))) (by rw[hn];decide)) A9 (AK (O':=[]) 5 sc.nd (gZ b_list (aF 3)) (by rw[hn];decide) (AF (AH 6 sc.nd rfl b_range (aj (eK (cR b_len (aj (ab 1) au)) ah) (aj (gY ah) (aj (gY ah) au))) (ra (AG (eN d_row_worths hr (aj (ab 0) (aj (aR (aF 1) (ab 6) (fun _ _=>rfl)) (aj (aR (aF 4) (cD (ab 6) ah) (fun _ _=>rfl)) (aj (aR (aF 5) (gY ah) (fun _ _=>rfl)) au)))))))) (ra (AI rfl b_list b_reversed))) (zZ Ac)))
theorem Gs{a:Addr}{fd:FuncData}(Fn:Fun K "worths_of" "worths_of" gb a fd)(m:mg "worths_of" = some (.ref a))(b_len:mg "len" = none)(b_list:mg "list" = none)(b_range:mg "range" = none)(b_reversed:mg "reversed" = none)(d_scales_of:Def P w K mg base "scales_of" 4 ["turns","last"] dE true)(d_row_worths:Def P w K mg base "row_worths" 4 ["fares","row","scale","behind"] jf true):DefX P w K mg base "worths_of" 5 ["fares","turns","last","ends"] fW :=
  ⟨a,fd,Gr Fn b_len b_list b_range b_reversed d_scales_of d_row_worths,m,Fn.kp,Fn.binds fun _ _ _ _ _ _ us hl=>match us,hl with | [_,_,_,_],_=>rfl⟩
abbrev gc:Stmt:=top 32
theorem u8:FnScope ["fare","scale","behind","s"] ["fare","scale","behind","s"] (ai gc):=⟨rfl,rfl,rfl,by decide +kernel,rfl,by decide +kernel,by decide +kernel⟩
theorem Gu{a:Addr}{fd:FuncData}(Fn:Fun K "is_taken" "is_taken" gc a fd)(d_sold_worth:Def P w K mg base "sold_worth" 1 ["fare","scale","behind","s"] eU false):FnOk P w K mg base CX0 2 a fd ["fare","scale","behind","s"] (spF K sV false):=by
  refine bt (np:=4) (n:=4) (body:=nz) [] [] rfl rfl rfl Fn u8 (fun cdv A outer s H E F hn hr=>?_)
  have sc:=u8
  exact (ba (bA (O':=[]) (da (qO (ab 3) ah) (dU (Ak (bo d_sold_worth hr (aj (ab 0) (aj (ab 1) (aj (ab 2) (aj (ab 3) au))))) (aR (aF 2) (ab 3) (fun _ _=>rfl)))))))
theorem Gv{a:Addr}{fd:FuncData}(Fn:Fun K "is_taken" "is_taken" gc a fd)(m:mg "is_taken" = some (.ref a))(d_sold_worth:Def P w K mg base "sold_worth" 1 ["fare","scale","behind","s"] eU false):Def P w K mg base "is_taken" 2 ["fare","scale","behind","s"] i4 false :=
  Def.sc ⟨a,fd,Gu Fn d_sold_worth,m,Fn.kp,Fn.binds fun _ _ _ _ _ _ us hl=>match us,hl with | [_,_,_,_],_=>rfl⟩
abbrev gd:Stmt:=top 33
theorem u9:FnScope ["scale","behind","s"] ["scale","behind","s"] (ai gd):=⟨rfl,rfl,rfl,by decide +kernel,rfl,by decide +kernel,by decide +kernel⟩
theorem Gw{a:Addr}{fd:FuncData}(Fn:Fun K "least_fare" "least_fare" gd a fd):FnOk P w K mg base CX0 1 a fd ["scale","behind","s"] (spF K sW false):=by
  refine bt (np:=3) (n:=3) (body:=nA) [] [] rfl rfl rfl Fn u9 (fun cdv A outer s H E F hn hr=>?_)
  have sc:=u9
  exact (ba (bA (O':=[]) (gY (mz (eK (aR (aF 1) (eK (ab 2) ah) (fun _ _=>rfl)) (aR (aF 1) (ab 2) (fun _ _=>rfl))) (ab 0)))))
theorem Gx{a:Addr}{fd:FuncData}(Fn:Fun K "least_fare" "least_fare" gd a fd)(m:mg "least_fare" = some (.ref a)):Def P w K mg base "least_fare" 1 ["scale","behind","s"] kZ false :=
  Def.sc ⟨a,fd,Gw Fn , m,Fn.kp,Fn.binds fun _ _ _ _ _ _ us hl=>match us,hl with | [_,_,_],_=>rfl⟩
abbrev ge:Stmt:=top 38
theorem ua:FnScope ["rule","room","came","of","due","chances_hold"] ["rule"] (ai ge):=⟨rfl,rfl,rfl,by decide +kernel,rfl,by decide +kernel,by decide +kernel⟩
theorem Gy{a:Addr}{fd:FuncData}(Fn:Fun K "is_rule" "is_rule" ge a fd){t_MOST_DUE:Tok}(c_MOST_DUE:mg "MOST_DUE" = some (.int 1000000 t_MOST_DUE)){t_MOST_OF:Tok}(c_MOST_OF:mg "MOST_OF" = some (.int 1000 t_MOST_OF)){t_MOST_ROOM:Tok}(c_MOST_ROOM:mg "MOST_ROOM" = some (.int 10 t_MOST_ROOM))(d_is_within:Def P w K mg base "is_within" 1 ["number","least","most"] bY false):FnOk P w K mg base CX0 2 a fd ["rule"] (spF K sX false):=by
  refine bt (np:=1) (n:=6) (body:=nB) [] [] rfl rfl rfl Fn ua (fun cdv A outer s H E F hn hr=>?_)
  have sc:=ua
  exact (bF (du 1 sc.nd (aR (aF 0) ah (fun _ _=>rfl))) (bF (du 2 sc.nd (aR (aF 0) ah (fun _ _=>rfl))) (bF (du 3 sc.nd (aR (aF 0) ah (fun _ _=>rfl))) (bF (du 4 sc.nd (aR (aF 0) ah (fun _ _=>rfl))) (bF (du 5 sc.nd (da (bo d_is_within hr (aj (ab 3) (aj ah (aj (eJ c_MOST_OF) au)))) (dU (bo d_is_within hr (aj (ab 2) (aj ah (aj (ab 3) au))))))) (ba (bA (O':=[]) (da (bo d_is_within hr (aj (ab 1) (aj ah (aj (eJ c_MOST_ROOM) au)))) (da (ab 5) (dU (bo d_is_within hr (aj (ab 4) (aj ah (aj (eJ c_MOST_DUE) au))))))))))))))
theorem Gz{a:Addr}{fd:FuncData}(Fn:Fun K "is_rule" "is_rule" ge a fd)(m:mg "is_rule" = some (.ref a)){t_MOST_DUE:Tok}(c_MOST_DUE:mg "MOST_DUE" = some (.int 1000000 t_MOST_DUE)){t_MOST_OF:Tok}(c_MOST_OF:mg "MOST_OF" = some (.int 1000 t_MOST_OF)){t_MOST_ROOM:Tok}(c_MOST_ROOM:mg "MOST_ROOM" = some (.int 10 t_MOST_ROOM))(d_is_within:Def P w K mg base "is_within" 1 ["number","least","most"] bY false):Def P w K mg base "is_rule" 2 ["rule"] l0 false :=
  Def.sc ⟨a,fd,Gy Fn c_MOST_DUE c_MOST_OF c_MOST_ROOM d_is_within,m,Fn.kp,Fn.binds fun _ _ _ _ _ _ us hl=>match us,hl with | [_],_=>rfl⟩
abbrev dG:Stmt:=top 40
theorem ub:FnScope ["shows","came","stayed","without","along"] ["shows","came","stayed"] (ai dG):=⟨rfl,rfl,rfl,by decide +kernel,rfl,by decide +kernel,by decide +kernel⟩
theorem GA{a:Addr}{fd:FuncData}(Fn:Fun K "with_one_more" "with_one_more" dG a fd)(b_zip:mg "zip" = none):FnOk P w K mg base CX0 1 a fd ["shows","came","stayed"] (spF K sY true):=by
  refine bt (np:=3) (n:=5) (body:=nC) [] [] rfl rfl rfl Fn ub (fun cdv A outer s H E F hn hr=>?_)
  have sc:=ub
  exact (bF (eM 3 sc.nd (kl (cE (bi (cF (own:=["weight"]) (caps:=[2]) (cn:=["stayed"]) ⟨rfl,by decide +kernel,by decide +kernel,bV (ai dG) rfl (by decide +kernel),by first | rfl | decide +kernel,by decide +kernel,by decide +kernel⟩ rfl (dW (aF 0)) (fun _ _ _ _=>bu (i:=0) (show (["weight","stayed"]:List Str).Nodup from by decide +kernel) rfl (Or.inl rfl) (.inr rfl)) (df 0) (by decide) (fun _ _ _ _=>cP) (fun _ _ _ _=>(dg (ab 0) (ab 1)))))) (cE (bi (dt (aj ah au))))) (by rw[hn];decide)) (bF (eM 4 sc.nd (kl (cE (bi (dt (aj ah au)))) (cE (bi (cF (own:=["weight"]) (caps:=[1]) (cn:=["came"]) ⟨rfl,by decide +kernel,by decide +kernel,bV (ai dG) rfl (by decide +kernel),by first | rfl | decide +kernel,by decide +kernel,by decide +kernel⟩ rfl (dW (aF 0)) (fun _ _ _ _=>bu (i:=0) (show (["weight","came"]:List Str).Nodup from by decide +kernel) rfl (Or.inl rfl) (.inr rfl)) (df 0) (by decide) (fun _ _ _ _=>cP) (fun _ _ _ _=>(dg (ab 0) (ab 1))))))) (by rw[hn];decide)) (ba (km (O':=[]) (cF (own:=["one","other"]) (caps:=[]) (cn:=[]) ⟨rfl,by decide +kernel,by decide +kernel,bV (ai dG) rfl (by decide +kernel),by first | rfl | decide +kernel,by decide +kernel,by decide +kernel⟩ rfl (r8 b_zip (aF 3) (aF 4)) (fun _ _ _ _=>ij rfl (Tgs.ok (is:=[0,1]) (show (["one","other"]:List Str).Nodup from by decide +kernel) (.cons (i:=0) rfl (Or.inl rfl) (.inr rfl) (.cons (i:=1) rfl (Or.inl rfl) (.inr rfl) Tgs.nil rfl) rfl))) (ma [0,1]) (by decide) (fun _ _ _ _=>cP) (fun _ _ _ _=>(cD (ab 0) (ab 1))))))))
theorem GB{a:Addr}{fd:FuncData}(Fn:Fun K "with_one_more" "with_one_more" dG a fd)(m:mg "with_one_more" = some (.ref a))(b_zip:mg "zip" = none):Def P w K mg base "with_one_more" 1 ["shows","came","stayed"] jh true :=
  ⟨a,fd,GA Fn b_zip,m,Fn.kp,Fn.binds fun _ _ _ _ _ _ us hl=>match us,hl with | [_,_,_],_=>rfl⟩
abbrev gf:Stmt:=top 39
theorem uc:FnScope ["sold","came","of","shows","seat"] ["sold","came","of"] (ai gf):=⟨rfl,rfl,rfl,by decide +kernel,rfl,by decide +kernel,by decide +kernel⟩
theorem GC{a:Addr}{fd:FuncData}(Fn:Fun K "shows_of" "shows_of" gf a fd)(b_range:mg "range" = none)(d_with_one_more:Def P w K mg base "with_one_more" 1 ["shows","came","stayed"] jh true):FnOk P w K mg base CX0 2 a fd ["sold","came","of"] (spF K sZ true):=by
  refine bt (np:=3) (n:=5) (body:=nD) [] [] rfl rfl rfl Fn uc (fun cdv A outer s H E F hn hr=>?_)
  have sc:=uc
  exact (bF (eM 3 sc.nd (dt (aj ah au)) (by rw[hn];decide)) (bF (qW 4 [3] sc.nd rfl b_range (aj (ab 0) au) (ba (eM 3 sc.nd (eN d_with_one_more hr (aj (ab 3) (aj (ab 1) (aj (eK (ab 2) (ab 1)) au)))) (by rw[hn];decide)))) (ba (As (O':=[]) 3))))
theorem GD{a:Addr}{fd:FuncData}(Fn:Fun K "shows_of" "shows_of" gf a fd)(m:mg "shows_of" = some (.ref a))(b_range:mg "range" = none)(d_with_one_more:Def P w K mg base "with_one_more" 1 ["shows","came","stayed"] jh true):Def P w K mg base "shows_of" 2 ["sold","came","of"] ji true :=
  ⟨a,fd,GC Fn b_range d_with_one_more,m,Fn.kp,Fn.binds fun _ _ _ _ _ _ us hl=>match us,hl with | [_,_,_],_=>rfl⟩
abbrev fm:Stmt:=top 43
theorem ud:FnScope ["sold","rule","room","shows"] ["sold","rule"] (ai fm):=⟨rfl,rfl,rfl,by decide +kernel,rfl,by decide +kernel,by decide +kernel⟩
theorem GE{a:Addr}{fd:FuncData}(Fn:Fun K "beyond_room" "beyond_room" fm a fd)(b_enumerate:mg "enumerate" = none)(b_max:mg "max" = none)(b_sum:mg "sum" = none)(d_shows_of:Def P w K mg base "shows_of" 2 ["sold","came","of"] ji true):FnOk P w K mg base CX0 3 a fd ["sold","rule"] (spF K t3 false):=by
  refine bt (np:=2) (n:=4) (body:=nE) [] [] rfl rfl rfl Fn ud (fun cdv A outer s H E F hn hr=>?_)
  have sc:=ud
  exact (bF (du 2 sc.nd (aR (aF 1) ah (fun _ _=>rfl))) (bF (eM 3 sc.nd (eN d_shows_of hr (aj (ab 0) (aj (aR (aF 1) ah (fun _ _=>rfl)) (aj (aR (aF 1) ah (fun _ _=>rfl)) au)))) (by rw[hn];decide)) (ba (bA (O':=[]) (mD rfl b_sum (aj (bi (cF (own:=["many","weight"]) (caps:=[2]) (cn:=["room"]) ⟨rfl,by decide +kernel,by decide +kernel,bV (ai fm) rfl (by decide +kernel),by first | rfl | decide +kernel,by decide +kernel,by decide +kernel⟩ rfl (AC b_enumerate (aF 3)) (fun _ _ _ _=>ij rfl (Tgs.ok (is:=[0,1]) (show (["many","weight","room"]:List Str).Nodup from by decide +kernel) (.cons (i:=0) rfl (Or.inl rfl) (.inr rfl) (.cons (i:=1) rfl (Or.inl rfl) (.inr rfl) Tgs.nil rfl) rfl))) (ma [0,1]) (by decide) (fun _ _ _ _=>cP) (fun _ _ _ _=>(dg (ab 1) (qS rfl b_max (aj (eK (ab 0) (ab 2)) (aj ah au))))))) au))))))
theorem GF{a:Addr}{fd:FuncData}(Fn:Fun K "beyond_room" "beyond_room" fm a fd)(m:mg "beyond_room" = some (.ref a))(b_enumerate:mg "enumerate" = none)(b_max:mg "max" = none)(b_sum:mg "sum" = none)(d_shows_of:Def P w K mg base "shows_of" 2 ["sold","came","of"] ji true):Def P w K mg base "beyond_room" 3 ["sold","rule"] jj false :=
  Def.sc ⟨a,fd,GE Fn b_enumerate b_max b_sum d_shows_of,m,Fn.kp,Fn.binds fun _ _ _ _ _ _ us hl=>match us,hl with | [_,_],_=>rfl⟩
abbrev gg:Stmt:=top 42
theorem ue:FnScope ["sold","left","rule","due"] ["sold","left","rule"] (ai gg):=⟨rfl,rfl,rfl,by decide +kernel,rfl,by decide +kernel,by decide +kernel⟩
theorem GG{a:Addr}{fd:FuncData}(Fn:Fun K "end_of" "end_of" gg a fd)(d_power:Def P w K mg base "power" 3 ["base","times"] eR false)(d_beyond_room:Def P w K mg base "beyond_room" 3 ["sold","rule"] jj false):FnOk P w K mg base CX0 4 a fd ["sold","left","rule"] (spF K t4 false):=by
  refine bt (np:=3) (n:=4) (body:=nF) [] [] rfl rfl rfl Fn ue (fun cdv A outer s H E F hn hr=>?_)
  have sc:=ue
  exact (bF (du 3 sc.nd (aR (aF 2) ah (fun _ _=>rfl))) (ba (bA (O':=[]) (dg (dg (gY (ab 3)) (bo d_beyond_room hr (aj (ab 0) (aj (ab 2) au)))) (bo d_power hr (aj (aR (aF 2) ah (fun _ _=>rfl)) (aj (ab 1) au)))))))
theorem GH{a:Addr}{fd:FuncData}(Fn:Fun K "end_of" "end_of" gg a fd)(m:mg "end_of" = some (.ref a))(d_power:Def P w K mg base "power" 3 ["base","times"] eR false)(d_beyond_room:Def P w K mg base "beyond_room" 3 ["sold","rule"] jj false):Def P w K mg base "end_of" 4 ["sold","left","rule"] jk false :=
  Def.sc ⟨a,fd,GG Fn d_power d_beyond_room,m,Fn.kp,Fn.binds fun _ _ _ _ _ _ us hl=>match us,hl with | [_,_,_],_=>rfl⟩
abbrev ft:Stmt:=top 41
theorem uf:FnScope ["seats","rule"] ["seats","rule"] (ai ft):=⟨rfl,rfl,rfl,by decide +kernel,rfl,by decide +kernel,by decide +kernel⟩
theorem GI{a:Addr}{fd:FuncData}(Fn:Fun K "ends_of" "ends_of" ft a fd)(b_range:mg "range" = none)(d_end_of:Def P w K mg base "end_of" 4 ["sold","left","rule"] jk false):FnOk P w K mg base CX0 5 a fd ["seats","rule"] (spF K t5 true):=by
  refine bt (np:=2) (n:=2) (body:=nG) [] [] rfl rfl rfl Fn uf (fun cdv A outer s H E F hn hr=>?_)
  have sc:=uf
  exact (ba (km (O':=[]) (cF (own:=["left"]) (caps:=[0,1]) (cn:=["seats","rule"]) ⟨rfl,by decide +kernel,by decide +kernel,bV (ai ft) rfl (by decide +kernel),by first | rfl | decide +kernel,by decide +kernel,by decide +kernel⟩ rfl (qX b_range (aj (cD (ab 0) ah) au)) (fun _ _ _ _=>bu (i:=0) (show (["left","seats","rule"]:List Str).Nodup from by decide +kernel) rfl (Or.inl rfl) (.inr rfl)) (df 0) (by decide) (fun _ _ _ _=>cP) (fun _ _ _ _=>(bo d_end_of hr (aj (eK (ab 1) (ab 0)) (aj (ab 0) (aj (ab 2) au))))))))
theorem GJ{a:Addr}{fd:FuncData}(Fn:Fun K "ends_of" "ends_of" ft a fd)(m:mg "ends_of" = some (.ref a))(b_range:mg "range" = none)(d_end_of:Def P w K mg base "end_of" 4 ["sold","left","rule"] jk false):Def P w K mg base "ends_of" 5 ["seats","rule"] fX true :=
  ⟨a,fd,GI Fn b_range d_end_of,m,Fn.kp,Fn.binds fun _ _ _ _ _ _ us hl=>match us,hl with | [_,_],_=>rfl⟩
abbrev gh:Stmt:=top 44
theorem ug:FnScope ["seats","rule"] ["seats","rule"] (ai gh):=⟨rfl,rfl,rfl,by decide +kernel,rfl,by decide +kernel,by decide +kernel⟩
theorem GK{a:Addr}{fd:FuncData}(Fn:Fun K "last_scale" "last_scale" gh a fd)(d_power:Def P w K mg base "power" 1 ["base","times"] eR false):FnOk P w K mg base CX0 2 a fd ["seats","rule"] (spF K t6 false):=by
  refine bt (np:=2) (n:=2) (body:=nH) [] [] rfl rfl rfl Fn ug (fun cdv A outer s H E F hn hr=>?_)
  have sc:=ug
  exact (ba (bA (O':=[]) (bo d_power hr (aj (aR (aF 1) ah (fun _ _=>rfl)) (aj (ab 0) au)))))
theorem GL{a:Addr}{fd:FuncData}(Fn:Fun K "last_scale" "last_scale" gh a fd)(m:mg "last_scale" = some (.ref a))(d_power:Def P w K mg base "power" 1 ["base","times"] eR false):Def P w K mg base "last_scale" 2 ["seats","rule"] fY false :=
  Def.sc ⟨a,fd,GK Fn d_power,m,Fn.kp,Fn.binds fun _ _ _ _ _ _ us hl=>match us,hl with | [_,_],_=>rfl⟩
abbrev gi:Stmt:=top 48
theorem uh:FnScope ["script","k","cell"] ["script","k"] (ai gi):=⟨rfl,rfl,rfl,by decide +kernel,rfl,by decide +kernel,by decide +kernel⟩
theorem GM{a:Addr}{fd:FuncData}(Fn:Fun K "_law_nth" "_law_nth" gi a fd):FnOk P w K mg base CX0 1 a fd ["script","k"] (spF K t7 false):=by
  refine bt (np:=2) (n:=3) (body:=nI) [] [] rfl rfl rfl Fn uh (fun cdv A outer s H E F hn hr=>?_)
  have sc:=uh
  exact (bF (Aw 2 [] sc.nd rfl (bi (Aq (aF 0) (qR (ab 1)) (qR (cD (ab 1) ah)))) (ba (bA (O':=[]) (ab 2)))) (ba (bA (O':=[]) ah)))
theorem GN{a:Addr}{fd:FuncData}(Fn:Fun K "_law_nth" "_law_nth" gi a fd)(m:mg "_law_nth" = some (.ref a)):Def P w K mg base "_law_nth" 1 ["script","k"] jl false :=
  Def.sc ⟨a,fd,GM Fn , m,Fn.kp,Fn.binds fun _ _ _ _ _ _ us hl=>match us,hl with | [_,_],_=>rfl⟩
abbrev gj:Stmt:=top 55
theorem ui:FnScope ["found"] ["found"] (ai gj):=⟨rfl,rfl,rfl,by decide +kernel,rfl,by decide +kernel,by decide +kernel⟩
theorem GO{a:Addr}{fd:FuncData}(Fn:Fun K "_law_whole" "_law_whole" gj a fd)(b_bool:mg "bool" = none)(b_int:mg "int" = none)(b_isinstance:mg "isinstance" = none):FnOk P w K mg base CX0 1 a fd ["found"] (spF K t8 false):=by
  refine bt (np:=1) (n:=1) (body:=nJ) [] [] rfl rfl rfl Fn ui (fun cdv A outer s H E F hn hr=>?_)
  have sc:=ui
  exact (ba (bA (O':=[]) (da (iV qD (by decide +kernel) b_isinstance b_int (ab 0)) (dU (qQ (iV mj (by decide +kernel) b_isinstance b_bool (ab 0)))))))
theorem GP{a:Addr}{fd:FuncData}(Fn:Fun K "_law_whole" "_law_whole" gj a fd)(m:mg "_law_whole" = some (.ref a))(b_bool:mg "bool" = none)(b_int:mg "int" = none)(b_isinstance:mg "isinstance" = none):Def P w K mg base "_law_whole" 1 ["found"] la false :=
  Def.sc ⟨a,fd,GO Fn b_bool b_int b_isinstance,m,Fn.kp,Fn.binds fun _ _ _ _ _ _ us hl=>match us,hl with | [_],_=>rfl⟩
abbrev eg:Stmt:=top 57
theorem uj:FnScope ["sale","seats","fares","turns","rule","last","table"] ["sale"] (ai eg):=⟨rfl,rfl,rfl,by decide +kernel,rfl,by decide +kernel,by decide +kernel⟩
theorem GQ{a:Addr}{fd:FuncData}(Fn:Fun K "_law_tables" "_law_tables" eg a fd)(b_list:mg "list" = none)(d_scales_of:Def P w K mg base "scales_of" 5 ["turns","last"] dE true)(d_worths_of:DefX P w K mg base "worths_of" 5 ["fares","turns","last","ends"] fW)(d_ends_of:Def P w K mg base "ends_of" 5 ["seats","rule"] fX true)(d_last_scale:Def P w K mg base "last_scale" 5 ["seats","rule"] fY false):FnOk P w K mg base CX0 6 a fd ["sale"] (spF K t9 false):=by
  refine bt (np:=1) (n:=7) (body:=nK) [] [] rfl rfl rfl Fn uj (fun cdv A outer s H E F hn hr=>?_)
  have sc:=uj
  exact (bF (Au (O':=[]) [1,2,3,4] rfl sc.nd (ab 0) (.cons (i:=1) rfl (by first | exact Or.inl rfl | exact Or.inr rfl) (.inl rfl) (.cons (i:=2) rfl (by first | exact Or.inl rfl | exact Or.inr rfl) (.inl rfl) (.cons (i:=3) rfl (by first | exact Or.inl rfl | exact Or.inr rfl) (.inl rfl) (.cons (i:=4) rfl (by first | exact Or.inl rfl | exact Or.inr rfl) (.inl rfl) Tgs.nil rfl) rfl) rfl) rfl) (by decide) (by decide)) (bF (du 5 sc.nd (bo d_last_scale hr (aj (ab 1) (aj (ab 4) au)))) (bF (eM 6 sc.nd (eN (DefX.d d_worths_of) hr (aj (bi (gZ b_list (aF 2))) (aj (bi (cF (own:=["row"]) (caps:=[]) (cn:=[]) ⟨rfl,by decide +kernel,by decide +kernel,bV (ai eg) rfl (by decide +kernel),by first | rfl | decide +kernel,by decide +kernel,by decide +kernel⟩ rfl (dW (aF 3)) (fun _ _ _ _=>bu (i:=0) (show (["row"]:List Str).Nodup from by decide +kernel) rfl (Or.inl rfl) (.inr rfl)) (df 0) (by decide) (fun _ _ _ _=>cP) (fun _ _ _ _=>(bi (gZ b_list (aF 0)))))) (aj (ab 5) (aj (bi (eN d_ends_of hr (aj (ab 1) (aj (ab 4) au)))) au))))) (by rw[hn];decide)) (ba (bA (O':=[]) (Ap (aj (bi (eN d_scales_of hr (aj (bi (cF (own:=["row"]) (caps:=[]) (cn:=[]) ⟨rfl,by decide +kernel,by decide +kernel,bV (ai eg) rfl (by decide +kernel),by first | rfl | decide +kernel,by decide +kernel,by decide +kernel⟩ rfl (dW (aF 3)) (fun _ _ _ _=>bu (i:=0) (show (["row"]:List Str).Nodup from by decide +kernel) rfl (Or.inl rfl) (.inr rfl)) (df 0) (by decide) (fun _ _ _ _=>cP) (fun _ _ _ _=>(bi (gZ b_list (aF 0)))))) (aj (ab 5) au)))) (aj (ab 6) au))))))))
theorem GR{a:Addr}{fd:FuncData}(Fn:Fun K "_law_tables" "_law_tables" eg a fd)(m:mg "_law_tables" = some (.ref a))(b_list:mg "list" = none)(d_scales_of:Def P w K mg base "scales_of" 5 ["turns","last"] dE true)(d_worths_of:DefX P w K mg base "worths_of" 5 ["fares","turns","last","ends"] fW)(d_ends_of:Def P w K mg base "ends_of" 5 ["seats","rule"] fX true)(d_last_scale:Def P w K mg base "last_scale" 5 ["seats","rule"] fY false):Def P w K mg base "_law_tables" 6 ["sale"] lc false :=
  ⟨a,fd,GQ Fn b_list d_scales_of d_worths_of d_ends_of d_last_scale,m,Fn.kp,Fn.binds fun _ _ _ _ _ _ us hl=>match us,hl with | [_],_=>rfl⟩
abbrev gk:Stmt:=dJ (top 46) 0
theorem uk:FnScope ["self","seats","fares","turns","rule","last"] ["self","seats","fares","turns","rule"] (ai gk):=⟨rfl,rfl,rfl,by decide +kernel,rfl,by decide +kernel,by decide +kernel⟩
theorem GS{C_Office:Addr}{a:Addr}{fd:FuncData}(Fn:Fun K "__init__" "Office.__init__" gk a fd)(b_list:mg "list" = none)(cl_Office:Cls K C_Office)(na_Office_dues:NoAttr K C_Office "dues")(na_Office_fares:NoAttr K C_Office "fares")(na_Office_latest:NoAttr K C_Office "latest")(na_Office_paid:NoAttr K C_Office "paid")(na_Office_rule:NoAttr K C_Office "rule")(na_Office_scales:NoAttr K C_Office "scales")(na_Office_seats:NoAttr K C_Office "seats")(na_Office_sold:NoAttr K C_Office "sold")(na_Office_table:NoAttr K C_Office "table")(na_Office_told:NoAttr K C_Office "told")(d_is_sale:Def P w K mg base "is_sale" 5 ["seats","fares","turns"] kY false)(d_scales_of:Def P w K mg base "scales_of" 5 ["turns","last"] dE true)(d_worths_of:DefX P w K mg base "worths_of" 5 ["fares","turns","last","ends"] fW)(d_is_rule:Def P w K mg base "is_rule" 5 ["rule"] l0 false)(d_ends_of:Def P w K mg base "ends_of" 5 ["seats","rule"] fX true)(d_last_scale:Def P w K mg base "last_scale" 5 ["seats","rule"] fY false):FnOk P w K mg base CX0 6 a fd ["self","seats","fares","turns","rule"] (spN K (jm C_Office)):=by
  refine bX (np:=5) (n:=6) (body:=nL C_Office) rfl rfl rfl Fn uk (fun cdv A outer s H E hr=>?_)
  have sc:=uk
  exact (az (bS (j6 (fR (DU d_is_sale hr (am (ad (ab 1)) (am (ad (ab 2)) (am (ad (ab 3)) aE)))))) kW bR) (az (bS (e7 (mC (iU (bo d_is_rule hr (aj (ab 4) au))))) kW bR) (az (bm 5 sc.nd (ad (bo d_last_scale hr (aj (ab 1) (aj (ab 4) au))))) (az (dD (ns:=NS_Office.take 0) cl_Office na_Office_seats (ad (ab 0)) (ad (ab 1))) (az (dD (ns:=NS_Office.take 1) cl_Office na_Office_fares (ad (ab 0)) (sy b_list (ad (ab 2)))) (az (dD (ns:=NS_Office.take 2) cl_Office na_Office_rule (ad (ab 0)) (ad (ab 4))) (az (dD (ns:=NS_Office.take 3) cl_Office na_Office_scales (ad (ab 0)) (DV d_scales_of hr (am (ad (ab 3)) (am (ad (ab 5)) aE)))) (az (dD (ns:=NS_Office.take 4) cl_Office na_Office_table (ad (ab 0)) (DW d_worths_of hr (am (ad (ab 2)) (am (ad (ab 3)) (am (ad (ab 5)) (am (ad (bi (eN d_ends_of hr (aj (ab 1) (aj (ab 4) au))))) aE)))))) (az (dD (ns:=NS_Office.take 5) cl_Office na_Office_told (ad (ab 0)) (ad ah)) (az (dD (ns:=NS_Office.take 6) cl_Office na_Office_sold (ad (ab 0)) (ad ah)) (az (dD (ns:=NS_Office.take 7) cl_Office na_Office_paid (ad (ab 0)) (ad ah)) (az (dD (ns:=NS_Office.take 8) cl_Office na_Office_dues (ad (ab 0)) (ad gW)) (aT (dD (ns:=NS_Office.take 9) cl_Office na_Office_latest (ad (ab 0)) (ad gW)))))))))))))))
abbrev fu:Stmt:=top 56
theorem ul:FnScope ["sale","seats","fares","turns","rule","handed","office","row"] ["sale"] (ai fu):=⟨rfl,rfl,rfl,by decide +kernel,rfl,by decide +kernel,by decide +kernel⟩
theorem GT{C_Office:Addr}{a:Addr}{fd:FuncData}(Fn:Fun K "_law_opened" "_law_opened" fu a fd)(b_len:mg "len" = none)(b_list:mg "list" = none)(mk_Office:MakN P w K mg base "Office" C_Office 6 ["self","seats","fares","turns","rule"] (jm C_Office)):FnOk P w K mg base CX0 8 a fd ["sale"] (spN K (i5 C_Office)):=by
  refine bX (np:=1) (n:=8) (body:=nM C_Office) rfl rfl rfl Fn ul (fun cdv A outer s H E hr=>?_)
  have sc:=ul
  exact (az (DO [1,2,3,4] rfl sc.nd (ad (ab 0)) (.cons (i:=1) rfl (by first | exact Or.inl rfl | exact Or.inr rfl) (.inl rfl) (.cons (i:=2) rfl (by first | exact Or.inl rfl | exact Or.inr rfl) (.inl rfl) (.cons (i:=3) rfl (by first | exact Or.inl rfl | exact Or.inr rfl) (.inl rfl) (.cons (i:=4) rfl (by first | exact Or.inl rfl | exact Or.inr rfl) (.inl rfl) Tgs.nil rfl) rfl) rfl) rfl)) (az (bm 5 sc.nd (kR (am (n5 (gZ b_list (aF 2))) (am (DX (y:="row") (caps:=[]) (cn:=[]) ⟨rfl,by decide +kernel,by decide +kernel,bV (ai fu) rfl (by decide +kernel),by first | rfl | decide +kernel,by decide +kernel,by decide +kernel⟩ rfl (ad (ab 3)) (fun _ _ _ _=>bu (i:=0) (show (["row"]:List Str).Nodup from by decide +kernel) rfl (Or.inl rfl) (.inr rfl)) (fun _ _ _ _=>(n5 (gZ b_list (aF 0))))) aE)))) (az (bm 6 sc.nd (DM mk_Office (hr.mono (by decide)) (am (ad (ab 1)) (am (cz (ad (ab 5)) (ad ah) (fun _ _=>rfl)) (am (cz (ad (ab 5)) (ad ah) (fun _ _=>rfl)) (am (ad (ab 4)) aE)))))) (az (bS (DZ hr (ad (ab 5)) (ad (bi (dt (aj (ab 2) (aj (ab 3) au)))))) (aT (bj (ad gW))) bR) (az (sA (cz (ad (ab 5)) (ad ah) (fun _ _=>rfl))) (az (fU (cz (ad (ab 5)) (ad ah) (fun _ _=>rfl)) (ad ah) (ad (mB ah ah))) (az (DY 7 sc.nd rfl (cz (ad (ab 5)) (ad ah) (fun _ _=>rfl)) (az (sA (ad (ab 7))) (aT (fU (ad (ab 7)) (ad ah) (ad ah))))) (az (sv (cz (ad (ab 5)) (ad ah) (fun _ _=>rfl)) (ad (bi (Ar (dt (aj ah au)) (cD (cR b_len (aj (ab 2) au)) ah))))) (aT (bj (DL (am (ad (ab 6)) (am (ad ah) (am (ad (ab 1)) (am (ad ah) aE)))))))))))))))
abbrev gm:Stmt:=top 49
theorem um:FnScope ["script","k"] ["script","k"] (ai gm):=⟨rfl,rfl,rfl,by decide +kernel,rfl,by decide +kernel,by decide +kernel⟩
theorem GU{C_Office:Addr}{a:Addr}{fd:FuncData}(Fn:Fun K "_law_pool" "_law_pool" gm a fd)(d_law_nth:Def P w K mg base "_law_nth" 1 ["script","k"] jl false):FnOk P w K mg base CX0 2 a fd ["script","k"] (spN K (eV C_Office)):=by
  refine bX (np:=2) (n:=2) (body:=nN C_Office) rfl rfl rfl Fn um (fun cdv A outer s H E hr=>?_)
  have sc:=um
  exact (aT (bj (DS (ns:=["rest","mixed","count"]) (n9 (bo d_law_nth hr (aj (ab 0) (aj (ab 1) au))) (n9 (qY hr (gX (bo d_law_nth hr (aj (ab 0) (aj ah au))) ah) ah) (n9 (cD ah (ab 1)) DR))))))
abbrev gn:Stmt:=dJ (top 46) 1
theorem uo:FnScope ["self"] ["self"] (ai gn):=⟨rfl,rfl,rfl,by decide +kernel,rfl,by decide +kernel,by decide +kernel⟩
theorem GV{C_Office:Addr}{a:Addr}{fd:FuncData}(Fn:Fun K "turn" "Office.turn" gn a fd)(cl_Office:Cls K C_Office)(na_Office_told:NoAttr K C_Office "told"):FnOk P w K mg base CX0 1 a fd ["self"] (spN K (jn C_Office)):=by
  refine bX (np:=1) (n:=1) (body:=nO C_Office) rfl rfl rfl Fn uo (fun cdv A outer s H E hr=>?_)
  have sc:=uo
  exact (aT (bj (bP (i:=5) (ns:=NS_Office) cl_Office na_Office_told (ad (ab 0)))))
abbrev gp:Stmt:=dJ (top 46) 2
theorem uq:FnScope ["self"] ["self"] (ai gp):=⟨rfl,rfl,rfl,by decide +kernel,rfl,by decide +kernel,by decide +kernel⟩
theorem GW{C_Office:Addr}{a:Addr}{fd:FuncData}(Fn:Fun K "left" "Office.left" gp a fd)(cl_Office:Cls K C_Office)(na_Office_seats:NoAttr K C_Office "seats")(na_Office_sold:NoAttr K C_Office "sold"):FnOk P w K mg base CX0 1 a fd ["self"] (spN K (de C_Office)):=by
  refine bX (np:=1) (n:=1) (body:=nQ C_Office) rfl rfl rfl Fn uq (fun cdv A outer s H E hr=>?_)
  have sc:=uq
  exact (aT (bj (j5 (bP (i:=0) (ns:=NS_Office) cl_Office na_Office_seats (ad (ab 0))) (bP (i:=6) (ns:=NS_Office) cl_Office na_Office_sold (ad (ab 0))))))
abbrev gq:Stmt:=dJ (top 46) 3
theorem ur:FnScope ["self"] ["self"] (ai gq):=⟨rfl,rfl,rfl,by decide +kernel,rfl,by decide +kernel,by decide +kernel⟩
theorem GX{C_Office:Addr}{a:Addr}{fd:FuncData}(Fn:Fun K "coins" "Office.coins" gq a fd)(cl_Office:Cls K C_Office)(na_Office_dues:NoAttr K C_Office "dues")(na_Office_paid:NoAttr K C_Office "paid"):FnOk P w K mg base CX0 1 a fd ["self"] (spN K (jo C_Office)):=by
  refine bX (np:=1) (n:=1) (body:=nR C_Office) rfl rfl rfl Fn ur (fun cdv A outer s H E hr=>?_)
  have sc:=ur
  exact (aT (bj (DK (su (bP (i:=8) (ns:=NS_Office) cl_Office na_Office_dues (ad (ab 0)))) (bP (i:=7) (ns:=NS_Office) cl_Office na_Office_paid (ad (ab 0))) (j5 (bP (i:=7) (ns:=NS_Office) cl_Office na_Office_paid (ad (ab 0))) (bP (i:=8) (ns:=NS_Office) cl_Office na_Office_dues (ad (ab 0)))))))
abbrev fv:Stmt:=top 59
theorem ut:FnScope ["state","told"] ["state"] (ai fv):=⟨rfl,rfl,rfl,by decide +kernel,rfl,by decide +kernel,by decide +kernel⟩
theorem GY{C_Office:Addr}{a:Addr}{fd:FuncData}(Fn:Fun K "_law_right" "_law_right" fv a fd)(cl_Office:Cls K C_Office)(d_law_whole:Def P w K mg base "_law_whole" 1 ["found"] la false)(m_Office_turn:MetN P w K mg base C_Office "turn" 1 ["self"] (jn C_Office))(m_Office_left:MetN P w K mg base C_Office "left" 1 ["self"] (de C_Office))(m_Office_coins:MetN P w K mg base C_Office "coins" 1 ["self"] (jo C_Office)):FnOk P w K mg base CX0 2 a fd ["state"] (spN K (eW C_Office)):=by
  refine bX (np:=1) (n:=2) (body:=nS C_Office) rfl rfl rfl Fn ut (fun cdv A outer s H E hr=>?_)
  have sc:=ut
  exact (az (bm 1 sc.nd (kR (am (e8 (ns:=NS_Office) cl_Office m_Office_turn hr (cc (ad (ab 0)) (ad ah) (fun _ _=>rfl))) (am (e8 (ns:=NS_Office) cl_Office m_Office_left hr (cc (ad (ab 0)) (ad ah) (fun _ _=>rfl))) (am (e8 (ns:=NS_Office) cl_Office m_Office_coins hr (cc (ad (ab 0)) (ad ah) (fun _ _=>rfl))) aE))))) (aT (bj (n3 (ss hr (ad (ab 1)) (E1 (k:=1) (ad (ab 0)))) (n0 (ad (qY hr (bi (cF (own:=["number"]) (caps:=[]) (cn:=[]) ⟨rfl,by decide +kernel,by decide +kernel,bV (ai fv) rfl (by decide +kernel),by first | rfl | decide +kernel,by decide +kernel,by decide +kernel⟩ rfl (dW (aF 1)) (fun _ _ _ _=>bu (i:=0) (show (["number"]:List Str).Nodup from by decide +kernel) rfl (Or.inl rfl) (.inr rfl)) (df 0) (by decide) (fun _ _ _ _=>AM (mC (iU (bo d_law_whole hr (aj (ab 0) au))))) (fun _ _ _ _=>(ab 0)))) (bi (dt au)))))))))
abbrev gr:Stmt:=top 50
theorem uv:FnScope ["pool","many","rest"] ["pool","many"] (ai gr):=⟨rfl,rfl,rfl,by decide +kernel,rfl,by decide +kernel,by decide +kernel⟩
theorem GZ{C_Office:Addr}{a:Addr}{fd:FuncData}(Fn:Fun K "_law_take" "_law_take" gr a fd):FnOk P w K mg base CX0 1 a fd ["pool","many"] (spN K (bG C_Office)):=by
  refine bX (np:=2) (n:=3) (body:=nT C_Office) rfl rfl rfl Fn uv (fun cdv A outer s H E hr=>?_)
  have sc:=uv
  exact (az (bm 2 sc.nd (kS (ns:=["rest","mixed","count"]) (i:=0) hr (ad (ab 0)) (fun _ _=>rfl))) (az (bS (j6 (fR (kS (ns:=["rest","mixed","count"]) (i:=1) hr (ad (ab 0)) (fun _ _=>rfl)))) (az (n8 (ns:=["rest","mixed","count"]) (i:=0) hr (ad (ab 0)) (ad (mz (ab 2) (ab 1)))) (aT (bj (ad (gX (ab 2) (ab 1)))))) bR) (az (n8 (ns:=["rest","mixed","count"]) (i:=2) hr (ad (ab 0)) (cH (kS (ns:=["rest","mixed","count"]) (i:=2) hr (ad (ab 0)) (fun _ _=>rfl)) (ad ah))) (az (bm 2 sc.nd (cH (ad (gX (ab 2) ah)) (DJ (ad ah) (kS (ns:=["rest","mixed","count"]) (i:=2) hr (ad (ab 0)) (fun _ _=>rfl))))) (az (bm 2 sc.nd (ad (gX (dg (ab 2) (cD (ab 2) ah)) ah))) (az (bm 2 sc.nd (ad (gX (dg (ab 2) (ab 2)) ah))) (az (n8 (ns:=["rest","mixed","count"]) (i:=0) hr (ad (ab 0)) (ad (ab 2))) (aT (bj (ad (gX (mz (ab 2) ah) (ab 1))))))))))))
abbrev gs:Stmt:=top 51
theorem uw:FnScope ["pool","most","kind"] ["pool","most"] (ai gs):=⟨rfl,rfl,rfl,by decide +kernel,rfl,by decide +kernel,by decide +kernel⟩
theorem Ha{C_Office:Addr}{a:Addr}{fd:FuncData}(Fn:Fun K "_law_size" "_law_size" gs a fd)(b_min:mg "min" = none)(d_law_take:DefN P w K mg base "_law_take" 1 ["pool","many"] (bG C_Office)):FnOk P w K mg base CX0 2 a fd ["pool","most"] (spN K (eX C_Office)):=by
  refine bX (np:=2) (n:=3) (body:=nU C_Office) rfl rfl rfl Fn uw (fun cdv A outer s H E hr=>?_)
  have sc:=uw
  exact (az (bm 2 sc.nd (bd d_law_take hr (am (ad (ab 0)) (am (ad ah) aE)))) (az (bS (e7 (mE hr (ab 2) ah)) (aT (bj (bd d_law_take hr (am (ad (ab 0)) (am (ad (qT rfl b_min (aj ah (aj (ab 1) au)))) aE))))) bR) (az (bS (e7 (mE hr (ab 2) ah)) (aT (bj (ad (eK (ab 1) ah)))) bR) (aT (bj (bd d_law_take hr (am (ad (ab 0)) (am (ad (ab 1)) aE))))))))
abbrev gt:Stmt:=top 53
theorem ux:FnScope ["pool","of"] ["pool"] (ai gt):=⟨rfl,rfl,rfl,by decide +kernel,rfl,by decide +kernel,by decide +kernel⟩
theorem Hb{C_Office:Addr}{a:Addr}{fd:FuncData}(Fn:Fun K "_law_rule" "_law_rule" gt a fd)(d_law_size:DefN P w K mg base "_law_size" 2 ["pool","most"] (eX C_Office))(d_law_take:DefN P w K mg base "_law_take" 2 ["pool","many"] (bG C_Office)):FnOk P w K mg base CX0 3 a fd ["pool"] (spN K (jp C_Office)):=by
  refine bX (np:=1) (n:=2) (body:=nV C_Office) rfl rfl rfl Fn ux (fun cdv A outer s H E hr=>?_)
  have sc:=ux
  exact (az (bm 1 sc.nd (cH (ad ah) (bd d_law_size hr (am (ad (ab 0)) (am (ad ah) aE))))) (aT (bj (n4 (am (bd d_law_take hr (am (ad (ab 0)) (am (ad ah) aE))) (am (bd d_law_take hr (am (ad (ab 0)) (am (ad (cD (ab 1) ah)) aE))) (am (ad (ab 1)) (am (bd d_law_size hr (am (ad (ab 0)) (am (ad (cD (mB ah ah) ah)) aE))) aE))))))))
abbrev gu:Stmt:=top 52
theorem uy:FnScope ["pool","many","row","k"] ["pool","many"] (ai gu):=⟨rfl,rfl,rfl,by decide +kernel,rfl,by decide +kernel,by decide +kernel⟩
theorem Hc{C_Office:Addr}{a:Addr}{fd:FuncData}(Fn:Fun K "_law_weights" "_law_weights" gu a fd)(b_range:mg "range" = none)(b_sum:mg "sum" = none)(d_law_take:DefN P w K mg base "_law_take" 1 ["pool","many"] (bG C_Office)):FnOk P w K mg base CX0 2 a fd ["pool","many"] (spN K (jq C_Office)):=by
  refine bX (np:=2) (n:=4) (body:=nW C_Office) rfl rfl rfl Fn uy (fun cdv A outer s H E hr=>?_)
  have sc:=uy
  exact (az (bm 2 sc.nd (n5 (dt au))) (az (DP 3 sc.nd rfl b_range (am (ad (cD (ab 1) ah)) aE) (aT (sv (ad (ab 2)) (cz (kR (am (ad ah) (am (bd d_law_take hr (am (ad (ab 0)) (am (ad ah) aE))) (am (bd d_law_take hr (am (ad (ab 0)) (am (ad ah) aE))) aE)))) (bd d_law_take hr (am (ad (ab 0)) (am (ad ah) aE))) (fun _ _=>rfl))))) (az (bS (kQ hr (DT rfl b_sum (am (ad (ab 2)) aE)) (ad ah)) (aT (fU (ad (ab 2)) (ad (ab 1)) (ad ah))) bR) (aT (DN 2)))))
abbrev eh:Stmt:=top 54
theorem uz:FnScope ["script","k","pool","seats","fares","rule","many"] ["script","k"] (ai eh):=⟨rfl,rfl,rfl,by decide +kernel,rfl,by decide +kernel,by decide +kernel⟩
theorem He{C_Office:Addr}{a:Addr}{fd:FuncData}(Fn:Fun K "_law_sale" "_law_sale" eh a fd)(b_len:mg "len" = none)(b_range:mg "range" = none)(d_law_pool:DefN P w K mg base "_law_pool" 3 ["script","k"] (eV C_Office))(d_law_take:DefN P w K mg base "_law_take" 3 ["pool","many"] (bG C_Office))(d_law_rule:DefN P w K mg base "_law_rule" 3 ["pool"] (jp C_Office))(d_law_size:DefN P w K mg base "_law_size" 3 ["pool","most"] (eX C_Office))(d_law_weights:DefN P w K mg base "_law_weights" 3 ["pool","many"] (jq C_Office)):FnOk P w K mg base CX0 4 a fd ["script","k"] (spN K (i6 C_Office)):=by
  refine bX (np:=2) (n:=7) (body:=nX C_Office) rfl rfl rfl Fn uz (fun cdv A outer s H E hr=>?_)
  have sc:=uz
  exact (az (bm 2 sc.nd (bd d_law_pool hr (am (ad (ab 0)) (am (ad (ab 1)) aE)))) (az (bm 3 sc.nd (bd d_law_take hr (am (ad (ab 2)) (am (ad ah) aE)))) (az (bm 4 sc.nd (sw (y:="j") (caps:=[2]) (cn:=["pool"]) ⟨rfl,by decide +kernel,by decide +kernel,bV (ai eh) rfl (by decide +kernel),by first | rfl | decide +kernel,by decide +kernel,by decide +kernel⟩ rfl b_range (am (cH (ad ah) (bd d_law_take hr (am (ad (ab 2)) (am (ad ah) aE)))) aE) (fun _ _ _ _=>bu (i:=0) (show (["j","pool"]:List Str).Nodup from by decide +kernel) rfl (Or.inl rfl) (.inr rfl)) (fun _ _ _ _=>(cH (ad ah) (bd d_law_size hr (am (ad (ab 1)) (am (ad (mB ah ah)) aE))))))) (az (bm 5 sc.nd (bd d_law_rule hr (am (ad (ab 2)) aE))) (az (bm 6 sc.nd (bd d_law_take hr (am (ad (ab 2)) (am (ad ah) aE)))) (az (bm 2 sc.nd (bd d_law_pool hr (am (ad (ab 0)) (am (ad (cD (ab 1) ah)) aE)))) (aT (bj (n4 (am (ad (ab 3)) (am (ad (ab 4)) (am (sw (y:="j") (caps:=[2,4]) (cn:=["pool","fares"]) ⟨rfl,by decide +kernel,by decide +kernel,bV (ai eh) rfl (by decide +kernel),by first | rfl | decide +kernel,by decide +kernel,by decide +kernel⟩ rfl b_range (am (ad (ab 6)) aE) (fun _ _ _ _=>bu (i:=0) (show (["j","pool","fares"]:List Str).Nodup from by decide +kernel) rfl (Or.inl rfl) (.inr rfl)) (fun _ _ _ _=>(bd d_law_weights hr (am (ad (ab 1)) (am (ad (cR b_len (aj (ab 2) au))) aE))))) (am (ad (ab 5)) aE)))))))))))))
abbrev gv:Stmt:=dJ (top 46) 6
theorem uA:FnScope ["self"] ["self"] (ai gv):=⟨rfl,rfl,rfl,by decide +kernel,rfl,by decide +kernel,by decide +kernel⟩
theorem Hf{C_Office:Addr}{a:Addr}{fd:FuncData}(Fn:Fun K "is_over" "Office.is_over" gv a fd)(b_len:mg "len" = none)(cl_Office:Cls K C_Office)(na_Office_scales:NoAttr K C_Office "scales")(na_Office_told:NoAttr K C_Office "told"):FnOk P w K mg base CX0 1 a fd ["self"] (spN K (jr C_Office)):=by
  refine bX (np:=1) (n:=1) (body:=nY C_Office) rfl rfl rfl Fn uA (fun cdv A outer s H E hr=>?_)
  have sc:=uA
  exact (aT (bj (ss hr (bP (i:=5) (ns:=NS_Office) cl_Office na_Office_told (ad (ab 0))) (j5 (sx b_len (am (bP (i:=3) (ns:=NS_Office) cl_Office na_Office_scales (ad (ab 0))) aE)) (ad ah)))))
abbrev gw:Stmt:=dJ (top 46) 7
theorem uB:FnScope ["self","asker"] ["self","asker"] (ai gw):=⟨rfl,rfl,rfl,by decide +kernel,rfl,by decide +kernel,by decide +kernel⟩
theorem Hg{C_Office:Addr}{a:Addr}{fd:FuncData}(Fn:Fun K "fare_of" "Office.fare_of" gw a fd)(b_len:mg "len" = none)(cl_Office:Cls K C_Office)(na_Office_fares:NoAttr K C_Office "fares")(d_is_within:Def P w K mg base "is_within" 1 ["number","least","most"] bY false):FnOk P w K mg base CX0 2 a fd ["self","asker"] (spN K (i7 C_Office)):=by
  refine bX (np:=2) (n:=2) (body:=ld C_Office) rfl rfl rfl Fn uB (fun cdv A outer s H E hr=>?_)
  have sc:=uB
  exact (az (bS (e7 (Ay (ab 1))) (aT (bj (ad gW))) bR) (az (bS (j6 (fR (kU d_is_within hr (am (ad (ab 1)) (am (ad ah) (am (j5 (sx b_len (am (bP (i:=1) (ns:=NS_Office) cl_Office na_Office_fares (ad (ab 0))) aE)) (ad ah)) aE)))))) kW bR) (aT (bj (cz (bP (i:=1) (ns:=NS_Office) cl_Office na_Office_fares (ad (ab 0))) (ad (ab 1)) (fun _ _=>rfl))))))
abbrev gx:Stmt:=dJ (top 46) 8
theorem uC:FnScope ["self","fare","behind"] ["self","fare"] (ai gx):=⟨rfl,rfl,rfl,by decide +kernel,rfl,by decide +kernel,by decide +kernel⟩
theorem Hh{C_Office:Addr}{a:Addr}{fd:FuncData}(Fn:Fun K "takes" "Office.takes" gx a fd)(cl_Office:Cls K C_Office)(na_Office_scales:NoAttr K C_Office "scales")(na_Office_table:NoAttr K C_Office "table")(na_Office_told:NoAttr K C_Office "told")(d_is_taken:Def P w K mg base "is_taken" 2 ["fare","scale","behind","s"] i4 false)(m_Office_left:MetN P w K mg base C_Office "left" 2 ["self"] (de C_Office)):FnOk P w K mg base CX0 3 a fd ["self","fare"] (spN K (i8 C_Office)):=by
  refine bX (np:=2) (n:=3) (body:=lf C_Office) rfl rfl rfl Fn uC (fun cdv A outer s H E hr=>?_)
  have sc:=uC
  exact (az (bm 2 sc.nd (cH (bP (i:=5) (ns:=NS_Office) cl_Office na_Office_told (ad (ab 0))) (ad ah))) (aT (bj (n3 (ad (Az (ab 1))) (n0 (kU d_is_taken hr (am (ad (ab 1)) (am (cz (bP (i:=3) (ns:=NS_Office) cl_Office na_Office_scales (ad (ab 0))) (ad (ab 2)) (fun _ _=>rfl)) (am (cz (bP (i:=4) (ns:=NS_Office) cl_Office na_Office_table (ad (ab 0))) (ad (ab 2)) (fun _ _=>rfl)) (am (e8 (ns:=NS_Office) cl_Office m_Office_left hr (ad (ab 0))) aE))))))))))
abbrev gy:Stmt:=dJ (top 46) 9
theorem uD:FnScope ["self","behind"] ["self"] (ai gy):=⟨rfl,rfl,rfl,by decide +kernel,rfl,by decide +kernel,by decide +kernel⟩
theorem Hi{C_Office:Addr}{a:Addr}{fd:FuncData}(Fn:Fun K "least" "Office.least" gy a fd)(cl_Office:Cls K C_Office)(na_Office_scales:NoAttr K C_Office "scales")(na_Office_table:NoAttr K C_Office "table")(na_Office_told:NoAttr K C_Office "told")(d_least_fare:Def P w K mg base "least_fare" 1 ["scale","behind","s"] kZ false)(m_Office_left:MetN P w K mg base C_Office "left" 1 ["self"] (de C_Office)):FnOk P w K mg base CX0 2 a fd ["self"] (spN K (js C_Office)):=by
  refine bX (np:=1) (n:=2) (body:=nZ C_Office) rfl rfl rfl Fn uD (fun cdv A outer s H E hr=>?_)
  have sc:=uD
  exact (az (bS (kQ hr (e8 (ns:=NS_Office) cl_Office m_Office_left hr (ad (ab 0))) (ad ah)) (aT (bj (ad gW))) bR) (az (bm 1 sc.nd (cH (bP (i:=5) (ns:=NS_Office) cl_Office na_Office_told (ad (ab 0))) (ad ah))) (aT (bj (kU d_least_fare hr (am (cz (bP (i:=3) (ns:=NS_Office) cl_Office na_Office_scales (ad (ab 0))) (ad (ab 1)) (fun _ _=>rfl)) (am (cz (bP (i:=4) (ns:=NS_Office) cl_Office na_Office_table (ad (ab 0))) (ad (ab 1)) (fun _ _=>rfl)) (am (e8 (ns:=NS_Office) cl_Office m_Office_left hr (ad (ab 0))) aE))))))))
abbrev gz:Stmt:=dJ (top 46) 5
theorem uE:FnScope ["self","asker","fare","taken"] ["self","asker"] (ai gz):=⟨rfl,rfl,rfl,by decide +kernel,rfl,by decide +kernel,by decide +kernel⟩
theorem Hj{C_Office:Addr}{a:Addr}{fd:FuncData}(Fn:Fun K "asked" "Office.asked" gz a fd)(cl_Office:Cls K C_Office)(na_Office_latest:NoAttr K C_Office "latest")(na_Office_paid:NoAttr K C_Office "paid")(na_Office_sold:NoAttr K C_Office "sold")(na_Office_told:NoAttr K C_Office "told")(m_Office_is_over:MetN P w K mg base C_Office "is_over" 3 ["self"] (jr C_Office))(m_Office_fare_of:MetN P w K mg base C_Office "fare_of" 3 ["self","asker"] (i7 C_Office))(m_Office_takes:MetN P w K mg base C_Office "takes" 3 ["self","fare"] (i8 C_Office))(m_Office_left:MetN P w K mg base C_Office "left" 3 ["self"] (de C_Office))(m_Office_least:MetN P w K mg base C_Office "least" 3 ["self"] (js C_Office)):FnOk P w K mg base CX0 4 a fd ["self","asker"] (spN K (i9 C_Office)):=by
  refine bX (np:=2) (n:=4) (body:=lg C_Office) rfl rfl rfl Fn uE (fun cdv A outer s H E hr=>?_)
  have sc:=uE
  exact (az (bS (fR (e8 (ns:=NS_Office) cl_Office m_Office_is_over hr (ad (ab 0)))) kW bR) (az (bm 2 sc.nd (n6 (ns:=NS_Office) cl_Office m_Office_fare_of hr (ad (ab 0)) (am (ad (ab 1)) aE))) (az (bm 3 sc.nd (n6 (ns:=NS_Office) cl_Office m_Office_takes hr (ad (ab 0)) (am (ad (ab 2)) aE))) (az (kX (i:=9) (ns:=NS_Office) cl_Office na_Office_latest (ad (ab 0)) (n4 (am (bP (i:=5) (ns:=NS_Office) cl_Office na_Office_told (ad (ab 0))) (am (e8 (ns:=NS_Office) cl_Office m_Office_left hr (ad (ab 0))) (am (e8 (ns:=NS_Office) cl_Office m_Office_least hr (ad (ab 0))) (am (ad (ab 2)) aE)))))) (az (kX (i:=5) (ns:=NS_Office) cl_Office na_Office_told (ad (ab 0)) (cH (bP (i:=5) (ns:=NS_Office) cl_Office na_Office_told (ad (ab 0))) (ad ah))) (az (bS (e7 (iU (ab 3))) (az (kX (i:=6) (ns:=NS_Office) cl_Office na_Office_sold (ad (ab 0)) (cH (bP (i:=6) (ns:=NS_Office) cl_Office na_Office_sold (ad (ab 0))) (ad ah))) (aT (kX (i:=7) (ns:=NS_Office) cl_Office na_Office_paid (ad (ab 0)) (cH (bP (i:=7) (ns:=NS_Office) cl_Office na_Office_paid (ad (ab 0))) (ad (ab 2)))))) bR) (aT (bj (ad (ab 3))))))))))
abbrev gA:Stmt:=top 58
theorem uF:FnScope ["sale","tables","state","asker","due","found"] ["sale","tables","state","asker"] (ai gA):=⟨rfl,rfl,rfl,by decide +kernel,rfl,by decide +kernel,by decide +kernel⟩
theorem Hk{C_Office:Addr}{a:Addr}{fd:FuncData}(Fn:Fun K "_law_told" "_law_told" gA a fd)(b_bool:mg "bool" = none)(b_isinstance:mg "isinstance" = none)(b_list:mg "list" = none)(cl_Office:Cls K C_Office)(d_is_taken:Def P w K mg base "is_taken" 4 ["fare","scale","behind","s"] i4 false)(m_Office_asked:MetN P w K mg base C_Office "asked" 4 ["self","asker"] (i9 C_Office)):FnOk P w K mg base CX0 5 a fd ["sale","tables","state","asker"] (spN K (ia C_Office)):=by
  refine bX (np:=4) (n:=6) (body:=lh C_Office) rfl rfl rfl Fn uF (fun cdv A outer s H E hr=>?_)
  have sc:=uF
  exact (az (bm 4 sc.nd (ad eI)) (az (bS (e7 (AB (ab 3))) (aT (bm 4 sc.nd (kU d_is_taken hr (am (ad (aR (cE (aR (aF 0) ah (fun _ _=>rfl))) (ab 3) (fun _ _=>rfl))) (am (cz (ad (aR (aF 1) ah (fun _ _=>rfl))) (cH (cc (ad (ab 2)) (ad ah) (fun _ _=>rfl)) (ad ah)) (fun _ _=>rfl)) (am (sy b_list (cz (ad (aR (aF 1) ah (fun _ _=>rfl))) (cH (cc (ad (ab 2)) (ad ah) (fun _ _=>rfl)) (ad ah)) (fun _ _=>rfl))) (am (cc (ad (ab 2)) (ad ah) (fun _ _=>rfl)) aE))))))) bR) (az (bm 5 sc.nd (n6 (ns:=NS_Office) cl_Office m_Office_asked hr (cc (ad (ab 2)) (ad ah) (fun _ _=>rfl)) (am (ad (ab 3)) aE))) (az (bS (e7 (Ao (An (mC (iU (iV mj (by decide +kernel) b_isinstance b_bool (ab 5)))) (Am (qZ hr (ab 5) (ab 4)))))) (aT (bj (ad eI))) bR) (az (fU (ad (ab 2)) (ad ah) (cH (cc (ad (ab 2)) (ad ah) (fun _ _=>rfl)) (ad ah))) (az (bS (e7 (iU (ab 4))) (az (fU (ad (ab 2)) (ad ah) (j5 (cc (ad (ab 2)) (ad ah) (fun _ _=>rfl)) (ad ah))) (aT (fU (ad (ab 2)) (ad ah) (cH (cc (ad (ab 2)) (ad ah) (fun _ _=>rfl)) (ad (aR (cE (aR (aF 0) ah (fun _ _=>rfl))) (ab 3) (fun _ _=>rfl))))))) bR) (aT (bj (ad eI)))))))))
abbrev dj:Stmt:=top 60
theorem uG:FnScope ["script","sales","tables","states","k","pool","at","asker"] ["script"] (ai dj):=⟨rfl,rfl,rfl,by decide +kernel,rfl,by decide +kernel,by decide +kernel⟩
theorem Hl{C_Office:Addr}{a:Addr}{fd:FuncData}(Fn:Fun K "law" "law" dj a fd)(b_len:mg "len" = none)(b_list:mg "list" = none)(b_min:mg "min" = none)(b_range:mg "range" = none)(d_law_tables:Def P w K mg base "_law_tables" 8 ["sale"] lc false)(d_law_sale:DefN P w K mg base "_law_sale" 8 ["script","k"] (i6 C_Office))(d_law_opened:DefN P w K mg base "_law_opened" 8 ["sale"] (i5 C_Office))(d_law_pool:DefN P w K mg base "_law_pool" 8 ["script","k"] (eV C_Office))(d_law_take:DefN P w K mg base "_law_take" 8 ["pool","many"] (bG C_Office))(d_law_right:DefN P w K mg base "_law_right" 8 ["state"] (eW C_Office))(d_law_told:DefN P w K mg base "_law_told" 8 ["sale","tables","state","asker"] (ia C_Office)):FnOk P w K mg base CX0 9 a fd ["script"] (spN K (o6 C_Office)):=by
  refine bX (np:=1) (n:=8) (body:=o3 C_Office) rfl rfl rfl Fn uG (fun cdv A outer s H E hr=>?_)
  have sc:=uG
  exact (az (bm 1 sc.nd (kR (am (bd d_law_sale hr (am (ad (ab 0)) (am (ad ah) aE))) (am (bd d_law_sale hr (am (ad (ab 0)) (am (ad ah) aE))) aE)))) (az (E3 2 sc.nd (y:="sale") (caps:=[]) (cn:=[]) ⟨rfl,by decide +kernel,by decide +kernel,bV (ai dj) rfl (by decide +kernel),by first | rfl | decide +kernel,by decide +kernel,by decide +kernel⟩ rfl (ad (ab 1)) (fun _ _ _ _=>bu (i:=0) (show (["sale"]:List Str).Nodup from by decide +kernel) rfl (Or.inl rfl) (.inr rfl)) (fun _ _ _ _=>(ad (Ax d_law_tables hr (aj (ab 0) au))))) (az (E4 3 sc.nd (y:="sale") (caps:=[]) (cn:=[]) ⟨rfl,by decide +kernel,by decide +kernel,bV (ai dj) rfl (by decide +kernel),by first | rfl | decide +kernel,by decide +kernel,by decide +kernel⟩ rfl (ad (ab 1)) (fun _ _ _ _=>bu (i:=0) (show (["sale"]:List Str).Nodup from by decide +kernel) rfl (Or.inl rfl) (.inr rfl)) (fun _ _ _ _=>(bd d_law_opened hr (am (ad (ab 0)) aE)))) (az (bS (E2 hr (ad (ab 3))) (aT (bj (ad eI))) bR) (az (DQ 4 sc.nd rfl b_range (am (ad ah) (am (ad (qT rfl b_min (aj ah (aj (cR b_len (aj (ab 0) au)) au)))) aE)) (az (bm 5 sc.nd (bd d_law_pool hr (am (ad (ab 0)) (am (ad (ab 4)) aE)))) (az (bm 6 sc.nd (bd d_law_take hr (am (ad (ab 5)) (am (ad ah) aE)))) (az (bm 7 sc.nd (cz (ad (bi (kl (cE (bi (AL b_list b_range (aj (cR b_len (aj (aR (cE (aR (aF 1) (ab 6) (fun _ _=>rfl))) ah (fun _ _=>rfl)) au)) au)))) (cE (bi (dt (aj gW au))))))) (bd d_law_take hr (am (ad (ab 5)) (am (ad (cD (cR b_len (aj (aR (cE (aR (aF 1) (ab 6) (fun _ _=>rfl))) ah (fun _ _=>rfl)) au)) ah)) aE))) (fun _ _=>rfl))) (az (bS (kQ hr (cc (cc (ad (ab 3)) (ad (ab 6)) (fun _ _=>rfl)) (ad ah) (fun _ _=>rfl)) (ad (cR b_len (aj (aR (cE (aR (aF 1) (ab 6) (fun _ _=>rfl))) ah (fun _ _=>rfl)) au)))) (aT (fU (ad (ab 3)) (ad (ab 6)) (bd d_law_opened hr (am (ad (aR (aF 1) (ab 6) (fun _ _=>rfl))) aE)))) bR) (az (bS (su (cc (ad (ab 3)) (ad (ab 6)) (fun _ _=>rfl))) (aT (bj (ad eI))) bR) (az (bS (mZ (mY (e7 (Al (cR b_len (aj (aR (cE (aR (aF 1) (ab 6) (fun _ _=>rfl))) ah (fun _ _=>rfl)) au)) ah)) (mX (j6 (fR (bd d_law_told hr (am (ad (aR (aF 1) (ab 6) (fun _ _=>rfl))) (am (ad (aR (aF 2) (ab 6) (fun _ _=>rfl))) (am (cc (ad (ab 3)) (ad (ab 6)) (fun _ _=>rfl)) (am (ad (ab 7)) aE)))))))))) (aT (bj (ad eI))) bR) (aT (bS (mZ (mY (kQ hr (bd d_law_take hr (am (ad (ab 5)) (am (ad ah) aE))) (ad ah)) (mX (j6 (mZ (mY (fR (bd d_law_right hr (am (cc (ad (ab 3)) (ad ah) (fun _ _=>rfl)) aE))) (mX (fR (bd d_law_right hr (am (cc (ad (ab 3)) (ad ah) (fun _ _=>rfl)) aE)))))))))) (aT (bj (ad eI))) bR))))))))) (aT (bj (n3 (bd d_law_right hr (am (cc (ad (ab 3)) (ad ah) (fun _ _=>rfl)) aE)) (n0 (bd d_law_right hr (am (cc (ad (ab 3)) (ad ah) (fun _ _=>rfl)) aE)))))))))))
end
def ot(K:PySem.W.Frag):Sp:=fun vs H Q E=>∀ C_Office:Nat,spN K (o6 C_Office) vs H Q E
theorem all_mk{l:PySem.W.OpenLaw}{w:World}{K:PySem.W.Frag}{h:Heap}{mg:Str->Option Value}{fa C_Office f1 f2 f3 f4 f5 f6 f7 f8 f9 f10 f11 f12 f13 f14 f15 f16 f17 f18 f19 f20 f21 f22 f23 f24 f25 f26 f27 f28 f29 f30 f31 f32 f33 f34 f35 f36 f37 f38 f39 f40 f41 f42 f43 f44 f45:Addr}(X:K.In h)(G:h.Ns mainGlobals mg)(hfa:mg "law" = some (.ref fa)){od1 an1 od2 an2 od3 an3 od4 an4 od5 an5 od6 an6 od7 an7 od8 an8 od9 an9 od10 an10 od11 an11 od12 an12 od13 an13 od14 an14 od15 an15 od16 an16 od17 an17 od18 an18 od19 an19 od20 an20 od21 an21 od22 an22 od23 an23 od24 an24 od25 an25 od26 an26 od27 an27 od28 an28 od29 an29 od30 an30 od31 an31 od32 an32 od33 an33 od34 an34 od35 an35 od36 an36 od37 an37 od38 an38 od39 an39 od40 an40 od41 an41 od42 an42 od43 an43 od44 an44 od45 an45:Option Addr}{sl1 sl2 sl3 sl4 sl5 sl6 sl7 sl8 sl9 sl10 sl11 sl12 sl13 sl14 sl15 sl16 sl17 sl18 sl19 sl20 sl21 sl22 sl23 sl24 sl25 sl26 sl27 sl28 sl29 sl30 sl31 sl32 sl33 sl34 sl35 sl36 sl37 sl38 sl39 sl40 sl41 sl42 sl43 sl44 sl45:Array (Option Value)}{oc1 kV1 dc1 pm1 cd1 ct1 oc2 kV2 dc2 pm2 cd2 ct2 oc3 kV3 dc3 pm3 cd3 ct3 oc4 kV4 dc4 pm4 cd4 ct4 oc5 kV5 dc5 pm5 cd5 ct5 oc6 kV6 dc6 pm6 cd6 ct6 oc7 kV7 dc7 pm7 cd7 ct7 oc8 kV8 dc8 pm8 cd8 ct8 oc9 kV9 dc9 pm9 cd9 ct9 oc10 kV10 dc10 pm10 cd10 ct10 oc11 kV11 dc11 pm11 cd11 ct11 oc12 kV12 dc12 pm12 cd12 ct12 oc13 kV13 dc13 pm13 cd13 ct13 oc14 kV14 dc14 pm14 cd14 ct14 oc15 kV15 dc15 pm15 cd15 ct15 oc16 kV16 dc16 pm16 cd16 ct16 oc17 kV17 dc17 pm17 cd17 ct17 oc18 kV18 dc18 pm18 cd18 ct18 oc19 kV19 dc19 pm19 cd19 ct19 oc20 kV20 dc20 pm20 cd20 ct20 oc21 kV21 dc21 pm21 cd21 ct21 oc22 kV22 dc22 pm22 cd22 ct22 oc23 kV23 dc23 pm23 cd23 ct23 oc24 kV24 dc24 pm24 cd24 ct24 oc25 kV25 dc25 pm25 cd25 ct25 oc26 kV26 dc26 pm26 cd26 ct26 oc27 kV27 dc27 pm27 cd27 ct27 oc28 kV28 dc28 pm28 cd28 ct28 oc29 kV29 dc29 pm29 cd29 ct29 oc30 kV30 dc30 pm30 cd30 ct30 oc31 kV31 dc31 pm31 cd31 ct31 oc32 kV32 dc32 pm32 cd32 ct32 oc33 kV33 dc33 pm33 cd33 ct33 oc34 kV34 dc34 pm34 cd34 ct34 oc35 kV35 dc35 pm35 cd35 ct35 oc36 kV36 dc36 pm36 cd36 ct36 oc37 kV37 dc37 pm37 cd37 ct37 oc38 kV38 dc38 pm38 cd38 ct38 oc39 kV39 dc39 pm39 cd39 ct39 oc40 kV40 dc40 pm40 cd40 ct40 oc41 kV41 dc41 pm41 cd41 ct41 oc42 kV42 dc42 pm42 cd42 ct42 oc43 kV43 dc43 pm43 cd43 ct43 oc44 kV44 dc44 pm44 cd44 ct44 oc45 kV45 dc45 pm45 cd45 ct45:Value}{t_MOST_DUE t_MOST_FARE t_MOST_FARES t_MOST_OF t_MOST_ROOM t_MOST_SEATS t_MOST_TURNS t_MOST_WEIGHT:Tok}(aC_Office:PySem.W.nsIn K mainGlobals "Office" = some (some (.ref C_Office)))(a1:PySem.W.nsIn K mainGlobals "is_within" = some (some (.ref f1)))(l1:K.lookup f1=some ⟨oc1,od1,.func (PySem.W.fnOf "is_within" "is_within" (aJ g4) (aD g4) (ai g4) .none kV1 dc1 pm1 an1 cd1 ct1),sl1⟩)(c1:PySem.W.codeIn K cd1 "is_within" = true)(k1:PySem.W.keepIn K (.ref f1)=true)(a2:PySem.W.nsIn K mainGlobals "power" = some (some (.ref f2)))(l2:K.lookup f2=some ⟨oc2,od2,.func (PySem.W.fnOf "power" "power" (aJ g5) (aD g5) (ai g5) .none kV2 dc2 pm2 an2 cd2 ct2),sl2⟩)(c2:PySem.W.codeIn K cd2 "power" = true)(k2:PySem.W.keepIn K (.ref f2)=true)(a3:PySem.W.nsIn K mainGlobals "are_fares" = some (some (.ref f3)))(l3:K.lookup f3=some ⟨oc3,od3,.func (PySem.W.fnOf "are_fares" "are_fares" (aJ eZ) (aD eZ) (ai eZ) .none kV3 dc3 pm3 an3 cd3 ct3),sl3⟩)(c3:PySem.W.codeIn K cd3 "are_fares" = true)(k3:PySem.W.keepIn K (.ref f3)=true)(a4:PySem.W.nsIn K mainGlobals "total_of" = some (some (.ref f4)))(l4:K.lookup f4=some ⟨oc4,od4,.func (PySem.W.fnOf "total_of" "total_of" (aJ g6) (aD g6) (ai g6) .none kV4 dc4 pm4 an4 cd4 ct4),sl4⟩)(c4:PySem.W.codeIn K cd4 "total_of" = true)(k4:PySem.W.keepIn K (.ref f4)=true)(a5:PySem.W.nsIn K mainGlobals "is_row" = some (some (.ref f5)))(l5:K.lookup f5=some ⟨oc5,od5,.func (PySem.W.fnOf "is_row" "is_row" (aJ ff) (aD ff) (ai ff) .none kV5 dc5 pm5 an5 cd5 ct5),sl5⟩)(c5:PySem.W.codeIn K cd5 "is_row" = true)(k5:PySem.W.keepIn K (.ref f5)=true)(a6:PySem.W.nsIn K mainGlobals "are_turns" = some (some (.ref f6)))(l6:K.lookup f6=some ⟨oc6,od6,.func (PySem.W.fnOf "are_turns" "are_turns" (aJ fg) (aD fg) (ai fg) .none kV6 dc6 pm6 an6 cd6 ct6),sl6⟩)(c6:PySem.W.codeIn K cd6 "are_turns" = true)(k6:PySem.W.keepIn K (.ref f6)=true)(a7:PySem.W.nsIn K mainGlobals "is_sale" = some (some (.ref f7)))(l7:K.lookup f7=some ⟨oc7,od7,.func (PySem.W.fnOf "is_sale" "is_sale" (aJ g7) (aD g7) (ai g7) .none kV7 dc7 pm7 an7 cd7 ct7),sl7⟩)(c7:PySem.W.codeIn K cd7 "is_sale" = true)(k7:PySem.W.keepIn K (.ref f7)=true)(a8:PySem.W.nsIn K mainGlobals "scales_of" = some (some (.ref f8)))(l8:K.lookup f8=some ⟨oc8,od8,.func (PySem.W.fnOf "scales_of" "scales_of" (aJ g8) (aD g8) (ai g8) .none kV8 dc8 pm8 an8 cd8 ct8),sl8⟩)(c8:PySem.W.codeIn K cd8 "scales_of" = true)(k8:PySem.W.keepIn K (.ref f8)=true)(a9:PySem.W.nsIn K mainGlobals "weighed" = some (some (.ref f9)))(l9:K.lookup f9=some ⟨oc9,od9,.func (PySem.W.fnOf "weighed" "weighed" (aJ fh) (aD fh) (ai fh) .none kV9 dc9 pm9 an9 cd9 ct9),sl9⟩)(c9:PySem.W.codeIn K cd9 "weighed" = true)(k9:PySem.W.keepIn K (.ref f9)=true)(a10:PySem.W.nsIn K mainGlobals "sold_worth" = some (some (.ref f10)))(l10:K.lookup f10=some ⟨oc10,od10,.func (PySem.W.fnOf "sold_worth" "sold_worth" (aJ g9) (aD g9) (ai g9) .none kV10 dc10 pm10 an10 cd10 ct10),sl10⟩)(c10:PySem.W.codeIn K cd10 "sold_worth" = true)(k10:PySem.W.keepIn K (.ref f10)=true)(a11:PySem.W.nsIn K mainGlobals "class_worth" = some (some (.ref f11)))(l11:K.lookup f11=some ⟨oc11,od11,.func (PySem.W.fnOf "class_worth" "class_worth" (aJ ga) (aD ga) (ai ga) .none kV11 dc11 pm11 an11 cd11 ct11),sl11⟩)(c11:PySem.W.codeIn K cd11 "class_worth" = true)(k11:PySem.W.keepIn K (.ref f11)=true)(a12:PySem.W.nsIn K mainGlobals "stand_worth" = some (some (.ref f12)))(l12:K.lookup f12=some ⟨oc12,od12,.func (PySem.W.fnOf "stand_worth" "stand_worth" (aJ fj) (aD fj) (ai fj) .none kV12 dc12 pm12 an12 cd12 ct12),sl12⟩)(c12:PySem.W.codeIn K cd12 "stand_worth" = true)(k12:PySem.W.keepIn K (.ref f12)=true)(a13:PySem.W.nsIn K mainGlobals "row_worths" = some (some (.ref f13)))(l13:K.lookup f13=some ⟨oc13,od13,.func (PySem.W.fnOf "row_worths" "row_worths" (aJ fk) (aD fk) (ai fk) .none kV13 dc13 pm13 an13 cd13 ct13),sl13⟩)(c13:PySem.W.codeIn K cd13 "row_worths" = true)(k13:PySem.W.keepIn K (.ref f13)=true)(a14:PySem.W.nsIn K mainGlobals "worths_of" = some (some (.ref f14)))(l14:K.lookup f14=some ⟨oc14,od14,.func (PySem.W.fnOf "worths_of" "worths_of" (aJ gb) (aD gb) (ai gb) .none kV14 dc14 pm14 an14 cd14 ct14),sl14⟩)(c14:PySem.W.codeIn K cd14 "worths_of" = true)(k14:PySem.W.keepIn K (.ref f14)=true)(a15:PySem.W.nsIn K mainGlobals "is_taken" = some (some (.ref f15)))(l15:K.lookup f15=some ⟨oc15,od15,.func (PySem.W.fnOf "is_taken" "is_taken" (aJ gc) (aD gc) (ai gc) .none kV15 dc15 pm15 an15 cd15 ct15),sl15⟩)(c15:PySem.W.codeIn K cd15 "is_taken" = true)(k15:PySem.W.keepIn K (.ref f15)=true)(a16:PySem.W.nsIn K mainGlobals "least_fare" = some (some (.ref f16)))(l16:K.lookup f16=some ⟨oc16,od16,.func (PySem.W.fnOf "least_fare" "least_fare" (aJ gd) (aD gd) (ai gd) .none kV16 dc16 pm16 an16 cd16 ct16),sl16⟩)(c16:PySem.W.codeIn K cd16 "least_fare" = true)(k16:PySem.W.keepIn K (.ref f16)=true)(a17:PySem.W.nsIn K mainGlobals "is_rule" = some (some (.ref f17)))(l17:K.lookup f17=some ⟨oc17,od17,.func (PySem.W.fnOf "is_rule" "is_rule" (aJ ge) (aD ge) (ai ge) .none kV17 dc17 pm17 an17 cd17 ct17),sl17⟩)(c17:PySem.W.codeIn K cd17 "is_rule" = true)(k17:PySem.W.keepIn K (.ref f17)=true)(a18:PySem.W.nsIn K mainGlobals "with_one_more" = some (some (.ref f18)))(l18:K.lookup f18=some ⟨oc18,od18,.func (PySem.W.fnOf "with_one_more" "with_one_more" (aJ dG) (aD dG) (ai dG) .none kV18 dc18 pm18 an18 cd18 ct18),sl18⟩)(c18:PySem.W.codeIn K cd18 "with_one_more" = true)(k18:PySem.W.keepIn K (.ref f18)=true)(a19:PySem.W.nsIn K mainGlobals "shows_of" = some (some (.ref f19)))(l19:K.lookup f19=some ⟨oc19,od19,.func (PySem.W.fnOf "shows_of" "shows_of" (aJ gf) (aD gf) (ai gf) .none kV19 dc19 pm19 an19 cd19 ct19),sl19⟩)(c19:PySem.W.codeIn K cd19 "shows_of" = true)(k19:PySem.W.keepIn K (.ref f19)=true)(a20:PySem.W.nsIn K mainGlobals "beyond_room" = some (some (.ref f20)))(l20:K.lookup f20=some ⟨oc20,od20,.func (PySem.W.fnOf "beyond_room" "beyond_room" (aJ fm) (aD fm) (ai fm) .none kV20 dc20 pm20 an20 cd20 ct20),sl20⟩)(c20:PySem.W.codeIn K cd20 "beyond_room" = true)(k20:PySem.W.keepIn K (.ref f20)=true)(a21:PySem.W.nsIn K mainGlobals "end_of" = some (some (.ref f21)))(l21:K.lookup f21=some ⟨oc21,od21,.func (PySem.W.fnOf "end_of" "end_of" (aJ gg) (aD gg) (ai gg) .none kV21 dc21 pm21 an21 cd21 ct21),sl21⟩)(c21:PySem.W.codeIn K cd21 "end_of" = true)(k21:PySem.W.keepIn K (.ref f21)=true)(a22:PySem.W.nsIn K mainGlobals "ends_of" = some (some (.ref f22)))(l22:K.lookup f22=some ⟨oc22,od22,.func (PySem.W.fnOf "ends_of" "ends_of" (aJ ft) (aD ft) (ai ft) .none kV22 dc22 pm22 an22 cd22 ct22),sl22⟩)(c22:PySem.W.codeIn K cd22 "ends_of" = true)(k22:PySem.W.keepIn K (.ref f22)=true)(a23:PySem.W.nsIn K mainGlobals "last_scale" = some (some (.ref f23)))(l23:K.lookup f23=some ⟨oc23,od23,.func (PySem.W.fnOf "last_scale" "last_scale" (aJ gh) (aD gh) (ai gh) .none kV23 dc23 pm23 an23 cd23 ct23),sl23⟩)(c23:PySem.W.codeIn K cd23 "last_scale" = true)(k23:PySem.W.keepIn K (.ref f23)=true)(a24:PySem.W.nsIn K mainGlobals "_law_nth" = some (some (.ref f24)))(l24:K.lookup f24=some ⟨oc24,od24,.func (PySem.W.fnOf "_law_nth" "_law_nth" (aJ gi) (aD gi) (ai gi) .none kV24 dc24 pm24 an24 cd24 ct24),sl24⟩)(c24:PySem.W.codeIn K cd24 "_law_nth" = true)(k24:PySem.W.keepIn K (.ref f24)=true)(a25:PySem.W.nsIn K mainGlobals "_law_whole" = some (some (.ref f25)))(l25:K.lookup f25=some ⟨oc25,od25,.func (PySem.W.fnOf "_law_whole" "_law_whole" (aJ gj) (aD gj) (ai gj) .none kV25 dc25 pm25 an25 cd25 ct25),sl25⟩)(c25:PySem.W.codeIn K cd25 "_law_whole" = true)(k25:PySem.W.keepIn K (.ref f25)=true)(a26:PySem.W.nsIn K mainGlobals "_law_tables" = some (some (.ref f26)))(l26:K.lookup f26=some ⟨oc26,od26,.func (PySem.W.fnOf "_law_tables" "_law_tables" (aJ eg) (aD eg) (ai eg) .none kV26 dc26 pm26 an26 cd26 ct26),sl26⟩)(c26:PySem.W.codeIn K cd26 "_law_tables" = true)(k26:PySem.W.keepIn K (.ref f26)=true)(a27:PySem.W.findIn K (.ref C_Office) "__init__" = some (some (.ref f27)))(i27:PySem.W.isFn K (.ref f27)=true)(l27:K.lookup f27=some ⟨oc27,od27,.func (PySem.W.fnOf "__init__" "Office.__init__" (aJ gk) (aD gk) (ai gk) .none kV27 dc27 pm27 an27 cd27 ct27),sl27⟩)(c27:PySem.W.codeIn K cd27 "Office.__init__" = true)(k27:PySem.W.keepIn K (.ref f27)=true)(a28:PySem.W.nsIn K mainGlobals "_law_opened" = some (some (.ref f28)))(l28:K.lookup f28=some ⟨oc28,od28,.func (PySem.W.fnOf "_law_opened" "_law_opened" (aJ fu) (aD fu) (ai fu) .none kV28 dc28 pm28 an28 cd28 ct28),sl28⟩)(c28:PySem.W.codeIn K cd28 "_law_opened" = true)(k28:PySem.W.keepIn K (.ref f28)=true)(a29:PySem.W.nsIn K mainGlobals "_law_pool" = some (some (.ref f29)))(l29:K.lookup f29=some ⟨oc29,od29,.func (PySem.W.fnOf "_law_pool" "_law_pool" (aJ gm) (aD gm) (ai gm) .none kV29 dc29 pm29 an29 cd29 ct29),sl29⟩)(c29:PySem.W.codeIn K cd29 "_law_pool" = true)(k29:PySem.W.keepIn K (.ref f29)=true)(a30:PySem.W.findIn K (.ref C_Office) "turn" = some (some (.ref f30)))(i30:PySem.W.isFn K (.ref f30)=true)(l30:K.lookup f30=some ⟨oc30,od30,.func (PySem.W.fnOf "turn" "Office.turn" (aJ gn) (aD gn) (ai gn) .none kV30 dc30 pm30 an30 cd30 ct30),sl30⟩)(c30:PySem.W.codeIn K cd30 "Office.turn" = true)(k30:PySem.W.keepIn K (.ref f30)=true)(a31:PySem.W.findIn K (.ref C_Office) "left" = some (some (.ref f31)))(i31:PySem.W.isFn K (.ref f31)=true)(l31:K.lookup f31=some ⟨oc31,od31,.func (PySem.W.fnOf "left" "Office.left" (aJ gp) (aD gp) (ai gp) .none kV31 dc31 pm31 an31 cd31 ct31),sl31⟩)(c31:PySem.W.codeIn K cd31 "Office.left" = true)(k31:PySem.W.keepIn K (.ref f31)=true)(a32:PySem.W.findIn K (.ref C_Office) "coins" = some (some (.ref f32)))(i32:PySem.W.isFn K (.ref f32)=true)(l32:K.lookup f32=some ⟨oc32,od32,.func (PySem.W.fnOf "coins" "Office.coins" (aJ gq) (aD gq) (ai gq) .none kV32 dc32 pm32 an32 cd32 ct32),sl32⟩)(c32:PySem.W.codeIn K cd32 "Office.coins" = true)(k32:PySem.W.keepIn K (.ref f32)=true)(a33:PySem.W.nsIn K mainGlobals "_law_right" = some (some (.ref f33)))(l33:K.lookup f33=some ⟨oc33,od33,.func (PySem.W.fnOf "_law_right" "_law_right" (aJ fv) (aD fv) (ai fv) .none kV33 dc33 pm33 an33 cd33 ct33),sl33⟩)(c33:PySem.W.codeIn K cd33 "_law_right" = true)(k33:PySem.W.keepIn K (.ref f33)=true)(a34:PySem.W.nsIn K mainGlobals "_law_take" = some (some (.ref f34)))(l34:K.lookup f34=some ⟨oc34,od34,.func (PySem.W.fnOf "_law_take" "_law_take" (aJ gr) (aD gr) (ai gr) .none kV34 dc34 pm34 an34 cd34 ct34),sl34⟩)(c34:PySem.W.codeIn K cd34 "_law_take" = true)(k34:PySem.W.keepIn K (.ref f34)=true)(a35:PySem.W.nsIn K mainGlobals "_law_size" = some (some (.ref f35)))(l35:K.lookup f35=some ⟨oc35,od35,.func (PySem.W.fnOf "_law_size" "_law_size" (aJ gs) (aD gs) (ai gs) .none kV35 dc35 pm35 an35 cd35 ct35),sl35⟩)(c35:PySem.W.codeIn K cd35 "_law_size" = true)(k35:PySem.W.keepIn K (.ref f35)=true)(a36:PySem.W.nsIn K mainGlobals "_law_rule" = some (some (.ref f36)))(l36:K.lookup f36=some ⟨oc36,od36,.func (PySem.W.fnOf "_law_rule" "_law_rule" (aJ gt) (aD gt) (ai gt) .none kV36 dc36 pm36 an36 cd36 ct36),sl36⟩)(c36:PySem.W.codeIn K cd36 "_law_rule" = true)(k36:PySem.W.keepIn K (.ref f36)=true)(a37:PySem.W.nsIn K mainGlobals "_law_weights" = some (some (.ref f37)))(l37:K.lookup f37=some ⟨oc37,od37,.func (PySem.W.fnOf "_law_weights" "_law_weights" (aJ gu) (aD gu) (ai gu) .none kV37 dc37 pm37 an37 cd37 ct37),sl37⟩)(c37:PySem.W.codeIn K cd37 "_law_weights" = true)(k37:PySem.W.keepIn K (.ref f37)=true)(a38:PySem.W.nsIn K mainGlobals "_law_sale" = some (some (.ref f38)))(l38:K.lookup f38=some ⟨oc38,od38,.func (PySem.W.fnOf "_law_sale" "_law_sale" (aJ eh) (aD eh) (ai eh) .none kV38 dc38 pm38 an38 cd38 ct38),sl38⟩)(c38:PySem.W.codeIn K cd38 "_law_sale" = true)(k38:PySem.W.keepIn K (.ref f38)=true)(a39:PySem.W.findIn K (.ref C_Office) "is_over" = some (some (.ref f39)))(i39:PySem.W.isFn K (.ref f39)=true)(l39:K.lookup f39=some ⟨oc39,od39,.func (PySem.W.fnOf "is_over" "Office.is_over" (aJ gv) (aD gv) (ai gv) .none kV39 dc39 pm39 an39 cd39 ct39),sl39⟩)(c39:PySem.W.codeIn K cd39 "Office.is_over" = true)(k39:PySem.W.keepIn K (.ref f39)=true)(a40:PySem.W.findIn K (.ref C_Office) "fare_of" = some (some (.ref f40)))(i40:PySem.W.isFn K (.ref f40)=true)(l40:K.lookup f40=some ⟨oc40,od40,.func (PySem.W.fnOf "fare_of" "Office.fare_of" (aJ gw) (aD gw) (ai gw) .none kV40 dc40 pm40 an40 cd40 ct40),sl40⟩)(c40:PySem.W.codeIn K cd40 "Office.fare_of" = true)(k40:PySem.W.keepIn K (.ref f40)=true)(a41:PySem.W.findIn K (.ref C_Office) "takes" = some (some (.ref f41)))(i41:PySem.W.isFn K (.ref f41)=true)(l41:K.lookup f41=some ⟨oc41,od41,.func (PySem.W.fnOf "takes" "Office.takes" (aJ gx) (aD gx) (ai gx) .none kV41 dc41 pm41 an41 cd41 ct41),sl41⟩)(c41:PySem.W.codeIn K cd41 "Office.takes" = true)(k41:PySem.W.keepIn K (.ref f41)=true)(a42:PySem.W.findIn K (.ref C_Office) "least" = some (some (.ref f42)))(i42:PySem.W.isFn K (.ref f42)=true)(l42:K.lookup f42=some ⟨oc42,od42,.func (PySem.W.fnOf "least" "Office.least" (aJ gy) (aD gy) (ai gy) .none kV42 dc42 pm42 an42 cd42 ct42),sl42⟩)(c42:PySem.W.codeIn K cd42 "Office.least" = true)(k42:PySem.W.keepIn K (.ref f42)=true)(a43:PySem.W.findIn K (.ref C_Office) "asked" = some (some (.ref f43)))(i43:PySem.W.isFn K (.ref f43)=true)(l43:K.lookup f43=some ⟨oc43,od43,.func (PySem.W.fnOf "asked" "Office.asked" (aJ gz) (aD gz) (ai gz) .none kV43 dc43 pm43 an43 cd43 ct43),sl43⟩)(c43:PySem.W.codeIn K cd43 "Office.asked" = true)(k43:PySem.W.keepIn K (.ref f43)=true)(a44:PySem.W.nsIn K mainGlobals "_law_told" = some (some (.ref f44)))(l44:K.lookup f44=some ⟨oc44,od44,.func (PySem.W.fnOf "_law_told" "_law_told" (aJ gA) (aD gA) (ai gA) .none kV44 dc44 pm44 an44 cd44 ct44),sl44⟩)(c44:PySem.W.codeIn K cd44 "_law_told" = true)(k44:PySem.W.keepIn K (.ref f44)=true)(a45:PySem.W.nsIn K mainGlobals "law" = some (some (.ref f45)))(l45:K.lookup f45=some ⟨oc45,od45,.func (PySem.W.fnOf "law" "law" (aJ dj) (aD dj) (ai dj) .none kV45 dc45 pm45 an45 cd45 ct45),sl45⟩)(c45:PySem.W.codeIn K cd45 "law" = true)(k45:PySem.W.keepIn K (.ref f45)=true)(pg_Office:PySem.W.plainGet K C_Office Str.empty=true)(hd_Office:PySem.W.hasDictIn K C_Office=true)(po_Office:PySem.W.plainOver K C_Office=true)(sa_Office:PySem.W.findIn K (.ref C_Office) "__setattr__" = some (some (.builtin "object.__setattr__")))(mk_Office:PySem.W.makesIn K C_Office=true)(kc_Office:PySem.W.keepIn K (.ref C_Office)=true)(na_Office_seats:PySem.W.findIn K (.ref C_Office) "seats" = some none)(na_Office_fares:PySem.W.findIn K (.ref C_Office) "fares" = some none)(na_Office_rule:PySem.W.findIn K (.ref C_Office) "rule" = some none)(na_Office_scales:PySem.W.findIn K (.ref C_Office) "scales" = some none)(na_Office_table:PySem.W.findIn K (.ref C_Office) "table" = some none)(na_Office_told:PySem.W.findIn K (.ref C_Office) "told" = some none)(na_Office_sold:PySem.W.findIn K (.ref C_Office) "sold" = some none)(na_Office_paid:PySem.W.findIn K (.ref C_Office) "paid" = some none)(na_Office_dues:PySem.W.findIn K (.ref C_Office) "dues" = some none)(na_Office_latest:PySem.W.findIn K (.ref C_Office) "latest" = some none)(z_all:PySem.W.nsIn K mainGlobals "all" = some none)(z_bool:PySem.W.nsIn K mainGlobals "bool" = some none)(z_enumerate:PySem.W.nsIn K mainGlobals "enumerate" = some none)(z_int:PySem.W.nsIn K mainGlobals "int" = some none)(z_isinstance:PySem.W.nsIn K mainGlobals "isinstance" = some none)(z_len:PySem.W.nsIn K mainGlobals "len" = some none)(z_list:PySem.W.nsIn K mainGlobals "list" = some none)(z_max:PySem.W.nsIn K mainGlobals "max" = some none)(z_min:PySem.W.nsIn K mainGlobals "min" = some none)(z_range:PySem.W.nsIn K mainGlobals "range" = some none)(z_reversed:PySem.W.nsIn K mainGlobals "reversed" = some none)(z_sum:PySem.W.nsIn K mainGlobals "sum" = some none)(z_zip:PySem.W.nsIn K mainGlobals "zip" = some none)(y_MOST_DUE:PySem.W.nsIn K mainGlobals "MOST_DUE" = some (some (.int 1000000 t_MOST_DUE)))(y_MOST_FARE:PySem.W.nsIn K mainGlobals "MOST_FARE" = some (some (.int 1000000 t_MOST_FARE)))(y_MOST_FARES:PySem.W.nsIn K mainGlobals "MOST_FARES" = some (some (.int 6 t_MOST_FARES)))(y_MOST_OF:PySem.W.nsIn K mainGlobals "MOST_OF" = some (some (.int 1000 t_MOST_OF)))(y_MOST_ROOM:PySem.W.nsIn K mainGlobals "MOST_ROOM" = some (some (.int 10 t_MOST_ROOM)))(y_MOST_SEATS:PySem.W.nsIn K mainGlobals "MOST_SEATS" = some (some (.int 10 t_MOST_SEATS)))(y_MOST_TURNS:PySem.W.nsIn K mainGlobals "MOST_TURNS" = some (some (.int 8 t_MOST_TURNS)))(y_MOST_WEIGHT:PySem.W.nsIn K mainGlobals "MOST_WEIGHT" = some (some (.int 1000 t_MOST_WEIGHT))):
    ∃ fd:FuncData,(∀ (s:Shared) (v:Value),BindsTo s fd ⟨[v],[]⟩ [("script",v)])/\∀ base:Heap,K.In base->base.Ns mainGlobals mg->FnOk l.prog w K mg base CX0 9 fa fd ["script"] (ot K):=by
  have e:=hfa.symm.trans (PySem.W.mg_of X G a45)
  cases e
  have b_all:=PySem.W.mg_none_of X G z_all
  have b_bool:=PySem.W.mg_none_of X G z_bool
  have b_enumerate:=PySem.W.mg_none_of X G z_enumerate
  have b_int:=PySem.W.mg_none_of X G z_int
  have b_isinstance:=PySem.W.mg_none_of X G z_isinstance
  have b_len:=PySem.W.mg_none_of X G z_len
  have b_list:=PySem.W.mg_none_of X G z_list
  have b_max:=PySem.W.mg_none_of X G z_max
  have b_min:=PySem.W.mg_none_of X G z_min
  have b_range:=PySem.W.mg_none_of X G z_range
  have b_reversed:=PySem.W.mg_none_of X G z_reversed
  have b_sum:=PySem.W.mg_none_of X G z_sum
  have b_zip:=PySem.W.mg_none_of X G z_zip
  have c_MOST_DUE:=PySem.W.mg_of X G y_MOST_DUE
  have c_MOST_FARE:=PySem.W.mg_of X G y_MOST_FARE
  have c_MOST_FARES:=PySem.W.mg_of X G y_MOST_FARES
  have c_MOST_OF:=PySem.W.mg_of X G y_MOST_OF
  have c_MOST_ROOM:=PySem.W.mg_of X G y_MOST_ROOM
  have c_MOST_SEATS:=PySem.W.mg_of X G y_MOST_SEATS
  have c_MOST_TURNS:=PySem.W.mg_of X G y_MOST_TURNS
  have c_MOST_WEIGHT:=PySem.W.mg_of X G y_MOST_WEIGHT
  have cl_Office:Cls K C_Office:=⟨pg_Office,hd_Office,po_Office,sa_Office⟩
  refine⟨PySem.W.fnOf "law" "law" (aJ dj) (aD dj) (ai dj) .none kV45 dc45 pm45 an45 cd45 ct45,fun s v=>.of_eq rfl,fun base _ _=>?_⟩
  have d_is_within:=G0 (P:=l.prog) (w:=w) (base:=base) (aB (st:=g4) l1 c1 k1) (PySem.W.mg_of X G a1) b_bool b_int b_isinstance
  have d_power:=G2 (P:=l.prog) (w:=w) (base:=base) (aB (st:=g5) l2 c2 k2) (PySem.W.mg_of X G a2) b_range
  have d_are_fares:=G4 (P:=l.prog) (w:=w) (base:=base) (aB (st:=eZ) l3 c3 k3) (PySem.W.mg_of X G a3) b_all b_len c_MOST_FARE c_MOST_FARES (d_is_within.mono (k:=1))
  have d_total_of:=G6 (P:=l.prog) (w:=w) (base:=base) (aB (st:=g6) l4 c4 k4) (PySem.W.mg_of X G a4) b_sum
  have d_is_row:=G8 (P:=l.prog) (w:=w) (base:=base) (aB (st:=ff) l5 c5 k5) (PySem.W.mg_of X G a5) b_all b_len c_MOST_WEIGHT (d_is_within.mono (k:=1)) (d_total_of.mono (k:=1))
  have d_are_turns:=Ga (P:=l.prog) (w:=w) (base:=base) (aB (st:=fg) l6 c6 k6) (PySem.W.mg_of X G a6) b_all b_len c_MOST_TURNS (d_is_row.mono (k:=2))
  have d_is_sale:=Gc (P:=l.prog) (w:=w) (base:=base) (aB (st:=g7) l7 c7 k7) (PySem.W.mg_of X G a7) b_len c_MOST_SEATS (d_is_within.mono (k:=3)) (d_are_fares.mono (k:=3)) (d_are_turns.mono (k:=3))
  have d_scales_of:=Ge (P:=l.prog) (w:=w) (base:=base) (aB (st:=g8) l8 c8 k8) (PySem.W.mg_of X G a8) b_list b_reversed (d_total_of.mono (k:=1))
  have d_weighed:=Gg (P:=l.prog) (w:=w) (base:=base) (aB (st:=fh) l9 c9 k9) (PySem.W.mg_of X G a9) b_sum b_zip
  have d_sold_worth:=Gi (P:=l.prog) (w:=w) (base:=base) (aB (st:=g9) l10 c10 k10) (PySem.W.mg_of X G a10)
  have d_class_worth:=Gm (P:=l.prog) (w:=w) (base:=base) (aB (st:=ga) l11 c11 k11) (PySem.W.mg_of X G a11) b_max (d_sold_worth.mono (k:=1))
  have d_stand_worth:=Go (P:=l.prog) (w:=w) (base:=base) (aB (st:=fj) l12 c12 k12) (PySem.W.mg_of X G a12) (d_weighed.mono (k:=2)) (d_class_worth.mono (k:=2))
  have d_row_worths:=Gq (P:=l.prog) (w:=w) (base:=base) (aB (st:=fk) l13 c13 k13) (PySem.W.mg_of X G a13) b_len b_range (d_stand_worth.mono (k:=3))
  have d_worths_of:=Gs (P:=l.prog) (w:=w) (base:=base) (aB (st:=gb) l14 c14 k14) (PySem.W.mg_of X G a14) b_len b_list b_range b_reversed (d_scales_of.mono (k:=4)) (d_row_worths.mono (k:=4))
  have d_is_taken:=Gv (P:=l.prog) (w:=w) (base:=base) (aB (st:=gc) l15 c15 k15) (PySem.W.mg_of X G a15) (d_sold_worth.mono (k:=1))
  have d_least_fare:=Gx (P:=l.prog) (w:=w) (base:=base) (aB (st:=gd) l16 c16 k16) (PySem.W.mg_of X G a16)
  have d_is_rule:=Gz (P:=l.prog) (w:=w) (base:=base) (aB (st:=ge) l17 c17 k17) (PySem.W.mg_of X G a17) c_MOST_DUE c_MOST_OF c_MOST_ROOM (d_is_within.mono (k:=1))
  have d_with_one_more:=GB (P:=l.prog) (w:=w) (base:=base) (aB (st:=dG) l18 c18 k18) (PySem.W.mg_of X G a18) b_zip
  have d_shows_of:=GD (P:=l.prog) (w:=w) (base:=base) (aB (st:=gf) l19 c19 k19) (PySem.W.mg_of X G a19) b_range (d_with_one_more.mono (k:=1))
  have d_beyond_room:=GF (P:=l.prog) (w:=w) (base:=base) (aB (st:=fm) l20 c20 k20) (PySem.W.mg_of X G a20) b_enumerate b_max b_sum (d_shows_of.mono (k:=2))
  have d_end_of:=GH (P:=l.prog) (w:=w) (base:=base) (aB (st:=gg) l21 c21 k21) (PySem.W.mg_of X G a21) (d_power.mono (k:=3)) (d_beyond_room.mono (k:=3))
  have d_ends_of:=GJ (P:=l.prog) (w:=w) (base:=base) (aB (st:=ft) l22 c22 k22) (PySem.W.mg_of X G a22) b_range (d_end_of.mono (k:=4))
  have d_last_scale:=GL (P:=l.prog) (w:=w) (base:=base) (aB (st:=gh) l23 c23 k23) (PySem.W.mg_of X G a23) (d_power.mono (k:=1))
  have d_law_nth:=GN (P:=l.prog) (w:=w) (base:=base) (aB (st:=gi) l24 c24 k24) (PySem.W.mg_of X G a24)
  have d_law_whole:=GP (P:=l.prog) (w:=w) (base:=base) (aB (st:=gj) l25 c25 k25) (PySem.W.mg_of X G a25) b_bool b_int b_isinstance
  have d_law_tables:=GR (P:=l.prog) (w:=w) (base:=base) (aB (st:=eg) l26 c26 k26) (PySem.W.mg_of X G a26) b_list (d_scales_of.mono (k:=5)) (d_worths_of.mono (k:=5)) (d_ends_of.mono (k:=5)) (d_last_scale.mono (k:=5))
  have mk_Office:MakN l.prog w K mg base "Office" C_Office 6 ["self","seats","fares","turns","rule"] (jm C_Office):=⟨_,_,GS (C_Office:=C_Office) (P:=l.prog) (w:=w) (base:=base) (aB (st:=gk) l27 c27 k27) b_list cl_Office na_Office_dues na_Office_fares na_Office_latest na_Office_paid na_Office_rule na_Office_scales na_Office_seats na_Office_sold na_Office_table na_Office_told (d_is_sale.mono (k:=5)) (d_scales_of.mono (k:=5)) (d_worths_of.mono (k:=5)) (d_is_rule.mono (k:=5)) (d_ends_of.mono (k:=5)) (d_last_scale.mono (k:=5)),⟨mk_Office,a27,i27,kc_Office⟩,PySem.W.mg_of X G aC_Office,(aB (st:=gk) l27 c27 k27).binds (ps:=["self","seats","fares","turns","rule"]) fun _ _ _ _ _ _ us hl=>match us,hl with | [_,_,_,_,_],_=>rfl⟩
  have d_law_opened:DefN l.prog w K mg base "_law_opened" 8 ["sale"] (i5 C_Office):=⟨_,_,GT (C_Office:=C_Office) (P:=l.prog) (w:=w) (base:=base) (aB (st:=fu) l28 c28 k28) b_len b_list (mk_Office.mono (k:=6)),PySem.W.mg_of X G a28,k28,(aB (st:=fu) l28 c28 k28).binds (ps:=["sale"]) fun _ _ _ _ _ _ us hl=>match us,hl with | [_],_=>rfl⟩
  have d_law_pool:DefN l.prog w K mg base "_law_pool" 2 ["script","k"] (eV C_Office):=⟨_,_,GU (C_Office:=C_Office) (P:=l.prog) (w:=w) (base:=base) (aB (st:=gm) l29 c29 k29) (d_law_nth.mono (k:=1)),PySem.W.mg_of X G a29,k29,(aB (st:=gm) l29 c29 k29).binds (ps:=["script","k"]) fun _ _ _ _ _ _ us hl=>match us,hl with | [_,_],_=>rfl⟩
  have m_Office_turn:MetN l.prog w K mg base C_Office "turn" 1 ["self"] (jn C_Office):=⟨_,_,GV (C_Office:=C_Office) (P:=l.prog) (w:=w) (base:=base) (aB (st:=gn) l30 c30 k30) cl_Office na_Office_told,⟨a30,i30,k30⟩,(aB (st:=gn) l30 c30 k30).binds (ps:=["self"]) fun _ _ _ _ _ _ us hl=>match us,hl with | [_],_=>rfl⟩
  have m_Office_left:MetN l.prog w K mg base C_Office "left" 1 ["self"] (de C_Office):=⟨_,_,GW (C_Office:=C_Office) (P:=l.prog) (w:=w) (base:=base) (aB (st:=gp) l31 c31 k31) cl_Office na_Office_seats na_Office_sold,⟨a31,i31,k31⟩,(aB (st:=gp) l31 c31 k31).binds (ps:=["self"]) fun _ _ _ _ _ _ us hl=>match us,hl with | [_],_=>rfl⟩
  have m_Office_coins:MetN l.prog w K mg base C_Office "coins" 1 ["self"] (jo C_Office):=⟨_,_,GX (C_Office:=C_Office) (P:=l.prog) (w:=w) (base:=base) (aB (st:=gq) l32 c32 k32) cl_Office na_Office_dues na_Office_paid,⟨a32,i32,k32⟩,(aB (st:=gq) l32 c32 k32).binds (ps:=["self"]) fun _ _ _ _ _ _ us hl=>match us,hl with | [_],_=>rfl⟩
  have d_law_right:DefN l.prog w K mg base "_law_right" 2 ["state"] (eW C_Office):=⟨_,_,GY (C_Office:=C_Office) (P:=l.prog) (w:=w) (base:=base) (aB (st:=fv) l33 c33 k33) cl_Office (d_law_whole.mono (k:=1)) (m_Office_turn.mono (k:=1)) (m_Office_left.mono (k:=1)) (m_Office_coins.mono (k:=1)),PySem.W.mg_of X G a33,k33,(aB (st:=fv) l33 c33 k33).binds (ps:=["state"]) fun _ _ _ _ _ _ us hl=>match us,hl with | [_],_=>rfl⟩
  have d_law_take:DefN l.prog w K mg base "_law_take" 1 ["pool","many"] (bG C_Office):=⟨_,_,GZ (C_Office:=C_Office) (P:=l.prog) (w:=w) (base:=base) (aB (st:=gr) l34 c34 k34) , PySem.W.mg_of X G a34,k34,(aB (st:=gr) l34 c34 k34).binds (ps:=["pool","many"]) fun _ _ _ _ _ _ us hl=>match us,hl with | [_,_],_=>rfl⟩
  have d_law_size:DefN l.prog w K mg base "_law_size" 2 ["pool","most"] (eX C_Office):=⟨_,_,Ha (C_Office:=C_Office) (P:=l.prog) (w:=w) (base:=base) (aB (st:=gs) l35 c35 k35) b_min (d_law_take.mono (k:=1)),PySem.W.mg_of X G a35,k35,(aB (st:=gs) l35 c35 k35).binds (ps:=["pool","most"]) fun _ _ _ _ _ _ us hl=>match us,hl with | [_,_],_=>rfl⟩
  have d_law_rule:DefN l.prog w K mg base "_law_rule" 3 ["pool"] (jp C_Office):=⟨_,_,Hb (C_Office:=C_Office) (P:=l.prog) (w:=w) (base:=base) (aB (st:=gt) l36 c36 k36) (d_law_size.mono (k:=2)) (d_law_take.mono (k:=2)),PySem.W.mg_of X G a36,k36,(aB (st:=gt) l36 c36 k36).binds (ps:=["pool"]) fun _ _ _ _ _ _ us hl=>match us,hl with | [_],_=>rfl⟩
  have d_law_weights:DefN l.prog w K mg base "_law_weights" 2 ["pool","many"] (jq C_Office):=⟨_,_,Hc (C_Office:=C_Office) (P:=l.prog) (w:=w) (base:=base) (aB (st:=gu) l37 c37 k37) b_range b_sum (d_law_take.mono (k:=1)),PySem.W.mg_of X G a37,k37,(aB (st:=gu) l37 c37 k37).binds (ps:=["pool","many"]) fun _ _ _ _ _ _ us hl=>match us,hl with | [_,_],_=>rfl⟩
  have d_law_sale:DefN l.prog w K mg base "_law_sale" 4 ["script","k"] (i6 C_Office):=⟨_,_,He (C_Office:=C_Office) (P:=l.prog) (w:=w) (base:=base) (aB (st:=eh) l38 c38 k38) b_len b_range (d_law_pool.mono (k:=3)) (d_law_take.mono (k:=3)) (d_law_rule.mono (k:=3)) (d_law_size.mono (k:=3)) (d_law_weights.mono (k:=3)),PySem.W.mg_of X G a38,k38,(aB (st:=eh) l38 c38 k38).binds (ps:=["script","k"]) fun _ _ _ _ _ _ us hl=>match us,hl with | [_,_],_=>rfl⟩
  have m_Office_is_over:MetN l.prog w K mg base C_Office "is_over" 1 ["self"] (jr C_Office):=⟨_,_,Hf (C_Office:=C_Office) (P:=l.prog) (w:=w) (base:=base) (aB (st:=gv) l39 c39 k39) b_len cl_Office na_Office_scales na_Office_told,⟨a39,i39,k39⟩,(aB (st:=gv) l39 c39 k39).binds (ps:=["self"]) fun _ _ _ _ _ _ us hl=>match us,hl with | [_],_=>rfl⟩
  have m_Office_fare_of:MetN l.prog w K mg base C_Office "fare_of" 2 ["self","asker"] (i7 C_Office):=⟨_,_,Hg (C_Office:=C_Office) (P:=l.prog) (w:=w) (base:=base) (aB (st:=gw) l40 c40 k40) b_len cl_Office na_Office_fares (d_is_within.mono (k:=1)),⟨a40,i40,k40⟩,(aB (st:=gw) l40 c40 k40).binds (ps:=["self","asker"]) fun _ _ _ _ _ _ us hl=>match us,hl with | [_,_],_=>rfl⟩
  have m_Office_takes:MetN l.prog w K mg base C_Office "takes" 3 ["self","fare"] (i8 C_Office):=⟨_,_,Hh (C_Office:=C_Office) (P:=l.prog) (w:=w) (base:=base) (aB (st:=gx) l41 c41 k41) cl_Office na_Office_scales na_Office_table na_Office_told (d_is_taken.mono (k:=2)) (m_Office_left.mono (k:=2)),⟨a41,i41,k41⟩,(aB (st:=gx) l41 c41 k41).binds (ps:=["self","fare"]) fun _ _ _ _ _ _ us hl=>match us,hl with | [_,_],_=>rfl⟩
  have m_Office_least:MetN l.prog w K mg base C_Office "least" 2 ["self"] (js C_Office):=⟨_,_,Hi (C_Office:=C_Office) (P:=l.prog) (w:=w) (base:=base) (aB (st:=gy) l42 c42 k42) cl_Office na_Office_scales na_Office_table na_Office_told (d_least_fare.mono (k:=1)) (m_Office_left.mono (k:=1)),⟨a42,i42,k42⟩,(aB (st:=gy) l42 c42 k42).binds (ps:=["self"]) fun _ _ _ _ _ _ us hl=>match us,hl with | [_],_=>rfl⟩
  have m_Office_asked:MetN l.prog w K mg base C_Office "asked" 4 ["self","asker"] (i9 C_Office):=⟨_,_,Hj (C_Office:=C_Office) (P:=l.prog) (w:=w) (base:=base) (aB (st:=gz) l43 c43 k43) cl_Office na_Office_latest na_Office_paid na_Office_sold na_Office_told (m_Office_is_over.mono (k:=3)) (m_Office_fare_of.mono (k:=3)) (m_Office_takes.mono (k:=3)) (m_Office_left.mono (k:=3)) (m_Office_least.mono (k:=3)),⟨a43,i43,k43⟩,(aB (st:=gz) l43 c43 k43).binds (ps:=["self","asker"]) fun _ _ _ _ _ _ us hl=>match us,hl with | [_,_],_=>rfl⟩
  have d_law_told:DefN l.prog w K mg base "_law_told" 5 ["sale","tables","state","asker"] (ia C_Office):=⟨_,_,Hk (C_Office:=C_Office) (P:=l.prog) (w:=w) (base:=base) (aB (st:=gA) l44 c44 k44) b_bool b_isinstance b_list cl_Office (d_is_taken.mono (k:=4)) (m_Office_asked.mono (k:=4)),PySem.W.mg_of X G a44,k44,(aB (st:=gA) l44 c44 k44).binds (ps:=["sale","tables","state","asker"]) fun _ _ _ _ _ _ us hl=>match us,hl with | [_,_,_,_],_=>rfl⟩
  have T:=Hl (C_Office:=C_Office) (P:=l.prog) (w:=w) (base:=base) (aB (st:=dj) l45 c45 k45) b_len b_list b_min b_range (d_law_tables.mono (k:=8)) (d_law_sale.mono (k:=8)) (d_law_opened.mono (k:=8)) (d_law_pool.mono (k:=8)) (d_law_take.mono (k:=8)) (d_law_right.mono (k:=8)) (d_law_told.mono (k:=8))
  exact T.imp fun vs H Q E h=>h C_Office
theorem walk{l:PySem.W.OpenLaw}{q:Program}{loose:List Str}{XP:(Str->Option Value)->Heap->Prop}{YP:World->Heap->Prop}{d:DefRec}{K:Params->PySem.W.Frag}(hn:l.most=some 63)(hdf:d.params.defaults=[])(hY:∀ (w:World) (h:Heap),YP w h->(K w.params).In h)(Fm:∀ (w:World) (mg:Str->Option Value) (fa:Addr) (h:Heap),(K w.params).In h->h.Ns mainGlobals mg->mg d.name=some (.ref fa) ->
      ∃ fd:FuncData,(∀ (s:Shared) (u:Value),BindsTo s fd ⟨[u],[]⟩ [("script",u)])/\∀ base:Heap,(K w.params).In base->base.Ns mainGlobals mg->FnOk l.prog w (K w.params) mg base CX0 9 fa fd ["script"] (ot (K w.params))):
    PySem.W.WalkO q loose XP YP l.row.toRowW d [] (fun f vs=>PySem.call f vs) :=
  L2.walk_of (n:=63) (k:=9) (x:="script") (CX:=fun _=>CX0) (sp:=fun w=>ot (K w.params)) hn (by decide) hdf ⟨rfl,by decide,by decide⟩ hY Fm (fun _ _ a ns hl _ hS C_Office=>Dj hS (FY ns hl C_Office)) fun _ _ _ _ _ z=>z
end My
end VL
namespace PySem.W.Fast
def tw18057322476451190582:=0
def tw9740066502302687550:=0
def tw14198434505072560194:=0
def tw16369782204486668579:=0
def tw9000694364645280195:=0
def tw3861537005004680561:=0
def tw8311434424932979612:=0
def tw15058303543516151681:=0
def tw9070718740285725958:=0
def tw3008909363717364129:=0
def tw17355923176870304769:=0
def tw14439554164500179353:=0
def tw6306708662135971211:=0
def tw16977887496748224668:=0
def tw5017050051309590843:=0
def tw13392891284132099987:=0
def tw11311253486120690484:=0
def tw7687515558934974929:=0
def tw126571512303645774:=0
def tw13246438135407013666:=0
def tw9828288521361102399:=0
def tw14856741367487928578:=0
def tw10330155053439906999:=0
def tw7528575596670176346:=0
def tw17017588015206479978:=0
def tw10378281106716374494:=0
def tw6477261186920021664:=0
def tw5776740254629943785:=0
def tw8932453032306125958:=0
def tw3958999130238042632:=0
def tw15562735666158280740:=0
def tw3954987326042072470:=0
def tw18045510347439246087:=0
def tw4901526417514262446:=0
def tw7783793300503516670:=0
def tw14731561374106713557:=0
def tw1655894361949714675:=0
def tw4666150396956399655:=0
def tw10026064992997536411:=0
def tw6496722418345308157:=0
def tw8767500374678456259:=0
def tw12425855254594795941:=0
def tw6853279050065154884:=0
def tw16503360121756001294:=0
def tw4082631832180048222:=0
def tw10307229055054384852:=0
def tw6462119921894922815:=0
def tw11332647995414203214:=0
def tw846852729182815778:=0
def tw6952545305997652813:=0
def tw1947179707509125066:=0
def tw17781005026065420508:=0
def tw3851325352212442840:=0
def tw13120167016793853043:=0
def tw12713585479034144825:=0
def tw14699811058958825649:=0
def tw16417566475538950645:=0
def tw2876682327692761435:=0
def tw6605502208047002824:=0
def tw6169206944797502477:=0
def tw15290566094962730430:=0
def tw12164941965301934977:=0
def tw7010682445729093309:=0
end PySem.W.Fast
open PySem PySem.W PyProof.Rows
theorem PySem.Challenge.cw_latefare_k39_an_office_asked_holds : PySem.Challenge.rw_latefare_k39_an_office_asked.Holds := by
  w_on;o_law;k_head;(case hw=>w_witness2)
  k_fill
  refine VL.My.walk (l:=PySem.Challenge.rw_latefare_k39_an_office_asked) rfl rfl (fun w h Y=>PySem.W.kIn_of Y) ?F
  case F =>
    intro w mg fa h KX G hmg
    refine' VL.My.all_mk KX G hmg ?aC_Office ?a1 ?l1 ?c1 ?k1 ?a2 ?l2 ?c2 ?k2 ?a3 ?l3 ?c3 ?k3 ?a4 ?l4 ?c4 ?k4 ?a5 ?l5 ?c5 ?k5 ?a6 ?l6 ?c6 ?k6 ?a7 ?l7 ?c7 ?k7 ?a8 ?l8 ?c8 ?k8 ?a9 ?l9 ?c9 ?k9 ?a10 ?l10 ?c10 ?k10 ?a11 ?l11 ?c11 ?k11 ?a12 ?l12 ?c12 ?k12 ?a13 ?l13 ?c13 ?k13 ?a14 ?l14 ?c14 ?k14 ?a15 ?l15 ?c15 ?k15 ?a16 ?l16 ?c16 ?k16 ?a17 ?l17 ?c17 ?k17 ?a18 ?l18 ?c18 ?k18 ?a19 ?l19 ?c19 ?k19 ?a20 ?l20 ?c20 ?k20 ?a21 ?l21 ?c21 ?k21 ?a22 ?l22 ?c22 ?k22 ?a23 ?l23 ?c23 ?k23 ?a24 ?l24 ?c24 ?k24 ?a25 ?l25 ?c25 ?k25 ?a26 ?l26 ?c26 ?k26 ?a27 ?i27 ?l27 ?c27 ?k27 ?a28 ?l28 ?c28 ?k28 ?a29 ?l29 ?c29 ?k29 ?a30 ?i30 ?l30 ?c30 ?k30 ?a31 ?i31 ?l31 ?c31 ?k31 ?a32 ?i32 ?l32 ?c32 ?k32 ?a33 ?l33 ?c33 ?k33 ?a34 ?l34 ?c34 ?k34 ?a35 ?l35 ?c35 ?k35 ?a36 ?l36 ?c36 ?k36 ?a37 ?l37 ?c37 ?k37 ?a38 ?l38 ?c38 ?k38 ?a39 ?i39 ?l39 ?c39 ?k39 ?a40 ?i40 ?l40 ?c40 ?k40 ?a41 ?i41 ?l41 ?c41 ?k41 ?a42 ?i42 ?l42 ?c42 ?k42 ?a43 ?i43 ?l43 ?c43 ?k43 ?a44 ?l44 ?c44 ?k44 ?a45 ?l45 ?c45 ?k45 ?pg_Office ?hd_Office ?po_Office ?sa_Office ?mk_Office ?kc_Office ?na_Office_seats ?na_Office_fares ?na_Office_rule ?na_Office_scales ?na_Office_table ?na_Office_told ?na_Office_sold ?na_Office_paid ?na_Office_dues ?na_Office_latest ?z_all ?z_bool ?z_enumerate ?z_int ?z_isinstance ?z_len ?z_list ?z_max ?z_min ?z_range ?z_reversed ?z_sum ?z_zip ?y_MOST_DUE ?y_MOST_FARE ?y_MOST_FARES ?y_MOST_OF ?y_MOST_ROOM ?y_MOST_SEATS ?y_MOST_TURNS ?y_MOST_WEIGHT
    (case aC_Office=>k_is);(case a1=>k_is);(case l1=>k_is);(case c1=>k_is);(case k1=>k_is);(case a2=>k_is)
    (case l2=>k_is);(case c2=>k_is);(case k2=>k_is);(case a3=>k_is);(case l3=>k_is);(case c3=>k_is)
    (case k3=>k_is);(case a4=>k_is);(case l4=>k_is);(case c4=>k_is);(case k4=>k_is);(case a5=>k_is)
    (case l5=>k_is);(case c5=>k_is);(case k5=>k_is);(case a6=>k_is);(case l6=>k_is);(case c6=>k_is)
    (case k6=>k_is);(case a7=>k_is);(case l7=>k_is);(case c7=>k_is);(case k7=>k_is);(case a8=>k_is)
    (case l8=>k_is);(case c8=>k_is);(case k8=>k_is);(case a9=>k_is);(case l9=>k_is);(case c9=>k_is)
    (case k9=>k_is);(case a10=>k_is);(case l10=>k_is);(case c10=>k_is);(case k10=>k_is);(case a11=>k_is)
    (case l11=>k_is);(case c11=>k_is);(case k11=>k_is);(case a12=>k_is);(case l12=>k_is);(case c12=>k_is)
    (case k12=>k_is);(case a13=>k_is);(case l13=>k_is);(case c13=>k_is);(case k13=>k_is);(case a14=>k_is)
    (case l14=>k_is);(case c14=>k_is);(case k14=>k_is);(case a15=>k_is);(case l15=>k_is);(case c15=>k_is)
    (case k15=>k_is);(case a16=>k_is);(case l16=>k_is);(case c16=>k_is);(case k16=>k_is);(case a17=>k_is)
    (case l17=>k_is);(case c17=>k_is);(case k17=>k_is);(case a18=>k_is);(case l18=>k_is);(case c18=>k_is)
    (case k18=>k_is);(case a19=>k_is);(case l19=>k_is);(case c19=>k_is);(case k19=>k_is);(case a20=>k_is)
    (case l20=>k_is);(case c20=>k_is);(case k20=>k_is);(case a21=>k_is);(case l21=>k_is);(case c21=>k_is)
    (case k21=>k_is);(case a22=>k_is);(case l22=>k_is);(case c22=>k_is);(case k22=>k_is);(case a23=>k_is)
    (case l23=>k_is);(case c23=>k_is);(case k23=>k_is);(case a24=>k_is);(case l24=>k_is);(case c24=>k_is)
    (case k24=>k_is);(case a25=>k_is);(case l25=>k_is);(case c25=>k_is);(case k25=>k_is);(case a26=>k_is)
    (case l26=>k_is);(case c26=>k_is);(case k26=>k_is);(case a27=>k_is);(case i27=>k_is);(case l27=>k_is)
    (case c27=>k_is);(case k27=>k_is);(case a28=>k_is);(case l28=>k_is);(case c28=>k_is);(case k28=>k_is)
    (case a29=>k_is);(case l29=>k_is);(case c29=>k_is);(case k29=>k_is);(case a30=>k_is);(case i30=>k_is)
    (case l30=>k_is);(case c30=>k_is);(case k30=>k_is);(case a31=>k_is);(case i31=>k_is);(case l31=>k_is)
    (case c31=>k_is);(case k31=>k_is);(case a32=>k_is);(case i32=>k_is);(case l32=>k_is);(case c32=>k_is)
    (case k32=>k_is);(case a33=>k_is);(case l33=>k_is);(case c33=>k_is);(case k33=>k_is);(case a34=>k_is)
    (case l34=>k_is);(case c34=>k_is);(case k34=>k_is);(case a35=>k_is);(case l35=>k_is);(case c35=>k_is)
    (case k35=>k_is);(case a36=>k_is);(case l36=>k_is);(case c36=>k_is);(case k36=>k_is);(case a37=>k_is)
    (case l37=>k_is);(case c37=>k_is);(case k37=>k_is);(case a38=>k_is);(case l38=>k_is);(case c38=>k_is)
    (case k38=>k_is);(case a39=>k_is);(case i39=>k_is);(case l39=>k_is);(case c39=>k_is);(case k39=>k_is)
    (case a40=>k_is);(case i40=>k_is);(case l40=>k_is);(case c40=>k_is);(case k40=>k_is);(case a41=>k_is)
    (case i41=>k_is);(case l41=>k_is);(case c41=>k_is);(case k41=>k_is);(case a42=>k_is);(case i42=>k_is)
    (case l42=>k_is);(case c42=>k_is);(case k42=>k_is);(case a43=>k_is);(case i43=>k_is);(case l43=>k_is)
    (case c43=>k_is);(case k43=>k_is);(case a44=>k_is);(case l44=>k_is);(case c44=>k_is);(case k44=>k_is)
    (case a45=>k_is);(case l45=>k_is);(case c45=>k_is);(case k45=>k_is);(case pg_Office=>k_is);(case hd_Office=>k_is)
    (case po_Office=>k_is);(case sa_Office=>k_is);(case mk_Office=>k_is);(case kc_Office=>k_is);(case na_Office_seats=>k_is);(case na_Office_fares=>k_is)
    (case na_Office_rule=>k_is);(case na_Office_scales=>k_is);(case na_Office_table=>k_is);(case na_Office_told=>k_is);(case na_Office_sold=>k_is);(case na_Office_paid=>k_is)
    (case na_Office_dues=>k_is);(case na_Office_latest=>k_is);(case z_all=>k_is);(case z_bool=>k_is);(case z_enumerate=>k_is);(case z_int=>k_is)
    (case z_isinstance=>k_is);(case z_len=>k_is);(case z_list=>k_is);(case z_max=>k_is);(case z_min=>k_is);(case z_range=>k_is)
    (case z_reversed=>k_is);(case z_sum=>k_is);(case z_zip=>k_is);(case y_MOST_DUE=>k_is);(case y_MOST_FARE=>k_is);(case y_MOST_FARES=>k_is)
    (case y_MOST_OF=>k_is);(case y_MOST_ROOM=>k_is);(case y_MOST_SEATS=>k_is);(case y_MOST_TURNS=>k_is);(case y_MOST_WEIGHT=>k_is)
