import PyProof.Rows.All
import Wide.All
import OpenK.AllK
import Wide.FinOn
import Lean
import PyProof.EqAt
import PyProof.EqKinds
import PyProof.TupleCall
import PySem.Challenge.RW_latefare_k34_foresight_by_all
set_option Elab.async false
set_option linter.all false
set_option maxRecDepth 100000
set_option maxHeartbeats 8000000
namespace L2
open PySem PySem.Spec PyProof.Rows
abbrev Key:=Sum Int Str
def dz:Key->Value->Bool
  | .inl k,v=>Value.isInt k v
  | .inr x,v=>Value.isStrOf x v
def nW(w:World):Key->Int
  | .inl k=>hashInt k
  | .inr x=>hashStr w x
theorem cs:∀ {k:Key} {v:Value},dz k v=true->(∃ i t,k=Sum.inl i/\v=Value.int i t)\/(∃ x t,k=Sum.inr x/\v=Value.str x t)
  | .inl i,v,h=>by
    obtain⟨t,e⟩:=Value.isInt_shape (k:=i) (v:=v) h
    exact .inl ⟨i,t,rfl,e⟩
  | .inr x,v,h=>by
    obtain⟨t,e⟩:=Value.isStrOf_shape (x:=x) (v:=v) h
    exact .inr ⟨x,t,rfl,e⟩
theorem nX(i:Int)(t:Tok):dz (.inl i) (.int i t)=true:=by simp[dz,Value.isInt]
theorem nY(x:Str)(t:Tok):dz (.inr x) (.str x t)=true:=by simp[dz,Value.isStrOf]
theorem nZ(a b:Int):decide ((Sum.inl a:Key)=Sum.inl b)=(a == b):=by
  by_cases e:a=b
  · subst e;simp
  · have h:¬ (Sum.inl a:Key)=Sum.inl b:=fun q=>e (Sum.inl.inj q)
    rw[decide_eq_false h]
    exact (beq_eq_false_iff_ne.mpr e).symm
theorem o0(a b:Str):decide ((Sum.inr a:Key)=Sum.inr b)=decide (a=b):=by
  by_cases e:a=b
  · subst e;simp
  · have h:¬ (Sum.inr a:Key)=Sum.inr b:=fun q=>e (Sum.inr.inj q)
    rw[decide_eq_false h,decide_eq_false e]
theorem o2(a:Int)(b:Str):decide ((Sum.inl a:Key)=Sum.inr b)=false:=decide_eq_false (fun q=>nomatch q)
theorem o9(a:Str)(b:Int):decide ((Sum.inr a:Key)=Sum.inl b)=false:=decide_eq_false (fun q=>nomatch q)
def b7(prog:Program)(w:World):PySem.KeyKind prog w Key where
  is:=dz
  hash:=nW w
  inj := fun v a b ha hb=>by
    rcases cs ha with⟨i,t,rfl,rfl⟩ | ⟨x,t,rfl,rfl⟩
    · rcases cs hb with⟨j,u,rfl,e⟩ | ⟨y,u,rfl,e⟩
      · injection e with e1 _;rw[e1]
      · exact nomatch e
    · rcases cs hb with⟨j,u,rfl,e⟩ | ⟨y,u,rfl,e⟩
      · exact nomatch e
      · injection e with e1 _;rw[e1]
  byValue:=fun k v h=>by
    rcases cs h with⟨i,t,rfl,rfl⟩ | ⟨x,t,rfl,rfl⟩ <;> rfl
  pyHash:=fun hv h=>by
    rcases cs hv with⟨i,t,rfl,rfl⟩ | ⟨x,t,rfl,rfl⟩
    · exact wpAny_pyHash_int h
    · exact wpAny_pyHash_str h
  eqBool:=fun hu hv h=>by
    rcases cs hu with⟨i,t,rfl,rfl⟩ | ⟨x,t,rfl,rfl⟩
    · rcases cs hv with⟨j,u,rfl,rfl⟩ | ⟨y,u,rfl,rfl⟩
      · rw[nZ] at h;exact wpAny_eqBool_int h
      · rw[o2] at h;exact SeqAt.EqAt.int_str i t y u _ _ _ _ h
    · rcases cs hv with⟨j,u,rfl,rfl⟩ | ⟨y,u,rfl,rfl⟩
      · rw[o9] at h;exact SeqAt.EqAt.str_int x t j u _ _ _ _ h
      · rw[o0] at h;exact wpAny_eqBool_str h
  «strs» := fun k x t v h=>by
    rcases cs h with⟨i,u,rfl,e⟩ | ⟨y,u,rfl,e⟩
    · exact nomatch e
    · injection e with e1 _
      subst e1
      cases v <;> rfl
theorem oa(prog:Program)(w:World)(i:Int)(t:Tok):(b7 prog w).is (.inl i) (.int i t)=true:=nX i t
theorem oe(prog:Program)(w:World)(x:Str)(t:Tok):(b7 prog w).is (.inr x) (.str x t)=true:=nY x t
end L2
namespace L2
open PySem PySem.Spec PyProof.Rows
inductive V where
  | non | bl (b:Bool) | int (i:Int) | str (x:Str) | byt (b:Array UInt8) | flt (b:UInt64) | ref (a:Addr) | ty (n:String)
  deriving DecidableEq
def RelV:V->Value->Prop
  | .non,u=>u=Value.none
  | .bl b,u=>u=Value.bool b
  | .int i,u=>∃ t,u=Value.int i t
  | .str x,u=>∃ t,u=Value.str x t
  | .byt b,u=>∃ t,u=Value.bytes b t
  | .flt b,u=>∃ t,u=Value.float b t
  | .ref a,u=>u=Value.ref a
  | .ty n,u=>u=Value.type n
abbrev Vals:List V->List Value->Prop:=Paired RelV
theorem Vals.length{xs:List V}{us:List Value}(r:Vals xs us):xs.length=us.length:=Paired.length r
theorem Vals.get:∀ {xs:List V} {us:List Value} {i:Nat} {x:V},Vals xs us->xs[i]?=some x->∃ u,us[i]?=some u/\RelV x u
  | _,_,_,_,.nil,e=>by simp at e
  | _,_,0,_,.cons r _,e=>by simp at e;subst e;exact⟨_,rfl,r⟩
  | _,_,i+1,x,.cons _ t,e=>by
    obtain⟨u,h1,h2⟩:=Vals.get (i:=i) (x:=x) t (by simpa using e)
    exact⟨u,by simpa using h1,h2⟩
theorem Vals.set{x:V}{u:Value}(r:RelV x u):∀ {xs:List V} {us:List Value} (i:Nat),Vals xs us->Vals (xs.set i x) (us.set i u)
  | _,_,_,.nil=>.nil
  | _,_,0,.cons _ t=>.cons r t
  | _,_,i+1,.cons q t=>.cons q (Vals.set r i t)
theorem Vals.append:∀ {xs ys:List V} {us ws:List Value},Vals xs us->Vals ys ws->Vals (xs++ys) (us++ws)
  | _,_,_,_,.nil,s=>s
  | _,_,_,_,.cons r t,s=>.cons r (Vals.append t s)
theorem Vals.take:∀ {xs:List V} {us:List Value} (n:Nat),Vals xs us->Vals (xs.take n) (us.take n)
  | _,_,0,_=>.nil
  | _,_,_+1,.nil=>.nil
  | _,_,n+1,.cons r t=>.cons r (Vals.take n t)
theorem Vals.drop:∀ {xs:List V} {us:List Value} (n:Nat),Vals xs us->Vals (xs.drop n) (us.drop n)
  | _,_,0,r=>r
  | _,_,_+1,.nil=>.nil
  | _,_,n+1,.cons _ t=>Vals.drop n t
def RelO:Option V->Option Value->Prop
  | some v,some u=>RelV v u
  | none,none=>True
  | _,_=>False
def KV{κ:Type}:List (κ × V)->List (κ × Value)->Prop:=Paired fun (p:κ × V) (q:κ × Value)=>p.1=q.1/\RelV p.2 q.2
def kV:Key->V
  | .inl i=>.int i
  | .inr x=>.str x
inductive HO where
  | lst (xs:List V)
  | tup (xs:List V)
  | dK (kvs:List (Key × V)) | dT (kvs:List (List Key × V))
  | set (S:Int->Bool) (n:Nat)
  | ins (C dx:Addr) (fs:List (Str × V))
  | own (x:Addr)
  | xd (fs:List (Str × V))
  | met (f x:Addr)
  | rng (lo hi:Int)
  | frz (o:Obj) (u:HO)
  | tbl (ps:Array Value)
  | ext (φ:Heap->Prop)
abbrev Hp:=Addr->Option HO
def upd(H:Hp)(a:Addr)(o:HO):Hp:=fun b=>if b=a then some o else H b
theorem aK{H:Hp}{a:Addr}{o:HO}:upd H a o a=some o:=by unfold upd;rw[if_pos rfl]
theorem ai{H:Hp}{a b:Addr}{o:HO}(h:b ≠ a):upd H a o b=H b:=by unfold upd;rw[if_neg h]
theorem og{H:Hp}{a:Addr}{o u:HO}:upd (upd H a o) a u=upd H a u:=by
  funext b;unfold upd;split <;> rfl
theorem jD{H:Hp}{a b:Addr}{o u:HO}(h:H a=some o)(h':H b=some u)(d:o ≠ u):a ≠ b:=by
  intro e;subst e;rw[h] at h';exact d (Option.some.inj h')
theorem b8{H:Hp}{a b:Addr}{o:HO}(h:H a=some o)(h':H b=none):a ≠ b:=by
  intro e;subst e;rw[h] at h';cases h'
section
variable (P:Program) (w:World)
def ObjOk(H:Hp)(h:Heap)(a:Addr):HO->Prop
  | .lst xs=>xs.length<=sizeLine/\∃ (its:List Value) (n:Nat),Vals xs its/\h.get? a=some { cls:=.type "list",data:=.seq its.toArray n }
  | .tup xs=>xs.length<=sizeLine/\∃ its:List Value,Vals xs its/\IsTup h a its.toArray
  | .dK kvs=>kvs.length<=sizeLine/\(a == sysModules)=false/\∃ vs,KV kvs vs/\h.DictOf (b7 P w) a vs
  | .dT kvs=>kvs.length<=sizeLine/\(a == sysModules)=false/\∃ xs:List (List Key × Addr × Value),
      Paired (fun (p:List Key × V) (q:List Key × Addr × Value)=>p.1=q.1/\H q.2.1=some (.tup (p.1.map kV))/\RelV p.2 q.2.2) kvs xs /\
      ∃ o es ep,h.get? a=some o/\o.ExactDict/\o.data=.dict es ep/\es.toList=xs.map (entryOfKey (tupleKind (b7 P w)))/\(xs.map (·.1)).Nodup
  | .set S n=>h.SetOf (intKind P w) a S n
  | .ins C dx fs=>H dx=some (.own a)/\fs.length<=1000/\dx ≠ a/\h.get? a=some (PySem.W.instObj C dx) /\
      ∃ mA,h.Ns1 dx mA/\(∀ f,RelO (fs.lookup f) (mA f))/\PySem.Within mA (fs.map (·.1))
  | .own _=>∃ o,h.get? a=some o
  | .xd fs=>∃ mA,h.Ns1 a mA/\∀ f,RelO (fs.lookup f) (mA f)
  | .rng lo hi=>∃ t u v,h.get? a=some { cls:=.type "range",data:=.fields #[.int lo t,.int hi u,.int 1 v] }
  | .frz o u=>h.get? a=some o/\ObjOk H h a u
  | .tbl ps=>h.get? a=some { cls:=.none,data:=.fields ps }
  | .met f x=>h.get? a=some (PySem.W.methodObj (.ref f) (.ref x))
  | .ext φ=>φ h/\(∃ o,h.get? a=some o)/\∀ h1 h2:Heap,φ h1->(∀ o,h1.get? a=some o->h2.get? a=some o)->φ h2
def HOk(H:Hp)(h:Heap):Prop:=∀ a o,H a=some o->ObjOk P w H h a o
end
section
variable {P:Program} {w:World} {H H':Hp} {h h':Heap} {a:Addr} {o:HO}
theorem ObjOk.lt(x:ObjOk P w H h a o):a < h.objs.size:=by
  cases o with
  | lst xs=>obtain⟨_,_,_,_,e⟩:=x;exact Heap.lt_size e
  | tup xs=>obtain⟨_,_,_,p⟩:=x;exact p.lt
  | dK kvs=>obtain⟨_,_,_,_,o,_,_,e,_⟩:=x;exact Heap.lt_size e
  | dT kvs=>obtain⟨_,_,_,_,o,_,_,e,_⟩:=x;exact Heap.lt_size e
  | set S n=>obtain⟨o,_,_,_,e,_⟩:=x;exact Heap.lt_size e
  | ins C dx fs=>obtain⟨_,_,_,e,_⟩:=x;exact Heap.lt_size e
  | own y=>obtain⟨_,e⟩:=x;exact Heap.lt_size e
  | xd fs=>obtain⟨_,⟨_,_,_,e,_⟩,_⟩:=x;exact Heap.lt_size e
  | rng lo hi=>obtain⟨_,_,_,e⟩:=x;exact Heap.lt_size e
  | frz ob u=>obtain⟨e,_⟩:=x;exact Heap.lt_size e
  | tbl ps=>exact Heap.lt_size (show h.get? a=some _ from x)
  | met f y=>exact Heap.lt_size (show h.get? a=some _ from x)
  | ext φ=>obtain⟨_,⟨_,e⟩,_⟩:=x;exact Heap.lt_size e
theorem Paired.mapP{α β:Type}{F G:α->β->Prop}:∀ {l₁:List α} {l₂:List β},Paired F l₁ l₂->(∀ a b,F a b->G a b)->Paired G l₁ l₂
  | _,_,.nil,_=>.nil
  | _,_,.cons r t,f=>.cons (f _ _ r) (Paired.mapP t f)
theorem ObjOk.stay(x:ObjOk P w H h a o)(k:∀ b u,(b=a\/H b=some (.own a))->h.get? b=some u->h'.get? b=some u)(ho:∀ b,H b=some (.own a)->H' b=some (.own a))(ht:∀ b xs,H b=some (.tup xs)->H' b=some (.tup xs)):ObjOk P w H' h' a o:=by
  induction o with
  | lst xs=>obtain⟨z,its,n,r,e⟩:=x;exact⟨z,its,n,r,k _ _ (.inl rfl) e⟩
  | tup xs=>obtain⟨z,its,r,ob,e,c⟩:=x;exact⟨z,its,r,ob,k _ _ (.inl rfl) e,c⟩
  | dK kvs=>obtain⟨z,y,vs,r,ob,es,ep,e,c⟩:=x;exact⟨z,y,vs,r,ob,es,ep,k _ _ (.inl rfl) e,c⟩
  | dT kvs =>
    obtain⟨z,y,xs,r,ob,es,ep,e,c⟩:=x
    exact⟨z,y,xs,Paired.mapP r fun p q z=>⟨z.1,ht _ _ z.2.1,z.2.2⟩,ob,es,ep,k _ _ (.inl rfl) e,c⟩
  | set S n=>obtain⟨ob,es,ep,t,e,c⟩:=x;exact⟨ob,es,ep,t,k _ _ (.inl rfl) e,c⟩
  | ins C dx fs =>
    obtain⟨d,z,ne,e,mA,⟨od,es,ep,e2,c⟩,r⟩:=x
    exact⟨ho _ d,z,ne,k _ _ (.inl rfl) e,mA,⟨od,es,ep,k _ _ (.inr d) e2,c⟩,r⟩
  | own y=>obtain⟨ob,e⟩:=x;exact⟨ob,k _ _ (.inl rfl) e⟩
  | xd fs=>obtain⟨mA,⟨od,es,ep,e,c⟩,r⟩:=x;exact⟨mA,⟨od,es,ep,k _ _ (.inl rfl) e,c⟩,r⟩
  | rng lo hi=>obtain⟨t,u,v,e⟩:=x;exact⟨t,u,v,k _ _ (.inl rfl) e⟩
  | frz ob u ih=>obtain⟨e,q⟩:=x;exact⟨k _ _ (.inl rfl) e,ih q⟩
  | tbl ps =>
    have e:h.get? a=some { cls:=.none,data:=.fields ps }:=x
    show h'.get? a=some { cls:=.none,data:=.fields ps }
    exact k a _ (.inl rfl) e
  | met f y =>
    have e:h.get? a=some (PySem.W.methodObj (.ref f) (.ref y)):=x
    show h'.get? a=some (PySem.W.methodObj (.ref f) (.ref y))
    exact k a _ (.inl rfl) e
  | ext φ=>obtain⟨p,⟨o,e⟩,st⟩:=x;exact⟨st _ _ p fun o q=>k _ _ (.inl rfl) q,⟨o,k _ _ (.inl rfl) e⟩,st⟩
theorem HOk.lt(x:HOk P w H h)(e:H a=some o):a < h.objs.size:=(x a o e).lt
theorem HOk.fresh(x:HOk P w H h)(e:h.objs.size<=a):H a=none:=by
  cases q:H a with
  | none=>rfl
  | some u=>exact absurd (Nat.lt_of_lt_of_le (x.lt q) e) (Nat.lt_irrefl _)
theorem HOk.kept(x:HOk P w H h)(k:∀ b u,h.get? b=some u->h'.get? b=some u):HOk P w H h':=fun a o e =>
  (x a o e).stay (fun b u _ q=>k b u q) (fun _ q=>q) fun _ _ q=>q
theorem HOk.laid(x:HOk P w H h)(k:∀ b u,h.get? b=some u->h'.get? b=some u)(hp:h.objs.size<=a)(new:ObjOk P w (upd H a o) h' a o):HOk P w (upd H a o) h':=fun b u e=>by
  have hn:=x.fresh hp
  by_cases hb:b=a
  · subst hb;rw[aK] at e;cases e;exact new
  · rw[ai hb] at e
    exact (x b u e).stay (fun c v _ q=>k c v q) (fun c q=>by rw[ai (b8 q hn)];exact q) fun c xs q=>by rw[ai (b8 q hn)];exact q
end
def Rd(H:Hp)(a:Addr)(u:HO):Prop:=H a=some u\/∃ o,H a=some (.frz o u)
theorem Rd.of{H:Hp}{a:Addr}{u:HO}(h:H a=some u):Rd H a u:=.inl h
theorem Rd.ok{P:Program}{w:World}{H:Hp}{h:Heap}{a:Addr}{u:HO}(r:Rd H a u)(x:HOk P w H h):ObjOk P w H h a u:=by
  rcases r with r | ⟨o,r⟩
  · exact x a u r
  · obtain⟨_,q⟩:=x a _ r
    exact q
def Mut:Option HO->Prop
  | some (.lst _)=>True
  | some (.dK _)=>True
  | some (.dT _)=>True
  | some (.set _ _)=>True
  | some (.ins _ _ _)=>True
  | some (.ext _)=>True
  | _=>False
section
variable {P:Program} {w:World} {H:Hp} {h h':Heap} {x e:Addr} {o':HO}
theorem HOk.write(ok:HOk P w H h)(mu:Mut (H x))(he:e=x\/H e=some (.own x))(k:∀ b u,b ≠ e->h.get? b=some u->h'.get? b=some u)(heo:∃ u,h'.get? e=some u)(new:ObjOk P w (upd H x o') h' x o'):HOk P w (upd H x o') h':=fun b u q=>by
  have nown:∀ c y,H c=some (.own y)->c ≠ x:=fun c y r z=>by subst z;rw[r] at mu;exact mu
  have ntup:∀ c xs,H c=some (.tup xs)->c ≠ x:=fun c xs r z=>by subst z;rw[r] at mu;exact mu
  by_cases hb:b=x
  · subst hb;rw[aK] at q;cases q;exact new
  · rw[ai hb] at q
    by_cases hbe:b=e
    · have q':H b=some (.own x):=by
        rcases he with z | z
        · exact absurd (hbe.trans z) hb
        · rw[hbe];exact z
      rw[q] at q';cases q'
      obtain⟨v,hv⟩:=heo
      exact⟨v,by rw[hbe];exact hv⟩
    · refine (ok b u q).stay (fun c v hc r=>k c v ?_ r) (fun c r=>by rw[ai (nown c b r)];exact r) fun c xs r=>by rw[ai (ntup c xs r)];exact r
      rcases hc with rfl | hc
      · exact hbe
      · rintro rfl
        rcases he with z | z
        · exact nown c b hc z
        · rw[hc] at z;cases z;exact hb rfl
end
structure Un (fs ex:List Addr) (H H':Hp) (h h':Heap):Prop where
  keep:∀ b o,h.get? b=some o->H b=none->b ∉ fs->b ∉ ex->h'.get? b=some o
  slot:∀ b o,h.get? b=some o->H b=none->b ∈ fs->b ∉ ex->∃ sl,h'.get? b=some { o with slots:=sl }
  free:∀ b o,h.get? b=some o->H b=none->b ∉ ex->H' b=none
  there:∀ b o,h.get? b=some o->b ∉ ex->∃ o',h'.get? b=some o'
  tups:∀ b xs,H b=some (.tup xs)->H' b=some (.tup xs)
  frzs:∀ b o u,H b=some (.frz o u)->H' b=some (.frz o u)
  tbls:∀ b ps,H b=some (.tbl ps)->∃ more,H' b=some (.tbl (ps++more))
section
variable {fs fs' ex ex':List Addr} {H H1 H2:Hp} {h h1 h2 h':Heap} {a x e:Addr} {o:HO}
theorem Un.any(u:Un fs ex H H1 h h1){b:Addr}{ob:Obj}(q:h.get? b=some ob)(n:H b=none)(hx:b ∉ ex):∃ sl,h1.get? b=some { ob with slots:=sl }:=by
  by_cases hb:b ∈ fs
  · exact u.slot b ob q n hb hx
  · exact⟨ob.slots,u.keep b ob q n hb hx⟩
theorem Un.trans(a:Un fs ex H H1 h h1)(b:Un fs ex H1 H2 h1 h2):Un fs ex H H2 h h2 where
  keep:=fun c ob q n hc hx=>b.keep c ob (a.keep c ob q n hc hx) (a.free c ob q n hx) hc hx
  slot:=fun c ob q n hc hx=>by
    obtain⟨sl,e1⟩:=a.slot c ob q n hc hx
    obtain⟨sl',e2⟩:=b.slot c _ e1 (a.free c ob q n hx) hc hx
    exact⟨sl',e2⟩
  free:=fun c ob q n hx=>by
    obtain⟨o',e1⟩:=a.there c ob q hx
    exact b.free c o' e1 (a.free c ob q n hx) hx
  there:=fun c ob q hx=>by
    obtain⟨o',e1⟩:=a.there c ob q hx
    exact b.there c o' e1 hx
  tups:=fun c xs q=>b.tups c xs (a.tups c xs q)
  frzs:=fun c ob xs q=>b.frzs c ob xs (a.frzs c ob xs q)
  tbls:=fun c ps q=>by
    obtain⟨m1,e1⟩:=a.tbls c ps q
    obtain⟨m2,e2⟩:=b.tbls c _ e1
    exact⟨m1++m2,by rw[e2,Array.append_assoc]⟩
theorem Un.kept(k:∀ b u,h.get? b=some u->h'.get? b=some u):Un fs ex H H h h' :=
  ⟨fun b ob q _ _ _=>k b ob q,fun b ob q _ _ _=>⟨ob.slots,k b ob q⟩,fun _ _ _ n _=>n,fun b ob q _=>⟨ob,k b ob q⟩,fun _ _ q=>q,fun _ _ _ q=>q,fun _ ps q=>⟨#[],by rw[q];simp⟩⟩
theorem Un.refl:Un fs ex H H h h:=Un.kept fun _ _ q=>q
theorem Un.laid(k:∀ b u,h.get? b=some u->h'.get? b=some u)(hp:h.objs.size<=a)(hn:H a=none):Un fs ex H (upd H a o) h h' where
  keep:=fun b u q _ _ _=>k b u q
  slot:=fun b u q _ _ _=>⟨u.slots,k b u q⟩
  free:=fun b u q n _=>by rw[ai (Nat.ne_of_lt (Nat.lt_of_lt_of_le (Heap.lt_size q) hp))];exact n
  there:=fun b u q _=>⟨u,k b u q⟩
  tups:=fun b xs q=>by rw[ai (b8 q hn)];exact q
  frzs:=fun b u xs q=>by rw[ai (b8 q hn)];exact q
  tbls:=fun b ps q=>⟨#[],by rw[ai (b8 q hn),q];simp⟩
theorem Un.write(mu:Mut (H x))(he:e=x\/H e=some (.own x))(k:∀ b u,b ≠ e->h.get? b=some u->h'.get? b=some u)(heo:∃ u,h'.get? e=some u):Un fs ex H (upd H x o) h h':=by
  have hx:∀ b,H b=none->b ≠ x:=fun b n z=>by subst z;rw[n] at mu;exact mu
  have hb:∀ b,H b=none->b ≠ e:=fun b n z=>by
    subst z
    rcases he with r | r
    · exact hx b n r
    · rw[n] at r;cases r
  have hm:∀ b u,H b=some u->¬ Mut (some u)->b ≠ x:=fun b u q nm z=>by subst z;rw[q] at mu;exact nm mu
  refine⟨fun b u q n _ _=>k b u (hb b n) q,fun b u q n _ _=>⟨u.slots,k b u (hb b n) q⟩,fun b u q n _=>by rw[ai (hx b n)];exact n,fun b u q _=>?_,
    fun b xs q=>by rw[ai (hm b _ q fun z=>z)];exact q,fun b u xs q=>by rw[ai (hm b _ q fun z=>z)];exact q,fun b ps q=>⟨#[],by rw[ai (hm b _ q fun z=>z),q];simp⟩⟩
  by_cases hbe:b=e
  · subst hbe;exact heo
  · exact⟨u,k b u hbe q⟩
theorem Un.mono(u:Un fs ex H H1 h h1)(hs:∀ b ∈ fs,b ∈ fs')(hx:∀ b ∈ ex,b ∈ ex'):Un fs' ex' H H1 h h1 :=
  ⟨fun b ob q n hb he=>u.keep b ob q n (fun z=>hb (hs b z)) fun z=>he (hx b z),fun _ _ q n _ he=>u.any q n fun z=>he (hx _ z),fun b ob q n he=>u.free b ob q n fun z=>he (hx b z),fun b ob q he=>u.there b ob q fun z=>he (hx b z),u.tups,u.frzs,u.tbls⟩
end
def trk(h:Heap)(H:Hp):List Addr:=(List.range h.objs.size).filter fun a=>(H a).isSome
def cu(h:Heap)(H:Hp):Heap:=PySem.W.hideAll h (trk h H)
theorem oh(h:Heap)(H:Hp):(cu h H).objs.size=h.objs.size:=PySem.W.hideAll_size _ _
theorem oi{h:Heap}{H:Hp}{b:Addr}{o:Obj}(e:h.get? b=some o)(n:H b=none):(cu h H).get? b=some o :=
  PySem.W.hideAll_get _ e fun hm=>by
    have q:(H b).isSome=true:=(List.mem_filter.mp hm).2
    rw[n] at q;simp at q
theorem oj{h:Heap}{H:Hp}{b:Addr}{o:Obj}(e:(cu h H).get? b=some o):h.get? b=some o/\H b=none:=by
  have e':h.get? b=some o:=PySem.W.of_hideAll (trk h H) e
  refine⟨e',?_⟩
  cases q:H b with
  | none=>rfl
  | some x =>
    have hm:b ∈ trk h H:=List.mem_filter.mpr ⟨List.mem_range.mpr (Heap.lt_size e'),by simp[q]⟩
    have z:(cu h H).get? b=none:=PySem.W.hideAll_none (trk h H) hm
    rw[z] at e;cases e
def ol(g h:Heap)(L:Addr):List (Addr × Obj):=(List.range h.objs.size).filterMap fun a=>if a=L\/(g.get? a).isSome=true then none else (h.get? a).map fun o=>(a,o)
def ak(g h:Heap)(L d:Addr):List (Addr × Obj):=(ol g h L).filter fun p=>decide (p.1 ≠ d)
end L2
namespace L2
open PySem PySem.Spec PyProof.Rows
structure Mod (K:PySem.W.Frag) (mg:Str->Option Value) (base:Heap):Prop where
  kin:K.In base
  glob:base.Ns mainGlobals mg
  blt:∃ mb,base.Ns builtinsNs mb/\∀ x:Str,x ≠ "__name__"->mb x=bootBuiltins x
  nolimit:base.NoLimit
structure Cx where
  prog:Program
  w:World
  K:PySem.W.Frag
  mg:Str->Option Value
  base:Heap
  A:Around
  N:List Str
  s₀:Shared
  H₀:Hp
  env:Env
  outer:List Env
  stack:List Env
  ex:List Addr
  fn:Str->Bool
  calm:Bool
  pn:List (Addr × Obj)
  xe:Value->Shared->Prop
def frs(l:List Env):List Addr:=l.filterMap (·.frame)
abbrev Cx.fs(X:Cx):List Addr:=frs X.outer
def Vis(sc:Scope)(x:Str):Prop:=sc.names.lookup x=some .local\/sc.names.lookup x=some .cell\/sc.names.lookup x=some .free
def Loc(sc:Scope)(x:Str):Prop:=sc.names.lookup x=some .local\/sc.names.lookup x=some .cell
def om(env:Env)(h:Heap)(m:Str->Option Value)(x:Str)(u:Value):Prop :=
  (env.kindOf x=some .local/\m x=some u)\/((env.kindOf x=some .cell\/env.kindOf x=some .free)/\∃ c,env.cells.lookup x=some c/\h.IsCell c (some u))
structure Cx.Ok (X:Cx):Prop where
  mod:Mod X.K X.mg X.base
  kind:X.env.scope.kind=.function
  glob:X.env.globals=mainGlobals
  blt:X.env.builtins=builtinsNs
  above:X.s₀.heap.objs.size<=X.env.locals
  inj:∀ x y c,X.env.cells.lookup x=some c->X.env.cells.lookup y=some c->x=y
  has:∀ x,(X.env.kindOf x=some .cell\/X.env.kindOf x=some .free)->∃ c,X.env.cells.lookup x=some c
  cab:∀ x c,X.fn x=true->X.env.cells.lookup x=some c->X.s₀.heap.objs.size<=c
  hd:X.calm=true->X.A.handled=none
  frames:X.A.frames=some X.stack
  stk:X.stack=X.outer\/(X.stack=X.env::X.outer/\X.env.frame=some X.env.locals)
  exf:∀ b ∈ X.ex,b ≠ X.env.locals/\∀ x c,X.env.cells.lookup x=some c->c ≠ b
  bs:∀ b o,X.base.get? b=some o->X.s₀.heap.get? b=some o/\X.H₀ b=none
  bsz:X.base.objs.size<=X.s₀.heap.objs.size
  noex:∀ b o,X.base.get? b=some o->b ∉ X.ex
  exfs:∀ b ∈ X.ex,b ∉ X.fs
  funs:X.s₀.heap.FunFrames X.base X.outer
  frf:∀ b ∈ X.fs,X.H₀ b=none
structure Inv (X:Cx) (pins:List (Addr × Obj)) (σ:List (Option V)) (H:Hp) (s:Shared):Prop where
  ok:X.Ok
  os:s.os=X.s₀.os
  bare:AllBare s.gens
  base:Un X.fs X.ex X.H₀ H X.s₀.heap s.heap
  loc:∃ m,s.heap.Ns X.env.locals m/\∀ (i:Nat) (x:Str) (v:V),X.N[i]?=some x->σ[i]?=some (some v)->Vis X.env.scope x->∃ u,RelV v u/\om X.env s.heap m x u
  cell:∀ x c,X.env.cells.lookup x=some c->∃ v,s.heap.IsCell c v
  free:H X.env.locals=none
  freeC:∀ x c,X.env.cells.lookup x=some c->H c=none
  pin:∀ p ∈ X.pn++pins,s.heap.get? p.1=some p.2/\H p.1=none/\p.1 ≠ X.env.locals/\p.1 ∉ X.fs/\∀ v,p.2.data ≠ .cell v
  hok:HOk X.prog X.w H s.heap
  len:σ.length=X.N.length
section
variable {X:Cx} {pins:List (Addr × Obj)} {σ:List (Option V)} {H H':Hp} {s:Shared} {h':Heap}
theorem Cx.Ok.nofr(ok:X.Ok){b:Addr}{o:Obj}(e:X.base.get? b=some o):b ∉ X.fs:=fun hb=>by
  have:=(ok.funs.mem hb).1
  rw[e] at this;cases this
theorem Inv.bs(I:Inv X pins σ H s):∀ b o,X.base.get? b=some o->s.heap.get? b=some o/\H b=none:=fun b o e =>
  ⟨I.base.keep b o (I.ok.bs b o e).1 (I.ok.bs b o e).2 (I.ok.nofr e) (I.ok.noex b o e),I.base.free b o (I.ok.bs b o e).1 (I.ok.bs b o e).2 (I.ok.noex b o e)⟩
theorem Inv.bk(I:Inv X pins σ H s):∀ b o,X.base.get? b=some o->s.heap.get? b=some o:=fun b o e=>(I.bs b o e).1
theorem Inv.mod(I:Inv X pins σ H s):Mod X.K X.mg X.base:=I.ok.mod
theorem Inv.kIn(I:Inv X pins σ H s):X.K.In s.heap:=I.ok.mod.kin.keeps I.bk
theorem Inv.nolimit(I:Inv X pins σ H s):s.heap.NoLimit:=I.ok.mod.nolimit.keeps I.bk
theorem Inv.fr(I:Inv X pins σ H s):∃ m,Fr X.base X.env.locals s.heap m :=
  let ⟨m,hn,_⟩:=I.loc
  ⟨m,hn,I.bk,Nat.le_trans I.ok.bsz I.ok.above⟩
theorem Inv.lt(I:Inv X pins σ H s):X.env.locals < s.heap.objs.size:=let ⟨_,hn,_⟩:=I.loc;hn.lt
theorem Inv.sz(I:Inv X pins σ H s):X.s₀.heap.objs.size<=s.heap.objs.size:=Nat.le_trans I.ok.above (Nat.le_of_lt I.lt)
theorem Inv.nofs(I:Inv X pins σ H s){a:Addr}(h:s.heap.objs.size<=a):a ∉ X.fs:=fun hb=>by
  obtain⟨_,o,ho,_⟩:=I.ok.funs.mem hb
  exact absurd (Nat.lt_of_lt_of_le (Heap.lt_size ho) (Nat.le_trans I.sz h)) (Nat.lt_irrefl _)
theorem Inv.cne(I:Inv X pins σ H s):∀ x c,X.env.cells.lookup x=some c->c ≠ X.env.locals:=fun x c e z=>by
  obtain⟨v,o,ho,hd⟩:=I.cell x c e
  obtain⟨m,⟨o',es,ep,ho',hd',_⟩,_⟩:=I.loc
  rw[z,ho'] at ho;cases ho;rw[hd'] at hd;cases hd
theorem Inv.funs(I:Inv X pins σ H s):s.heap.FunFrames X.base X.outer:=by
  have all:∀ (l:List Env),(∀ b ∈ frs l,b ∈ X.fs)->X.s₀.heap.FunFrames X.base l->s.heap.FunFrames X.base l:=by
    intro l
    induction l with
    | nil=>intro _ _;trivial
    | cons env r ih =>
      intro hs hl
      obtain⟨hk,⟨L,o,hf,hn,ho,hd⟩,hr⟩:=hl
      have hL:L ∈ X.fs:=hs L (by unfold frs;rw[List.filterMap_cons,hf];exact List.mem_cons_self)
      obtain⟨sl,e⟩:=I.base.slot L o ho (I.ok.frf L hL) hL fun z=>I.ok.exfs L z hL
      exact⟨hk,⟨L,_,hf,hn,e,hd⟩,ih (fun b hb=>hs b (by unfold frs;rw[List.filterMap_cons,hf];exact List.mem_cons_of_mem _ hb)) hr⟩
  exact all X.outer (fun _ hb=>hb) I.ok.funs
theorem Inv.stack(I:Inv X pins σ H s):s.heap.FunFrames X.base X.stack:=by
  rcases I.ok.stk with e | ⟨e,hf⟩
  · rw[e];exact I.funs
  · rw[e]
    obtain⟨m,hn,_⟩:=I.loc
    refine .cons (by rw[I.ok.kind];decide) hf hn ?_ I.funs
    exact Heap.get?_none_of_le (Nat.le_trans I.ok.bsz I.ok.above)
theorem Inv.stkSub(I:Inv X pins σ H s):∀ b ∈ frs X.stack,b ∈ X.env.locals::X.fs:=fun b hb=>by
  rcases I.ok.stk with e | ⟨e,hf⟩
  · rw[e] at hb;exact List.mem_cons_of_mem _ hb
  · rw[e] at hb
    unfold frs at hb
    rw[List.filterMap_cons,hf] at hb
    exact hb
theorem Inv.stkFree(I:Inv X pins σ H s):∀ b ∈ frs X.stack,H b=none:=fun b hb=>by
  rcases List.mem_cons.mp (I.stkSub b hb) with e | hb
  · rw[e];exact I.free
  · obtain⟨_,o,ho,_⟩:=I.ok.funs.mem hb
    exact I.base.free b o ho (I.ok.frf b hb) fun z=>I.ok.exfs b z hb
theorem Inv.step{g':Array GenState}{t':Nat}{d':Drawn}{ch:List Addr}(I:Inv X pins σ H s)(hch:∀ b ∈ ch,(b ∈ X.ex\/X.s₀.heap.objs.size<=b)/\b ≠ X.env.locals/\(∀ x c,X.env.cells.lookup x=some c->c ≠ b)/\∀ p ∈ X.pn++pins,p.1 ≠ b)(keep:∀ b o,b ≠ X.env.locals->b ∉ X.fs->b ∉ ch->s.heap.get? b=some o->H b=none->h'.get? b=some o)(slot:∀ b o,b ≠ X.env.locals->b ∈ X.fs->b ∉ ch->s.heap.get? b=some o->H b=none->∃ sl,h'.get? b=some { o with slots:=sl })(free:∀ b o,b ∉ ch->s.heap.get? b=some o->H b=none->H' b=none)(there:∀ b o,b ∉ ch->s.heap.get? b=some o->∃ o',h'.get? b=some o')(tups:∀ b xs,H b=some (.tup xs)->H' b=some (.tup xs))(frzs:∀ b o u,H b=some (.frz o u)->H' b=some (.frz o u))(tbls:∀ b ps,H b=some (.tbl ps)->∃ more,H' b=some (.tbl (ps++more)))(ns:∀ m,s.heap.Ns X.env.locals m->h'.Ns X.env.locals m)(hok:HOk X.prog X.w H' h')(hg:AllBare g'):
    Inv X pins σ H' { s with heap:=h',gens:=g',drawn:=d',toks:=t' }:=by
  have neL:∀ b o,X.s₀.heap.get? b=some o->b ≠ X.env.locals:=fun b o e=>Nat.ne_of_lt (Nat.lt_of_lt_of_le (Heap.lt_size e) I.ok.above)
  have neC:∀ b o,X.s₀.heap.get? b=some o->b ∉ X.ex->b ∉ ch:=fun b o e hx hb=>by
    rcases (hch b hb).1 with z | z
    · exact hx z
    · exact absurd (Nat.lt_of_lt_of_le (Heap.lt_size e) z) (Nat.lt_irrefl _)
  have cellK:∀ x c,X.env.cells.lookup x=some c->∀ v,s.heap.IsCell c v->h'.IsCell c v:=fun x c e v ⟨o,ho,hd⟩=>by
    have nch:c ∉ ch:=fun z=>(hch c z).2.2.1 x c e rfl
    by_cases hc:c ∈ X.fs
    · obtain⟨sl,q⟩:=slot c o (I.cne x c e) hc nch ho (I.freeC x c e)
      exact⟨_,q,hd⟩
    · exact⟨o,keep c o (I.cne x c e) hc nch ho (I.freeC x c e),hd⟩
  refine⟨I.ok,I.os,hg,⟨fun b o e n hb hx=>?_,fun b o e n hb hx=>?_,fun b o e n hx=>?_,fun b o e hx=>?_,fun b xs e=>tups b xs (I.base.tups b xs e),fun b o xs e=>frzs b o xs (I.base.frzs b o xs e),fun b ps e=>?_⟩,?_,fun x c e=>?_,?_,fun x c e=>?_,fun p hp=>?_,hok,I.len⟩
  · exact keep b o (neL b o e) hb (neC b o e hx) (I.base.keep b o e n hb hx) (I.base.free b o e n hx)
  · obtain⟨sl,e1⟩:=I.base.slot b o e n hb hx
    obtain⟨sl',e2⟩:=slot b _ (neL b o e) hb (neC b o e hx) e1 (I.base.free b o e n hx)
    exact⟨sl',e2⟩
  · obtain⟨o',e1⟩:=I.base.there b o e hx
    exact free b o' (neC b o e hx) e1 (I.base.free b o e n hx)
  · obtain⟨o',e1⟩:=I.base.there b o e hx
    exact there b o' (neC b o e hx) e1
  · obtain⟨m1,e1⟩:=I.base.tbls b ps e
    obtain⟨m2,e2⟩:=tbls b _ e1
    exact⟨m1++m2,by rw[e2,Array.append_assoc]⟩
  · obtain⟨m,hn,hl⟩:=I.loc
    refine⟨m,ns m hn,fun i x v e1 e2 e3=>?_⟩
    obtain⟨u,r,l⟩:=hl i x v e1 e2 e3
    refine⟨u,r,?_⟩
    rcases l with l | ⟨k,c,e,z⟩
    · exact .inl l
    · exact .inr ⟨k,c,e,cellK x c e _ z⟩
  · obtain⟨v,z⟩:=I.cell x c e
    exact⟨v,cellK x c e v z⟩
  · obtain⟨m,⟨o,_,_,ho,_⟩,_⟩:=I.loc
    exact free _ o (fun z=>(hch _ z).2.1 rfl) ho I.free
  · obtain⟨v,o,ho,hd⟩:=I.cell x c e
    exact free c o (fun z=>(hch c z).2.2.1 x c e rfl) ho (I.freeC x c e)
  · obtain⟨e,n,ne,nf,d⟩:=I.pin p hp
    have nch:p.1 ∉ ch:=fun z=>(hch p.1 z).2.2.2 p hp rfl
    exact⟨keep p.1 p.2 ne nf nch e n,free p.1 p.2 nch e n,ne,nf,d⟩
theorem Inv.un{t':Nat}(I:Inv X pins σ H s)(u:Un X.fs [] H H' s.heap h')(hok:HOk X.prog X.w H' h'):Inv X pins σ H' { s with heap:=h',toks:=t' }:=by
  obtain⟨m,⟨o,es,ep,ho,r⟩,_⟩:=id I.loc
  obtain⟨sl,hL⟩:=u.any ho I.free (by simp)
  exact I.step (g':=s.gens) (d':=s.drawn) (ch:=[]) (fun _ z=>nomatch z) (fun b o _ hb _ e n=>u.keep b o e n hb (by simp)) (fun b o _ hb _ e n=>u.slot b o e n hb (by simp)) (fun b o _ e n=>u.free b o e n (by simp)) (fun b o _ e=>u.there b o e (by simp)) u.tups u.frzs u.tbls (fun m' hm=>by
    obtain⟨o',es',ep',ho',r'⟩:=hm
    rw[ho] at ho';cases ho'
    exact⟨_,es',ep',hL,r'⟩) hok I.bare
theorem Inv.call{g':Array GenState}{t':Nat}{d':Drawn}{ch:List Addr}(I:Inv X pins σ H s)(u:Un (frs X.stack) ch H H' s.heap h')(hok:HOk X.prog X.w H' h')(hg:AllBare g')(hch:∀ b ∈ ch,(b ∈ X.ex\/X.s₀.heap.objs.size<=b)/\b ≠ X.env.locals/\(∀ x c,X.env.cells.lookup x=some c->c ≠ b)/\∀ p ∈ X.pn++pins,p.1 ≠ b):
    Inv X pins σ H' { s with heap:=h',gens:=g',drawn:=d',toks:=t' }:=by
  obtain⟨m,⟨o,es,ep,ho,r⟩,_⟩:=id I.loc
  obtain⟨sl,hL⟩:=u.any ho I.free fun z=>(hch _ z).2.1 rfl
  exact I.step (ch:=ch) hch (fun b o hL hb hc e n=>u.keep b o e n (fun z=>(List.mem_cons.mp (I.stkSub b z)).elim hL hb) hc) (fun b o _ _ hc e n=>u.any e n hc) (fun b o hc e n=>u.free b o e n hc) (fun b o hc e=>u.there b o e hc) u.tups u.frzs u.tbls (fun m' hm=>by
    obtain⟨o',es',ep',ho',r'⟩:=hm
    rw[ho] at ho';cases ho'
    exact⟨_,es',ep',hL,r'⟩) hok hg
theorem Inv.turned{t':Nat}{it:Addr}(I:Inv X pins σ H s)(k:∀ b o,b ≠ it->s.heap.get? b=some o->h'.get? b=some o)(hn:H it=none)(hL:it ≠ X.env.locals)(h1:it ∈ X.ex\/X.s₀.heap.objs.size<=it)(h2:∀ x c,X.env.cells.lookup x=some c->c ≠ it)(h3:∀ p ∈ X.pn++pins,p.1 ≠ it):Inv X pins σ H { s with heap:=h',toks:=t' }:=by
  have nit:∀ b u,H b=some u->b ≠ it:=fun b u e z=>by rw[z,hn] at e;cases e
  refine I.step (g':=s.gens) (d':=s.drawn) (ch:=[it]) (fun b hb=>?_) (fun b o _ _ hc e _=>k b o (fun z=>hc (by simp[z])) e) (fun b o _ _ hc e _=>⟨o.slots,k b o (fun z=>hc (by simp[z])) e⟩) (fun _ _ _ _ n=>n)
    (fun b o hc e=>⟨o,k b o (fun z=>hc (by simp[z])) e⟩) (fun _ _ e=>e) (fun _ _ _ e=>e) (fun b ps e=>⟨#[],by rw[e];simp⟩) (fun m hm=>?_) (fun b u e=>?_) I.bare
  · have e:b=it:=by simpa using hb
    subst e
    exact⟨h1,hL,h2,h3⟩
  · obtain⟨o,es,ep,ho,r⟩:=hm
    exact⟨o,es,ep,k _ o (Ne.symm hL) ho,r⟩
  · refine (I.hok b u e).stay (fun c v hc q=>k c v ?_ q) (fun _ q=>q) fun _ _ q=>q
    rcases hc with z | z
    · rw[z];exact nit b u e
    · exact nit c _ z
theorem Inv.tok(I:Inv X pins σ H s)(t:Nat):Inv X pins σ H { s with toks:=t }:=I.un (h':=s.heap) (t':=t) Un.refl I.hok
theorem Inv.kept{t':Nat}(I:Inv X pins σ H s)(k:∀ b u,s.heap.get? b=some u->h'.get? b=some u):Inv X pins σ H { s with heap:=h',toks:=t' }:=I.un (Un.kept k) (I.hok.kept k)
theorem Inv.laid{a:Addr}{o:HO}{t':Nat}(I:Inv X pins σ H s)(k:∀ b u,s.heap.get? b=some u->h'.get? b=some u)(hp:s.heap.objs.size<=a)(new:ObjOk X.prog X.w (upd H a o) h' a o):
    Inv X pins σ (upd H a o) { s with heap:=h',toks:=t' }:=I.un (Un.laid k hp (I.hok.fresh hp)) (I.hok.laid k hp new)
theorem Inv.write{x e:Addr}{o:HO}{t':Nat}(I:Inv X pins σ H s)(mu:Mut (H x))(he:e=x\/H e=some (.own x))(k:∀ b u,b ≠ e->s.heap.get? b=some u->h'.get? b=some u)(heo:∃ u,h'.get? e=some u)(new:ObjOk X.prog X.w (upd H x o) h' x o):Inv X pins σ (upd H x o) { s with heap:=h',toks:=t' }:=I.un (Un.write mu he k heo) (I.hok.write mu he k heo new)
theorem Inv.pins_of{pins':List (Addr × Obj)}(I:Inv X pins σ H s)(h:∀ p ∈ pins',s.heap.get? p.1=some p.2/\H p.1=none/\p.1 ≠ X.env.locals/\p.1 ∉ X.fs/\∀ v,p.2.data ≠ .cell v):Inv X pins' σ H s :=
  ⟨I.ok,I.os,I.bare,I.base,I.loc,I.cell,I.free,I.freeC,fun p hp=>(List.mem_append.mp hp).elim (fun z=>I.pin p (List.mem_append_left _ z)) (h p),I.hok,I.len⟩
theorem jE{N:List Str}(hN:N.Nodup){i j:Nat}{x:Str}(a:N[i]?=some x)(b:N[j]?=some x):i=j:=by
  obtain⟨h1,e1⟩:=List.getElem?_eq_some_iff.mp a
  obtain⟨h2,e2⟩:=List.getElem?_eq_some_iff.mp b
  exact (List.getElem_inj hN).mp (e1.trans e2.symm)
theorem jF{M:Model}{A:Around}{E:Value->Shared->Prop}{i:Nat}{x:Str}{v:V}{u:Value}{Q:Unit->Shared->Prop}(I:Inv X pins σ H s)(hN:X.N.Nodup)(hi:X.N[i]?=some x)(hx:Loc X.env.scope x)(r:RelV v u)(h:∀ s',Inv X pins (σ.set i (some v)) H s'->(∃ a,Heap.SameBut a s.heap s'.heap/\(a=X.env.locals\/X.env.cells.lookup x=some a))->Q () s')(hf:X.fn x=true\/X.env.scope.names.lookup x=some .local:=by first | exact .inl rfl | exact .inr rfl | assumption):wpAny M A (storeName X.env x u) Q E s:=by
  obtain⟨m,hn,hl⟩:=id I.loc
  have hcls:(X.env.scope.kind == .class || (X.env.scope.kind == .module && X.env.locals != X.env.globals))=false:=by rw[I.ok.kind];rfl
  have hiσ:i < σ.length:=by rw[I.len];exact (List.getElem?_eq_some_iff.mp hi).1
  have cne:=I.cne
  have tracked:∀ {a:Addr} {h':Heap},(∃ o,s.heap.get? a=some o/\H a=none)->Heap.SameBut a s.heap h'->HOk X.prog X.w H h':=fun {a h'} ha hs b ob e=>by
    obtain⟨_,_,hfree⟩:=ha
    refine (I.hok b ob e).stay (fun c w' hc q=>(hs.2 c ?_).trans q) (fun _ q=>q) fun _ _ q=>q
    rintro rfl
    rcases hc with rfl | hc
    · rw[hfree] at e;cases e
    · rw[hfree] at hc;cases hc
  rcases hx with hk | hk
  · refine wpAny_storeName_local hk hn (fun h' hn' hs=>?_) hcls
    obtain⟨oL,_,_,hoL,_⟩:=id hn
    refine h _ ⟨I.ok,I.os,I.bare,⟨fun b o e n hb hx=>?_,fun b o e n hb hx=>?_,I.base.free,fun b o e hx=>?_,I.base.tups,I.base.frzs,I.base.tbls⟩,⟨_,hn',fun j y v' e1 e2 e3=>?_⟩,fun y c e=>?_,I.free,I.freeC,fun p hp=>?_,tracked ⟨oL,hoL,I.free⟩ hs,by simpa using I.len⟩ ⟨_,hs,.inl rfl⟩
    · exact (hs.2 b (Nat.ne_of_lt (Nat.lt_of_lt_of_le (Heap.lt_size e) I.ok.above))).trans (I.base.keep b o e n hb hx)
    · obtain⟨sl,e1⟩:=I.base.slot b o e n hb hx
      exact⟨sl,(hs.2 b (Nat.ne_of_lt (Nat.lt_of_lt_of_le (Heap.lt_size e) I.ok.above))).trans e1⟩
    · obtain⟨o',e1⟩:=I.base.there b o e hx
      exact⟨o',(hs.2 b (Nat.ne_of_lt (Nat.lt_of_lt_of_le (Heap.lt_size e) I.ok.above))).trans e1⟩
    · by_cases hj:j=i
      · subst hj
        rw[hi] at e1;cases e1
        rw[List.getElem?_set_self hiσ] at e2
        cases e2
        exact⟨u,r,.inl ⟨hk,by simp⟩⟩
      · rw[List.getElem?_set_ne (Ne.symm hj)] at e2
        obtain⟨u',r',q⟩:=hl j y v' e1 e2 e3
        refine⟨u',r',?_⟩
        rcases q with⟨k,e⟩ | ⟨k,c,e,z⟩
        · refine .inl ⟨k,?_⟩
          have:y ≠ x:=fun e=>hj (jE hN e1 (e ▸ hi))
          simp[this,e]
        · exact .inr ⟨k,c,e,z.sameBut hs (cne y c e)⟩
    · obtain⟨w',z⟩:=I.cell y c e
      exact⟨w',z.sameBut hs (cne y c e)⟩
    · obtain⟨e,n,ne,nf,d⟩:=I.pin p hp
      exact⟨(hs.2 p.1 ne).trans e,n,ne,nf,d⟩
  · have hfn:X.fn x=true:=by
      rcases hf with z | z
      · exact z
      · rw[z] at hk;cases hk
    obtain⟨c,hc⟩:=I.ok.has x (.inl hk)
    obtain⟨w',z⟩:=I.cell x c hc
    refine wpAny_storeName_cell I.ok.kind hk hc z (fun h' hc' hs=>?_)
    obtain⟨oc,hoc,hocd⟩:=id z
    refine h { s with heap:=h' } ⟨I.ok,I.os,I.bare,⟨fun b o e n hb hx=>?_,fun b o e n hb hx=>?_,I.base.free,fun b o e hx=>?_,I.base.tups,I.base.frzs,I.base.tbls⟩,⟨m,hn.sameBut hs (Ne.symm (cne x c hc)),fun j y v' e1 e2 e3=>?_⟩,fun y c' e=>?_,I.free,I.freeC,fun p hp=>?_,tracked ⟨oc,hoc,I.freeC x c hc⟩ hs,by simpa using I.len⟩ ⟨c,hs,.inr hc⟩
    · exact (hs.2 b (Nat.ne_of_lt (Nat.lt_of_lt_of_le (Heap.lt_size e) (I.ok.cab x c hfn hc)))).trans (I.base.keep b o e n hb hx)
    · obtain⟨sl,e1⟩:=I.base.slot b o e n hb hx
      exact⟨sl,(hs.2 b (Nat.ne_of_lt (Nat.lt_of_lt_of_le (Heap.lt_size e) (I.ok.cab x c hfn hc)))).trans e1⟩
    · obtain⟨o',e1⟩:=I.base.there b o e hx
      exact⟨o',(hs.2 b (Nat.ne_of_lt (Nat.lt_of_lt_of_le (Heap.lt_size e) (I.ok.cab x c hfn hc)))).trans e1⟩
    · by_cases hj:j=i
      · subst hj
        rw[hi] at e1;cases e1
        rw[List.getElem?_set_self hiσ] at e2
        cases e2
        exact⟨u,r,.inr ⟨.inl hk,c,hc,hc'⟩⟩
      · rw[List.getElem?_set_ne (Ne.symm hj)] at e2
        obtain⟨u',r',q⟩:=hl j y v' e1 e2 e3
        refine⟨u',r',?_⟩
        rcases q with q | ⟨k,c',e,z'⟩
        · exact .inl q
        · refine .inr ⟨k,c',e,z'.sameBut hs ?_⟩
          rintro rfl
          exact hj (jE hN e1 (I.ok.inj _ _ _ e hc ▸ hi))
    · by_cases hcc:c'=c
      · subst hcc;exact⟨_,hc'⟩
      · obtain⟨w2,z2⟩:=I.cell y c' e
        exact⟨w2,z2.sameBut hs hcc⟩
    · obtain⟨e,n,ne,nf,d⟩:=I.pin p hp
      refine⟨(hs.2 p.1 ?_).trans e,n,ne,nf,d⟩
      intro q
      rw[q,hoc] at e
      have q':oc=p.2:=Option.some.inj e
      exact d w' (by rw[<- q'];exact hocd)
theorem jG{M:Model}{A:Around}{E:Value->Shared->Prop}{i:Nat}{x:Str}{v:V}{u:Value}{Q:Unit->Shared->Prop}(I:Inv X pins σ H s)(hN:X.N.Nodup)(hi:X.N[i]?=some x)(hx:Loc X.env.scope x)(r:RelV v u)(h:∀ s',Inv X pins (σ.set i (some v)) H s'->Q () s')(hf:X.fn x=true\/X.env.scope.names.lookup x=some .local:=by first | exact .inl rfl | exact .inr rfl | assumption):wpAny M A (storeName X.env x u) Q E s :=
  jF I hN hi hx r (fun s' I' _=>h s' I') hf
theorem Inv.call'{s':Shared}{ch:List Addr}(I:Inv X pins σ H s)(ho:s'.os=s.os)(u:Un (frs X.stack) ch H H' s.heap s'.heap)(hok:HOk X.prog X.w H' s'.heap)(hg:AllBare s'.gens)(hch:∀ b ∈ ch,(b ∈ X.ex\/X.s₀.heap.objs.size<=b)/\b ≠ X.env.locals/\(∀ x c,X.env.cells.lookup x=some c->c ≠ b)/\∀ p ∈ X.pn++pins,p.1 ≠ b):Inv X pins σ H' s':=by
  obtain⟨h',g',d',t',o'⟩:=s'
  have e:o'=s.os:=ho
  subst e
  exact I.call (g':=g') (t':=t') (d':=d') u hok hg hch
end
abbrev XK:=Value->Option Addr->Hp->Prop
abbrev St:=List (Option V)
abbrev VK:=V->Hp->Prop
abbrev TE:=St->Hp->VK->Prop
abbrev TT:=St->Hp->(Bool->Hp->Prop)->Prop
abbrev TA:=St->Hp->(List V->Hp->Prop)->Prop
structure Ends where
  nx:St->Hp->Prop
  rt:VK
  bk:St->Hp->Prop:=fun _ _=>False
  ct:St->Hp->Prop:=fun _ _=>False
abbrev TS:=Ends->St->Hp->Prop
def EP(X:Cx)(pins:List (Addr × Obj))(σ:St)(Q:VK)(u:Value)(s':Shared):Prop:=∃ v H',Inv X pins σ H' s'/\RelV v u/\Q v H'
def TP(X:Cx)(pins:List (Addr × Obj))(σ:St)(Q:Bool->Hp->Prop)(b:Bool)(s':Shared):Prop:=∃ H',Inv X pins σ H' s'/\Q b H'
def AP(X:Cx)(pins:List (Addr × Obj))(σ:St)(Q:List V->Hp->Prop)(us:List Value)(s':Shared):Prop:=∃ vs H',Inv X pins σ H' s'/\Vals vs us/\Q vs H'
def SP(X:Cx)(pins:List (Addr × Obj))(D:Ends)(f:Flow)(s':Shared):Prop :=
  match f with
  | .next=>∃ σ' H',Inv X pins σ' H' s'/\D.nx σ' H'
  | .brk=>∃ σ' H',Inv X pins σ' H' s'/\D.bk σ' H'
  | .cont=>∃ σ' H',Inv X pins σ' H' s'/\D.ct σ' H'
  | .ret u=>∃ v σ' H',Inv X pins σ' H' s'/\RelV v u/\D.rt v H'
def PE(X:Cx)(e:Expr)(t:TE):Prop :=
  ∀ (pins:List (Addr × Obj)) (s:Shared) (σ:St) (H:Hp) (Q:VK),Inv X pins σ H s->t σ H Q->wpAny (model X.prog X.w) X.A (eval e X.env) (EP X pins σ Q) X.xe s
def PT(X:Cx)(e:Expr)(t:TT):Prop :=
  ∀ (pins:List (Addr × Obj)) (s:Shared) (σ:St) (H:Hp) (Q:Bool->Hp->Prop),Inv X pins σ H s->t σ H Q->wpAny (model X.prog X.w) X.A (isTrue e X.env (eval e X.env)) (TP X pins σ Q) X.xe s
def PW(X:Cx)(e:Expr)(t:TT):Prop :=
  ∀ (whole:Sem Value) (pins:List (Addr × Obj)) (s:Shared) (σ:St) (H:Hp) (Q:Bool->Hp->Prop),Inv X pins σ H s->t σ H Q->wpAny (model X.prog X.w) X.A (isTrue e X.env whole) (TP X pins σ Q) X.xe s
theorem PW.pt{X:Cx}{e:Expr}{t:TT}(h:PW X e t):PT X e t:=h _
def PA(X:Cx)(es:List Expr)(t:TA):Prop :=
  ∀ (pos:Pos) (pins:List (Addr × Obj)) (s:Shared) (σ:St) (H:Hp) (Q:List V->Hp->Prop),Inv X pins σ H s->t σ H Q->wpAny (model X.prog X.w) X.A (spliced (backTo pos (starEach es X.env))) (AP X pins σ Q) X.xe s
def PS(X:Cx)(st:Stmt)(t:TS):Prop :=
  ∀ (pins:List (Addr × Obj)) (s:Shared) (σ:St) (H:Hp) (D:Ends),Inv X pins σ H s->t D σ H->wpAny (model X.prog X.w) X.A (exec st X.env) (SP X pins D) X.xe s
def PSs(X:Cx)(st:List Stmt)(t:TS):Prop :=
  ∀ (pins:List (Addr × Obj)) (s:Shared) (σ:St) (H:Hp) (D:Ends),Inv X pins σ H s->t D σ H->wpAny (model X.prog X.w) X.A (execs st X.env) (SP X pins D) X.xe s
theorem thn{α:Type}{t:Sem α}{Q Q':α->Shared->Prop}{M:Model}{A:Around}{E:Value->Shared->Prop}{s:Shared}(h:wpAny M A t Q E s)(hQ:∀ a s,Q a s->Q' a s):wpAny M A t Q' E s:=wpAny_mono h hQ fun _ _ x=>x
end L2
namespace L2
open PySem PySem.Spec PyProof.Rows
section
variable {X:Cx}
def on(i:Nat):TE:=fun σ H Q=>∃ v,σ[i]?=some (some v)/\Q v H
def tC(v:V):TE:=fun _ H Q=>Q v H
theorem eD{i:Nat}{x:Str}{pos:Pos}(hN:X.N[i]?=some x)(hv:Vis X.env.scope x)(hd:(x == ("__debug__" : Str))=false:=by decide)(hcd:(x == ("__classdict__" : Str))=false:=by decide):PE X (.Name x pos) (on i):=by
  intro pins s σ H Q I h
  obtain⟨v,e,h⟩:=h
  obtain⟨m,hn,hl⟩:=I.loc
  obtain⟨u,r,l⟩:=hl i x v hN e hv
  have fin:EP X pins σ Q u s:=⟨v,H,I,r,h⟩
  rcases l with⟨hk,hm⟩ | ⟨hk,c,hc,hcell⟩
  · exact wpAny_Name (wpAny_loadName_local I.ok.kind hk hn hm fin) hd
  · rcases hk with hk | hk
    · exact wpAny_Name (wpAny_loadName_cell I.ok.kind hk hc hcell fin) hd
    · exact wpAny_Name (wpAny_loadName_free I.ok.kind hk hc hcell fin hcd) hd
theorem oo{i j pos}:PE X (.Constant (.int i) j pos) (tC (.int i)):=fun _ _ _ H _ I h=>wpAny_Constant_int ⟨.int i,H,I.tok _,⟨_,rfl⟩,h⟩
theorem oq{b j pos}:PE X (.Constant (.bool b) j pos) (tC (.bl b)):=fun _ _ _ H _ I h=>Constant_bool ⟨.bl b,H,I,rfl,h⟩
def Gl(X:Cx)(x:Str):Prop:=X.env.kindOf x=some .globalImplicit
theorem ot{E:Value->Shared->Prop}{pins:List (Addr × Obj)}{s:Shared}{σ:St}{H:Hp}{x:Str}{u:Value}{pos:Pos}{Q:Value->Shared->Prop}(I:Inv X pins σ H s)(hg:Gl X x)(hm:X.mg x=some u)(h:Q u s)(hd:(x == ("__debug__" : Str))=false:=by decide):wpAny (model X.prog X.w) X.A (eval (.Name x pos) X.env) Q E s :=
  Calls.Name_function_global I.ok.kind hg (Calls.loadGlobal_global (by rw[I.ok.glob];exact I.mod.glob.keeps I.bk) hm h) hd
theorem dA{E:Value->Shared->Prop}{pins:List (Addr × Obj)}{s:Shared}{σ:St}{H:Hp}{x:Str}{u:Value}{pos:Pos}{Q:Value->Shared->Prop}(I:Inv X pins σ H s)(hg:Gl X x)(hm:X.mg x=none)(hv:bootBuiltins x=some u)(h:Q u s)(hn:x ≠ "__name__":=by decide)(hd:(x == ("__debug__" : Str))=false:=by decide):wpAny (model X.prog X.w) X.A (eval (.Name x pos) X.env) Q E s:=by
  obtain⟨mb,h1,h2⟩:=I.mod.blt
  exact Calls.Name_function_global I.ok.kind hg (Calls.loadGlobal_builtin (by rw[I.ok.glob];exact I.mod.glob.keeps I.bk) hm (by rw[I.ok.blt];exact h1.keeps I.bk) ((h2 x hn).trans hv) h) hd
theorem ou{x:Str}{v:V}{u:Value}{pos:Pos}(hg:Gl X x)(hm:X.mg x=none)(hv:bootBuiltins x=some u)(r:RelV v u)(hn:x ≠ "__name__":=by decide)(hd:(x == ("__debug__" : Str))=false:=by decide):PE X (.Name x pos) (tC v) :=
  fun _ _ _ H _ I h=>dA I hg hm hv ⟨v,H,I,r,h⟩ hn hd
variable {a b:Expr} {ta tb:TE} {pos:Pos}
variable {tA tB':TT} {ak:List Expr}
def tOr(t u:TT):TT:=fun σ H Q=>t σ H fun c H1=>if c=true then Q true H1 else u σ H1 Q
def ow(t:TT):TT:=fun σ H Q=>t σ H fun c H1=>Q (!c) H1
theorem ox(ha:PT X a tA):PW X (.BoolOp .Or [a] pos) tA:=by
  intro wh pins s σ H Q I h
  refine isTrue_or (thn (ha pins s σ H Q I h) fun c s1 e=>?_)
  cases c with
  | false=>exact isTrue_or_nil e
  | true=>exact e
theorem oy(ha:PT X a tA)(hb:PW X (.BoolOp .Or (b::ak) pos) tB'):PW X (.BoolOp .Or (a::b::ak) pos) (tOr tA tB'):=by
  intro wh pins s σ H Q I h
  refine isTrue_or (thn (ha pins s σ H _ I h) fun c s1 ⟨H1,I1,q1⟩=>?_)
  cases c with
  | true=>exact⟨H1,I1,q1⟩
  | false=>exact hb wh pins s1 σ H1 Q I1 q1
theorem oz(ha:PT X a tA):PT X (.UnaryOp .Not a pos) (ow tA):=by
  intro pins s σ H Q I h
  exact isTrue_not (ha pins s σ H (fun c H1=>Q (!c) H1) I h)
end
end L2
namespace L2
open PySem PySem.Spec PyProof.Rows
def SqL(K:PySem.W.Frag)(H:Hp)(a:Addr)(xs:List V):Prop :=
  Rd H a (.lst xs) \/
    ∃ (o:Obj) (its:Array Value) (n:Nat),K.lookup a=some o/\o.cls=.type "list"/\o.dict=none/\o.data=.seq its n/\its.size<=sizeLine/\Vals xs its.toList
def SqT(K:PySem.W.Frag)(H:Hp)(a:Addr)(xs:List V):Prop :=
  Rd H a (.tup xs) \/
    ∃ (o:Obj) (its:Array Value) (n:Nat),K.lookup a=some o/\o.cls=.type "tuple"/\o.data=.seq its n/\its.size<=sizeLine/\Vals xs its.toList
def oA:Value->Option V
  | .none=>some .non
  | .bool b=>some (.bl b)
  | .int i _=>some (.int i)
  | .str x _=>some (.str x)
  | .bytes b _=>some (.byt b)
  | .float b _=>some (.flt b)
  | .ref a=>some (.ref a)
  | .type n=>some (.ty n)
  | _=>none
theorem RelV.abs{x:V}{u:Value}(r:RelV x u):oA u=some x:=by
  cases x with
  | non=>cases r;rfl
  | bl _=>cases r;rfl
  | int _=>obtain⟨t,rfl⟩:=r;rfl
  | str _=>obtain⟨t,rfl⟩:=r;rfl
  | byt _=>obtain⟨t,rfl⟩:=r;rfl
  | flt _=>obtain⟨t,rfl⟩:=r;rfl
  | ref _=>cases r;rfl
  | ty _=>cases r;rfl
theorem RelV.inj{x y:V}{u:Value}(r:RelV x u)(q:RelV y u):x=y:=Option.some.inj (r.abs.symm.trans q.abs)
theorem Vals.inj:∀ {xs ys:List V} {us:List Value},Vals xs us->Vals ys us->xs=ys
  | _,_,_,.nil,.nil=>rfl
  | _,_,_,.cons r t,.cons r' t'=>by rw[r.inj r',Vals.inj t t']
section
variable {X:Cx} {pins:List (Addr × Obj)} {σ:St} {H:Hp} {s:Shared} {a:Addr} {xs ys:List V}
theorem SqL.of{K:PySem.W.Frag}(h:H a=some (.lst xs)):SqL K H a xs:=.inl (.inl h)
theorem SqT.of{K:PySem.W.Frag}(h:H a=some (.tup xs)):SqT K H a xs:=.inl (.inl h)
theorem Inv.list(I:Inv X pins σ H s)(h:SqL X.K H a xs):∃ its:List Value,Vals xs its/\PlainL s.heap a its.toArray/\xs.length<=sizeLine:=by
  rcases h with h | ⟨o,its,n,hk,hc,hd,hs,hz,r⟩
  · obtain⟨z,its,n,r,e⟩:=h.ok I.hok
    exact⟨its,r,⟨_,n,e,rfl,rfl,rfl⟩,z⟩
  · refine⟨its.toList,r,⟨o,n,I.kIn a o hk,hc,hd,by simpa using hs⟩,?_⟩
    have e:=r.length
    simp only[Array.length_toList] at e
    omega
theorem Inv.tuple(I:Inv X pins σ H s)(h:SqT X.K H a xs):∃ its:List Value,Vals xs its/\IsTup s.heap a its.toArray/\xs.length<=sizeLine:=by
  rcases h with h | ⟨o,its,n,hk,hc,hs,hz,r⟩
  · obtain⟨z,its,r,p⟩:=h.ok I.hok
    exact⟨its,r,p,z⟩
  · refine⟨its.toList,r,⟨o,I.kIn a o hk,hc,n,by simpa using hs⟩,?_⟩
    have e:=r.length
    simp only[Array.length_toList] at e
    omega
theorem Inv.list_inj(I:Inv X pins σ H s)(h:SqL X.K H a xs)(h':SqL X.K H a ys):xs=ys:=by
  obtain⟨its,r,⟨o,n,e,_,_,d⟩,_⟩:=I.list h
  obtain⟨its',r',⟨o',n',e',_,_,d'⟩,_⟩:=I.list h'
  rw[e] at e';cases e'
  rw[d] at d'
  injection d' with d1 _
  have:its=its':=by simpa using congrArg Array.toList d1
  subst this
  exact r.inj r'
end
abbrev Cx.wish(X:Cx)(E:Value->Shared->Prop):Cx:={ X with xe:=E }
abbrev Cx.nox(X:Cx):Cx:=X.wish fun _ _=>False
theorem Cx.Ok.wish{X:Cx}(ok:X.Ok)(E:Value->Shared->Prop):(X.wish E).Ok :=
  ⟨ok.mod,ok.kind,ok.glob,ok.blt,ok.above,ok.inj,ok.has,ok.cab,ok.hd,ok.frames,ok.stk,ok.exf,ok.bs,ok.bsz,ok.noex,ok.exfs,ok.funs,ok.frf⟩
theorem Cx.Ok.unwish{X:Cx}{E:Value->Shared->Prop}(ok:(X.wish E).Ok):X.Ok :=
  ⟨ok.mod,ok.kind,ok.glob,ok.blt,ok.above,ok.inj,ok.has,ok.cab,ok.hd,ok.frames,ok.stk,ok.exf,ok.bs,ok.bsz,ok.noex,ok.exfs,ok.funs,ok.frf⟩
section
variable {X:Cx} {pins:List (Addr × Obj)} {σ:St} {H:Hp} {s:Shared} {E:Value->Shared->Prop}
theorem Inv.wish(I:Inv X pins σ H s)(E:Value->Shared->Prop):Inv (X.wish E) pins σ H s:=⟨I.ok.wish E,I.os,I.bare,I.base,I.loc,I.cell,I.free,I.freeC,I.pin,I.hok,I.len⟩
theorem Inv.unwish(I:Inv (X.wish E) pins σ H s):Inv X pins σ H s:=⟨I.ok.unwish,I.os,I.bare,I.base,I.loc,I.cell,I.free,I.freeC,I.pin,I.hok,I.len⟩
theorem SP.unwish{D:Ends}{f:Flow}{s':Shared}(h:SP (X.wish E) pins D f s'):SP X pins D f s':=by
  cases f with
  | next=>obtain⟨σ',H',I,q⟩:=h;exact⟨σ',H',I.unwish,q⟩
  | brk=>obtain⟨σ',H',I,q⟩:=h;exact⟨σ',H',I.unwish,q⟩
  | cont=>obtain⟨σ',H',I,q⟩:=h;exact⟨σ',H',I.unwish,q⟩
  | ret u=>obtain⟨v,σ',H',I,r,q⟩:=h;exact⟨v,σ',H',I.unwish,r,q⟩
theorem PE.nox{e:Expr}{t:TE}(h:PE X.nox e t):PE X e t:=fun pins s σ H Q I hw =>
  wpAny_mono (h pins s σ H Q (I.wish _) hw) (fun _ _ ⟨v,H',I',r,q⟩=>⟨v,H',I'.unwish,r,q⟩) fun _ _ z=>False.elim z
theorem PT.nox{e:Expr}{t:TT}(h:PT X.nox e t):PT X e t:=fun pins s σ H Q I hw =>
  wpAny_mono (h pins s σ H Q (I.wish _) hw) (fun _ _ ⟨H',I',q⟩=>⟨H',I'.unwish,q⟩) fun _ _ z=>False.elim z
theorem PSs.nox{st:List Stmt}{t:TS}(h:PSs X.nox st t):PSs X st t:=fun pins s σ H D I hw =>
  wpAny_mono (h pins s σ H D (I.wish _) hw) (fun _ _ q=>q.unwish) fun _ _ z=>False.elim z
end
section
variable {X:Cx} {st:Stmt} {ak:List Stmt} {t u:TS} {e:Expr} {te:TE} {pos:Pos}
def oB:TS:=fun D σ H=>D.nx σ H
def oC(t u:TS):TS:=fun D σ H=>t { D with nx:=u D } σ H
theorem jH:PSs X [] oB:=fun _ _ σ H _ I h=>wpAny_execs_nil ⟨σ,H,I,h⟩
theorem jI(h1:PS X st t)(h2:PSs X ak u):PSs X (st::ak) (oC t u):=by
  intro pins s σ H D I h
  refine wpAny_execs_cons (thn (h1 pins s σ H { D with nx:=u D } I h) fun f s1 q=>?_)
  cases f with
  | next =>
    obtain⟨σ',H',I',q⟩:=q
    exact h2 pins s1 σ' H' D I' q
  | ret v=>exact q
  | brk=>exact q
  | cont=>exact q
theorem jJ(h1:PS X st t):PSs X [st] t:=by
  intro pins s σ H D I h
  refine wpAny_execs_cons (thn (h1 pins s σ H D I h) fun f s1 q=>?_)
  cases f with
  | next=>exact wpAny_execs_nil q
  | ret v=>exact q
  | brk=>exact q
  | cont=>exact q
theorem Inv.quiet{pins:List (Addr × Obj)}{σ:St}{H:Hp}{s:Shared}(I:Inv X pins σ H s):interactive X.env=false:=by simp[interactive,I.ok.kind]
def oD(te:TE):TS:=fun D σ H=>te σ H fun _ H1=>D.nx σ H1
theorem oE(he:PE X e te)(hs:swapsWith e none pos.line X.env=pure false:=by rfl):PS X (.Expr e pos) (oD te):=by
  intro pins s σ H D I h
  exact wpAny_Expr_any (thn (he pins s σ H _ I h) fun v s1 ⟨x,H1,I1,r1,q1⟩=>⟨σ,H1,I1,q1⟩) I.quiet hs
def oF(te:TE):TS:=fun D σ H=>te σ H D.rt
theorem fL(he:PE X e te):PS X (.Return (some e) pos) (oF te):=by
  intro pins s σ H D I h
  exact wpAny_Return_some (thn (he pins s σ H _ I h) fun v s1 ⟨x,H1,I1,r1,q1⟩=>⟨x,σ,H1,I1,r1,q1⟩)
def oG(c:TT)(t u:TS):TS:=fun D σ H=>c σ H fun b H1=>if b=true then t D σ H1 else u D σ H1
theorem jK{c:Expr}{a b:List Stmt}{tc:TT}(hc:PT X c tc)(ha:PSs X a t)(hb:PSs X b u):PS X (.If c a b pos) (oG tc t u):=by
  intro pins s σ H D I h
  refine wpAny_If (thn (hc pins s σ H _ I h) fun d s1 ⟨H1,I1,q1⟩=>?_)
  cases d with
  | true=>exact ha pins s1 σ H1 D I1 q1
  | false=>exact hb pins s1 σ H1 D I1 q1
end
abbrev TG:=V->St->Hp->(St->Hp->Prop)->Prop
abbrev TGs:=List V->St->Hp->(St->Hp->Prop)->Prop
def PG(X:Cx)(target:Expr)(t:TG):Prop :=
  ∀ (pins:List (Addr × Obj)) (s:Shared) (σ:St) (H:Hp) (v:V) (u:Value) (Q:St->Hp->Prop),Inv X pins σ H s->RelV v u->t v σ H Q ->
    wpAny (model X.prog X.w) X.A (assign target X.env u) (fun _ s'=>∃ σ' H',Inv X pins σ' H' s'/\Q σ' H') X.xe s
def PGs(X:Cx)(ts:List Expr)(t:TGs):Prop :=
  ∀ (pins:List (Addr × Obj)) (s:Shared) (σ:St) (H:Hp) (vs:List V) (us:List Value) (Q:St->Hp->Prop),Inv X pins σ H s->Vals vs us->t vs σ H Q ->
    wpAny (model X.prog X.w) X.A (assignInOrder ((assignEach ts X.env).map (·.2)) us) (fun _ s'=>∃ σ' H',Inv X pins σ' H' s'/\Q σ' H') X.xe s
abbrev gP:=V->V->V->Hp->(Hp->Prop)->Prop
def jL(X:Cx)(t:gP):Prop :=
  ∀ (pins:List (Addr × Obj)) (s:Shared) (σ:St) (H:Hp) (o i v:V) (ov iv u:Value) (Q:Hp->Prop),Inv X pins σ H s->RelV o ov->RelV i iv->RelV v u->t o i v H Q ->
    wpAny (model X.prog X.w) X.A (setItem ov iv u) (fun _ s'=>∃ H',Inv X pins σ H' s'/\Q H') X.xe s
section
variable {X:Cx} {pos:Pos}
def bI(i:Nat):TG:=fun v σ H Q=>Q (σ.set i (some v)) H
theorem bZ{i:Nat}{x:Str}(hN:X.N.Nodup)(hi:X.N[i]?=some x)(hx:Loc X.env.scope x)(hf:X.fn x=true\/X.env.scope.names.lookup x=some .local:=by first | exact .inl rfl | exact .inr rfl | assumption):PG X (.Name x pos) (bI i):=by
  intro pins s σ H v u Q I r h
  exact wpAny_assign_Name (jG I hN hi hx r (fun s' I'=>⟨_,H,I',h⟩) hf)
def jM:TGs:=fun vs σ H Q=>vs=[]/\Q σ H
def jN(t:TG)(u:TGs):TGs:=fun vs σ H Q=>∃ v r,vs=v::r/\t v σ H fun σ' H'=>u r σ' H' Q
theorem oH:PGs X [] jM:=by
  intro pins s σ H vs us Q I r h
  obtain⟨e,h⟩:=h
  subst e
  cases r
  exact assignInOrder_nil ⟨σ,H,I,h⟩
theorem oI{e:Expr}{es:List Expr}{t:TG}{u:TGs}(h1:PG X e t)(h2:PGs X es u)(hs:(assignEach (e::es) X.env).map (·.2)=assign e X.env::(assignEach es X.env).map (·.2):=by rfl):PGs X (e::es) (jN t u):=by
  intro pins s σ H vs us Q I r h
  obtain⟨v,vr,e1,h⟩:=h
  subst e1
  cases r with
  | cons r rr =>
    rw[hs]
    refine assignInOrder_cons (thn (h1 pins s σ H _ _ _ I r h) fun _ s1 ⟨σ1,H1,I1,q1⟩=>?_)
    exact h2 pins s1 σ1 H1 _ _ Q I1 rr q1
def gQ(K:PySem.W.Frag)(n:Nat)(t:TGs):TG:=fun v σ H Q=>∃ a xs,v=.ref a/\SqT K H a xs/\xs.length=n/\t xs σ H Q
theorem dC{es:List Expr}{k:Nat}{t:TGs}{n:Nat}(hc:X.calm=true)(h:PGs X es t)(hn:(assignEach es X.env).length=n:=by rfl)(hst:(assignEach es X.env).findIdx? (·.1)=none:=by rfl):PG X (.Tuple es k pos) (gQ X.K n t):=by
  intro pins s σ H v u Q I r hw
  obtain⟨a,xs,e1,hq,hl,hw⟩:=hw
  subst e1
  cases r
  obtain⟨its,rv,ht,hz⟩:=I.tuple hq
  refine assign_Tuple_tuple (I.ok.hd hc) ht (by simp[hn,<- hl,rv.length]) hst fun h' hx=>?_
  have I1:Inv X pins σ H { s with heap:=h' }:=I.kept (t':=s.toks) fun b o e=>hx b o (Nat.ne_of_lt (Heap.lt_size e)) e
  exact h pins _ σ H xs _ Q I1 (by simpa using rv) hw
def oJ(to ti:TE)(t:gP):TG:=fun v σ H Q=>to σ H fun o H1=>ti σ H1 fun i H2=>t o i v H2 fun H3=>Q σ H3
theorem oK{o i:Expr}{to ti:TE}{t:gP}(ho:PE X o to)(hi:PE X i ti)(hs:jL X t)(ha:∀ v,assign (.Subscript o i pos) X.env v=(do
      let ov <- holding [v] (eval o X.env)
      let iv <- holding [v,ov] (eval i X.env)
      standAt pos
      holding [v,ov,iv] (setItem ov iv v)
      release [v,ov,iv] []):=by intro _;rfl):PG X (.Subscript o i pos) (oJ to ti t):=by
  intro pins s σ H v u Q I r h
  rw[ha]
  refine wpAny_bind (wpAny_holding (thn (ho pins s σ H _ I h) fun ov s1 ⟨x,H1,I1,r1,q1⟩=>?_))
  refine wpAny_bind (wpAny_holding (thn (hi pins s1 σ H1 _ I1 q1) fun iv s2 ⟨y,H2,I2,r2,q2⟩=>?_))
  refine wpAny_bind (wpAny_standAt (wpAny_bind (wpAny_holding (thn (hs pins s2 σ H2 x y v ov iv u _ I2 r1 r2 r q2) fun _ s3 ⟨H3,I3,q3⟩=>?_))))
  exact wpAny_release ⟨σ,H3,I3,q3⟩
def gR(te:TE)(g:TG):TS:=fun D σ H=>te σ H fun x H1=>g x σ H1 D.nx
theorem jO{tg e:Expr}{te:TE}{g:TG}(he:PE X e te)(hg:PG X tg g)(hs:swapsWithSole [tg] e pos.line X.env=pure false:=by rfl)(hw:swappedStores [tg] e X.env=pure none:=by rfl)(h1:(assignEach [tg] X.env).map (·.2)=[assign tg X.env]:=by rfl):PS X (.Assign [tg] e pos) (gR te g):=by
  intro pins s σ H D I h
  refine wpAny_Assign_stores (thn (he pins s σ H _ I h) fun v s1 ⟨x,H1,I1,r1,q1⟩=>?_) hs hw
  rw[h1]
  exact thn (hg pins s1 σ H1 x v _ I1 r1 q1) fun _ s2 q=>q
theorem gS{i:Nat}{x:Str}{e:Expr}{te:TE}{pos':Pos}(hN:X.N.Nodup)(hi:X.N[i]?=some x)(hx:Loc X.env.scope x)(he:PE X e te)(hs:swapsWith e (some (.Name x pos')) pos.line X.env=pure false:=by rfl)(hf:X.fn x=true\/X.env.scope.names.lookup x=some .local:=by first | exact .inl rfl | exact .inr rfl | assumption):
    PS X (.Assign [.Name x pos'] e pos) (gR te (bI i)):=by
  intro pins s σ H D I h
  refine wpAny_Assign_Name (thn (he pins s σ H _ I h) fun v s1 ⟨y,H1,I1,r1,q1⟩=>?_) hs
  exact jG I1 hN hi hx r1 (fun s2 I2=>⟨_,H1,I2,q1⟩) hf
end
section
variable {X:Cx} {pos:Pos}
end
structure It where
  go:Nat->Hp->Prop
  yld:Nat->Hp->V->Hp->Prop
  stop:Nat->Hp->Prop
def b9(X:Cx)(pins:List (Addr × Obj))(H:Hp)(b:Addr):Prop :=
  H b=none/\b ≠ X.env.locals/\b ∉ X.fs/\(b ∈ X.ex\/X.s₀.heap.objs.size<=b)/\(∀ x c,X.env.cells.lookup x=some c->c ≠ b)/\∀ p ∈ X.pn++pins,p.1 ≠ b
theorem Inv.fpOk{X:Cx}{pins:List (Addr × Obj)}{σ:St}{H H':Hp}{s:Shared}{b:Addr}(I:Inv X pins σ H s)(hb:s.heap.objs.size<=b)(hn:H' b=none):b9 X pins H' b:=by
  refine⟨hn,Nat.ne_of_gt (Nat.lt_of_lt_of_le I.lt hb),I.nofs hb,.inr (Nat.le_trans I.sz hb),fun x c e z=>?_,fun p hp z=>?_⟩
  · obtain⟨v,q⟩:=I.cell x c e
    exact absurd (Nat.lt_of_lt_of_le q.lt (by rw[z];exact hb)) (Nat.lt_irrefl _)
  · exact absurd (Nat.lt_of_lt_of_le (Heap.lt_size (I.pin p hp).1) (by rw[z];exact hb)) (Nat.lt_irrefl _)
structure Turn (P:Program) (w:World) (K:PySem.W.Frag) (tg:Expr) (J:It) (fp:List Addr) (it:Addr) (tn:Nat->Heap->Prop):Prop where
  mem:it ∈ fp
  obj:∀ i h,tn i h->∀ b ∈ fp,∃ o,h.get? b=some o/\∀ v,o.data ≠ .cell v
  keep:∀ i h h',tn i h->(∀ b ∈ fp,∀ o,h.get? b=some o->h'.get? b=some o)->tn i h'
  item:∀ (X:Cx),X.prog=P->X.w=w->X.K=K->X.calm=true->∀ (i:Nat) (pins:List (Addr × Obj)) (s:Shared) (σ:St) (H:Hp) (E:Value->Shared->Prop),Inv X pins σ H s->(∀ b ∈ fp,b9 X pins H b)->tn i s.heap->J.go i H ->
    wpAny (model P w) X.A (pyNext (.ref it)) (fun r s1=>∃ u,r=some u /\
      wpAny (model P w) X.A (letOwnedTupleGo tg (.ref it) u) (fun _ s2=>∃ x H',Inv X pins σ H' s2/\RelV x u/\J.yld i H x H'/\tn (i+1) s2.heap/\∀ b ∈ fp,H' b=none) E s1) E s
  done:∀ (X:Cx),X.prog=P->X.w=w->X.K=K->X.calm=true->∀ (i:Nat) (pins:List (Addr × Obj)) (s:Shared) (σ:St) (H:Hp) (E:Value->Shared->Prop),Inv X pins σ H s->(∀ b ∈ fp,b9 X pins H b)->tn i s.heap->J.stop i H ->
    wpAny (model P w) X.A (pyNext (.ref it)) (fun r s1=>r=none/\Inv X pins σ H s1) E s
  self:∀ (A:Around) (i:Nat) (s:Shared) (Q:Value->Shared->Prop) (E:Value->Shared->Prop),tn i s.heap->Q (.ref it) s->wpAny (model P w) A (pyIter (.ref it)) Q E s
abbrev TI:=St->Hp->(It->Hp->Prop)->Prop
def PIE(X:Cx)(pins:List (Addr × Obj))(σ:St)(tg:Expr)(R:It->Hp->Prop)(itv:Value)(s2:Shared):Prop :=
  ∃ (it:Addr) (fp:List Addr) (tn:Nat->Heap->Prop) (J:It) (H':Hp),itv=.ref it/\Inv X pins σ H' s2/\Turn X.prog X.w X.K tg J fp it tn/\tn 0 s2.heap/\(∀ b ∈ fp,b9 X pins H' b)/\R J H'
def PI(X:Cx)(tg iter:Expr)(wi:TI):Prop :=
  ∀ (pins:List (Addr × Obj)) (s:Shared) (σ:St) (H:Hp) (R:It->Hp->Prop),Inv X pins σ H s->wi σ H R ->
    wpAny (model X.prog X.w) X.A (eval iter X.env) (fun v s1=>wpAny (model X.prog X.w) X.A (pyIter v) (PIE X pins σ tg R) X.xe s1) X.xe s
theorem jP{M:Model}{A:Around}{E:Value->Shared->Prop}{s:Shared}{tg:Expr}{it:Addr}{u:Value}{o:Obj}{n:String}{vs:Array Value}{Q:Unit->Shared->Prop}(ho:s.heap.get? it=some o)(hc:o.cls=.type n)(hd:o.data=.fields vs)(hn:["enumerate","zip","dict_itemiterator","dict_reverseitemiterator","odict_iterator","itertools.zip_longest","itertools.pairwise"].contains n=false)(hQ:Q () s):wpAny M A (letOwnedTupleGo tg (.ref it) u) Q E s:=by
  unfold letOwnedTupleGo
  cases tg <;> first
    | exact wpAny_pure hQ
    | (cases u <;> first
        | exact wpAny_pure hQ
        | (refine wpAny_bind (wpAny_load ho ?_)
           rw[hc,hd]
           show wpAny M A (if (["enumerate","zip","dict_itemiterator","dict_reverseitemiterator","odict_iterator","itertools.zip_longest","itertools.pairwise"].contains n && vs[0]? == some (rawInt _))=true then _ else _) Q E s
           rw[if_neg (by intro h;rw[hn,Bool.false_and] at h;cases h)]
           exact wpAny_pure hQ))
def Itl(K:PySem.W.Frag)(a:Addr):It :=
  ⟨fun i H=>∃ xs x,SqL K H a xs/\xs[i]?=some x,fun i H x H'=>H'=H/\∀ xs,SqL K H a xs->xs[i]?=some x,fun i H=>∃ xs,SqL K H a xs/\xs.length<=i⟩
def Itr(lo:Int)(n:Nat):It:=⟨fun i _=>i < n,fun i H x H'=>H'=H/\x=.int (lo+i),fun i _=>n<=i⟩
theorem oM{P:Program}{w:World}{K:PySem.W.Frag}{tg:Expr}(a it:Addr):Turn P w K tg (Itl K a) [it] it (fun i h=>h.IsListIter it a i) where
  mem:=by simp
  obj:=fun i h st b hb=>by
    have e:b=it:=by simpa using hb
    subst e
    obtain⟨o,e,c,d⟩:=st
    exact⟨o,e,fun v z=>by rw[d] at z;cases z⟩
  keep:=fun i h h' st k=>st.at fun o e=>k it (by simp) o e
  item:=by
    intro X hP hw hK hc i pins s σ H E I hf st hg
    subst hP hw hK
    obtain⟨xs,x,hq,hx⟩:=hg
    obtain⟨its,rv,p,hz⟩:=I.list hq
    obtain⟨u,hu,ru⟩:=rv.get hx
    obtain⟨f0,f1,f2,f3,f4,f5⟩:=hf it (by simp)
    refine wpAny_pyNext_list_item st p.isList (x:=u) (by simpa using hu) fun h' st' sb=>?_
    have I1:Inv X pins σ H { s with heap:=h' }:=I.turned (t':=s.toks) (fun b o hb e=>(sb.2 b hb).trans e) f0 f1 f3 f4 f5
    obtain⟨o,e,c,d⟩:=id st'
    exact⟨u,rfl,jP (s:={ s with heap:=h' }) e c d (by decide) ⟨x,H,I1,ru,⟨rfl,fun ys hy=>by rw[I.list_inj hy hq];exact hx⟩,st',fun b hb=>(hf b hb).1⟩⟩
  done:=by
    intro X hP hw hK hc i pins s σ H E I hf st hg
    subst hP hw hK
    obtain⟨xs,hq,hx⟩:=hg
    obtain⟨its,rv,p,hz⟩:=I.list hq
    obtain⟨f0,f1,f2,f3,f4,f5⟩:=hf it (by simp)
    have hl:=rv.length
    exact wpAny_pyNext_list_end (I.ok.hd hc) st p.isList (by simp;omega) fun h' eb=>⟨rfl,I.turned (t':=s.toks) (fun b o hb e=>eb b o hb e) f0 f1 f3 f4 f5⟩
  self:=fun _ _ _ _ _ st h=>wpAny_pyIter_listiter st h
theorem oN{P:Program}{w:World}{K:PySem.W.Frag}{tg:Expr}(it:Addr)(lo:Int)(n:Nat):Turn P w K tg (Itr lo n) [it] it (fun i h=>IsRangeIter h it (lo+(i:Nat) * 1) ((n:Int) - (i:Nat)) 1) where
  mem:=by simp
  obj := fun i h st b hb=>by
    have e:b=it:=by simpa using hb
    subst e
    exact⟨_,st,fun v z=>by
      have z':Data.fields _=Data.cell v:=z
      cases z'⟩
  keep:=fun i h h' st k=>k it (by simp) _ st
  item:=by
    intro X hP hw hK hc i pins s σ H E I hf st hg
    subst hP hw hK
    obtain⟨f0,f1,f2,f3,f4,f5⟩:=hf it (by simp)
    have W:=Walks.range (prog:=X.prog) (w:=X.w) (I.ok.hd hc) it lo 1 n
    refine W.item i s _ _ hg st fun v h' tk hv st' kk=>?_
    obtain⟨t,rfl⟩:=hv
    have I1:Inv X pins σ H { s with heap:=h',toks:=tk }:=I.turned (fun b o hb e=>kk b o (by simpa using hb) e) f0 f1 f3 f4 f5
    refine⟨_,rfl,jP (s:={ s with heap:=h',toks:=tk }) (n:="range_iterator") st' rfl rfl (by decide) ⟨.int (lo+i),H,I1,⟨t,?_⟩,⟨rfl,rfl⟩,st',fun b hb=>(hf b hb).1⟩⟩
    rw[Int.mul_one]
  done:=by
    intro X hP hw hK hc i pins s σ H E I hf st hg
    subst hP hw hK
    obtain⟨f0,f1,f2,f3,f4,f5⟩:=hf it (by simp)
    exact wpAny_pyNext_range_end (I.ok.hd hc) st (by have:n<=i:=hg;omega) fun h' eb=>⟨rfl,I.turned (t':=s.toks) (fun b o hb e=>eb b o hb e) f0 f1 f3 f4 f5⟩
  self:=fun _ _ _ _ _ st h=>wpAny_pyIter_rangeiter st h
end L2
namespace L2
open PySem PySem.Spec PyProof.Rows
section
variable {X:Cx} {tg:Expr}
def oO(K:PySem.W.Frag)(tl:TE):TI:=fun σ H R=>tl σ H fun x H1=>∃ a,x=.ref a/\(∃ xs,SqL K H1 a xs)/\R (Itl K a) H1
theorem fM{l:Expr}{tl:TE}(hl:PE X l tl):PI X tg l (oO X.K tl):=by
  intro pins s σ H R I h
  refine thn (hl pins s σ H _ I h) fun v s1 ⟨x,H1,I1,r1,q1⟩=>?_
  obtain⟨a,e,⟨xs,hq⟩,q⟩:=q1
  subst e
  cases r1
  obtain⟨its,rv,p,hz⟩:=I1.list hq
  refine wpAny_pyIter_list p.isList ?_
  refine⟨s1.heap.objs.size,[s1.heap.objs.size],_,_,H1,rfl,I1.kept (t':=s1.toks) fun b o e=>Heap.get?_push_of_some _ e,oM a _,⟨_,Heap.get?_push_size _ rfl,rfl,rfl⟩,fun b hb=>?_,q⟩
  have e:b=s1.heap.objs.size:=by simpa using hb
  subst e
  exact I1.fpOk (Nat.le_refl _) (I1.hok.fresh (Nat.le_refl _))
theorem oP{pins:List (Addr × Obj)}{σ:St}{H:Hp}{s:Shared}{R:It->Hp->Prop}{E:Value->Shared->Prop}{lo hi:Int}{t u v:Tok}{tk:Nat}(I:Inv X pins σ H s)(h1:-(2 ^ 62)<=lo)(h2:lo < 2 ^ 62)(h3:-(2 ^ 62)<=hi)(h4:hi < 2 ^ 62)(q:R (Itr lo (hi - lo).toNat) H):wpAny (model X.prog X.w) X.A (pyIter (.ref s.heap.objs.size)) (PIE X pins σ tg R) E { s with heap:=s.heap.push { cls:=.type "range",data:=.fields #[.int lo t,.int hi u,.int 1 v] },toks:=tk }:=by
  refine wpAny_pyIter_range (IsRange.new ..) (small_one h1 h2 h3 h4) ?_
  have I1:Inv X pins σ H { s with heap:=s.heap.push { cls:=.type "range",data:=.fields #[.int lo t,.int hi u,.int 1 v] },toks:=tk }:=I.kept fun b o e=>Heap.get?_push_of_some _ e
  refine⟨(s.heap.push { cls:=.type "range",data:=.fields #[.int lo t,.int hi u,.int 1 v] }).objs.size,[(s.heap.push { cls:=.type "range",data:=.fields #[.int lo t,.int hi u,.int 1 v] }).objs.size],_,_,H,rfl,
    I1.kept (t':=tk) fun b o e=>Heap.get?_push_of_some _ e,oN _ lo (hi - lo).toNat,?_,fun b hb=>?_,q⟩
  · have e1:lo+((0:Nat):Int) * 1=lo:=by simp
    have e2:(((hi - lo).toNat:Nat):Int) - ((0:Nat):Int)=Builtin.Range.rangeSize lo hi 1:=by rw[rangeSize_one];split <;> omega
    show IsRangeIter _ _ (lo+((0:Nat):Int) * 1) ((((hi - lo).toNat:Nat):Int) - ((0:Nat):Int)) 1
    rw[e1,e2]
    exact Heap.get?_push_size _ rfl
  · have e:b=(s.heap.push { cls:=.type "range",data:=.fields #[.int lo t,.int hi u,.int 1 v] }).objs.size:=by simpa using hb
    subst e
    exact I1.fpOk (Nat.le_refl _) (I1.hok.fresh (Nat.le_refl _))
def oQ(ta:TA):TI:=fun σ H R=>ta σ H fun vs H1=>∃ j:Int,vs=[.int j]/\-(2 ^ 62)<=j/\j < 2 ^ 62/\R (Itr 0 j.toNat) H1
theorem gT{a:Expr}{ta:TA}{p pos:Pos}(hg:Gl X "range")(hm:X.mg "range" = none)(ha:PA X [a] ta)(hs:starEach [a] X.env=[(false,eval a X.env)]:=by rfl):PI X tg (.Call (.Name "range" p) [a] [] pos) (oQ ta):=by
  intro pins s σ H R I h
  refine Call_ (dA I hg hm boot_range (PyProof.Rows.callWith_type1 (thn (ha pos pins s σ H _ I h) fun us s1 ⟨vs,H1,I1,r1,q1⟩=>?_) hs rfl))
  obtain⟨j,e,q1,q2,q⟩:=q1
  subst e
  cases r1 with
  | cons r rr =>
    cases rr
    obtain⟨t,rfl⟩:=r
    exact call_range_1 (oP I1 (by omega) (by omega) q1 q2 (by simpa using q))
def oR(wi:TI)(g:TG)(tb:TS):TS:=fun D σ H=>wi σ H fun J H1=>∃ W:Nat->Nat->St->Hp->Prop,(∃ m,W 0 m σ H1)/\∀ i m σ H,W i m σ H ->
  (J.stop i H/\D.nx σ H)\/(J.go i H/\∃ N:St->Hp->Prop,(∀ σ' H',N σ' H'->∃ m',m' < m/\W (i+1) m' σ' H')/\∀ x H',J.yld i H x H'->g x σ H' fun σ2 H2=>tb { D with nx:=N,ct:=N,bk:=D.nx } σ2 H2)
def eE(fp:List Addr)(h:Heap):List (Addr × Obj):=fp.filterMap fun b=>(h.get? b).map fun o=>(b,o)
theorem fN{fp:List Addr}{h:Heap}{b:Addr}{o:Obj}(hb:b ∈ fp)(e:h.get? b=some o):(b,o) ∈ eE fp h:=List.mem_filterMap.mpr ⟨b,hb,by rw[e];rfl⟩
theorem oS{fp:List Addr}{h:Heap}{p:Addr × Obj}(hp:p ∈ eE fp h):p.1 ∈ fp/\h.get? p.1=some p.2:=by
  obtain⟨b,hb,e⟩:=List.mem_filterMap.mp hp
  cases q:h.get? b with
  | none=>rw[q] at e;cases e
  | some o =>
    rw[q] at e
    have e':(b,o)=p:=Option.some.inj e
    subst e'
    exact⟨hb,q⟩
theorem Inv.pinned{pins:List (Addr × Obj)}{σ:St}{H:Hp}{s:Shared}{fp:List Addr}(I:Inv X pins σ H s)(hf:∀ b ∈ fp,b9 X pins H b)(ho:∀ b ∈ fp,∃ o,s.heap.get? b=some o/\∀ v,o.data ≠ .cell v):Inv X (pins++eE fp s.heap) σ H s :=
  I.pins_of fun p hp=>(List.mem_append.mp hp).elim (fun z=>I.pin p (List.mem_append_right _ z)) fun z=>by
    obtain⟨hb,e⟩:=oS z
    obtain⟨f0,f1,f2,_⟩:=hf p.1 hb
    obtain⟨o,e',d⟩:=ho p.1 hb
    rw[e] at e';cases e'
    exact⟨e,f0,f1,f2,d⟩
theorem Inv.unpinned{pins pl:List (Addr × Obj)}{σ:St}{H:Hp}{s:Shared}(I:Inv X (pins++pl) σ H s):Inv X pins σ H s:=I.pins_of fun p hp=>I.pin p (List.mem_append_right _ (List.mem_append_left _ hp))
theorem dD{iter:Expr}{body:List Stmt}{wi:TI}{g:TG}{tb:TS}{pos:Pos}(hp:PassesOwn (model X.prog X.w) X.A X.env X.xe)(hc:X.calm=true)(hi:PI X tg iter wi)(hg:PG X tg g)(hb:PSs X body tb)(hs:∀ x,foldedSetIterable iter X.env x=pure x:=by intro _;rfl):PS X (.For tg iter body [] pos) (oR wi g tb):=by
  intro pins s σ H D I h
  refine wpAny_For (thn (hi pins s σ H _ I h) fun v s1 h1=>thn h1 fun itv s2 h2=>?_) hs
  obtain⟨it,fp,tn,J,H2,e,I2,T,st2,f2,W,⟨m0,w0⟩,turn⟩:=h2
  subst e
  have stat:∀ {H':Hp},(∀ b ∈ fp,H' b=none)->∀ b ∈ fp,b9 X pins H' b:=fun hn b hb=>⟨hn b hb,(f2 b hb).2⟩
  refine codeAny_forLoop_any (fun n s'=>∃ i σ' H',Inv X pins σ' H' s'/\tn i s'.heap/\(∀ b ∈ fp,H' b=none)/\W i n σ' H') ?_ m0 ⟨0,σ,H2,I2,st2,fun b hb=>(f2 b hb).1,w0⟩
  rintro n s3 ⟨i,σ3,H3,I3,st3,fr3,w3⟩
  rcases turn i n σ3 H3 w3 with⟨stop,qn⟩ | ⟨go,N,hN,step⟩
  · refine wpAny_passesOwn hp (thn (T.done X rfl rfl rfl hc i pins s3 σ3 H3 X.xe I3 (stat fr3) st3 stop) fun r s4 ⟨hr,I4⟩=>?_)
    subst hr
    exact wpAny_execs_nil ⟨σ3,H3,I4,qn⟩
  · refine wpAny_passesOwn hp (thn (T.item X rfl rfl rfl hc i pins s3 σ3 H3 X.xe I3 (stat fr3) st3 go) fun r s4 ⟨u,hr,h4⟩=>?_)
    subst hr
    refine wpAny_passesOwn hp (thn h4 fun _ s5 ⟨x,H5,I5,r5,y5,st5,fr5⟩=>?_)
    have I5':=I5.pinned (stat fr5) (T.obj _ _ st5)
    refine wpAny_passesOwn hp (thn (hg _ s5 σ3 H5 x u _ I5' r5 (step x H5 y5)) fun _ s6 ⟨σ6,H6,I6,q6⟩=>?_)
    refine wpAny_passesOwn hp (thn (hb _ s6 σ6 H6 _ I6 q6) fun f s7 q7=>?_)
    have again:∀ {σ7:St} {H7:Hp},Inv X (pins++eE fp s5.heap) σ7 H7 s7->N σ7 H7->∃ m,m < n/\∃ i σ' H',Inv X pins σ' H' s7/\tn i s7.heap/\(∀ b ∈ fp,H' b=none)/\W i m σ' H':=fun {σ7 H7} I7 n7=>by
      obtain⟨m',hm,w7⟩:=hN σ7 H7 n7
      refine⟨m',hm,i+1,σ7,H7,I7.unpinned,T.keep _ _ _ st5 fun b hb o e=>(I7.pin (b,o) (List.mem_append_right _ (List.mem_append_right _ (fN hb e)))).1,fun b hb=>?_,w7⟩
      obtain⟨o,e,d⟩:=T.obj _ _ st5 b hb
      exact (I7.pin (b,o) (List.mem_append_right _ (List.mem_append_right _ (fN hb e)))).2.1
    cases f with
    | next=>obtain⟨σ7,H7,I7,n7⟩:=q7;exact again I7 n7
    | cont=>obtain⟨σ7,H7,I7,n7⟩:=q7;exact again I7 n7
    | brk=>obtain⟨σ7,H7,I7,q7⟩:=q7;exact⟨σ7,H7,I7.unpinned,q7⟩
    | ret v=>obtain⟨x7,σ7,H7,I7,r7,q7⟩:=q7;exact⟨x7,σ7,H7,I7.unpinned,r7,q7⟩
end
theorem gU{K:PySem.W.Frag}{a:Addr}{xs:List V}{g:TG}{tb:TS}{D:Ends}{σ:St}{H:Hp}(Pv:Nat->St->Hp->Prop)(h0:Pv 0 σ H)(hl:∀ i σ H,i<=xs.length->Pv i σ H->SqL K H a xs)(hs:∀ i x σ H,xs[i]?=some x->Pv i σ H->g x σ H fun σ2 H2=>tb { D with nx:=Pv (i+1),ct:=Pv (i+1),bk:=D.nx } σ2 H2)(hd:∀ σ H,Pv xs.length σ H->D.nx σ H):
    ∃ W:Nat->Nat->St->Hp->Prop,(∃ m,W 0 m σ H)/\∀ i m σ H,W i m σ H ->
      ((Itl K a).stop i H/\D.nx σ H)\/((Itl K a).go i H/\∃ N:St->Hp->Prop,(∀ σ' H',N σ' H'->∃ m',m' < m/\W (i+1) m' σ' H')/\∀ x H',(Itl K a).yld i H x H'->g x σ H' fun σ2 H2=>tb { D with nx:=N,ct:=N,bk:=D.nx } σ2 H2):=by
  refine⟨fun i m σ H=>m=xs.length - i/\i<=xs.length/\Pv i σ H,⟨xs.length,by simp,Nat.zero_le _,h0⟩,?_⟩
  rintro i m σ H ⟨rfl,hi,p⟩
  have q:=hl i σ H hi p
  by_cases hlt:i < xs.length
  · refine .inr ⟨⟨xs,xs[i],q,by simp[hlt]⟩,Pv (i+1),fun σ' H' p'=>⟨xs.length - (i+1),by omega,rfl,hlt,p'⟩,fun x H' y=>?_⟩
    obtain⟨e,y⟩:=y
    subst e
    exact hs i x σ _ (y xs q) p
  · have e:i=xs.length:=by omega
    subst e
    exact .inl ⟨⟨xs,q,Nat.le_refl _⟩,hd σ H p⟩
theorem jQ{lo:Int}{n:Nat}{g:TG}{tb:TS}{D:Ends}{σ:St}{H:Hp}(Pv:Nat->St->Hp->Prop)(h0:Pv 0 σ H)(hs:∀ i σ H,i < n->Pv i σ H->g (.int (lo+i)) σ H fun σ2 H2=>tb { D with nx:=Pv (i+1),ct:=Pv (i+1),bk:=D.nx } σ2 H2)(hd:∀ σ H,Pv n σ H->D.nx σ H):
    ∃ W:Nat->Nat->St->Hp->Prop,(∃ m,W 0 m σ H)/\∀ i m σ H,W i m σ H ->
      ((Itr lo n).stop i H/\D.nx σ H)\/((Itr lo n).go i H/\∃ N:St->Hp->Prop,(∀ σ' H',N σ' H'->∃ m',m' < m/\W (i+1) m' σ' H')/\∀ x H',(Itr lo n).yld i H x H'->g x σ H' fun σ2 H2=>tb { D with nx:=N,ct:=N,bk:=D.nx } σ2 H2):=by
  refine⟨fun i m σ H=>m=n - i/\i<=n/\Pv i σ H,⟨n,by simp,Nat.zero_le _,h0⟩,?_⟩
  rintro i m σ H ⟨rfl,hi,p⟩
  by_cases hlt:i < n
  · refine .inr ⟨hlt,Pv (i+1),fun σ' H' p'=>⟨n - (i+1),by omega,rfl,hlt,p'⟩,fun x H' y=>?_⟩
    obtain⟨e,y⟩:=y
    subst e y
    exact hs i σ _ hlt p
  · have e:i=n:=by omega
    subst e
    exact .inl ⟨Nat.le_refl _,hd σ H p⟩
end L2
namespace L2
open PySem PySem.Spec PyProof.Rows
abbrev R2:=V->V->Hp->VK->Prop
def OpR(X:Cx)(f:Value->Value->Sem Value)(r:R2):Prop :=
  ∀ (pins:List (Addr × Obj)) (s:Shared) (σ:St) (H:Hp) (x y:V) (v u:Value) (Q:VK),Inv X pins σ H s->RelV x v->RelV y u->r x y H Q ->
    wpAny (model X.prog X.w) X.A (f v u) (EP X pins σ Q) X.xe s
def UnR(X:Cx)(f:Value->Sem Value)(r:V->Hp->VK->Prop):Prop :=
  ∀ (pins:List (Addr × Obj)) (s:Shared) (σ:St) (H:Hp) (x:V) (v:Value) (Q:VK),Inv X pins σ H s->RelV x v->r x H Q ->
    wpAny (model X.prog X.w) X.A (f v) (EP X pins σ Q) X.xe s
def CallR(X:Cx)(f:Value)(r:List V->Hp->VK->Prop):Prop :=
  ∀ (pins:List (Addr × Obj)) (s:Shared) (σ:St) (H:Hp) (xs:List V) (us:List Value) (Q:VK),Inv X pins σ H s->Vals xs us->r xs H Q ->
    wpAny (model X.prog X.w) X.A (call f us) (EP X pins σ Q) X.xe s
def oT(X:Cx)(r:V->Hp->(Bool->Hp->Prop)->Prop):Prop :=
  ∀ (pins:List (Addr × Obj)) (s:Shared) (σ:St) (H:Hp) (x:V) (v:Value) (Q:Bool->Hp->Prop),Inv X pins σ H s->RelV x v->r x H Q ->
    wpAny (model X.prog X.w) X.A (truthy v) (TP X pins σ Q) X.xe s
def tOp(r:R2)(ta tb:TE):TE:=fun σ H Q=>ta σ H fun x H1=>tb σ H1 fun y H2=>r x y H2 Q
def tUn(r:V->Hp->VK->Prop)(ta:TE):TE:=fun σ H Q=>ta σ H fun x H1=>r x H1 Q
def rI(C:Int->Int->Prop)(g:Int->Int->V):R2:=fun x y H Q=>∃ i j,x=.int i/\y=.int j/\C i j/\Q (g i j) H
def rI0(g:Int->Int->V):R2:=fun x y H Q=>∃ i j,x=.int i/\y=.int j/\Q (g i j) H
def rU(g:Int->V):V->Hp->VK->Prop:=fun x H Q=>∃ i,x=.int i/\Q (g i) H
section
variable {X:Cx} {a b c:Expr} {ta tb tc:TE} {pos:Pos}
theorem gW(ha:PE X a ta)(hb:PE X b tb){pins:List (Addr × Obj)}{s:Shared}{σ:St}{H:Hp}{R:V->V->Hp->Prop}(I:Inv X pins σ H s)(h:ta σ H fun x H1=>tb σ H1 fun y H2=>R x y H2){Q:Value->Shared->Prop}{f:Value->Value->Sem Value}(hf:∀ v u s2 x y H2,Inv X pins σ H2 s2->RelV x v->RelV y u->R x y H2->wpAny (model X.prog X.w) X.A (f v u) Q X.xe s2):
    wpAny (model X.prog X.w) X.A (eval a X.env) (fun v s₁=>wpAny (model X.prog X.w) X.A (eval b X.env) (fun u s₂=>wpAny (model X.prog X.w) X.A (f v u) Q X.xe s₂) X.xe s₁) X.xe s:=by
  refine thn (ha pins s σ H _ I h) fun v s1 ⟨x,H1,I1,r1,q1⟩=>?_
  refine thn (hb pins s1 σ H1 _ I1 q1) fun u s2 ⟨y,H2,I2,r2,q2⟩=>?_
  exact hf v u s2 x y H2 I2 r1 r2 q2
theorem eF{op:Operator}{r:R2}(ho:OpR X (binaryOp op) r)(ha:PE X a ta)(hb:PE X b tb):PE X (.BinOp a op b pos) (tOp r ta tb):=by
  intro pins s σ H Q I h
  exact wpAny_BinOp (gW ha hb I h fun v u s2 x y H2 I2 rx ry q=>ho pins s2 σ H2 x y v u Q I2 rx ry q)
theorem oU{op:UnaryOp}{r:V->Hp->VK->Prop}(ho:UnR X (unaryOp op) r)(ha:PE X a ta):PE X (.UnaryOp op a pos) (tUn r ta):=by
  intro pins s σ H Q I h
  exact UnaryOp_ (thn (ha pins s σ H _ I h) fun v s1 ⟨x,H1,I1,r1,q1⟩=>ho pins s1 σ H1 x v Q I1 r1 q1)
theorem opI{f:Value->Value->Sem Value}{C:Int->Int->Prop}{g:Int->Int->Int}(rule:∀ (i j:Int) (t u:Tok) (s:Shared) (Q:Value->Shared->Prop) (E:Value->Shared->Prop),C i j->Q (.int (g i j) s.toks) { s with toks:=s.toks+1 }->wpAny (model X.prog X.w) X.A (f (.int i t) (.int j u)) Q E s):
    OpR X f (rI C fun i j=>.int (g i j)):=by
  intro pins s σ H x y v u Q I rx ry h
  obtain⟨i,j,rfl,rfl,hc,q⟩:=h
  obtain⟨t,rfl⟩:=rx
  obtain⟨t',rfl⟩:=ry
  exact rule i j t t' s _ _ hc ⟨.int (g i j),H,I.tok _,⟨_,rfl⟩,q⟩
theorem jR{f:Value->Value->Sem Value}{g:Int->Int->Int}(rule:∀ (i j:Int) (t u:Tok) (s:Shared) (Q:Value->Shared->Prop) (E:Value->Shared->Prop),Q (.int (g i j) s.toks) { s with toks:=s.toks+1 }->wpAny (model X.prog X.w) X.A (f (.int i t) (.int j u)) Q E s):
    OpR X f (rI0 fun i j=>.int (g i j)):=by
  intro pins s σ H x y v u Q I rx ry h
  obtain⟨i,j,rfl,rfl,q⟩:=h
  obtain⟨t,rfl⟩:=rx
  obtain⟨t',rfl⟩:=ry
  exact rule i j t t' s _ _ ⟨.int (g i j),H,I.tok _,⟨_,rfl⟩,q⟩
theorem gX{f:Value->Value->Sem Value}{g:Int->Int->Bool}(rule:∀ (i j:Int) (t u:Tok) (s:Shared) (Q:Value->Shared->Prop) (E:Value->Shared->Prop),Q (.bool (g i j)) s->wpAny (model X.prog X.w) X.A (f (.int i t) (.int j u)) Q E s):
    OpR X f (rI0 fun i j=>.bl (g i j)):=by
  intro pins s σ H x y v u Q I rx ry h
  obtain⟨i,j,rfl,rfl,q⟩:=h
  obtain⟨t,rfl⟩:=rx
  obtain⟨t',rfl⟩:=ry
  exact rule i j t t' s _ _ ⟨.bl (g i j),H,I,rfl,q⟩
def CMul(i j:Int):Prop:=(-(2 ^ 64) < i/\i < 2 ^ 64)\/(-(2 ^ 64) < j/\j < 2 ^ 64)
theorem CMul.ok{i j:Int}(h:CMul i j):IntMulOk i j:=by
  rcases h with⟨h1,h2⟩ | ⟨h1,h2⟩
  · exact .of_left (intBits_le_64 h1 h2)
  · exact .of_right (intBits_le_64 h1 h2)
theorem jS:OpR X (binaryOp .Add) (rI0 fun i j=>.int (i+j)):=jR fun _ _ _ _ _ _ _ q=>add_int q
theorem oV:OpR X (binaryOp .Sub) (rI0 fun i j=>.int (i - j)):=jR fun _ _ _ _ _ _ _ q=>sub_int q
theorem oW:OpR X (binaryOp .Mod) (rI (fun _ j=>0 < j) fun i j=>.int (i % j)):=opI fun i j _ _ _ _ _ hc q=>by
  have h1:(0:Int) < j:=hc
  exact mod_int' (by omega) (by rw[Int.fmod_eq_emod_of_nonneg i (by omega)];exact q)
theorem unI{f:Value->Sem Value}{g:Int->Int}(rule:∀ (i:Int) (t:Tok) (s:Shared) (Q:Value->Shared->Prop) (E:Value->Shared->Prop),Q (.int (g i) s.toks) { s with toks:=s.toks+1 }->wpAny (model X.prog X.w) X.A (f (.int i t)) Q E s):
    UnR X f (rU fun i=>.int (g i)):=by
  intro pins s σ H x v Q I rx h
  obtain⟨i,rfl,q⟩:=h
  obtain⟨t,rfl⟩:=rx
  exact rule i t s _ _ ⟨.int (g i),H,I.tok _,⟨_,rfl⟩,q⟩
theorem oX:UnR X (unaryOp .USub) (rU fun i=>.int (-i)):=unI fun _ _ _ _ _ q=>neg_int q
end
section
variable {X:Cx} {a b c:Expr} {ta tb tc:TE} {pos:Pos}
theorem oY:OpR X (compareOp .Lt) (rI0 fun i j=>.bl (decide (i < j))):=gX fun _ _ _ _ _ _ _ q=>lt_int q
theorem oZ:OpR X (compareOp .Gt) (rI0 fun i j=>.bl (decide (j < i))):=gX fun _ _ _ _ _ _ _ q=>gt_int q
theorem p0:OpR X (compareOp .GtE) (rI0 fun i j=>.bl (decide (j<=i))):=gX fun _ _ _ _ _ _ _ q=>ge_int q
theorem OpR.or{f:Value->Value->Sem Value}{r r':R2}(h:OpR X f r)(h':OpR X f r'):OpR X f (fun x y H Q=>r x y H Q\/r' x y H Q):=by
  intro pins s σ H x y v u Q I rx ry q
  rcases q with q | q
  · exact h pins s σ H x y v u Q I rx ry q
  · exact h' pins s σ H x y v u Q I rx ry q
theorem cZ(b:Expr){op:CmpOp}(h:op ≠ .In:=by decide)(h2:op ≠ .NotIn:=by decide):behindInMarks op b=false:=by
  have e1:(op == CmpOp.In)=false:=by cases op <;> first | rfl | exact absurd rfl h
  have e2:(op == CmpOp.NotIn)=false:=by cases op <;> first | rfl | exact absurd rfl h2
  cases b <;> simp[behindInMarks,e1,e2]
theorem jT{op:CmpOp}{r:R2}(ho:OpR X (compareOp op) r)(ha:PE X a ta)(hb:PE X b tb)(hm:behindInMarks op b=false):PE X (.Compare a [op] [b] pos) (tOp r ta tb):=by
  intro pins s σ H Q I h
  exact wpAny_Compare1 (gW ha hb I h fun v u s2 x y H2 I2 rx ry q=>ho pins s2 σ H2 x y v u Q I2 rx ry q) hm
def p5(t:TE):TT:=fun σ H Q=>t σ H fun x H'=>∃ k,x=.bl k/\Q k H'
theorem p7{op:CmpOp}{r:R2}(ho:OpR X (compareOp op) r)(ha:PE X a ta)(hb:PE X b tb)(hm:behindInMarks op b=false):PT X (.Compare a [op] [b] pos) (p5 (tOp r ta tb)):=by
  intro pins s σ H Q I h
  refine wpAny_isTrue_Compare1 (thn (ha pins s σ H _ I h) fun v s1 ⟨x,H1,I1,r1,q1⟩=>thn (hb pins s1 σ H1 _ I1 q1) fun u s2 ⟨y,H2,I2,r2,q2⟩ =>
    thn (ho pins s2 σ H2 x y v u _ I2 r1 r2 q2) fun c s3 ⟨z,H3,I3,r3,k,e,q3⟩=>?_) hm
  subst e
  cases r3
  exact wpAny_truthy_bool ⟨H3,I3,q3⟩
def gY(K:PySem.W.Frag)(x:V)(H:Hp)(k:Bool):Prop :=
  match x with
  | .non=>k=false
  | .bl b=>k=b
  | .int i=>k=(i != 0)
  | .str y=>y.length<=sizeLine/\k=((y.length:Int) != 0)
  | .byt y=>y.size<=sizeLine/\k=((y.size:Int) != 0)
  | .ref p=>(∃ xs,SqL K H p xs/\k = !xs.isEmpty)\/(∃ xs,SqT K H p xs/\k = !xs.isEmpty)\/∃ kvs,H p=some (.dK kvs)/\k = !kvs.isEmpty
  | _=>False
theorem p8{κ:Type}{kvs:List (κ × V)}{vs:List (κ × Value)}(r:KV kvs vs):(!vs.isEmpty) = !kvs.isEmpty:=by
  cases r <;> rfl
theorem jU{xs:List V}{its:List Value}(r:Vals xs its):(!its.toArray.isEmpty) = !xs.isEmpty:=by
  cases r <;> simp
theorem eG:(sizeLine:Nat) < 2 ^ 63:=by rw[sizeLine_eq];decide
theorem p9:oT X (fun x H Q=>∃ k,gY X.K x H k/\Q k H):=by
  intro pins s σ H x v Q I rx h
  obtain⟨k,e,q⟩:=h
  have hl:=eG
  have hs:sizeLine=16777216:=sizeLine_eq
  cases x with
  | non =>
    cases rx
    have e':k=false:=e
    subst e'
    exact truthy_none ⟨H,I,q⟩
  | bl b =>
    cases rx
    have e':k=b:=e
    subst e'
    exact wpAny_truthy_bool ⟨H,I,q⟩
  | int i =>
    obtain⟨t,rfl⟩:=rx
    have e':k=(i != 0):=e
    subst e'
    exact PySem.P.truthy_int ⟨H,I,q⟩
  | str y =>
    obtain⟨t,rfl⟩:=rx
    obtain⟨hy,e'⟩:y.length<=sizeLine/\k=((y.length:Int) != 0):=e
    subst e'
    exact PySem.P.truthy_str (by omega) ⟨H,I.tok _,q⟩
  | byt y =>
    obtain⟨t,rfl⟩:=rx
    obtain⟨hy,e'⟩:y.size<=sizeLine/\k=((y.size:Int) != 0):=e
    subst e'
    exact PySem.W.truthy_bytes (by omega) ⟨H,I.tok _,q⟩
  | ref p =>
    cases rx
    have e':(∃ xs,SqL X.K H p xs/\k = !xs.isEmpty)\/(∃ xs,SqT X.K H p xs/\k = !xs.isEmpty)\/∃ kvs,H p=some (.dK kvs)/\k = !kvs.isEmpty:=e
    rcases e' with⟨xs,hx,e'⟩ | ⟨xs,hx,e'⟩ | ⟨kvs,hx,e'⟩
    · subst e'
      obtain⟨its,r,pl,hz⟩:=I.list hx
      have hlen:=r.length
      exact wpAny_truthy_list pl.isList (by simp only[List.size_toArray];omega) ⟨H,I.tok _,by rw[jU r];exact q⟩
    · subst e'
      obtain⟨its,r,pl,hz⟩:=I.tuple hx
      have hlen:=r.length
      exact truthy_tuple pl (by simp only[List.size_toArray];omega) ⟨H,I.tok _,by rw[jU r];exact q⟩
    · subst e'
      obtain⟨hz,hS,vs,r,m⟩:kvs.length<=sizeLine/\(p == sysModules)=false/\∃ vs,KV kvs vs/\s.heap.DictOf (b7 X.prog X.w) p vs:=I.hok p _ hx
      have hlen:kvs.length=vs.length:=Paired.length r
      exact wpAny_truthy_dict hS m (by omega) ⟨H,I.tok _,by rw[p8 r];exact q⟩
  | _=>exact (show False from e).elim
theorem pb(ha:PE X a ta)(he:∀ whole,isTrue a X.env whole=(do let v <- whole;standAt a.pos;holding [v] (truthy v))):
    PT X a (fun σ H Q=>ta σ H fun x H'=>∃ k,gY X.K x H' k/\Q k H'):=by
  intro pins s σ H Q I h
  exact isTrue_plain (thn (ha pins s σ H _ I h) fun v s1 ⟨x,H1,I1,r1,q1⟩=>p9 pins s1 σ H1 x v Q I1 r1 q1) (he _)
theorem d3{x:V}{us:List Value}(r:Vals [x] us):∃ u,us=[u]/\RelV x u:=by
  cases r with
  | cons r1 r2=>cases r2;exact⟨_,rfl,r1⟩
theorem jV{x y:V}{us:List Value}(r:Vals [x,y] us):∃ u w',us=[u,w']/\RelV x u/\RelV y w':=by
  cases r with
  | cons r1 r2 =>
    cases r2 with
    | cons r3 r4=>cases r4;exact⟨_,_,rfl,r1,r3⟩
theorem pc(hc:X.calm=true):CallR X (.builtin "min") (fun xs H Q=>∃ i j,xs=[.int i,.int j]/\Q (.int (if j < i then j else i)) H):=by
  intro pins s σ H xs us Q I r h
  obtain⟨i,j,rfl,q⟩:=h
  obtain⟨u,w',rfl,⟨t,rfl⟩,⟨t',rfl⟩⟩:=jV r
  refine min_two_ints (I.ok.hd hc) fun h' tk k=>⟨_,H,I.kept k,?_,q⟩
  by_cases hj:j < i
  · rw[if_pos hj,if_pos hj];exact⟨_,rfl⟩
  · rw[if_neg hj,if_neg hj];exact⟨_,rfl⟩
end
end L2
namespace L2
open PySem PySem.Spec PyProof.Rows
structure ObjM (h:Heap) (x dx C:Addr) (mA:Str->Option Value):Prop where
  obj:h.get? x=some (PySem.W.instObj C dx)
  ns:h.Ns1 dx mA
  ne:dx ≠ x
theorem pf{h:Heap}{dx:Addr}{mA:Str->Option Value}(n:h.Ns1 dx mA):∃ od,h.get? dx=some od/\∀ name,PySem.W.lookIn name od=some (mA name):=by
  obtain⟨o,es,ep,ho,hd,hk,_,hm⟩:=n
  refine⟨o,ho,fun name=>?_⟩
  have e:=hm name
  unfold nsFind findBy at e
  rw[<- Array.find?_toList] at e
  unfold PySem.W.lookIn
  rw[hd]
  dsimp only
  split
  · rename_i y q
    rw[q] at e
    exact congrArg some e
  · rename_i q
    rw[q] at e
    have a:es.toList.any (·.refKey)=false:=by
      rw[List.any_eq_false]
      intro y hy
      obtain⟨z,t,hkey⟩:=hk y (Array.mem_toList_iff.mp hy)
      simp[DictEntry.refKey,hkey]
    have a':¬ es.toList.any (·.refKey)=true:=by rw[a];exact Bool.false_ne_true
    rw[if_neg a']
    exact congrArg some e
theorem ObjM.look{h:Heap}{x dx C:Addr}{mA:Str->Option Value}(I:ObjM h x dx C mA):∃ od,PySem.W.InstAt h x (PySem.W.instObj C dx) C (some od)/\∀ name,PySem.W.lookIn name od=some (mA name) :=
  let ⟨od,ho,hl⟩:=pf I.ns
  ⟨od,⟨I.obj,rfl,rfl,ho⟩,hl⟩
section
variable {prog:Program} {w:World} {A:Around} {E:Value->Shared->Prop} {s:Shared} {K:PySem.W.Frag} {x dx C f:Addr} {mA:Str->Option Value} {name:Str} {v:Value}
end
theorem RelO.some_of{v:V}{o:Option Value}(r:RelO (some v) o):∃ u,o=some u/\RelV v u:=by
  cases o with
  | none=>exact (show False from r).elim
  | some u=>exact⟨u,rfl,r⟩
section
variable {P:Program} {w:World} {H H':Hp} {h h':Heap} {a C dx:Addr} {fs fs':List (Str × V)}
end
structure Cls (K:PySem.W.Frag) (C:Addr):Prop where
  pg:PySem.W.plainGet K C Str.empty=true
  hd:PySem.W.hasDictIn K C=true
  po:PySem.W.plainOver K C=true
  sa:PySem.W.findIn K (.ref C) "__setattr__" = some (some (.builtin "object.__setattr__"))
theorem Cls.get{K:PySem.W.Frag}{C:Addr}(c:Cls K C)(f:Str):PySem.W.plainGet K C f=true:=c.pg
structure Con (K:PySem.W.Frag) (C:Addr) (f:Str) (v:V) (u:Value):Prop where
  at_:PySem.W.findIn K (.ref C) f=some (some u)
  rel:RelV v u
  get:PySem.W.specialIn K u "__get__" = some none
  cp:PySem.W.copiedNames.contains f=false
structure Meth (K:PySem.W.Frag) (C:Addr) (m:Str) (f:Addr):Prop where
  at_:PySem.W.findIn K (.ref C) m=some (some (.ref f))
  fn:PySem.W.isFn K (.ref f)=true
  kp:PySem.W.keepIn K (.ref f)=true
section
variable {X:Cx} {pins:List (Addr × Obj)} {σ:St} {H:Hp} {s:Shared} {a C dx:Addr} {fs:List (Str × V)} {f:Str} {v:V} {A:Around} {E:Value->Shared->Prop}
theorem Inv.made(I:Inv X pins σ H s):Inv X pins σ (upd (upd H s.heap.objs.size (.own (s.heap.objs.size+1))) (s.heap.objs.size+1) (.ins C s.heap.objs.size []))
    { s with heap:=(s.heap.push PySem.W.emptyDict).push (PySem.W.instObj C s.heap.objs.size) }:=by
  have e1:(s.heap.push PySem.W.emptyDict).get? s.heap.objs.size=some PySem.W.emptyDict:=Heap.get?_push_size s.heap rfl
  have e2:((s.heap.push PySem.W.emptyDict).push (PySem.W.instObj C s.heap.objs.size)).get? (s.heap.objs.size+1)=some (PySem.W.instObj C s.heap.objs.size):=by
    have:=Heap.get?_push_size (s.heap.push PySem.W.emptyDict) (o:=PySem.W.instObj C s.heap.objs.size) rfl
    rwa [Heap.size_push] at this
  have e3:(s.heap.push PySem.W.emptyDict).Ns s.heap.objs.size (fun _=>none):=⟨PySem.W.emptyDict,#[],_,e1,rfl,(fun e he=>absurd he (by simp)),fun _=>rfl⟩
  have I1:=I.laid (a:=s.heap.objs.size) (o:=.own (s.heap.objs.size+1)) (h':=s.heap.push PySem.W.emptyDict) (t':=s.toks) (fun b u q=>Heap.get?_push_of_some _ q) (Nat.le_refl _) ⟨_,e1⟩
  refine I1.laid (a:=s.heap.objs.size+1) (o:=.ins C s.heap.objs.size []) (t':=s.toks) (fun b u q=>Heap.get?_push_of_some _ q) (Nat.le_of_eq (Heap.size_push _ _)) ?_
  have ne:s.heap.objs.size ≠ s.heap.objs.size+1:=Nat.ne_of_lt (Nat.lt_succ_self _)
  refine⟨by rw[ai ne,aK],Nat.zero_le _,ne,e2,fun _=>none,(Heap.Ns1.of_empty e3).at fun o q=>Heap.get?_push_of_some _ q,fun _=>True.intro,fun y hy=>absurd rfl hy⟩
end
section
variable {X:Cx} {o e value:Expr} {f:Str} {pos pos' tpos:Pos} {ta tv:TE}
end
section
variable {X:Cx} {pins:List (Addr × Obj)} {σ:St} {H:Hp} {s:Shared} {A:Around} {E:Value->Shared->Prop} {Q:Value->Shared->Prop} {c:Value} {b:Bool}
inductive TyOf (K:PySem.W.Frag) (H:Hp):V->Value->Prop where
  | non:TyOf K H .non (.type "NoneType")
  | bl (x:Bool):TyOf K H (.bl x) (.type "bool")
  | int (i:Int):TyOf K H (.int i) (.type "int")
  | str (x:Str):TyOf K H (.str x) (.type "str")
  | flt (x:UInt64):TyOf K H (.flt x) (.type "float")
  | lst {a:Addr} {xs:List V} (e:H a=some (.lst xs)):TyOf K H (.ref a) (.type "list")
  | frz {a:Addr} {o:Obj} {xs:List V} (e:H a=some (.frz o (.lst xs))):TyOf K H (.ref a) (.type "list")
  | tup {a:Addr} {xs:List V} (e:H a=some (.tup xs)):TyOf K H (.ref a) (.type "tuple")
  | dK {a:Addr} {kvs:List (Key × V)} (e:H a=some (.dK kvs)):TyOf K H (.ref a) (.type "dict")
  | dT {a:Addr} {kvs:List (List Key × V)} (e:H a=some (.dT kvs)):TyOf K H (.ref a) (.type "dict")
  | ins {a C dx:Addr} {fs:List (Str × V)} (e:H a=some (.ins C dx fs)) (cl:Cls K C) (ha:PySem.W.findIn K (.ref C) "__class__" = some (some (.builtin "object.__class__")))
      (hn:PySem.W.specialIn K (.builtin "object.__class__") "__get__" = some (some (.builtin "getset_descriptor.__get__"))) (htk:PySem.W.takesIn K (.builtin "object.__class__")=some true)
      (hm:PySem.W.mroIn K C (.type "object")=some true):TyOf K H (.ref a) (.ref C)
end
end L2
namespace L2
open PySem PySem.Spec PyProof.Rows
structure Room (k:Nat) (A:Around):Prop where
  hd:A.handled=none
  dp:A.depth+3 * k+5 < recursionLimit
  un:A.units+16 * k+200 < cLine
theorem Room.mono{j k:Nat}{A:Around}(r:Room k A)(h:j<=k):Room j A:=⟨r.hd,by have:=r.dp;omega,by have:=r.un;omega⟩
theorem Room.deeper{k:Nat}{A:Around}(r:Room (k+1) A)(env:Env):Room k (A.deeper env) :=
  ⟨r.hd,by have:=r.dp;show A.depth+1+3 * k+5 < _;omega,by have:=r.un;show A.units+3+16 * k+200 < _;omega⟩
theorem Room.in1{k:Nat}{A:Around}(r:Room (k+1) A):Room k A.in1 :=
  ⟨r.hd,by have:=r.dp;show A.depth+3 * k+5 < _;omega,by have:=r.un;show A.units+1+16 * k+200 < _;omega⟩
theorem Room.depth{k:Nat}{A:Around}(r:Room k A):A.depth < recursionLimit:=by have:=r.dp;omega
theorem Room.units{k:Nat}{A:Around}(r:Room k A):A.units+64 < cLine:=by have:=r.un;omega
def jW:TA:=fun _ H Q=>Q [] H
def jX(ta:TE)(tr:TA):TA:=fun σ H Q=>ta σ H fun x H1=>tr σ H1 fun xs H2=>Q (x::xs) H2
section
variable {X:Cx} {e:Expr} {es:List Expr} {te:TE} {t:TA} {pos:Pos}
theorem cv:PA X [] jW:=fun _ _ _ _ H Q I h=>Calls.spliced_nil ⟨[],H,I,.nil,h⟩
theorem bO(ha:PE X e te)(hr:PA X es t)(hs:starEach (e::es) X.env=(false,eval e X.env)::starEach es X.env:=by rfl):PA X (e::es) (jX te t):=by
  intro pos pins s σ H Q I h
  rw[hs]
  show wpAny _ _ (spliced ((false,eval e X.env)::backTo pos (starEach es X.env))) _ _ s
  refine Calls.spliced_cons (thn (ha pins s σ H _ I h) fun u s1 ⟨x,H1,I1,r1,q1⟩=>?_)
  exact thn (hr pos pins s1 σ H1 _ I1 q1) fun us s2 ⟨xs,H2,I2,r2,q2⟩=>⟨x::xs,H2,I2,.cons r1 r2,q2⟩
def ph(t:TA):TE:=fun σ H Q=>t σ H fun xs H1=>xs.length<=sizeLine/\∀ p,H1 p=none->Q (.ref p) (upd H1 p (.tup xs))
def pj(t:TA):TE:=fun σ H Q=>t σ H fun xs H1=>xs.length<=sizeLine/\∀ p,H1 p=none->Q (.ref p) (upd H1 p (.lst xs))
theorem pk{x1}(h:PA X es t):PE X (.Tuple es x1 pos) (ph t):=by
  intro pins s σ H Q I hq
  refine wpAny_Tuple_spliced (thn (h pos pins s σ H _ I hq) fun us s1 ⟨xs,H1,I1,r,z,q⟩=>⟨by rw[<- r.length];exact z,?_⟩)
  have hf:H1 s1.heap.objs.size=none:=I1.hok.fresh (Nat.le_refl _)
  refine⟨.ref s1.heap.objs.size,upd H1 s1.heap.objs.size (.tup xs),I1.laid (t':=s1.toks) (fun b u e=>Heap.get?_push_of_some _ e) (Nat.le_refl _) ?_,rfl,q _ hf⟩
  exact⟨z,us,r,⟨_,Heap.get?_push_size _ rfl,rfl,_,rfl⟩⟩
theorem pp(h:PA X es t):PE X (.List es pos) (pj t):=by
  intro pins s σ H Q I hq
  refine wpAny_List_spliced (thn (h pos pins s σ H _ I hq) fun us s1 ⟨xs,H1,I1,r,z,q⟩=>⟨by rw[<- r.length];exact z,?_⟩)
  have hf:H1 s1.heap.objs.size=none:=I1.hok.fresh (Nat.le_refl _)
  refine⟨.ref s1.heap.objs.size,upd H1 s1.heap.objs.size (.lst xs),I1.laid (t':=s1.toks) (fun b u e=>Heap.get?_push_of_some _ e) (Nat.le_refl _) ?_,rfl,q _ hf⟩
  exact⟨z,us,0,r,Heap.get?_push_size _ rfl⟩
end
abbrev Sp:=List V->Hp->VK->XK->Prop
abbrev CXT:=List Env->Hp->Shared->XK->Value->Shared->Prop
structure Env0 (P:Program) (w:World) (K:PySem.W.Frag) (mg:Str->Option Value) (base:Heap) (A:Around) (outer:List Env) (s:Shared) (H:Hp):Prop where
  frames:A.frames=some outer
  mod:Mod K mg base
  bs:∀ b o,base.get? b=some o->s.heap.get? b=some o/\H b=none
  bsz:base.objs.size<=s.heap.objs.size
  funs:s.heap.FunFrames base outer
  frf:∀ b ∈ frs outer,H b=none
  hok:HOk P w H s.heap
  bare:AllBare s.gens
def CE(outer:List Env)(P:Program)(w:World)(H:Hp)(s:Shared)(Q:VK)(u:Value)(s':Shared):Prop :=
  ∃ v H',s'.os=s.os/\AllBare s'.gens/\Un (frs outer) [] H H' s.heap s'.heap/\HOk P w H' s'.heap/\RelV v u/\Q v H'
def CR(CX:CXT)(outer:List Env)(P:Program)(w:World)(H:Hp)(s:Shared)(Q:VK)(E:XK)(r:Result)(s':Shared):Prop :=
  match r with
  | .ok (.ret u)=>CE outer P w H s Q u s'
  | .ok _=>False
  | .error e=>CX outer H s E e s'
structure FnOk (P:Program) (w:World) (K:PySem.W.Frag) (mg:Str->Option Value) (base:Heap) (CX:CXT) (k:Nat) (f:Addr) (fd:FuncData) (ps:List Str) (sp:Sp):Prop where
  len:∀ vs H Q E,sp vs H Q E->vs.length=ps.length
  run:∀ (A:Around) (outer:List Env) (s:Shared) (H:Hp) (args:Args) (us:List Value) (vs:List V) (Q:VK) (E:XK),Room k A->Env0 P w K mg base A outer s H->BindsTo s fd args (ps.zip us)->Vals vs us->sp vs H Q E ->
    codeAny (model P w) A (.call (.ref f) args) (CR CX outer P w H s Q E) s
theorem FnOk.mono{P:Program}{w:World}{K:PySem.W.Frag}{mg:Str->Option Value}{base:Heap}{CX:CXT}{j k:Nat}{f:Addr}{fd:FuncData}{ps:List Str}{sp:Sp}(F:FnOk P w K mg base CX j f fd ps sp)(h:j<=k):
    FnOk P w K mg base CX k f fd ps sp:=⟨F.len,fun A outer s H args us vs Q E hr=>F.run A outer s H args us vs Q E (hr.mono h)⟩
theorem FnOk.imp{P:Program}{w:World}{K:PySem.W.Frag}{mg:Str->Option Value}{base:Heap}{CX:CXT}{k:Nat}{f:Addr}{fd:FuncData}{ps:List Str}{sp sp':Sp}(F:FnOk P w K mg base CX k f fd ps sp)(h:∀ vs H Q E,sp' vs H Q E->sp vs H Q E):FnOk P w K mg base CX k f fd ps sp' :=
  ⟨fun vs H Q E q=>F.len vs H Q E (h _ _ _ _ q),fun A outer s H args us vs Q E hr he hb hv hs=>F.run A outer s H args us vs Q E hr he hb hv (h _ _ _ _ hs)⟩
theorem Env0.in1{P:Program}{w:World}{K:PySem.W.Frag}{mg:Str->Option Value}{base:Heap}{A:Around}{outer:List Env}{s:Shared}{H:Hp}(e:Env0 P w K mg base A outer s H):
    Env0 P w K mg base A.in1 outer s H:=⟨e.frames,e.mod,e.bs,e.bsz,e.funs,e.frf,e.hok,e.bare⟩
section
variable {X:Cx} {pins:List (Addr × Obj)} {σ:St} {H:Hp} {s s':Shared}
theorem Inv.env0(I:Inv X pins σ H s):Env0 X.prog X.w X.K X.mg X.base X.A X.stack s H :=
  ⟨I.ok.frames,I.ok.mod,I.bs,Nat.le_trans I.ok.bsz I.sz,I.stack,I.stkFree,I.hok,I.bare⟩
theorem Inv.after{Q:VK}{u:Value}(I:Inv X pins σ H s)(h:CE X.stack X.prog X.w H s Q u s'):EP X pins σ Q u s':=by
  obtain⟨v,H',os,bare,un,hok,r,q⟩:=h
  obtain⟨hh,g,d,t,os'⟩:=s'
  obtain rfl:os'=s.os:=os
  exact⟨v,H',I.call (h':=hh) (g':=g) (d':=d) (t':=t) (ch:=[]) un hok bare (fun b z=>absurd z (by simp)),r,q⟩
end
def pv(sp:Sp)(dvs:List V)(E:XK)(t:TA):TE:=fun σ H Q=>t σ H fun vs H1=>sp (vs++dvs) H1 Q E
def Binds(K:PySem.W.Frag)(fd:FuncData)(ps:List Str)(ds:List Value):Prop :=
  ∀ (s:Shared) (us:List Value),K.In s.heap->(us++ds).length=ps.length->BindsTo s fd ⟨us,[]⟩ (ps.zip (us++ds))
theorem Binds.all{K:PySem.W.Frag}{fd:FuncData}{ps:List Str}(h:∀ us:List Value,us.length=ps.length->bindArgs fd ⟨us,[]⟩=pure (ps.zip us)):Binds K fd ps []:=fun s us _ hl=>by
  rw[List.append_nil] at hl ⊢
  exact .of_eq (h us hl)
def gZ(CX:CXT)(X:Cx)(E:XK):Prop:=∀ (pins:List (Addr × Obj)) (σ:St) (H:Hp) (s:Shared) (e:Value) (s':Shared),Inv X pins σ H s->CX X.stack H s E e s'->X.xe e s'
section
variable {X:Cx} {CX:CXT} {k:Nat} {f C:Addr} {fd:FuncData} {ps:List Str} {sp:Sp} {dvs:List V} {ds:List Value} {E:XK} {x m:Str} {p pos apos:Pos} {e o:Expr} {es:List Expr} {ta:TE} {t:TA}
theorem pw{pins:List (Addr × Obj)}{σ:St}{H:Hp}{s:Shared}{Q:VK}{us:List Value}{vs:List V}(F:FnOk X.prog X.w X.K X.mg X.base CX k f fd ps sp)(hr:Room k X.A)(hb:Binds X.K fd ps ds)(hd:Vals dvs ds)(hx:gZ CX X E)(I:Inv X pins σ H s)(r:Vals vs us)(h:sp (vs++dvs) H Q E):wpAny (model X.prog X.w) X.A (call (.ref f) us) (EP X pins σ Q) X.xe s:=by
  have r2:Vals (vs++dvs) (us++ds):=r.append hd
  have hl:(us++ds).length=ps.length:=by rw[<- r2.length];exact F.len _ _ _ _ h
  refine wpAny_call (codeAny_mono (F.run X.A X.stack s H ⟨us,[]⟩ (us++ds) (vs++dvs) Q E hr I.env0 (hb s us I.kIn hl) r2 h) fun r s' hq=>?_)
  cases r with
  | error e=>exact hx pins σ H s e s' I hq
  | ok fl =>
    cases fl with
    | ret u=>exact I.after hq
    | next=>exact False.elim hq
    | brk=>exact False.elim hq
    | cont=>exact False.elim hq
theorem hG(F:FnOk X.prog X.w X.K X.mg X.base CX k f fd ps sp)(hr:Room k X.A)(hg:Gl X x)(hm:X.mg x=some (.ref f))(hk:PySem.W.keepIn X.K (.ref f)=true)(hb:Binds X.K fd ps ds)(hd:Vals dvs ds)(hx:gZ CX X E)(ha:PA X (e::es) t)(hdb:(x == ("__debug__" : Str))=false:=by decide)(he:starEach (e::es) X.env=(false,eval e X.env)::starEach es X.env:=by rfl)(hpl:(backTo pos (starEach es X.env)).any (·.1)=false:=by rfl):
    PE X (.Call (.Name x p) (e::es) [] pos) (pv sp dvs E t):=by
  intro pins s σ H Q I h
  refine wpAny_Call_Name_kw (ot I hg hm ?_ hdb)
  refine PySem.W.callWith_K (h₀:=X.base) I.ok.mod.kin hk (thn (ha pos pins s σ H _ I h) fun us s1 ⟨vs,H1,I1,r,q⟩=>⟨I1.kIn,?_⟩) he hpl
  exact pw F hr hb hd hx I1 r q
structure Mk (K:PySem.W.Frag) (C f:Addr):Prop where
  makes:PySem.W.makesIn K C=true
  init:PySem.W.findIn K (.ref C) "__init__" = some (some (.ref f))
  fn:PySem.W.isFn K (.ref f)=true
  kp:PySem.W.keepIn K (.ref C)=true
end
section
variable {X:Cx} {CX:CXT} {k:Nat} {f C:Addr} {fd:FuncData} {ps ks:List Str} {sp:Sp} {E:XK} {x m:Str} {p pos apos kpos:Pos} {e o:Expr} {es:List Expr} {kws:List Keyword} {te ta:TE} {t tk:TA} {nm:Option Str}
structure KBinds (K:PySem.W.Frag) (fd:FuncData) (ps ks:List Str) (g:List Value->List Value->List Value) (gV:List V->List V->List V):Prop where
  to:∀ (s:Shared) (us ws:List Value),K.In s.heap->(g us ws).length=ps.length->BindsTo s fd ⟨us,ks.zip ws⟩ (ps.zip (g us ws))
  rel:∀ {vs:List V} {us:List Value} {zs:List V} {ws:List Value},Vals vs us->Vals zs ws->Vals (gV vs zs) (g us ws)
variable {g:List Value->List Value->List Value} {gV:List V->List V->List V}
end
structure FnScope (N P:List Str) (sc:Scope):Prop where
  kind:sc.kind=.function
  co:sc.isCoroutine=false
  gen:sc.isGenerator=false
  nd:N.Nodup
  pre:N.take P.length=P
  par:∀ x ∈ P,sc.names.lookup x=some .local\/sc.names.lookup x=some .cell
  nofree:∀ y ∈ sc.names,y.2 ≠ .free
theorem jY{kindOf:Str->Option NameKind}{x:Str}:∀ {binds:List (Str × Value)} {m:Str->Option Value},(∀ v,(x,v) ∉ binds)->bindL kindOf binds m x=m x
  | [],_,_=>rfl
  | (n,v)::r,m,h=>by
    unfold bindL
    rw[jY fun w hw=>h w (List.mem_cons_of_mem _ hw)]
    split
    · have:x ≠ n:=by rintro rfl;exact h v List.mem_cons_self
      simp[this]
    · rfl
theorem jZ{kindOf:Str->Option NameKind}{x:Str}:∀ {binds:List (Str × Value)} {m:Str->Option Value},(∀ v,(x,v) ∉ binds)->bindC kindOf binds m x=m x
  | [],_,_=>rfl
  | (n,v)::r,m,h=>by
    unfold bindC
    rw[jZ fun w hw=>h w (List.mem_cons_of_mem _ hw)]
    split
    · rfl
    · have:x ≠ n:=by rintro rfl;exact h v List.mem_cons_self
      simp[this]
theorem k0{kindOf:Str->Option NameKind}{x:Str}{v:Value}:∀ {P:List Str} {vs:List Value} {i:Nat} {m:Str->Option Value},P.Nodup->P[i]?=some x->vs[i]?=some v->kindOf x=some .local ->
    bindL kindOf (P.zip vs) m x=some v
  | [],_,_,_,_,h,_,_=>by simp at h
  | _::_,[],_,_,_,_,h,_=>by simp at h
  | p::P,w::vs,0,m,nd,h1,h2,hk=>by
    simp at h1 h2;subst h1;subst h2
    show bindL kindOf ((p,w)::P.zip vs) m p=_
    unfold bindL
    rw[jY fun v hv=>(List.nodup_cons.mp nd).1 (List.of_mem_zip hv).1,if_pos hk]
    simp
  | p::P,w::vs,i+1,m,nd,h1,h2,hk=>by
    show bindL kindOf ((p,w)::P.zip vs) m x=_
    unfold bindL
    exact k0 (i:=i) (List.nodup_cons.mp nd).2 (by simpa using h1) (by simpa using h2) hk
theorem kc{kindOf:Str->Option NameKind}{x:Str}{v:Value}:∀ {P:List Str} {vs:List Value} {i:Nat} {m:Str->Option Value},P.Nodup->P[i]?=some x->vs[i]?=some v->kindOf x ≠ some .local ->
    bindC kindOf (P.zip vs) m x=some v
  | [],_,_,_,_,h,_,_=>by simp at h
  | _::_,[],_,_,_,_,h,_=>by simp at h
  | p::P,w::vs,0,m,nd,h1,h2,hk=>by
    simp at h1 h2;subst h1;subst h2
    show bindC kindOf ((p,w)::P.zip vs) m p=_
    unfold bindC
    rw[jZ fun v hv=>(List.nodup_cons.mp nd).1 (List.of_mem_zip hv).1,if_neg hk]
    simp
  | p::P,w::vs,i+1,m,nd,h1,h2,hk=>by
    show bindC kindOf ((p,w)::P.zip vs) m x=_
    unfold bindC
    exact kc (i:=i) (List.nodup_cons.mp nd).2 (by simpa using h1) (by simpa using h2) hk
def start(N:List Str)(vs:List V):St:=vs.map some++List.replicate (N.length - vs.length) none
def bP(CX:CXT)(P:Program)(w:World)(K:PySem.W.Frag)(mg:Str->Option Value)(base:Heap)(N:List Str)(qual:Str)(scope:Scope)(f:Addr)(cd:Value)(A:Around)(outer:List Env)(s:Shared)(H:Hp)(E:XK):Cx where
  prog:=P
  w:=w
  K:=K
  mg:=mg
  base:=base
  A:=A.deeper (envOfC qual scope s.heap.objs.size f cd)
  N:=N
  s₀:=s
  H₀:=H
  env:=envOfC qual scope s.heap.objs.size f cd
  outer:=outer
  stack:=envOfC qual scope s.heap.objs.size f cd::outer
  ex:=[]
  calm:=true
  fn:=fun _=>true
  pn:=[]
  xe:=fun e s'=>wpAny (model P w) (A.deeper (envOfC qual scope s.heap.objs.size f cd)) (leaving (envOfC qual scope s.heap.objs.size f cd) e) (fun _ s''=>CX outer H s E e s'') (fun e' s''=>CX outer H s E e' s'') s'
theorem kf{sc:Scope}{n:Nat}{x:Str}(h:sc.names.lookup x=some .cell):∃ c,(cellsFrom n sc.names []).lookup x=some c:=by
  have q:=PySem.W.cellsFrom_some sc.names n [] (.inl h)
  exact Option.isSome_iff_exists.mp q
theorem py{CX:CXT}{P:Program}{w:World}{K:PySem.W.Frag}{mg:Str->Option Value}{base:Heap}{N ps:List Str}{qual:Str}{scope:Scope}{f:Addr}{cd:Value}{A:Around}{outer:List Env}{s s1:Shared}{H:Hp}{E:XK}{us:List Value}{vs:List V}(S:FnScope N ps scope)(hd:A.handled=none)(e0:Env0 P w K mg base A outer s H)(hl:vs.length=ps.length)(r:Vals vs us)(x:InCallC s s.heap.objs.size (bindL (envOfC qual scope s.heap.objs.size f cd).kindOf (ps.zip us) fun _=>none) (cellsFrom (s.heap.objs.size+1) scope.names []) (bindC (envOfC qual scope s.heap.objs.size f cd).kindOf (ps.zip us) fun _=>none) s1):
    Inv (bP CX P w K mg base N qual scope f cd A outer s H E) [] (start N vs) H s1:=by
  have hpl:ps.length<=N.length:=by have:=congrArg List.length S.pre;rw[List.length_take] at this;omega
  obtain⟨h1,tk,rfl,hk⟩:=x.done
  have noA:∀ b:Addr,b ∉ (bP CX P w K mg base N qual scope f cd A outer s H E).ex:=fun b z=>absurd (show b ∈ ([]:List Addr) from z) (by simp)
  refine⟨⟨e0.mod,S.kind,rfl,rfl,Nat.le_refl _,fun y z c h1 h2=>?_,fun y hy=>?_,fun y c _ h=>?_,fun _=>hd,Around.frames_deeper e0.frames,.inr ⟨rfl,rfl⟩,fun b z=>absurd z (noA b),e0.bs,e0.bsz,fun b _ _=>noA b,fun b z=>absurd z (noA b),e0.funs,e0.frf⟩,
    rfl,e0.bare,Un.kept hk,⟨_,x.toInCall.ns,fun i y v h1 h2 h3=>?_⟩,fun y c h=>⟨_,x.cell y c h⟩,e0.hok.fresh (Nat.le_refl _),fun y c h=>?_,fun p hp=>absurd (show p ∈ ([]:List (Addr × Obj)) from hp) (by simp),e0.hok.kept hk,?_⟩
  · exact name_of_addr x.apart (PySem.mem_of_lookup h1) (PySem.mem_of_lookup h2)
  · have hy:scope.names.lookup y=some .cell\/scope.names.lookup y=some .free:=hy
    rcases hy with hy | hy
    · exact kf hy
    · exact absurd rfl (S.nofree _ (PySem.mem_of_lookup hy))
  · exact Nat.le_of_lt (x.above y c (PySem.mem_of_lookup h))
  · have hi:i < vs.length:=by
      unfold start at h2
      by_cases hi:i < vs.length
      · exact hi
      · rw[List.getElem?_append_right (by simpa using hi)] at h2
        rw[List.getElem?_replicate] at h2
        split at h2 <;> cases h2
    have ha:vs[i]?=some v:=by
      unfold start at h2
      rw[List.getElem?_append_left (by simpa using hi),List.getElem?_map] at h2
      cases e:vs[i]? with
      | none=>rw[e] at h2;cases h2
      | some a=>rw[e] at h2;cases h2;rfl
    obtain⟨u,hu,rv⟩:=r.get ha
    have hp:ps[i]?=some y:=by
      rw[<- S.pre,List.getElem?_take_of_lt (by omega)];exact h1
    have ndP:ps.Nodup:=by rw[<- S.pre];exact S.nd.sublist (List.take_sublist _ _)
    refine⟨u,rv,?_⟩
    rcases S.par y (List.mem_of_getElem? hp) with k | k
    · exact .inl ⟨k,k0 ndP hp hu k⟩
    · obtain⟨c,e⟩:=kf (n:=s.heap.objs.size+1) k
      refine .inr ⟨.inl k,c,e,?_⟩
      have q:=x.cell y c e
      rw[kc ndP hp hu (by show scope.names.lookup y ≠ _;rw[k];decide)] at q
      exact q
  · exact e0.hok.fresh (Nat.le_of_lt (x.above y c (PySem.mem_of_lookup h)))
  · unfold start
    show _=N.length
    rw[List.length_append,List.length_map,List.length_replicate]
    omega
theorem pz{CX:CXT}{P:Program}{w:World}{K:PySem.W.Frag}{mg:Str->Option Value}{base:Heap}{k:Nat}{f:Addr}{name qual:Str}{params:Arguments}{body:List Stmt}{scope:Scope}{dV kV doc pm cdv ct oc:Value}{an od:Option Addr}{osl:Array (Option Value)}{N ps:List Str}{sp:Sp}(lk:K.lookup f=some ⟨oc,od,.func (PySem.W.fnOf name qual params body scope dV kV doc pm an cdv ct),osl⟩)(hcd:PySem.W.codeIn K cdv qual=true)(S:FnScope N ps scope)(len:∀ vs H Q E,sp vs H Q E->vs.length=ps.length)(hbody:∀ (A:Around) (outer:List Env) (s:Shared) (H:Hp) (vs:List V) (Q:VK) (E:XK),Room k (A.deeper (envOfC qual scope s.heap.objs.size f cdv))->sp vs H Q E ->
      ∃ t,PSs (bP CX P w K mg base N qual scope f cdv A outer s H E) body t/\t { nx:=fun _ H'=>Q .non H',rt:=Q } (start N vs) H):
    FnOk P w K mg base CX (k+1) f (PySem.W.fnOf name qual params body scope dV kV doc pm an cdv ct) ps sp:=by
  refine⟨len,fun A outer s H args us vs Q E hr e0 hb r hsp=>?_⟩
  have hl:=len _ _ _ _ hsp
  have KX:K.In s.heap:=e0.mod.kin.keeps fun b o e=>(e0.bs b o e).1
  have lim:s.heap.NoLimit:=e0.mod.nolimit.keeps fun b o e=>(e0.bs b o e).1
  have hkind:∀ y ∈ ps.zip us,scope.names.lookup y.1=some .local\/(scope.names.lookup y.1=some .cell/\((cellsFrom (s.heap.objs.size+1) scope.names []).lookup y.1).isSome=true):=fun⟨n,v⟩ hy=>by
    rcases S.par n (List.of_mem_zip hy).1 with q | q
    · exact .inl q
    · exact .inr ⟨q,PySem.W.cellsFrom_some _ _ _ (.inl q)⟩
  refine codeAny_call_function hr.depth (KX _ _ lk) rfl S.co S.gen rfl (PySem.W.codeRec_of KX hcd) (hb _ _ _ _ ?_)
  refine wpAny_newFunctionEnv_cells S.kind hkind fun env he s1 x=>?_
  subst he
  refine⟨lim.keeps x.toInCall.keep,codeAny_func ?_⟩
  obtain⟨t,ht,hq⟩:=hbody A outer s H vs Q E (hr.deeper _) hsp
  have I:Inv (bP CX P w K mg base N qual scope f cdv A outer s H E) [] (start N vs) H s1:=py S hr.hd e0 hl r x
  refine wpAny_mono (ht [] s1 (start N vs) H _ I hq) (fun fl s' hs=>?_) fun e s' hs=>hs
  have fin:∀ {σ':St} {H':Hp} {v:V} {u:Value},Inv (bP CX P w K mg base N qual scope f cdv A outer s H E) [] σ' H' s'->RelV v u->Q v H'->CE outer P w H s Q u s' :=
    fun {σ' H' v u} J rv q=>⟨v,H',J.os,J.bare,J.base,J.hok,rv,q⟩
  cases fl with
  | ret u =>
    obtain⟨v,σ',H',J,rv,q⟩:=hs
    exact fin J rv q
  | next =>
    obtain⟨σ',H',J,q⟩:=hs
    exact fin (v:=V.non) (u:=Value.none) J rfl q
  | brk =>
    obtain⟨_,_,_,q⟩:=hs
    exact False.elim q
  | cont =>
    obtain⟨_,_,_,q⟩:=hs
    exact False.elim q
end L2
namespace L2
open PySem PySem.Spec PyProof.Rows
section
variable {X:Cx} {x:Str} {p pos:Pos} {e:Expr} {es:List Expr} {t:TA} {id T:String} {r:List V->Hp->VK->Prop}
def tCB(r:List V->Hp->VK->Prop)(t:TA):TE:=fun σ H Q=>t σ H fun vs H1=>r vs H1 Q
theorem fO(hc:CallR X (.builtin id) r)(hg:Gl X x)(hm:X.mg x=none)(hv:bootBuiltins x=some (.builtin id))(ha:PA X (e::es) t)(hn:x ≠ "__name__":=by decide)(hdb:(x == ("__debug__" : Str))=false:=by decide)(he:starEach (e::es) X.env=(false,eval e X.env)::starEach es X.env:=by rfl)(hpl:(backTo pos (starEach es X.env)).any (·.1)=false:=by rfl):PE X (.Call (.Name x p) (e::es) [] pos) (tCB r t):=by
  intro pins s σ H Q I h
  refine wpAny_Call_Name_kw (dA I hg hm hv ?_ hn hdb)
  exact PyProof.Rows.callWith_builtin1 (thn (ha pos pins s σ H _ I h) fun us s1 ⟨vs,H1,I1,r1,q1⟩=>hc pins s1 σ H1 vs us Q I1 r1 q1) he hpl
theorem pA(hc:CallR X (.type T) r)(hg:Gl X x)(hm:X.mg x=none)(hv:bootBuiltins x=some (.type T))(ha:PA X (e::es) t)(hn:x ≠ "__name__":=by decide)(hdb:(x == ("__debug__" : Str))=false:=by decide)(he:starEach (e::es) X.env=(false,eval e X.env)::starEach es X.env:=by rfl)(hpl:(backTo pos (starEach es X.env)).any (·.1)=false:=by rfl):PE X (.Call (.Name x p) (e::es) [] pos) (tCB r t):=by
  intro pins s σ H Q I h
  refine wpAny_Call_Name_kw (dA I hg hm hv ?_ hn hdb)
  exact PyProof.Rows.callWith_type1 (thn (ha pos pins s σ H _ I h) fun us s1 ⟨vs,H1,I1,r1,q1⟩=>hc pins s1 σ H1 vs us Q I1 r1 q1) he hpl
end
end L2
namespace HT
open PySem PyProof.Rows
section
open PySem.SeqAt
open PySem.AutoSeq1 (wpAny_loadPart')
open PySem.MeetsSeq PySem.MeetsSeq2 PySem.MeetsSeq3
end
section
variable {prog:Program} {w:World} {A:Around} {E:Value->Shared->Prop} {s:Shared}
theorem cat_tup{t b:Addr}{vs ws:List Value}{Q:Value->Shared->Prop}(ht:IsTup s.heap t vs.toArray)(hb:IsTup s.heap b ws.toArray)(hv:vs ≠ [])(h1:ws=[]->Q (.ref t) s)(h2:ws ≠ []->Q (.ref s.heap.objs.size) { s with heap:=s.heap.push { cls:=.type "tuple",data:=.seq (vs++ws).toArray } })(hsz:vs.length+ws.length<=sizeLine):wpAny (model prog w) A (binaryOp .Add (.ref t) (.ref b)) Q E s:=by
  obtain⟨⟨cls,dd,data,sl⟩,ho,hc,n,hd⟩:=id ht
  obtain⟨⟨cls2,dd2,data2,sl2⟩,ho2,hc2,n2,hd2⟩:=id hb
  simp only at hc hd hc2 hd2
  subst hc hd hc2 hd2
  have e:vs.toArray++ws.toArray=(vs++ws).toArray:=by simp
  by_cases hw:ws=[]
  · exact concat_meets ⟨_,ho,rfl⟩ ⟨_,ho2,rfl⟩ noFill_tuple_add seq_tuple_add PySem.F.slot_tuple_add PySem.F.entry_tuple_add (PySem.F.args_tuple_add_2 _ _)
      (tuple_addW1 t b vs.toArray ws.toArray n n2 dd dd2 sl sl2 (by simpa using hv) (by simp[hw])) ⟨ho,ho2,h1 hw⟩
  · refine concat_meets ⟨_,ho,rfl⟩ ⟨_,ho2,rfl⟩ noFill_tuple_add seq_tuple_add PySem.F.slot_tuple_add PySem.F.entry_tuple_add (PySem.F.args_tuple_add_2 _ _)
      (tuple_addW2 t b vs.toArray ws.toArray n n2 dd dd2 sl sl2 (by simpa using hv) (by simpa using hw) (by rw[List.size_toArray,List.size_toArray];exact hsz)) ⟨ho,ho2,?_⟩
    rw[e]
    exact h2 hw
def sIx(n d:Nat):Option Int->Nat
  | none=>d
  | some v=>if v < 0 then (v+(n:Int)).toNat else min v.toNat n
theorem pB(n d:Nat)(hd:d<=n)(o:Option Int):sIx n d o<=n:=by
  cases o with
  | none=>exact hd
  | some v =>
    show (if v < 0 then (v+(n:Int)).toNat else min v.toNat n)<=n
    by_cases hv:v < 0
    · rw[if_pos hv];omega
    · rw[if_neg hv];exact Nat.min_le_right _ _
theorem kg(v:Int)(n d:Nat):(if v < 0 then max (v+(n:Int)) 0 else min v (n:Int))=((sIx n d (some v):Nat):Int):=by
  show (if v < 0 then max (v+(n:Int)) 0 else min v (n:Int))=(((if v < 0 then (v+(n:Int)).toNat else min v.toNat n):Nat):Int)
  by_cases hv:v < 0
  · simp only[if_pos hv];omega
  · simp only[if_neg hv];omega
theorem pC(lo hi:Option Int)(n:Nat):Builtin.Slice.sliceAdjust lo hi 1 (n:Int)=(((sIx n 0 lo:Nat):Int),((sIx n n hi:Nat):Int)):=by
  have h1:¬ ((1:Int) < 0):=by omega
  unfold Builtin.Slice.sliceAdjust
  simp only[h1,if_false]
  refine Prod.ext ?_ ?_
  · cases lo with
    | none=>rfl
    | some v=>exact kg v n 0
  · cases hi with
    | none=>rfl
    | some v=>exact kg v n n
theorem pD(i j:Nat):Builtin.Slice.slicePlaces (i:Int) (j:Int) 1=j - i:=by
  unfold Builtin.Slice.slicePlaces
  have h1:(1:Int) > 0:=by omega
  simp only[h1,if_true,Int.ediv_one]
  split <;> omega
theorem kh{v:Value}{o:Option Int}{Q:Option Int->Shared->Prop}(p:IsPart v o)(h:Q o s):wpAny (model prog w) A (Builtin.Slice.slicePartIndex v) Q E s:=by
  cases p with
  | none=>exact slicePart_none h
  | int i t=>exact slicePart_int h
theorem pE{sl:Addr}{vl vu:Value}{lo hi:Option Int}{n:Nat}{Q:Int × Int × Nat->Shared->Prop}(hs:s.heap.IsSliceOf sl vl vu .none)(pl:IsPart vl lo)(pu:IsPart vu hi)(h:Q (((sIx n 0 lo:Nat):Int),1,sIx n n hi - sIx n 0 lo) s):wpAny (model prog w) A (Builtin.Slice.sliceApplied (.ref sl) (pure (n:Int))) Q E s:=by
  obtain⟨os,hos,hcs,hds⟩:=id hs
  unfold Builtin.Slice.sliceApplied Builtin.Slice.sliceFields
  refine wpAny_bind (wpAny_bind (wpAny_field hos hds (x:=vl) rfl (wpAny_bind (wpAny_field hos hds (x:=vu) rfl (wpAny_bind (wpAny_field hos hds (x:=.none) rfl (wpAny_pure ?_)))))))
  refine wpAny_bind (slicePart_none ?_)
  show wpAny _ _ (if ((1:Int) == 0)=true then _ else _) _ _ s
  rw[if_neg (by decide)]
  refine wpAny_bind (kh pl (wpAny_bind (kh pu (wpAny_bind (wpAny_pure ?_)))))
  show wpAny _ _ (match Builtin.Slice.sliceAdjust lo hi 1 (n:Int) with | (lo,hi)=>pure (lo,(1:Int),Builtin.Slice.slicePlaces lo hi 1)) _ _ s
  rw[pC lo hi n]
  show wpAny _ _ (pure (((sIx n 0 lo:Nat):Int),(1:Int),Builtin.Slice.slicePlaces ((sIx n 0 lo:Nat):Int) ((sIx n n hi:Nat):Int) 1)) _ _ s
  rw[pD]
  exact wpAny_pure h
theorem pF(xs:Array Value)(i k:Nat):((List.range k).filterMap fun (m:Nat)=>xs[((i:Int)+(m:Int) * 1).toNat]?).toArray=((xs.toList.drop i).take k).toArray:=by
  have e:(fun (m:Nat)=>xs[((i:Int)+(m:Int) * 1).toNat]?)=fun m=>xs[i+m]?:=by
    funext m
    have:((i:Int)+(m:Int) * 1).toNat=i+m:=by omega
    rw[this]
  rw[e]
  have:=pick_run xs i k
  rw[List.filterMap_map] at this
  have e2:((fun x=>xs[x]?) ∘ fun x=>i+x)=fun m=>xs[i+m]?:=rfl
  rw[e2] at this
  rw[this]
theorem getItem_tuple_cut{t sl:Addr}{items:Array Value}{vl vu:Value}{lo hi:Option Int}{Q:Value->Shared->Prop}(ht:IsTup s.heap t items)(hs:s.heap.IsSliceOf sl vl vu .none)(pl:IsPart vl lo)(pu:IsPart vu hi)(hw:¬ (sIx items.size 0 lo=0/\sIx items.size items.size hi=items.size))(h:Q (.ref s.heap.objs.size) { s with heap:=s.heap.push { cls:=.type "tuple",data:=.seq ((items.toList.drop (sIx items.size 0 lo)).take (sIx items.size items.size hi - sIx items.size 0 lo)).toArray } })(hsz:items.size<=sizeLine):wpAny (model prog w) A (getItem (.ref t) (.ref sl)) Q E s:=by
  have htake:sizeOk (.seq ((items.toList.drop (sIx items.size 0 lo)).take (sIx items.size items.size hi - sIx items.size 0 lo)).toArray):=by
    show ((items.toList.drop (sIx items.size 0 lo)).take (sIx items.size items.size hi - sIx items.size 0 lo)).toArray.size<=sizeLine
    rw[List.size_toArray,List.length_take,List.length_drop,Array.length_toList]
    omega
  have hj:sIx items.size items.size hi<=items.size:=pB _ _ (Nat.le_refl _) hi
  obtain⟨os,hos,hcs,hds⟩:=id hs
  have hTs:s.TypeIs (.ref sl) "slice":=⟨os,hos,hcs⟩
  unfold getItem
  try with_reducible refine wpAny_holding ?_
  first | refine wpAny_bind (wpAny_pure ?_) | skip
  refine wpAny_bind (wpAny_sequenceKey ht.typeIs (by decide) ?_)
  refine wpAny_bind (wpAny_callSpecial?_slot (name:=Str.ofString "__getitem__") ht.typeIs PyProof.Rows.slot_tuple_getitem
    (wpAny_call_entry PyProof.Rows.slot_tuple_getitem ht.typeIs entry_tuple_getitem ?_ (args_tuple_getitem _ _)))
  show wpAny _ _ (Builtin.Tuple.tupleItemsOf (.ref t) >>= _) _ _ s
  refine wpAny_bind (tupleItemsOf_ ht ?_)
  refine wpAny_bind (wpAny_typeOf hTs ?_)
  rw[if_pos (by decide)]
  refine wpAny_bind (pE hs pl pu ?_)
  have hno:¬ ((((sIx items.size 0 lo:Nat):Int) == 0 && (1:Int) == 1 && (sIx items.size items.size hi - sIx items.size 0 lo) == items.size)=true):=by
    intro q
    rw[Bool.and_eq_true,Bool.and_eq_true] at q
    have q1:((sIx items.size 0 lo:Nat):Int)=0:=eq_of_beq q.1.1
    have q2:sIx items.size items.size hi - sIx items.size 0 lo=items.size:=eq_of_beq q.2
    exact hw ⟨by omega,by omega⟩
  show wpAny _ _ (if (((sIx items.size 0 lo:Nat):Int) == 0 && (1:Int) == 1 && (sIx items.size items.size hi - sIx items.size 0 lo) == items.size)=true then _ else _) _ _ s
  rw[if_neg hno,pF]
  first
    | exact wpAny_bind (m:=Builtin.Tuple.tupleExact _) (wpAny_newObj_type (wpAny_pure ⟨_,rfl,wpAny_pure h⟩) htake)
    | exact wpAny_bind (m:=Builtin.Tuple.tupleExact _) (wpAny_newObj_type (wpAny_bind (wpAny_pure (wpAny_pure ⟨_,rfl,wpAny_pure h⟩))) htake)
    | exact wpAny_bind (wpAny_bind (m:=Builtin.Tuple.tupleExact _) (wpAny_newObj_type (wpAny_pure (wpAny_pure ⟨_,rfl,wpAny_pure h⟩)) htake))
    | exact wpAny_bind (wpAny_bind (m:=Builtin.Tuple.tupleExact _) (wpAny_newObj_type (wpAny_pure ⟨_,rfl,wpAny_pure h⟩) htake))
end
end HT
namespace L2
open PySem PySem.Spec PyProof.Rows
abbrev TO:=St->Hp->(Option Int->Hp->Prop)->Prop
def PO(X:Cx)(e:Option Expr)(t:TO):Prop :=
  ∀ (pins:List (Addr × Obj)) (s:Shared) (σ:St) (H:Hp) (Q:Option Int->Hp->Prop),Inv X pins σ H s->t σ H Q ->
    wpAny (model X.prog X.w) X.A (evalPart e X.env) (fun u s'=>∃ o H',Inv X pins σ H' s'/\IsPart u o/\Q o H') X.xe s
def pG:TO:=fun _ H Q=>Q none H
def pH(t:TE):TO:=fun σ H Q=>t σ H fun x H1=>∃ i,x=.int i/\Q (some i) H1
theorem pI{ns:List Int}:∀ {us:List Value},Vals (ns.map V.int) us->IntsAre us ns:=by
  induction ns with
  | nil=>intro us r;rw[List.map_nil] at r;cases r;exact .nil
  | cons n ns ih =>
    intro us r
    rw[List.map_cons] at r
    cases r with
    | cons r1 r2 =>
      obtain⟨t,e⟩:=r1
      subst e
      exact .cons n t (ih r2)
section
variable {X:Cx} {e:Expr} {te:TE} {lo hi:Option Expr} {tl th:TO} {pos p2:Pos}
theorem pJ:PO X none pG:=by
  intro pins s σ H Q I h
  rw[evalPart_none]
  exact wpAny_pure ⟨none,H,I,.none,h⟩
theorem pK(h:PE X e te):PO X (some e) (pH te):=by
  intro pins s σ H Q I hw
  rw[evalPart_some]
  refine thn (h pins s σ H _ I hw) fun u s1 ⟨x,H1,I1,r1,q1⟩=>?_
  obtain⟨i,rfl,q⟩:=q1
  obtain⟨t,rfl⟩:=r1
  exact⟨some i,H1,I1,.int i t,q⟩
def SlR(X:Cx)(r:V->Option Int->Option Int->Hp->VK->Prop):Prop :=
  ∀ (pins:List (Addr × Obj)) (s:Shared) (σ:St) (H:Hp) (x:V) (v vl vu:Value) (lo hi:Option Int) (sl:Addr) (Q:VK),Inv X pins σ H s->RelV x v->s.heap.IsSliceOf sl vl vu .none->IsPart vl lo->IsPart vu hi->r x lo hi H Q ->
    ∃ T id,typeLookup (.type T) "__getitem__" = pure (some (.builtin id))/\s.TypeIs v T/\wpAny (model X.prog X.w) X.A (getItem v (.ref sl)) (EP X pins σ Q) X.xe s
theorem SlR.or{r r':V->Option Int->Option Int->Hp->VK->Prop}(h:SlR X r)(h':SlR X r'):SlR X (fun x lo hi H Q=>r x lo hi H Q\/r' x lo hi H Q):=by
  intro pins s σ H x v vl vu lo hi sl Q I rx hs pl pu q
  rcases q with q | q
  · exact h pins s σ H x v vl vu lo hi sl Q I rx hs pl pu q
  · exact h' pins s σ H x v vl vu lo hi sl Q I rx hs pl pu q
def tSl(r:V->Option Int->Option Int->Hp->VK->Prop)(te:TE)(tl th:TO):TE:=fun σ H Q=>te σ H fun x H1=>tl σ H1 fun l H2=>th σ H2 fun u H3=>r x l u H3 Q
theorem pL{r:V->Option Int->Option Int->Hp->VK->Prop}(hr:SlR X r)(he:PE X e te)(hl:PO X lo tl)(hu:PO X hi th):PE X (.Subscript e (.Slice lo hi none p2) pos) (tSl r te tl th):=by
  intro pins s σ H Q I h
  refine Subscript_ (thn (he pins s σ H _ I h) fun v s1 ⟨x,H1,I1,r1,q1⟩=>?_)
  refine wpAny_Slice (thn (hl pins s1 σ H1 _ I1 q1) fun vl s2 ⟨l,H2,I2,pl,q2⟩=>thn (hu pins s2 σ H2 _ I2 q2) fun vu s3 ⟨u,H3,I3,pu,q3⟩=>?_)
  rw[evalPart_none]
  refine wpAny_pure ?_
  have I4:Inv X pins σ H3 { s3 with heap:=s3.heap.push { cls:=.type "slice",data:=.fields #[vl,vu,.none] } }:=I3.kept (t':=s3.toks) fun b ob q=>Heap.get?_push_of_some _ q
  obtain⟨T,id,hT,ht,hg⟩:=hr pins { s3 with heap:=s3.heap.push { cls:=.type "slice",data:=.fields #[vl,vu,.none] } } σ H3 x v vl vu l u s3.heap.objs.size Q I4 r1 (Heap.IsSliceOf.new ..) pl pu q3
  show wpAny (model X.prog X.w) X.A (subscriptTail e (.Slice lo hi none p2) v (.ref s3.heap.objs.size)) (EP X pins σ Q) X.xe { s3 with heap:=s3.heap.push { cls:=.type "slice",data:=.fields #[vl,vu,.none] } }
  exact tail_any (ops:=[.ref s3.heap.objs.size,v]) ht hT hg (by with_unfolding_all rfl)
def dE(xs:List V)(lo hi:Option Int):List V:=(xs.drop (HT.sIx xs.length 0 lo)).take (HT.sIx xs.length xs.length hi - HT.sIx xs.length 0 lo)
theorem pM(xs:List V)(lo hi:Option Int):(dE xs lo hi).length<=xs.length:=by
  unfold dE
  rw[List.length_take,List.length_drop]
  omega
def pN(K:PySem.W.Frag):V->Option Int->Option Int->Hp->VK->Prop:=fun x lo hi H Q=>∃ a xs,x=.ref a/\SqT K H a xs /\
  ¬ (HT.sIx xs.length 0 lo=0/\HT.sIx xs.length xs.length hi=xs.length)/\∀ p,H p=none->Q (.ref p) (upd H p (.tup (dE xs lo hi)))
theorem pO:SlR X (pN X.K):=by
  intro pins s σ H x v vl vu lo hi sl Q I rx hs pl pu h
  obtain⟨a,xs,rfl,hx,hw,q⟩:=h
  cases rx
  obtain⟨its,r,ht,hz⟩:=I.tuple hx
  have hlen:its.toArray.size=xs.length:=by rw[List.size_toArray];exact r.length.symm
  refine⟨"tuple",_,PyProof.Rows.slot_tuple_getitem.lookup,ht.typeIs,?_⟩
  refine HT.getItem_tuple_cut ht hs pl pu (by rw[hlen];exact hw) ?_ (by rw[hlen];exact hz)
  rw[hlen]
  refine⟨.ref s.heap.objs.size,_,I.laid (t':=s.toks) (o:=.tup (dE xs lo hi)) (fun b ob q=>Heap.get?_push_of_some _ q) (Nat.le_refl _) ?_,rfl,q _ (I.hok.fresh (Nat.le_refl _))⟩
  exact⟨Nat.le_trans (pM xs lo hi) hz,_,(r.drop (HT.sIx xs.length 0 lo)).take (HT.sIx xs.length xs.length hi - HT.sIx xs.length 0 lo),IsTup.new _ _⟩
def pP(K:PySem.W.Frag):R2:=fun x y H Q=>∃ a b xs ys,x=.ref a/\y=.ref b/\SqT K H a xs/\SqT K H b ys/\xs ≠ []/\xs.length+ys.length<=sizeLine /\
  (ys=[]->Q (.ref a) H)/\(ys ≠ []->∀ p,H p=none->Q (.ref p) (upd H p (.tup (xs++ys))))
theorem Vals.nil_iff{xs:List V}{us:List Value}(r:Vals xs us):us=[] ↔ xs=[]:=by
  cases r with
  | nil=>simp
  | cons _ _=>simp
theorem pQ:OpR X (binaryOp .Add) (pP X.K):=by
  intro pins s σ H x y v u Q I rx ry h
  obtain⟨a,b,xs,ys,rfl,rfl,ha,hb,hx,hz,q1,q2⟩:=h
  cases rx
  cases ry
  obtain⟨its,r1,p1,_⟩:=I.tuple ha
  obtain⟨its2,r2,p2,_⟩:=I.tuple hb
  refine HT.cat_tup p1 p2 (fun z=>hx (r1.nil_iff.mp z)) (fun z=>⟨.ref a,H,I,rfl,q1 (r2.nil_iff.mp z)⟩) (fun z=>?_) (by rw[<- r1.length,<- r2.length];exact hz)
  refine⟨.ref s.heap.objs.size,_,I.laid (t':=s.toks) (o:=.tup (xs++ys)) (fun b ob q=>Heap.get?_push_of_some _ q) (Nat.le_refl _) ?_,rfl,q2 (fun w=>z (r2.nil_iff.mpr w)) _ (I.hok.fresh (Nat.le_refl _))⟩
  exact⟨by rw[List.length_append];exact hz,_,r1.append r2,IsTup.new _ _⟩
end
end L2
namespace L2
open PySem PySem.Spec PyProof.Rows
def ixN(n:Nat)(i:Int):Option Nat:=if 0<=i then (if i < n then some i.toNat else none) else if -(n:Int)<=i then some (i+n).toNat else none
def atI{α:Type}(xs:List α)(i:Int):Option α:=(ixN xs.length i).bind fun j=>xs[j]?
theorem ki{n:Nat}{i:Int}{j:Nat}(h:ixN n i=some j):seqIndex? i n=some j/\j < n/\-(n:Int)<=i/\i < n:=by
  unfold ixN at h
  by_cases h0:0<=i
  · rw[if_pos h0] at h
    by_cases h1:i < n
    · rw[if_pos h1] at h
      have e:i.toNat=j:=Option.some.inj h
      exact⟨by rw[seqIndex_of h0 h1,e],by omega,by omega,h1⟩
    · rw[if_neg h1] at h;cases h
  · rw[if_neg h0] at h
    by_cases h1:-(n:Int)<=i
    · rw[if_pos h1] at h
      have e:(i+n).toNat=j:=Option.some.inj h
      exact⟨by rw[seqIndex_neg (by omega) h1,e],by omega,h1,by omega⟩
    · rw[if_neg h1] at h;cases h
theorem kj{α:Type}{xs:List α}{i:Int}{v:α}(h:atI xs i=some v):∃ j,seqIndex? i xs.length=some j/\xs[j]?=some v/\j < xs.length/\-(xs.length:Int)<=i/\i < xs.length:=by
  unfold atI at h
  cases e:ixN xs.length i with
  | none=>rw[e] at h;cases h
  | some j =>
    rw[e] at h
    obtain⟨h1,h2,h3,h4⟩:=ki e
    exact⟨j,h1,h,h2,h3,h4⟩
def hJ(b:Expr):Prop:=∀ o i,subscripted b false o i=operate [o,i] (getItem o i)
def IxR(X:Cx)(r:R2):Prop :=
  ∀ (value slice:Expr) (pins:List (Addr × Obj)) (s:Shared) (σ:St) (H:Hp) (x y:V) (v u:Value) (Q:VK),Inv X pins σ H s->RelV x v->RelV y u->r x y H Q ->
    subscripted slice false v u=operate [v,u] (getItem v u)->wpAny (model X.prog X.w) X.A (subscriptTail value slice v u) (EP X pins σ Q) X.xe s
def MtR(X:Cx)(id:String)(r:V->List V->Hp->VK->Prop):Prop :=
  ∀ (pins:List (Addr × Obj)) (s:Shared) (σ:St) (H:Hp) (x:V) (xs:List V) (v:Value) (us:List Value) (Q:VK),Inv X pins σ H s->RelV x v->Vals xs us->r x xs H Q ->
    wpAny (model X.prog X.w) X.A (call (.builtin id) (v::us)) (EP X pins σ Q) X.xe s
section
variable {X:Cx} {a b:Expr} {ta tb:TE} {pos:Pos}
theorem IxR.or{r r':R2}(h:IxR X r)(h':IxR X r'):IxR X (fun x y H Q=>r x y H Q\/r' x y H Q):=by
  intro value slice pins s σ H x y v u Q I rx ry q hs
  rcases q with q | q
  · exact h value slice pins s σ H x y v u Q I rx ry q hs
  · exact h' value slice pins s σ H x y v u Q I rx ry q hs
theorem MtR.or{id:String}{r r':V->List V->Hp->VK->Prop}(h:MtR X id r)(h':MtR X id r'):MtR X id (fun x xs H Q=>r x xs H Q\/r' x xs H Q):=by
  intro pins s σ H x xs v us Q I rx rs q
  rcases q with q | q
  · exact h pins s σ H x xs v us Q I rx rs q
  · exact h' pins s σ H x xs v us Q I rx rs q
theorem pR{r:R2}(hr:IxR X r)(ha:PE X a ta)(hb:PE X b tb)(hs:hJ b):PE X (.Subscript a b pos) (tOp r ta tb):=by
  intro pins s σ H Q I h
  exact Subscript_ (gW ha hb I h fun v u s2 x y H2 I2 rx ry q=>hr a b pins s2 σ H2 x y v u Q I2 rx ry q (hs _ _))
def pS(K:PySem.W.Frag):R2:=fun x y H Q=>∃ p xs i v,x=.ref p/\y=.int i/\SqL K H p xs/\atI xs i=some v/\Q v H
def pT(K:PySem.W.Frag):R2:=fun x y H Q=>∃ p xs i v,x=.ref p/\y=.int i/\SqT K H p xs/\atI xs i=some v/\Q v H
theorem ix_list:IxR X (pS X.K):=by
  intro value slice pins s σ H x y v u Q I rx ry h hs
  obtain⟨p,xs,i,z,rfl,rfl,hq,he,q⟩:=h
  cases rx
  obtain⟨t,rfl⟩:=ry
  obtain⟨its,r,pl,hz⟩:=I.list hq
  obtain⟨j,h1,h2,h3,h4,h5⟩:=kj he
  obtain⟨w,ew,rw'⟩:=r.get h2
  have hl:=r.length
  have hn:=eG
  have fin:EP X pins σ Q w s:=⟨z,H,I,rw',q⟩
  by_cases h0:0<=i
  · have hj:i.toNat=j:=by
      rw[seqIndex_of h0 h5] at h1
      exact Option.some.inj h1
    exact item_listR pl.isList h0 (by omega) (by rw[hj];simpa using ew) fin hs
  · have hj:(i+(its.toArray.size:Int)).toNat=j:=by
      rw[seqIndex_neg (by omega) h4] at h1
      rw[List.size_toArray,<- hl]
      exact Option.some.inj h1
    exact subscriptTail_builtinR (x:=w) pl.isList.typeIs slot_list_getitem.lookup
      (wpAny_getItem_list_neg (Q:=fun r s'=>r=w/\EP X pins σ Q r s') pl.isList (by omega) (by rw[List.size_toArray] <;> omega) (by omega) (by rw[hj];simpa using ew) ⟨rfl,fin⟩) hs
theorem pU:IxR X (pT X.K):=by
  intro value slice pins s σ H x y v u Q I rx ry h hs
  obtain⟨p,xs,i,z,rfl,rfl,hq,he,q⟩:=h
  cases rx
  obtain⟨t,rfl⟩:=ry
  obtain⟨its,r,pl,hz⟩:=I.tuple hq
  obtain⟨j,h1,h2,h3,h4,h5⟩:=kj he
  obtain⟨w,ew,rw'⟩:=r.get h2
  have hl:=r.length
  have hn:=eG
  have fin:EP X pins σ Q w s:=⟨z,H,I,rw',q⟩
  exact subscriptTail_builtinR (x:=w) pl.typeIs slot_tuple_getitem.lookup
    (getItem_tuple (j:=j) (Q:=fun r s'=>r=w/\EP X pins σ Q r s') pl (by omega) (by omega) (by rw[List.size_toArray,<- hl];exact h1) (by simpa using ew) ⟨rfl,fin⟩) hs
theorem pV(its:List Value)(n j:Nat)(u:Value):Obj.mapSeq (·.setIfInBounds j u) { cls:=.type "list",data:=.seq its.toArray n }={ cls:=.type "list",data:=.seq (its.set j u).toArray n }:=by
  simp[Obj.mapSeq]
theorem Inv.lst{pins:List (Addr × Obj)}{σ:St}{H:Hp}{s:Shared}{p:Addr}{xs:List V}(I:Inv X pins σ H s)(h:H p=some (.lst xs)):
    ∃ (its:List Value) (n:Nat),Vals xs its/\s.heap.get? p=some { cls:=.type "list",data:=.seq its.toArray n }/\xs.length<=sizeLine:=by
  obtain⟨z,its,n,r,e⟩:=I.hok p _ h
  exact⟨its,n,r,e,z⟩
theorem Inv.lstUpd{pins:List (Addr × Obj)}{σ:St}{H:Hp}{s:Shared}{p:Addr}{xs ys:List V}{its its':List Value}{n n':Nat}{f:Obj->Obj}(I:Inv X pins σ H s)(h:H p=some (.lst xs))(ho:s.heap.get? p=some { cls:=.type "list",data:=.seq its.toArray n })(hf:f { cls:=.type "list",data:=.seq its.toArray n }={ cls:=.type "list",data:=.seq its'.toArray n' })(r:Vals ys its')(hz:ys.length<=sizeLine)(t:Nat):
    Inv X pins σ (upd H p (.lst ys)) { s with heap:=s.heap.update p f,toks:=t }:=by
  have e:(s.heap.update p f).get? p=some { cls:=.type "list",data:=.seq its'.toArray n' }:=by
    rw[Heap.get?_update_self f ho (by rw[hf] <;> rfl),hf]
  refine I.write (x:=p) (e:=p) (by rw[h];trivial) (.inl rfl) (fun b u hb q=>(Heap.get?_update_other _ _ (Ne.symm hb)).trans q) ⟨_,e⟩ ?_
  exact⟨hz,its',n',r,e⟩
def pW:V->V->V->Hp->(Hp->Prop)->Prop:=fun o i v H Q=>∃ p xs k j,o=.ref p/\i=.int k/\H p=some (.lst xs)/\ixN xs.length k=some j/\Q (upd H p (.lst (xs.set j v)))
theorem pX:jL X pW:=by
  intro pins s σ H o i v ov iv u Q I ro ri rv h
  obtain⟨p,xs,k,j,rfl,rfl,hp,hj,q⟩:=h
  cases ro
  obtain⟨t,rfl⟩:=ri
  obtain⟨its,n,r,ho,hz⟩:=I.lst hp
  obtain⟨h1,h2,h3,h4⟩:=ki hj
  have hl:=r.length
  have hn:=eG
  have I':Inv X pins σ (upd H p (.lst (xs.set j v))) { s with heap:=s.heap.update p (Obj.mapSeq (·.setIfInBounds j u)) } :=
    I.lstUpd hp ho (pV its n j u) (r.set rv j) (by rw[List.length_set];exact hz) s.toks
  by_cases h0:0<=k
  · have hk:k.toNat=j:=by
      rw[seqIndex_of h0 h4] at h1
      exact Option.some.inj h1
    exact PySem.W.ki_setAt ho h0 (by omega) (by rw[List.size_toArray,<- hl];exact h4) (by rw[hk];exact⟨_,I',q⟩)
  · have hk:(k+(its.toArray.size:Int)).toNat=j:=by
      rw[seqIndex_neg (by omega) h3] at h1
      rw[List.size_toArray,<- hl]
      exact Option.some.inj h1
    exact PySem.W.ki_setBack ho (by omega) (by rw[List.size_toArray,<- hl];exact h3) (by omega) (by rw[hk];exact⟨_,I',q⟩)
theorem pY:CallR X (.builtin "len") (fun xs H Q=>∃ p ys,xs=[.ref p]/\(SqL X.K H p ys\/SqT X.K H p ys)/\Q (.int ys.length) H):=by
  intro pins s σ H xs us Q I r h
  obtain⟨p,ys,rfl,hq,q⟩:=h
  obtain⟨u,rfl,rx⟩:=d3 r
  cases rx
  have hn:=eG
  rcases hq with hq | hq
  · obtain⟨its,r',pl,hz⟩:=I.list hq
    have hlen:=r'.length
    exact Calls.call_len_list pl.isList (by simp only[List.size_toArray] <;> omega) ⟨.int ys.length,H,I.tok _,⟨s.toks+1,by rw[List.size_toArray,hlen]⟩,q⟩
  · obtain⟨its,r',pl,hz⟩:=I.tuple hq
    have hlen:=r'.length
    exact len_tuple pl (by simp only[List.size_toArray] <;> omega) ⟨.int ys.length,H,I.tok _,⟨s.toks+1,by rw[List.size_toArray,hlen]⟩,q⟩
theorem CallR.or{f:Value}{r r':List V->Hp->VK->Prop}(h:CallR X f r)(h':CallR X f r'):CallR X f (fun xs H Q=>r xs H Q\/r' xs H Q):=by
  intro pins s σ H xs us Q I rs q
  rcases q with q | q
  · exact h pins s σ H xs us Q I rs q
  · exact h' pins s σ H xs us Q I rs q
theorem pZ:CallR X (.type "list") (fun xs H Q=>∃ p ys,xs=[.ref p]/\(SqL X.K H p ys\/SqT X.K H p ys)/\∀ l,H l=none->Q (.ref l) (upd H l (.lst ys))):=by
  intro pins s σ H xs us Q I r h
  obtain⟨p,ys,rfl,hq,q⟩:=h
  obtain⟨u,rfl,rx⟩:=d3 r
  cases rx
  have fin:∀ (its:List Value),Vals ys its->ys.length<=sizeLine->∀ (h':Heap) (c':Nat),(∀ b o',s.heap.get? b=some o'->h'.get? b=some o') ->
      h'.get? s.heap.objs.size=some { cls:=.type "list",dict:=none,data:=.seq its.toArray c',slots:=#[] }->EP X pins σ Q (.ref s.heap.objs.size) { s with heap:=h' }:=fun its r' hz h' c' kp e =>
    ⟨.ref s.heap.objs.size,_,I.laid (t':=s.toks) kp (Nat.le_refl _) (show ObjOk X.prog X.w _ h' _ (.lst ys) from ⟨hz,its,c',r',e⟩),rfl,q _ (I.hok.fresh (Nat.le_refl _))⟩
  rcases hq with hq | hq
  · obtain⟨its,r',pl,hz⟩:=I.list hq
    have hlen:=r'.length
    obtain⟨o,ho,hc,n,hd⟩:=pl.isList
    exact call_list_seq p (.inl rfl) ho hc hd (fun h' c' kp e=>fin its r' hz h' c' kp e) (by simp only[List.size_toArray] <;> omega)
  · obtain⟨its,r',pl,hz⟩:=I.tuple hq
    have hlen:=r'.length
    obtain⟨o,ho,hc,n,hd⟩:=pl
    exact call_list_seq p (.inr rfl) ho hc hd (fun h' c' kp e=>fin its r' hz h' c' kp e) (by simp only[List.size_toArray] <;> omega)
def tyV(K:PySem.W.Frag)(T:String)(x:V)(H:Hp):Prop:=match x with
  | .str _=>T = "str"
  | .int _=>T = "int"
  | .ref p=>(T = "list"/\∃ xs,SqL K H p xs)\/(T = "tuple"/\∃ o,K.lookup p=some o/\o.cls=.type "tuple"/\o.dict=none) \/
      (T = "dict"/\((∃ kvs,H p=some (.dK kvs))\/∃ kvs,H p=some (.dT kvs)))\/(T = "set"/\∃ S n,H p=some (.set S n))
  | _=>False
theorem q5{pins:List (Addr × Obj)}{σ:St}{H:Hp}{s:Shared}{T:String}{x:V}{v:Value}(I:Inv X pins σ H s)(r:RelV x v)(ty:tyV X.K T x H):
    s.TypeIs v T/\∀ a,v=.ref a->∃ ob,s.heap.get? a=some ob/\ob.dict=none:=by
  cases x with
  | str z =>
    obtain⟨t,rfl⟩:=r
    cases (show T = "str" from ty)
    exact⟨typeIs_str s z t,fun _ e=>nomatch e⟩
  | int i =>
    obtain⟨t,rfl⟩:=r
    cases (show T = "int" from ty)
    exact⟨typeIs_int s i t,fun _ e=>nomatch e⟩
  | ref p =>
    cases r
    rcases ty with⟨rfl,xs,hq⟩ | ⟨rfl,o,hk,hc,hd⟩ | ⟨rfl,hk⟩ | ⟨rfl,S,n,hk⟩
    · obtain⟨its,_,pl,_⟩:=I.list hq
      refine⟨pl.isList.typeIs,fun a e=>?_⟩
      cases e
      obtain⟨o,n,e,c,hd,_⟩:=pl
      exact⟨o,e,hd⟩
    · refine⟨⟨o,I.kIn p o hk,hc⟩,fun a e=>?_⟩
      cases e
      exact⟨o,I.kIn _ o hk,hd⟩
    · have z:∃ o,s.heap.get? p=some o/\o.ExactDict:=by
        rcases hk with⟨kvs,hk⟩ | ⟨kvs,hk⟩
        · obtain⟨_,_,_,_,o,_,_,e,ex,_⟩:=I.hok p _ hk
          exact⟨o,e,ex⟩
        · obtain⟨_,_,_,_,o,_,_,e,ex,_⟩:=I.hok p _ hk
          exact⟨o,e,ex⟩
      obtain⟨o,e,ex⟩:=z
      refine⟨⟨o,e,ex.1⟩,fun a e2=>?_⟩
      cases e2
      exact⟨o,e,ex.2.1⟩
    · obtain⟨o,_,_,_,e,ex,_⟩:=I.hok p _ hk
      refine⟨⟨o,e,ex.1⟩,fun a e2=>?_⟩
      cases e2
      exact⟨o,e,ex.2.1⟩
  | _=>exact False.elim ty
def tBM(K:PySem.W.Frag)(T:String)(r:V->List V->Hp->VK->Prop)(to:TE)(t:TA):TE:=fun σ H Q=>to σ H fun x H1=>tyV K T x H1/\t σ H1 fun xs H2=>r x xs H2 Q
variable {o e:Expr} {es:List Expr} {to:TE} {t:TA} {name:Str} {apos cpos:Pos} {T id:String} {r:V->List V->Hp->VK->Prop}
theorem q9(pa:PlainAttrs T)(slot:Slot T name id)(hty:typeOf (.builtin id)=pure (.type "method_descriptor"))(hm:MtR X id r)(ho:PE X o to)(ha:PA X (e::es) t)(hbase:attributeBase o name X.env (eval o X.env)=eval o X.env:=by rfl)(hfew:((backTo cpos (starEach (e::es) X.env)).all (fun x=>!x.1) && (backToKw cpos (keywordEach [] X.env)).all (fun x=>x.1.isSome)
      && decide ((e::es).length+([]:List Keyword).length+(if ([]:List Keyword).isEmpty then 0 else 1) < 30))=true:=by rfl)(hline:(apos.endLine == cpos.line)=true:=by rfl)(hs:starEach (e::es) X.env=(false,eval e X.env)::starEach es X.env:=by rfl)(hplain:(backTo cpos (starEach es X.env)).any (·.1)=false:=by rfl):
    PE X (.Call (.Attribute o name apos) (e::es) [] cpos) (tBM X.K T r to t):=by
  intro pins s σ H Q I h
  refine wpAny_Call_method_late hbase hfew hline rfl (thn (ho pins s σ H _ I h) fun v s1 ⟨x,H1,I1,r1,ty,q1⟩=>?_)
  obtain⟨h1,h2⟩:=q5 I1 r1 ty
  refine⟨T,id,pa,slot,hty,h1,h2,?_⟩
  have hA:=ha cpos pins s1 σ H1 _ I1 q1
  rw[hs] at hA ⊢
  refine Calls.callWith_builtin (by show (false || (backTo cpos (starEach es X.env)).any (·.1))=false;rw[hplain] <;> rfl) (Calls.evalArgs_plain ?_)
  exact thn hA fun us s2 ⟨vs,H2,I2,r2,q2⟩=>hm pins s2 σ H2 x vs v us Q I2 r1 r2 q2
end
end L2
namespace L2
open PySem PySem.Spec PyProof.Rows
def MtM(X:Cx)(id:String)(r:V->List V->Hp->VK->Prop):Prop :=
  ∀ (pins:List (Addr × Obj)) (s:Shared) (σ:St) (H:Hp) (x:V) (xs:List V) (v:Value) (us:List Value) (Q:VK),Inv X pins σ H s->RelV x v->Vals xs us->r x xs H Q ->
    wpAny (model X.prog X.w) X.A (call (.builtin id) (v::us)) (EP X pins σ Q) X.xe s
theorem Vals.one:∀ {x:V} {us:List Value},Vals [x] us->∃ u,us=[u]/\RelV x u
  | _,_,.cons r .nil=>⟨_,rfl,r⟩
theorem Vals.two:∀ {x y:V} {us:List Value},Vals [x,y] us->∃ u v,us=[u,v]/\RelV x u/\RelV y v
  | _,_,_,.cons r (.cons q .nil)=>⟨_,_,rfl,r,q⟩
theorem Vals.zero:∀ {us:List Value},Vals [] us->us=[]
  | _,.nil=>rfl
theorem Vals.rep{xs:List V}{us:List Value}(h:Vals xs us):∀ k:Nat,Vals (List.replicate k xs).flatten (List.replicate k us).flatten
  | 0=>.nil
  | k+1=>by
    rw[List.replicate_succ,List.replicate_succ,List.flatten_cons,List.flatten_cons]
    exact Vals.append h (Vals.rep h k)
section
variable {X:Cx} {pins:List (Addr × Obj)} {σ:St} {H:Hp} {s:Shared} {l b:Addr} {xs ys zs:List V}
theorem Inv.lset{its its':List Value}{n:Nat}{f:Array Value->Array Value}{t':Nat}(I:Inv X pins σ H s)(hH:H l=some (.lst xs))(e:s.heap.get? l=some { cls:=.type "list",data:=.seq its.toArray n })(hf:f its.toArray=its'.toArray)(hv:Vals ys its')(hz:ys.length<=sizeLine):
    Inv X pins σ (upd H l (.lst ys)) { s with heap:=s.heap.update l (Obj.mapSeq f),toks:=t' }:=by
  have q:=PySem.IsL.update e f
  rw[hf] at q
  refine I.write (x:=l) (e:=l) (by rw[hH];exact trivial) (.inl rfl) (fun b' u hb hu=>(Heap.get?_update_other s.heap (Obj.mapSeq f) (Ne.symm hb)).trans hu) ⟨_,q⟩ ?_
  exact⟨hz,its',_,hv,q⟩
theorem Inv.lnew{its:List Value}{t':Nat}(I:Inv X pins σ H s)(hv:Vals ys its)(hz:ys.length<=sizeLine):
    Inv X pins σ (upd H s.heap.objs.size (.lst ys)) { s with heap:=s.heap.push { cls:=.type "list",data:=.seq its.toArray },toks:=t' } :=
  I.laid (fun _ _ q=>Heap.get?_push_of_some _ q) (Nat.le_refl _) ⟨hz,its,0,hv,Heap.get?_push_size _ rfl⟩
theorem Inv.fresh(I:Inv X pins σ H s):H s.heap.objs.size=none:=I.hok.fresh (Nat.le_refl _)
theorem Inv.lstM(I:Inv X pins σ H s)(hH:H l=some (.lst xs)):xs.length<=sizeLine/\∃ (its:List Value) (n:Nat),Vals xs its/\xs.length=its.length/\s.heap.get? l=some { cls:=.type "list",data:=.seq its.toArray n }:=by
  obtain⟨z,its,n,r,e⟩:=I.hok l _ hH
  exact⟨z,its,n,r,r.length,e⟩
end
section
variable {X:Cx}
def qa:V->List V->Hp->VK->Prop:=fun x vs H Q=>∃ l xs y,x=.ref l/\vs=[y]/\H l=some (.lst xs)/\xs.length < sizeLine/\Q .non (upd H l (.lst (xs++[y])))
theorem qb:MtM X "list.append" qa:=by
  intro pins s σ H x vs v us Q I rx rv h
  obtain⟨l,xs,y,rfl,rfl,hH,hz,q⟩:=h
  cases rx
  obtain⟨u,rfl,ru⟩:=rv.one
  obtain⟨z,its,n,r,hl,e⟩:=I.lstM hH
  refine call_meets F.slot_list_append ⟨_,e,rfl⟩ F.entry_list_append (F.args_list_append_2 _ _) (PySem.list_append l its.toArray n u (by rw[List.size_toArray];omega)) ⟨e,?_⟩
  refine⟨.non,_,I.lset (its':=its++[u]) hH e (by simp) (r.append (.cons ru .nil)) ?_,rfl,q⟩
  rw[List.length_append,List.length_singleton]
  omega
end
section
variable {prog:Program} {w:World} {A:Around} {E:Value->Shared->Prop} {s:Shared}
set_option maxRecDepth 100000 in
end
section
variable {X:Cx}
end
end L2
namespace Att
open PySem PySem.W PySem.Calls PyProof.Rows
theorem qc{P:Params}{h:Heap}:∀ (ns:List Int) (vs:List Value),WellAll P h vs (ns.map WData.int)->IntsAre vs ns:=by
  intro ns
  induction ns with
  | nil =>
    intro vs w
    rw[List.map_nil] at w
    cases w
    exact .nil
  | cons n ns ih =>
    intro vs w
    rw[List.map_cons] at w
    cases w with
    | cons a b =>
      cases a
      exact .cons _ _ (ih _ b)
theorem qd{l:OpenLaw}{n:Nat}(hn:l.most=some n){P:Params}{h:Heap}{args:List WData}{vals:List Value}(hpre:l.row.toRowW.claim.pre args=true)(hwl:WellAll P h vals args):
    ∃ a vs ns,vals=[Value.ref a]/\args=[WData.list (ns.map WData.int)]/\h.get? a=some { cls:=.type "list",data:=.seq vs.toArray }/\IntsAre vs ns/\ns.length<=n:=by
  have hsh:WShape.hasAll [] args [.list .int]=true:=(pre_splitW hpre).1
  have hc:l.pre.holds [] { args:=args }=true:=(pre_splitW hpre).2
  obtain⟨d,r,rfl,h1,h2⟩:=hasAllW_cons hsh
  obtain rfl:=hasAllW_nil h2
  obtain⟨xs,rfl,h3⟩:=hasW_list h1
  obtain⟨ns,rfl⟩:=items_int h3
  have hlen:ns.length<=n:=by
    unfold OpenLaw.pre at hc
    have h4:(WTm.not (.lt (.lit (.int (n:Int))) (.len (.arg 0)))).holds [] { args:=[.list (ns.map .int)] }=true:=by
      have h4:=(holds_andW hc).1
      rw[hn] at h4
      exact h4
    have h5:=condW_of h4 (w_not (w_lt w_lit (w_len_list (w_arg rfl))))
    rw[List.length_map] at h5
    refine Nat.le_of_not_lt fun q=>?_
    have q':(n:Int) < ((ns.length:Nat):Int):=by omega
    first
      | (rw[decide_eq_true q'] at h5;exact absurd h5 (by decide))
      | (simp at h5;omega)
  cases hwl with
  | cons w1 w2 =>
    cases w2
    cases w1 with
    | list ho hall=>exact⟨_,_,ns,rfl,rfl,ho,qc ns _ hall,hlen⟩
theorem qe(l:OpenLaw)(args:List WData):l.row.toRowW.claim.post args (.bool true) args=true :=
  postW_of (r:=l.row.toRowW) (X:=(true == true))
    (show WShape.has [] (.bool true) .bool=true by first | rfl | decide | simp[WShape.has,WShape.arms,WShape.armsAll])
    (show (WTm.eq .res (.lit (.bool true))).value [] { args:=args,res:=some (.bool true),after:=args }=some (.bool (true == true)) from w_eq_bool (w_res rfl) w_lit) rfl
theorem attach_call{l:OpenLaw}{n:Nat}{q:Program}{loose:List Str}{XP:(Str->Option Value)->Heap->Prop}{YP:World->Heap->Prop}{d:DefRec}(hn:l.most=some n)(hdf:d.params.defaults=[])(call:∀ (w:World) (s₀ s₁:Shared) (mg mb:Str->Option Value) (fa:Addr) (o:Obj) (pm cd doc:Value) (a:Addr) (vs:List Value) (ns:List Int),
      Ground q loose [] XP w s₀ mg mb s₁.heap->YP w s₁.heap ->
      s₁.heap.get? fa=some o->o.data=.func (docDef d.name d.params d.body d.scope pm cd doc)->s₁.heap.CodeRec cd d.name->mg d.name=some (.ref fa) ->
      s₁.heap.get? a=some { cls:=.type "list",data:=.seq vs.toArray }->IntsAre vs ns->ns.length<=n->s₁.gens = #[] ->
      codeAny (model l.prog w) callerA (.call (.ref fa) ⟨[.ref a],[]⟩) (fun r s'=>r=.ok (.ret (.bool true))/\OldK s₁.heap s'.heap/\s'.os=s₁.os/\AllBare s'.gens) s₁):
    WalkO q loose XP YP l.row.toRowW d [] (fun f vs=>PySem.call f vs):=by
  intro w s₀ s₁ mg mb G Y fa o pm cd doc dV kV ho hd hcd hD hmg hg args vals as hpre hlay hrd hwl hlo
  obtain rfl:dV=.none:=Dflts.none hD hdf
  obtain rfl:kV=.none:=Dflts.noKw hD
  obtain⟨a,vs,ns,rfl,rfl,hobj,hints,hlen⟩:=qd hn hpre hwl
  refine enter_call (codeAny_mono (call w s₀ s₁ mg mb fa o pm cd doc a vs ns G Y ho (fd_plain hd) hcd hmg hobj hints hlen hg) fun r s' hq=>?_)
  obtain⟨rfl,h2,h3,h4⟩:=hq
  exact⟨.inl ⟨.bool true,.bool true,[],rfl,fun _=>rfl,.bool true,qe l _,fun _=>⟨List.Pairwise.nil,fun _ hm=>(nomatch hm)⟩⟩,h2,h3,h4⟩
section
variable {prog:Program} {w:World} {A:Around} {E:Value->Shared->Prop} {s:Shared} {K:Frag}
end
end Att
namespace L2
open PySem PySem.Spec PyProof.Rows
theorem hU:∀ {vs:List Value} {ns:List Int},IntsAre vs ns->Vals (ns.map V.int) vs
  | _,_,.nil=>.nil
  | _,_,.cons n t h=>.cons ⟨t,rfl⟩ (hU h)
def hV(H:Hp):Prop:=∀ b,H b=none\/∃ o xs,H b=some (.frz o (.lst xs))
theorem qf{P:Program}{w:World}{K:PySem.W.Frag}{mg mb:Str->Option Value}{CX:CXT}{k:Nat}{fa a:Addr}{fd:FuncData}{x:Str}{sp:Sp}{s₁:Shared}{vs:List Value}{ns:List Int}(KX:K.In s₁.heap)(hns:s₁.heap.Ns mainGlobals mg)(hb:s₁.heap.Ns builtinsNs mb)(hbb:∀ x:Str,x ≠ "__name__"->mb x=bootBuiltins x)(hlim:s₁.heap.NoLimit)(hg:s₁.gens = #[])(ha:s₁.heap.get? a=some { cls:=.type "list",data:=.seq vs.toArray })(hi:IntsAre vs ns)(hl:ns.length<=sizeLine)(hr:Room k callerA)(F:∀ base:Heap,K.In base->base.Ns mainGlobals mg->FnOk P w K mg base CX k fa fd [x] sp)(hbind:∀ (s:Shared) (u:Value),BindsTo s fd ⟨[u],[]⟩ [(x,u)])(hsp:∀ H:Hp,hV H->SqL K H a (ns.map V.int)->sp [.ref a] H (fun v _=>v=.bl true) fun _ _ _=>False)(hCX:∀ H e s',CX [] H s₁ (fun _ _ _=>False) e s'->False):
    codeAny (model P w) callerA (.call (.ref fa) ⟨[.ref a],[]⟩) (fun r s'=>r=.ok (.ret (.bool true))/\OldK s₁.heap s'.heap/\s'.os=s₁.os/\AllBare s'.gens) s₁:=by
  have rv:=hU hi
  have lenV:=hi.length
  have core : ∀ H:Hp,hV H->SqL K H a (ns.map V.int)->HOk P w H s₁.heap->(∀ b,H b ≠ none->b=a)->(H a ≠ none->K.lookup a=none) ->
      codeAny (model P w) callerA (.call (.ref fa) ⟨[.ref a],[]⟩) (fun r s'=>r=.ok (.ret (.bool true))/\OldK s₁.heap s'.heap/\s'.os=s₁.os/\AllBare s'.gens) s₁:=by
    intro H hO hS hok hA hK
    have base_of:∀ {b:Addr} {o:Obj},s₁.heap.get? b=some o->H b=none->(cu s₁.heap H).get? b=some o:=fun e n=>oi e n
    have noA:∀ {b:Addr} {o:Obj} {es:Array DictEntry} {ep:Nat},s₁.heap.get? b=some o->o.data=.dict es ep->H b=none:=fun {b o es ep} e d=>by
      cases q:H b with
      | none=>rfl
      | some u =>
        have e':b=a:=hA b (by rw[q];simp)
        subst e'
        rw[ha] at e;cases e
        have d':Data.seq vs.toArray _=Data.dict es ep:=d
        cases d'
    have nsK:∀ {b:Addr} {m:Str->Option Value},s₁.heap.Ns b m->(cu s₁.heap H).Ns b m:=fun {b m} ⟨o,es,ep,e,d,r⟩=>⟨o,es,ep,base_of e (noA e d),d,r⟩
    have hKb:K.In (cu s₁.heap H):=fun b o e=>base_of (KX b o e) (by
      cases q:H b with
      | none=>rfl
      | some u =>
        have e':b=a:=hA b (by rw[q];simp)
        subst e'
        rw[hK (by rw[q];simp)] at e;cases e)
    have hM:Mod K mg (cu s₁.heap H):=⟨hKb,nsK hns,⟨mb,nsK hb,hbb⟩,let ⟨mc,h1,h2⟩:=hlim;⟨mc,nsK h1,h2⟩⟩
    have e0:Env0 P w K mg (cu s₁.heap H) callerA [] s₁ H:=⟨rfl,hM,fun b o e=>oj e,Nat.le_of_eq (oh _ _),trivial,fun b hb=>absurd (show b ∈ ([]:List Addr) from hb) (by simp),hok,.of_eq hg⟩
    refine codeAny_mono ((F _ hKb (nsK hns)).run callerA [] s₁ H ⟨[.ref a],[]⟩ [.ref a] [.ref a] _ _ hr e0 (hbind s₁ (.ref a)) (.cons rfl .nil) (hsp H hO hS)) fun r s' h=>?_
    cases r with
    | error e=>exact (hCX H e s' h).elim
    | ok fl =>
      cases fl with
      | next=>exact False.elim h
      | brk=>exact False.elim h
      | cont=>exact False.elim h
      | ret u =>
        obtain⟨v,H',os,bare,un,hok',r',q⟩:=h
        have q':v=.bl true:=q
        subst q'
        obtain rfl:u=Value.bool true:=r'
        refine⟨rfl,OldK.of_keep fun b o e=>?_,os,bare⟩
        cases q:H b with
        | none=>exact un.keep b o e q (by intro z;exact absurd (show b ∈ ([]:List Addr) from z) (by simp)) (by simp)
        | some u =>
          rcases hO b with z | ⟨ob,xs,z⟩
          · rw[q] at z;cases z
          · have z2:=un.frzs b ob _ z
            obtain⟨e1,_⟩:=hok b _ z
            obtain⟨e2,_⟩:=hok' b _ z2
            rw[e] at e1;cases e1
            exact e2
  cases hk:K.lookup a with
  | some o =>
    have e:=KX a o hk
    rw[ha] at e
    cases e
    refine core (fun _=>none) (fun _=>.inl rfl) (.inr ⟨_,vs.toArray,_,hk,rfl,rfl,rfl,by rw[List.size_toArray,lenV];exact hl,by simpa using rv⟩) (fun b u z=>by have z':(none:Option HO)=some u:=z;cases z') (fun b z=>absurd rfl z) fun z=>absurd rfl z
  | none =>
    refine core (fun b=>if b=a then some (.frz { cls:=.type "list",data:=.seq vs.toArray } (.lst (ns.map V.int))) else none) (fun b=>?_) (.inl (.inr ⟨{ cls:=.type "list",data:=.seq vs.toArray },if_pos rfl⟩)) (fun b u z=>?_) (fun b z=>?_) fun _=>hk
    · by_cases hb:b=a
      · exact .inr ⟨_,_,if_pos hb⟩
      · exact .inl (if_neg hb)
    · by_cases hb:b=a
      · have z':=(if_pos hb).symm.trans z
        cases z'
        subst hb
        exact⟨ha,by rw[List.length_map];exact hl,vs,_,rv,ha⟩
      · have z':=(if_neg hb).symm.trans z
        cases z'
    · by_cases hb:b=a
      · exact hb
      · exact absurd (if_neg hb) z
end L2
namespace L2
open PySem PySem.Spec PyProof.Rows
theorem walk_of{l:PySem.W.OpenLaw}{n k:Nat}{q:Program}{loose:List Str}{XP:(Str->Option Value)->Heap->Prop}{YP:World->Heap->Prop}{d:DefRec}{K:Params->PySem.W.Frag}{CX:World->CXT}{sp:World->Sp}{x:Str}(hn:l.most=some n)(hn2:n<=sizeLine)(hdf:d.params.defaults=[])(hr:Room k callerA)(hY:∀ (w:World) (h:Heap),YP w h->(K w.params).In h)(F:∀ (w:World) (mg:Str->Option Value) (fa:Addr) (h:Heap),(K w.params).In h->h.Ns mainGlobals mg->mg d.name=some (.ref fa) ->
      ∃ fd:FuncData,(∀ (s:Shared) (u:Value),BindsTo s fd ⟨[u],[]⟩ [(x,u)]) /\
        ∀ base:Heap,(K w.params).In base->base.Ns mainGlobals mg->FnOk l.prog w (K w.params) mg base (CX w) k fa fd [x] (sp w))(hsp:∀ (w:World) (H:Hp) (a:Addr) (ns:List Int),ns.length<=n->hV H->SqL (K w.params) H a (ns.map V.int)->sp w [.ref a] H (fun v _=>v=.bl true) fun _ _ _=>False)(hCX:∀ (w:World) (H:Hp) (s:Shared) (e:Value) (s':Shared),CX w [] H s (fun _ _ _=>False) e s'->False):
    PySem.W.WalkO q loose XP YP l.row.toRowW d [] (fun f vs=>PySem.call f vs):=by
  refine Att.attach_call hn hdf fun w s₀ s₁ mg mb fa o pm cd doc a vs ns G Y ho hd hcd hmg hobj hints hlen hg=>?_
  have KX:=hY w _ Y
  obtain⟨fd,hb,hF⟩:=F w mg fa _ KX G.T.g hmg
  exact qf KX G.T.g G.T.b G.T.builtins G.T.nolimit hg hobj hints (Nat.le_trans hlen hn2) hr hF hb (fun H hO hS=>hsp w H a ns hlen hO hS) fun H e s'=>hCX w H s₁ e s'
end L2
namespace L2
open PySem PySem.Spec PyProof.Rows
def ba(s:Stmt):Arguments:=match s with
  | .FunctionDef _ a _ _ _ _ _ _ _ _=>a
  | _=>{ posonlyargs:=[],args:=[],vararg:=none,kwonlyargs:=[],kw_defaults:=[],kwarg:=none,defaults:=[] }
def aL(s:Stmt):List Stmt:=match s with
  | .FunctionDef _ _ b _ _ _ _ _ _ _=>b
  | _=>[]
def am(s:Stmt):Scope:=match s with
  | .FunctionDef _ _ _ _ _ _ sc _ _ _=>sc
  | _=>{ kind:=.function,names:=[],isGenerator:=false,isCoroutine:=false }
abbrev CX0:CXT:=fun _ _ _ _ _ _=>False
abbrev E0:XK:=fun _ _ _=>False
theorem hW{X:Cx}:gZ CX0 X E0:=fun _ _ _ _ _ _ _ h=>h.elim
structure Fun (K:PySem.W.Frag) (x qual:Str) (st:Stmt) (f:Addr) (fd:FuncData):Prop where
  ex:∃ (oc:Value) (od:Option Addr) (kV doc pm:Value) (an:Option Addr) (cdv ct:Value) (osl:Array (Option Value)),
    fd=PySem.W.fnOf x qual (ba st) (aL st) (am st) .none kV doc pm an cdv ct/\K.lookup f=some ⟨oc,od,.func fd,osl⟩/\PySem.W.codeIn K cdv qual=true
  kp:PySem.W.keepIn K (.ref f)=true
section
variable {P:Program} {w:World} {K:PySem.W.Frag} {mg:Str->Option Value} {base:Heap}
theorem Fun.ok{x qual:Str}{st:Stmt}{f:Addr}{fd:FuncData}{N ps:List Str}{k:Nat}{sp:Sp}(F:Fun K x qual st f fd)(S:FnScope N ps (am st))(len:∀ vs H Q E,sp vs H Q E->vs.length=ps.length)(hbody:∀ (cdv:Value) (A:Around) (outer:List Env) (s:Shared) (H:Hp) (vs:List V) (Q:VK) (E:XK),Room k (A.deeper (envOfC qual (am st) s.heap.objs.size f cdv))->sp vs H Q E ->
      ∃ t,PSs (bP CX0 P w K mg base N qual (am st) f cdv A outer s H E).nox (aL st) t/\t { nx:=fun _ H'=>Q .non H',rt:=Q } (start N vs) H):FnOk P w K mg base CX0 (k+1) f fd ps sp:=by
  obtain⟨oc,od,kV,doc,pm,an,cdv,ct,osl,rfl,lk,hcd⟩:=F.ex
  refine pz lk hcd S len fun A outer s H vs Q E hr hsp=>?_
  obtain⟨t,h,q⟩:=hbody cdv A outer s H vs Q E hr hsp
  exact⟨t,h.nox,q⟩
theorem Fun.binds{x qual:Str}{st:Stmt}{f:Addr}{fd:FuncData}{ps:List Str}(F:Fun K x qual st f fd)(h:∀ (kV doc pm:Value) (an:Option Addr) (cdv ct:Value) (us:List Value),us.length=ps.length->bindArgs (PySem.W.fnOf x qual (ba st) (aL st) (am st) .none kV doc pm an cdv ct) ⟨us,[]⟩=pure (ps.zip us)):Binds K fd ps []:=by
  obtain⟨oc,od,kV,doc,pm,an,cdv,ct,osl,rfl,lk,hcd⟩:=F.ex
  exact .all (h kV doc pm an cdv ct)
theorem bv{x qual:Str}{st:Stmt}{f:Addr}{oc:Value}{od an:Option Addr}{osl:Array (Option Value)}{kV doc pm cdv ct:Value}(l:K.lookup f=some ⟨oc,od,.func (PySem.W.fnOf x qual (ba st) (aL st) (am st) .none kV doc pm an cdv ct),osl⟩)(c:PySem.W.codeIn K cdv qual=true)(k:PySem.W.keepIn K (.ref f)=true):Fun K x qual st f (PySem.W.fnOf x qual (ba st) (aL st) (am st) .none kV doc pm an cdv ct):=⟨⟨oc,od,kV,doc,pm,an,cdv,ct,osl,rfl,l,c⟩,k⟩
end
theorem qg{n:Nat}(h:n<=1000):n < sizeLine:=Nat.lt_of_le_of_lt h (by decide)
section
variable {X:Cx}
end
theorem fP{A B:Prop}(h:B):if false=true then A else B:=by
  rw[if_neg Bool.false_ne_true]
  exact h
theorem fQ{A B:Prop}(h:A):if true=true then A else B:=by
  rw[if_pos rfl]
  exact h
def Same(H H':Hp):Prop:=∀ b o,H b=some o->H' b=some o
theorem Same.refl(H:Hp):Same H H:=fun _ _ h=>h
theorem Same.trans{H H1 H2:Hp}(a:Same H H1)(b:Same H1 H2):Same H H2:=fun c o h=>b c o (a c o h)
theorem Same.free{H H':Hp}(e:Same H H'){l:Addr}(h:H' l=Option.none):H l=Option.none:=by
  cases q:H l with
  | none=>rfl
  | some o =>
    rw[e l o q] at h
    cases h
theorem Same.seq{K:PySem.W.Frag}{H H':Hp}{a:Addr}{xs:List V}(e:Same H H')(h:SqL K H a xs):SqL K H' a xs:=by
  rcases h with (h | ⟨o,h⟩) | h
  · exact .inl (.inl (e _ _ h))
  · exact .inl (.inr ⟨o,e _ _ h⟩)
  · exact .inr h
end L2
namespace L2
open PySem PySem.Spec PyProof.Rows
end L2
namespace L2
open PySem PySem.Spec PyProof.Rows
section
variable (P:Program) (w:World)
end
section
variable {P:Program} {w:World} {H H':Hp} {h h':Heap} {a:Addr} {o:HO}
end
section
variable {P:Program} {w:World} {H:Hp} {h h':Heap} {x e:Addr} {o':HO}
end
section
variable {fs fs' ex ex':List Addr} {H H1 H2:Hp} {h h1 h2 h':Heap} {a x e:Addr} {o:HO}
end
end L2
namespace L2
open PySem PySem.Spec PyProof.Rows
section
variable {X:Cx} {pins:List (Addr × Obj)} {σ:List (Option V)} {H H':Hp} {s:Shared} {h':Heap}
end
end L2
namespace L2
open PySem PySem.Spec PyProof.Rows
section
variable {X:Cx}
variable {a b:Expr} {ta tb:TE} {pos:Pos}
variable {tA tB':TT} {ak:List Expr}
end
end L2
namespace L2
open PySem PySem.Spec PyProof.Rows
section
variable {X:Cx} {pins:List (Addr × Obj)} {σ:St} {H:Hp} {s:Shared} {a:Addr} {xs ys:List V}
end
section
variable {X:Cx} {pins:List (Addr × Obj)} {σ:St} {H:Hp} {s:Shared} {E:Value->Shared->Prop}
end
section
variable {X:Cx} {st:Stmt} {ak:List Stmt} {t u:TS} {e:Expr} {te:TE} {pos:Pos}
end
section
variable {X:Cx} {pos:Pos}
end
section
variable {X:Cx} {pos:Pos}
end
end L2
namespace L2
open PySem PySem.Spec PyProof.Rows
section
variable {X:Cx} {tg:Expr}
end
end L2
namespace L2
open PySem PySem.Spec PyProof.Rows
section
variable {X:Cx} {a b c:Expr} {ta tb tc:TE} {pos:Pos}
end
section
variable {X:Cx} {a b c:Expr} {ta tb tc:TE} {pos:Pos}
end
end L2
namespace L2
open PySem PySem.Spec PyProof.Rows
section
variable {prog:Program} {w:World} {A:Around} {E:Value->Shared->Prop} {s:Shared} {K:PySem.W.Frag} {x dx C f:Addr} {mA:Str->Option Value} {name:Str} {v:Value}
end
section
variable {P:Program} {w:World} {H H':Hp} {h h':Heap} {a C dx:Addr} {fs fs':List (Str × V)}
end
section
variable {X:Cx} {pins:List (Addr × Obj)} {σ:St} {H:Hp} {s:Shared} {a C dx:Addr} {fs:List (Str × V)} {f:Str} {v:V} {A:Around} {E:Value->Shared->Prop}
end
section
variable {X:Cx} {o e value:Expr} {f:Str} {pos pos' tpos:Pos} {ta tv:TE}
end
section
variable {X:Cx} {pins:List (Addr × Obj)} {σ:St} {H:Hp} {s:Shared} {A:Around} {E:Value->Shared->Prop} {Q:Value->Shared->Prop} {c:Value} {b:Bool}
end
end L2
namespace L2
open PySem PySem.Spec PyProof.Rows
section
variable {X:Cx} {e:Expr} {es:List Expr} {te:TE} {t:TA} {pos:Pos}
end
section
variable {X:Cx} {pins:List (Addr × Obj)} {σ:St} {H:Hp} {s s':Shared}
end
section
variable {X:Cx} {CX:CXT} {k:Nat} {f C:Addr} {fd:FuncData} {ps:List Str} {sp:Sp} {dvs:List V} {ds:List Value} {E:XK} {x m:Str} {p pos apos:Pos} {e o:Expr} {es:List Expr} {ta:TE} {t:TA}
end
section
variable {X:Cx} {CX:CXT} {k:Nat} {f C:Addr} {fd:FuncData} {ps ks:List Str} {sp:Sp} {E:XK} {x m:Str} {p pos apos kpos:Pos} {e o:Expr} {es:List Expr} {kws:List Keyword} {te ta:TE} {t tk:TA} {nm:Option Str}
variable {g:List Value->List Value->List Value} {gV:List V->List V->List V}
end
end L2
namespace L2
open PySem PySem.Spec PyProof.Rows
section
variable {X:Cx} {x:Str} {p pos:Pos} {e:Expr} {es:List Expr} {t:TA} {id T:String} {r:List V->Hp->VK->Prop}
end
end L2
namespace L2
open PySem PySem.Spec PyProof.Rows
section
variable {κ:Type} [DecidableEq κ]
def bw(kvs:List (κ × V))(k:κ):Option V:=(kvs.find? fun kv=>decide (kv.1=k)).map (·.2)
def bx(kvs:List (κ × V))(k:κ)(v:V):List (κ × V) :=
  if (kvs.any fun kv=>decide (kv.1=k))=true then kvs.map (fun kv=>if kv.1=k then (kv.1,v) else kv) else kvs++[(k,v)]
def kl(kvs:List (κ × V))(k:κ):List (κ × V):=kvs.filter fun kv=>decide (kv.1 ≠ k)
theorem hX{p:κ × V}{r:List (κ × V)}{k:κ}(e:p.1=k):bw (p::r) k=some p.2:=by simp[bw,List.find?_cons,e]
theorem i0{p:κ × V}{r:List (κ × V)}{k:κ}(e:¬ p.1=k):bw (p::r) k=bw r k:=by simp[bw,List.find?_cons,e]
theorem km(k:κ):∀ kvs:List (κ × V),(kvs.any fun kv=>decide (kv.1=k))=(bw kvs k).isSome
  | []=>rfl
  | p::r=>by
    rw[List.any_cons]
    by_cases e:p.1=k
    · simp only[hX e,decide_eq_true e,Bool.true_or,Option.isSome_some]
    · rw[i0 e,decide_eq_false e,Bool.false_or];exact km k r
theorem i4(kvs:List (κ × V))(k:κ)(v:V):(bx kvs k v).length<=kvs.length+1:=by
  unfold bx
  split
  · rw[List.length_map];omega
  · rw[List.length_append,List.length_cons,List.length_nil];omega
theorem RelO.isSome_eq{o:Option V}{u:Option Value}(r:RelO o u):o.isSome=u.isSome:=by
  cases o with
  | none=>cases u with
    | none=>rfl
    | some _=>exact (show False from r).elim
  | some _=>cases u with
    | none=>exact (show False from r).elim
    | some _=>rfl
theorem RelO.getD{o:Option V}{u:Option Value}{d:V}{d':Value}(r:RelO o u)(rd:RelV d d'):RelV (o.getD d) (u.getD d'):=by
  cases o with
  | none=>cases u with
    | none=>exact rd
    | some _=>exact (show False from r).elim
  | some _=>cases u with
    | none=>exact (show False from r).elim
    | some _=>exact r
theorem KV.val{kvs:List (κ × V)}{vs:List (κ × Value)}(r:KV kvs vs)(k:κ):RelO (bw kvs k) (valueAt vs k):=by
  unfold KV at r
  induction r with
  | nil=>exact True.intro
  | @cons p q ps qs h t ih =>
    obtain⟨h1,h2⟩:=h
    by_cases e:p.1=k
    · have e':q.1=k:=h1.symm.trans e
      have b:valueAt (q::qs) k=some q.2:=by simp[valueAt,List.find?_cons,e']
      rw[hX e,b];exact h2
    · have e':¬ q.1=k:=fun z=>e (h1.trans z)
      have b:valueAt (q::qs) k=valueAt qs k:=by simp[valueAt,List.find?_cons,e']
      rw[i0 e,b];exact ih
theorem KV.any{kvs:List (κ × V)}{vs:List (κ × Value)}(r:KV kvs vs)(k:κ):(kvs.any fun kv=>decide (kv.1=k))=vs.any fun kv=>decide (kv.1=k):=by
  unfold KV at r
  induction r with
  | nil=>rfl
  | cons h t ih=>rw[List.any_cons,List.any_cons,ih,h.1]
theorem KV.repl{kvs:List (κ × V)}{vs:List (κ × Value)}(r:KV kvs vs)(k:κ){y:V}{u:Value}(ry:RelV y u):
    KV (kvs.map fun kv=>if kv.1=k then (kv.1,y) else kv) (vs.map fun kv=>if kv.1=k then (kv.1,u) else kv):=by
  unfold KV at r ⊢
  induction r with
  | nil=>exact .nil
  | @cons p q ps qs h t ih =>
    rw[List.map_cons,List.map_cons]
    refine .cons ?_ ih
    obtain⟨h1,h2⟩:=h
    by_cases e:p.1=k
    · rw[if_pos e,if_pos (h1.symm.trans e)];exact⟨h1,ry⟩
    · rw[if_neg e,if_neg (fun z=>e (h1.trans z))];exact⟨h1,h2⟩
theorem KV.put{kvs:List (κ × V)}{vs:List (κ × Value)}(r:KV kvs vs)(k:κ){y:V}{u:Value}(ry:RelV y u):KV (bx kvs k y) (stored vs k u):=by
  unfold bx stored
  rw[r.any k]
  by_cases e:(vs.any fun kv=>decide (kv.1=k))=true
  · rw[if_pos e,if_pos e];exact r.repl k ry
  · rw[if_neg e,if_neg e];exact Paired.snoc r ⟨rfl,ry⟩
theorem KV.drop{kvs:List (κ × V)}{vs:List (κ × Value)}(r:KV kvs vs)(k:κ):KV (kl kvs k) (without vs k):=by
  unfold KV at r ⊢
  unfold kl without
  induction r with
  | nil=>exact .nil
  | @cons p q ps qs h t ih =>
    obtain⟨h1,h2⟩:=h
    rw[List.filter_cons,List.filter_cons]
    by_cases e:p.1=k
    · have a:¬ decide (p.1 ≠ k)=true:=by simp[e]
      have b:¬ decide (q.1 ≠ k)=true:=by simp[h1.symm.trans e]
      rw[if_neg a,if_neg b];exact ih
    · have e':¬ q.1=k:=fun z=>e (h1.trans z)
      have a:decide (p.1 ≠ k)=true:=by simp[e]
      have b:decide (q.1 ≠ k)=true:=by simp[e']
      rw[if_pos a,if_pos b];exact .cons ⟨h1,h2⟩ ih
theorem KV.keys{kvs:List (κ × V)}{vs:List (κ × Value)}(r:KV kvs vs):kvs.map (·.1)=vs.map (·.1):=by
  unfold KV at r
  induction r with
  | nil=>rfl
  | cons h t ih=>rw[List.map_cons,List.map_cons,ih,h.1]
theorem KV.length{kvs:List (κ × V)}{vs:List (κ × Value)}(r:KV kvs vs):kvs.length=vs.length:=Paired.length r
end
theorem fR{P:Program}{w:World}{k:Key}{u:Value}(r:RelV (kV k) u):(b7 P w).is k u=true:=by
  cases k with
  | inl i=>obtain⟨t,e⟩:=(show ∃ t,u=Value.int i t from r);subst e;exact oa P w i t
  | inr x=>obtain⟨t,e⟩:=(show ∃ t,u=Value.str x t from r);subst e;exact oe P w x t
theorem kn{P:Program}{w:World}:∀ {ks:List Key} {us:List Value},Vals (ks.map kV) us->ItemsAre (b7 P w) ks us
  | [],_,r=>by rw[List.map_nil] at r;cases r;exact .nil
  | k::ks,_,r=>by
    rw[List.map_cons] at r
    cases r with
    | cons h t=>exact .cons (fR h) (kn t)
abbrev KT(H:Hp):List (List Key × V)->List (List Key × Addr × Value)->Prop:=Paired fun p q=>p.1=q.1/\H q.2.1=some (.tup (p.1.map kV))/\RelV p.2 q.2.2
theorem KT.val{H:Hp}{kvs:List (List Key × V)}{xs:List (List Key × Addr × Value)}(r:KT H kvs xs)(k:List Key):RelO (bw kvs k) ((atKey xs k).map (·.2)):=by
  induction r with
  | nil=>exact True.intro
  | @cons p q ps qs h t ih =>
    obtain⟨h1,_,h2⟩:=h
    by_cases e:p.1=k
    · have e':q.1=k:=h1.symm.trans e
      have b:atKey (q::qs) k=some q.2:=by simp[atKey,List.find?_cons,e']
      rw[hX e,b];exact h2
    · have e':¬ q.1=k:=fun z=>e (h1.trans z)
      have b:atKey (q::qs) k=atKey qs k:=by simp[atKey,List.find?_cons,e']
      rw[i0 e,b];exact ih
theorem KT.repl{H:Hp}{kvs:List (List Key × V)}{xs:List (List Key × Addr × Value)}(r:KT H kvs xs)(k:List Key){y:V}{u:Value}(ry:RelV y u):
    KT H (kvs.map fun kv=>if kv.1=k then (kv.1,y) else kv) (xs.map (putAt k u)):=by
  induction r with
  | nil=>exact .nil
  | @cons p q ps qs h t ih =>
    rw[List.map_cons,List.map_cons]
    refine .cons ?_ ih
    obtain⟨h1,h2,h3⟩:=h
    unfold putAt
    by_cases e:p.1=k
    · rw[if_pos e,if_pos (h1.symm.trans e)];exact⟨h1,h2,ry⟩
    · rw[if_neg e,if_neg (fun z=>e (h1.trans z))];exact⟨h1,h2,h3⟩
theorem KT.put{H:Hp}{kvs:List (List Key × V)}{xs:List (List Key × Addr × Value)}(r:KT H kvs xs)(k:List Key){b:Addr}{y:V}{u:Value}(hb:H b=some (.tup (k.map kV)))(ry:RelV y u):
    KT H (bx kvs k y) (storedH xs k b u):=by
  have e:(kvs.any fun kv=>decide (kv.1=k))=(atKey xs k).isSome:=by
    rw[km,(r.val k).isSome_eq,Option.isSome_map]
  unfold bx storedH
  rw[e]
  by_cases q:(atKey xs k).isSome=true
  · rw[if_pos q,if_pos q];exact r.repl k ry
  · rw[if_neg q,if_neg q];exact Paired.snoc r ⟨rfl,hb,ry⟩
theorem KT.keeps{H H':Hp}{kvs:List (List Key × V)}{xs:List (List Key × Addr × Value)}(r:KT H kvs xs)(ht:∀ b ys,H b=some (.tup ys)->H' b=some (.tup ys)):KT H' kvs xs :=
  Paired.mapP r fun _ _ z=>⟨z.1,ht _ _ z.2.1,z.2.2⟩
section
variable {P:Program} {w:World} {H:Hp} {h:Heap} {a:Addr}
theorem ko{u:HO}(ok:HOk P w H h)(e:Rd H a u):ObjOk P w H h a u:=e.ok ok
theorem dF{kvs:List (Key × V)}(ok:HOk P w H h)(e:Rd H a (.dK kvs)):kvs.length<=sizeLine/\(a == sysModules)=false/\∃ vs,KV kvs vs/\h.DictOf (b7 P w) a vs :=
  show ObjOk P w H h a (.dK kvs) from ko ok e
theorem qh{kvs:List (Key × V)}(ok:HOk P w H h)(e:H a=some (.dK kvs)):kvs.length<=sizeLine/\(a == sysModules)=false/\∃ vs,KV kvs vs/\h.DictOf (b7 P w) a vs:=dF ok (.inl e)
theorem eI{ks:List Key}(ok:HOk P w H h)(e:H a=some (.tup (ks.map kV))):(tupleKind (b7 P w)).is h ks a:=by
  obtain⟨_,its,r,o,h1,h2,n,h3⟩:=(show ObjOk P w H h a (.tup (ks.map kV)) from ok a _ e)
  exact⟨o,its.toArray,n,h1,h2,h3,by simpa using kn r⟩
theorem eJ{kvs:List (List Key × V)}(ok:HOk P w H h)(e:Rd H a (.dT kvs)):kvs.length<=sizeLine/\(a == sysModules)=false /\
    ∃ xs,KT H kvs xs/\h.DictOfH (tupleKind (b7 P w)) a xs:=by
  obtain⟨z,y,xs,r,o,es,ep,h1,h2,h3,h4,h5⟩:=(show ObjOk P w H h a (.dT kvs) from ko ok e)
  refine⟨z,y,xs,r,o,es,ep,h1,h2,h3,h4,fun x hx=>?_,h5⟩
  have all:∀ {l:List (List Key × V)} {m:List (List Key × Addr × Value)},KT H l m->∀ x ∈ m,(tupleKind (b7 P w)).is h x.1 x.2.1:=by
    intro l m q
    induction q with
    | nil=>intro x hx;exact nomatch hx
    | @cons p q ps qs hq t ih =>
      intro x hx
      rcases List.mem_cons.mp hx with e | hx
      · subst e
        exact eI ok (by rw[<- hq.1];exact hq.2.1)
      · exact ih x hx
  exact all r x hx
theorem i5{kvs:List (List Key × V)}(ok:HOk P w H h)(e:H a=some (.dT kvs)):kvs.length<=sizeLine/\(a == sysModules)=false /\
    ∃ xs,KT H kvs xs/\h.DictOfH (tupleKind (b7 P w)) a xs:=eJ ok (.inl e)
end
def DGet(H:Hp)(a:Addr)(y:V)(r:Option V):Prop :=
  (∃ kvs k,Rd H a (.dK kvs)/\y=kV k/\r=bw kvs k)\/∃ kvs k b,Rd H a (.dT kvs)/\y=.ref b/\H b=some (.tup (k.map kV))/\r=bw kvs k
def DPut(H:Hp)(a:Addr)(y v:V)(H':Hp):Prop :=
  (∃ kvs k,H a=some (.dK kvs)/\y=kV k/\kvs.length < sizeLine/\H'=upd H a (.dK (bx kvs k v))) \/
  ∃ kvs k b,H a=some (.dT kvs)/\y=.ref b/\H b=some (.tup (k.map kV))/\kvs.length < sizeLine/\H'=upd H a (.dT (bx kvs k v))
theorem DGet.k{H:Hp}{a:Addr}{kvs:List (Key × V)}{k:Key}(e:H a=some (.dK kvs)):DGet H a (kV k) (bw kvs k):=.inl ⟨kvs,k,.inl e,rfl,rfl⟩
theorem DGet.t{H:Hp}{a b:Addr}{kvs:List (List Key × V)}{k:List Key}(e:H a=some (.dT kvs))(eb:H b=some (.tup (k.map kV))):DGet H a (.ref b) (bw kvs k):=.inr ⟨kvs,k,b,.inl e,rfl,eb,rfl⟩
theorem DPut.k{H:Hp}{a:Addr}{kvs:List (Key × V)}{k:Key}{v:V}(e:H a=some (.dK kvs))(hl:kvs.length < sizeLine):DPut H a (kV k) v (upd H a (.dK (bx kvs k v))):=.inl ⟨kvs,k,e,rfl,hl,rfl⟩
theorem DPut.t{H:Hp}{a b:Addr}{kvs:List (List Key × V)}{k:List Key}{v:V}(e:H a=some (.dT kvs))(eb:H b=some (.tup (k.map kV)))(hl:kvs.length < sizeLine):
    DPut H a (.ref b) v (upd H a (.dT (bx kvs k v))):=.inr ⟨kvs,k,b,e,rfl,eb,hl,rfl⟩
section
variable {X:Cx} {pins:List (Addr × Obj)} {σ:St} {H:Hp} {s:Shared} {a:Addr} {y v:V} {u r:Value} {o:Option V} {A:Around} {E:Value->Shared->Prop}
theorem Inv.big(I:Inv X pins σ H s):sysModules < s.heap.objs.size:=by
  have h:mainGlobals < s.heap.objs.size:=(I.mod.glob.keeps I.bk).lt
  exact Nat.lt_trans (by decide) h
theorem qi{Q:Value->Shared->Prop}(hu:A.units+1 < cLine)(I:Inv X pins σ H s)(g:DGet H a y (some v))(ry:RelV y u)(h:∀ w' s',Inv X pins σ H s'->RelV v w'->Q w' s'):
    wpAny (model X.prog X.w) A (getItem (.ref a) u) Q E s:=by
  rcases g with⟨kvs,k,e,ey,l⟩ | ⟨kvs,k,b,e,ey,eb,l⟩
  · subst ey
    obtain⟨z,hd,vs,rel,dd⟩:=dF I.hok e
    obtain⟨w',hw,rw'⟩:=RelO.some_of (v:=v) (o:=valueAt vs k) (by rw[l];exact rel.val k)
    exact wpAny_getItem_of (fR ry) dd.mapOf hw (h w' _ (I.tok _) rw')
  · subst ey
    cases (show u=Value.ref b from ry)
    obtain⟨z,hd,xs,rel,dd⟩:=eJ I.hok e
    obtain⟨w',hw,rw'⟩:=RelO.some_of (v:=v) (o:=(atKey xs k).map (·.2)) (by rw[l];exact rel.val k)
    obtain⟨p,hp,hp2⟩:=Option.map_eq_some_iff.mp hw
    refine wpAny_getItem_heap (tupleKind_room_in1 hu) (eI I.hok eb) dd hp ?_
    rw[hp2]
    exact h w' _ (I.tok _) rw'
theorem i6{h':Heap}{t':Nat}{ob:HO}(I:Inv X pins σ H s)(mu:Mut (H a))(hs:Heap.SameBut a s.heap h')(he:∃ q,h'.get? a=some q)(new:ObjOk X.prog X.w (upd H a ob) h' a ob):
    Inv X pins σ (upd H a ob) { s with heap:=h',toks:=t' } :=
  I.write (x:=a) (e:=a) mu (.inl rfl) (fun b q hb z=>(hs.2 b hb).trans z) he new
theorem qj{P:Program}{w:World}{H':Hp}{h':Heap}{kvs:List (Key × V)}{vs:List (Key × Value)}(z:kvs.length<=sizeLine)(hd:(a == sysModules)=false)(rel:KV kvs vs)(dd:h'.DictOf (b7 P w) a vs):
    ObjOk P w H' h' a (.dK kvs):=⟨z,hd,vs,rel,dd⟩
theorem qk{H':Hp}{Q:Unit->Shared->Prop}(hu:A.units+1 < cLine)(I:Inv X pins σ H s)(g:DPut H a y v H')(ry:RelV y u)(rv:RelV v r)(h:∀ s',Inv X pins σ H' s'->Q () s'):
    wpAny (model X.prog X.w) A (setItem (.ref a) u r) Q E s:=by
  rcases g with⟨kvs,k,e,ey,l,eH⟩ | ⟨kvs,k,b,e,ey,eb,l,eH⟩
  · subst ey eH
    obtain⟨z,hd,vs,rel,dd⟩:=qh I.hok e
    have hz:vs.length<=sizeLine:=by rw[<- rel.length];exact z
    have hl:(bx kvs k v).length<=sizeLine:=by have:=i4 kvs k v;omega
    refine wpAny_setItem_pairs (hsz:=hz) (fR ry) dd fun h' dd' hs=>h _ ?_
    have he:∃ q,h'.get? a=some q:=let ⟨q,_,_,hq,_⟩:=dd';⟨q,hq⟩
    exact i6 I (by rw[e];exact True.intro) hs he (qj hl hd (rel.put k rv) dd')
  · subst ey eH
    cases (show u=Value.ref b from ry)
    obtain⟨z,hd,xs,rel,dd⟩:=i5 I.hok e
    have hz:xs.length<=sizeLine:=by rw[<- Paired.length rel];exact z
    have hl:(bx kvs k v).length<=sizeLine:=by have:=i4 kvs k v;omega
    refine wpAny_setItem_heap (hsz:=hz) (tupleKind_room_in1 hu) (eI I.hok eb) dd fun h' dd' hs=>h _ ?_
    obtain⟨q,es,ep,hq,h2,h3,h4,_,h5⟩:=dd'
    refine i6 I (by rw[e];exact True.intro) hs ⟨q,hq⟩ ⟨hl,hd,_,(rel.put k eb rv).keeps fun c ys ec=>?_,q,es,ep,hq,h2,h3,h4,h5⟩
    rw[ai (jD ec e (fun z=>nomatch z))]
    exact ec
end
section
variable {X:Cx} {pins:List (Addr × Obj)} {σ:St} {H:Hp} {s:Shared} {a:Addr} {kvs:List (Key × V)} {k:Key} {u:Value} {A:Around} {E:Value->Shared->Prop}
end
def fS(i:Expr):Prop:=∀ ov iv,subscripted i false ov iv=operate [ov,iv] (getItem ov iv)
theorem ql{prog:Program}{w:World}{A:Around}{E:Value->Shared->Prop}{s:Shared}{env:Env}{value slice:Expr}{pos:Pos}{T id:String}{Q:Value->Shared->Prop}(hl:typeLookup (.type T) "__getitem__" = pure (some (.builtin id)))(hs:fS slice)(h:wpAny (model prog w) A (eval value env) (fun o s₁=>wpAny (model prog w) A (eval slice env) (fun i s₂=>s₂.TypeIs o T/\wpAny (model prog w) A (getItem o i) Q E s₂) E s₁) E s):
    wpAny (model prog w) A (eval (.Subscript value slice pos) env) Q E s:=by
  refine Subscript_ (wpAny_mono h (fun o s₁ h₁=>wpAny_mono h₁ (fun i s₂ h₂=>?_) fun _ _ x=>x) fun _ _ x=>x)
  obtain⟨hT,h₂⟩:=h₂
  unfold subscriptTail
  refine wpAny_bind ?_
  rw[getitemInPython_of_ne hT.not_modules]
  refine wpAny_bind (wpAny_specialOf hT hl ?_)
  have fin:wpAny (model prog w) A (subscripted slice false o i) (fun r s₃=>wpAny (model prog w) A (letTemporaryGo value o r >>= fun _=>pure r) Q E s₃) E s₂:=by
    rw[hs o i]
    exact wpAny_operating (wpAny_mono h₂ (fun r s₃ h₃=>wpAny_bind (wpAny_letTemporaryGo (wpAny_pure h₃))) fun _ _ x=>x)
  first
    | exact wpAny_pure (wpAny_bind fin)
    | exact wpAny_bind (wpAny_pure (wpAny_bind fin))
    | exact wpAny_bind fin
theorem qm{X:Cx}{pins:List (Addr × Obj)}{σ:St}{H:Hp}{s:Shared}{a:Addr}{y:V}{o:Option V}(I:Inv X pins σ H s)(g:DGet H a y o):s.TypeIs (.ref a) "dict":=by
  rcases g with⟨kvs,k,e,_,_⟩ | ⟨kvs,k,b,e,_,_,_⟩
  · obtain⟨_,_,vs,_,dd⟩:=dF I.hok e
    exact dd.typeIs
  · obtain⟨_,_,xs,_,dd⟩:=eJ I.hok e
    exact dd.typeIs
def qo(td ty:TE):TE:=fun σ H Q=>td σ H fun x H1=>ty σ H1 fun y H2=>∃ a v,x=.ref a/\DGet H2 a y (some v)/\Q v H2
def qp(td ty tv:TE):TS:=fun D σ H=>tv σ H fun v H1=>td σ H1 fun x H2=>ty σ H2 fun y H3=>∃ a H4,x=.ref a/\DPut H3 a y v H4/\D.nx σ H4
section
variable {X:Cx} {o i e value:Expr} {pos pos' tpos:Pos} {td ty tv:TE}
theorem qq(hu:X.A.units+1 < cLine)(ho:PE X o td)(hi:PE X i ty)(hs:fS i):PE X (.Subscript o i pos) (qo td ty):=by
  intro pins s σ H Q I h
  refine ql PySem.F.slot_dict_getitem.lookup hs (thn (ho pins s σ H _ I h) fun u s1 ⟨x,H1,I1,rx,q1⟩=>thn (hi pins s1 σ H1 _ I1 q1) fun iv s2 ⟨y,H2,I2,ry,a,v,ex,g,q2⟩=>?_)
  subst ex
  obtain rfl:u=Value.ref a:=rx
  exact⟨qm I2 g,qi hu I2 g ry fun w' s3 I3 rw'=>⟨v,H2,I3,rw',q2⟩⟩
theorem qr(hu:X.A.units+1 < cLine)(ho:PE X o td)(hi:PE X i ty)(hv:PE X value tv)(hs:swapsWith value (some (.Subscript o i pos')) pos.line X.env=pure false):
    PS X (.Assign [.Subscript o i pos'] value pos) (qp td ty tv):=by
  intro pins s σ H D I h
  refine wpAny_Assign_Subscript (thn (hv pins s σ H _ I h) fun r s1 ⟨v,H1,I1,rv,q1⟩=>thn (ho pins s1 σ H1 _ I1 q1) fun u s2 ⟨x,H2,I2,rx,q2⟩=>thn (hi pins s2 σ H2 _ I2 q2) fun iv s3 ⟨y,H3,I3,ry,a,H4,ex,g,q3⟩=>?_) hs
  subst ex
  obtain rfl:u=Value.ref a:=rx
  exact qk hu I3 g ry rv fun s4 I4=>⟨σ,H4,I4,q3⟩
end
theorem kq{P:Program}{w:World}{H:Hp}(h:Heap)(hb:sysModules < h.objs.size):ObjOk P w H (h.push { cls:=.type "dict",data:=.dict #[] }) h.objs.size (.dT []) :=
  ⟨Nat.zero_le _,beq_eq_false_iff_ne.mpr (Ne.symm (Nat.ne_of_lt hb)),[],.nil,_,#[],0,Heap.get?_push_size _ rfl,⟨rfl,rfl,rfl⟩,rfl,rfl,List.nodup_nil⟩
def qt:TE:=fun _ H Q=>∀ p,H p=none->Q (.ref p) (upd H p (.dT []))
section
variable {X:Cx} {pos:Pos}
theorem qu:PE X (.Dict [] [] pos) qt:=fun pins s σ H Q I h =>
  wpAny_Dict_empty ⟨.ref s.heap.objs.size,_,I.laid (a:=s.heap.objs.size) (o:=.dT []) (t':=s.toks) (fun _ _ q=>Heap.get?_push_of_some _ q) (Nat.le_refl _) (kq s.heap I.big),rfl,h _ (I.hok.fresh (Nat.le_refl _))⟩
end
def i7:List (TE × TE)->St->Hp->(List (V × V)->Hp->Prop)->Prop
  | [],_,H,Q=>Q [] H
  | (tk,tv)::r,σ,H,Q=>tk σ H fun x H1=>tv σ H1 fun y H2=>i7 r σ H2 fun ps H3=>Q ((x,y)::ps) H3
abbrev VV:List (V × V)->List (Value × Value)->Prop:=Paired fun p q=>RelV p.1 q.1/\RelV p.2 q.2
def PPs(X:Cx)(pos:Pos)(keys:List (Option Expr))(values:List Expr)(trs:List (TE × TE)):Prop :=
  ∀ (pins:List (Addr × Obj)) (s:Shared) (σ:St) (H:Hp) (Q:List (V × V)->Hp->Prop),Inv X pins σ H s->i7 trs σ H Q ->
    wpAny (model X.prog X.w) X.A (evalPairs (pairTrees keys values X.env pos)) (fun vs s'=>∃ ps H',Inv X pins σ H' s'/\VV ps vs/\Q ps H') X.xe s
structure M1 (X:Cx) (o:Expr) (m:Str) (apos:Pos) (e:Expr) (cpos:Pos):Prop where
  base:attributeBase o m X.env (eval o X.env)=eval o X.env
  few:((backTo cpos (starEach [e] X.env)).all (fun x=>!x.1) && (backToKw cpos (keywordEach [] X.env)).all (fun x=>x.1.isSome)
    && decide (([e]:List Expr).length+([]:List Keyword).length+(if ([]:List Keyword).isEmpty then 0 else 1) < 30))=true
  line:(apos.endLine == cpos.line)=true
  trees:backTo cpos (starEach [e] X.env)=[(false,eval e X.env)]
structure M2 (X:Cx) (o:Expr) (m:Str) (apos:Pos) (e f:Expr) (cpos:Pos):Prop where
  base:attributeBase o m X.env (eval o X.env)=eval o X.env
  few:((backTo cpos (starEach [e,f] X.env)).all (fun x=>!x.1) && (backToKw cpos (keywordEach [] X.env)).all (fun x=>x.1.isSome)
    && decide (([e,f]:List Expr).length+([]:List Keyword).length+(if ([]:List Keyword).isEmpty then 0 else 1) < 30))=true
  line:(apos.endLine == cpos.line)=true
  trees:backTo cpos (starEach [e,f] X.env)=[(false,eval e X.env),(false,eval f X.env)]
def IsD(H:Hp)(a:Addr):Prop:=(∃ kvs,Rd H a (.dK kvs))\/∃ kvs,Rd H a (.dT kvs)
theorem qv{X:Cx}{pins:List (Addr × Obj)}{σ:St}{H:Hp}{s:Shared}{a:Addr}(I:Inv X pins σ H s)(d:IsD H a):
    s.TypeIs (.ref a) "dict"/\(∀ b,Value.ref a=.ref b->∃ ob,s.heap.get? b=some ob/\ob.dict=none)/\(a == sysModules)=false:=by
  rcases d with⟨kvs,e⟩ | ⟨kvs,e⟩
  · obtain⟨_,hd,vs,_,dd⟩:=dF I.hok e
    refine⟨dd.typeIs,fun b q=>?_,hd⟩
    cases q
    obtain⟨ob,_,_,h1,h2,_⟩:=dd
    exact⟨ob,h1,h2.2.1⟩
  · obtain⟨_,hd,xs,_,dd⟩:=eJ I.hok e
    refine⟨dd.typeIs,fun b q=>?_,hd⟩
    cases q
    obtain⟨ob,_,_,h1,h2,_⟩:=dd
    exact⟨ob,h1,h2.2.1⟩
section
variable {X:Cx} {pins:List (Addr × Obj)} {σ:St} {H:Hp} {s:Shared} {a:Addr} {y d:V} {u r:Value} {o:Option V} {A:Around} {E:Value->Shared->Prop}
theorem qw{Q:Value->Shared->Prop}(hu:A.units+1 < cLine)(I:Inv X pins σ H s)(g:DGet H a y o)(ry:RelV y u)(rd:RelV d r)(h:∀ w' s',Inv X pins σ H s'->RelV (o.getD d) w'->Q w' s'):
    wpAny (model X.prog X.w) A (call (.builtin "dict.get") [.ref a,u,r]) Q E s:=by
  rcases g with⟨kvs,k,e,ey,l⟩ | ⟨kvs,k,b,e,ey,eb,l⟩
  · subst ey
    obtain⟨z,hd,vs,rel,dd⟩:=dF I.hok e
    refine call_meetsIn PySem.F.slot_dict_get dd.typeIs PySem.F.entry_dict_get (PySem.F.args_dict_get_3 _ _ _) (meets_dict_get_default (b7 X.prog X.w) a (fR ry) hd r) ⟨_,dd.mapOf,h _ _ (I.tok _) ?_⟩
    rw[l]
    exact (rel.val k).getD rd
  · subst ey
    cases (show u=Value.ref b from ry)
    obtain⟨z,hd,xs,rel,dd⟩:=eJ I.hok e
    refine call_meetsIn PySem.F.slot_dict_get dd.typeIs PySem.F.entry_dict_get (PySem.F.args_dict_get_3 _ _ _) (meetsH_dict_get_default (tupleKind (b7 X.prog X.w)) a b hd r) ⟨tupleKind_room_in1 hu,k,xs,eI I.hok eb,dd,h _ _ (I.tok _) ?_⟩
    rw[l]
    exact (rel.val k).getD rd
end
def qz(td ty tx:TE):TE:=fun σ H Q=>td σ H fun x H1=>∃ a,x=.ref a/\IsD H1 a/\ty σ H1 fun y H2=>tx σ H2 fun z H3=>∃ o,DGet H3 a y o/\Q (o.getD z) H3
section
variable {X:Cx} {o e f:Expr} {apos cpos:Pos} {td ty tx:TE}
theorem qA(hu:X.A.units+1 < cLine)(ho:PE X o td)(he:PE X e ty)(hf:PE X f tx)(m:M2 X o "get" apos e f cpos):PE X (.Call (.Attribute o "get" apos) [e,f] [] cpos) (qz td ty tx):=by
  intro pins s σ H Q I h
  refine wpAny_Call_method m.base m.few m.line PySem.F.plainAttrs_dict PySem.F.slot_dict_get PySem.F.type_dict_get (thn (ho pins s σ H _ I h) fun u s1 ⟨x,H1,I1,rx,a,ex,d,q1⟩=>?_)
  subst ex
  obtain rfl:u=Value.ref a:=rx
  obtain⟨t1,t2,_⟩:=qv I1 d
  refine⟨t1,t2,?_⟩
  rw[m.trees]
  refine Calls.callWith_builtin rfl (Calls.evalArgs_plain (Calls.spliced_cons (thn (he pins s1 σ H1 _ I1 q1) fun iv s2 ⟨y,H2,I2,ry,q2⟩ =>
    Calls.spliced_cons (thn (hf pins s2 σ H2 _ I2 q2) fun fv s3 ⟨z,H3,I3,rz,ov,g,q3⟩=>Calls.spliced_nil ?_))))
  exact qw hu I3 g ry rz fun w' s4 I4 rw'=>⟨_,H3,I4,rw',q3⟩
end
section
variable {X:Cx} {pins:List (Addr × Obj)} {σ:St} {H:Hp} {s:Shared} {a:Addr} {kvs:List (Key × V)} {A:Around} {E:Value->Shared->Prop}
end
section
variable {X:Cx} {pins:List (Addr × Obj)} {σ:St} {H:Hp} {s:Shared} {a:Addr} {y:V} {u:Value} {A:Around} {E:Value->Shared->Prop}
end
end L2
namespace Att
open PySem PySem.W PySem.Calls PyProof.Rows
section
variable {prog:Program} {w:World} {A:Around} {E:Value->Shared->Prop} {s:Shared} {K:Frag}
end
end Att
namespace L2
open PySem PySem.Spec PyProof.Rows
end L2
namespace L2
open PySem PySem.Spec PyProof.Rows
end L2
namespace L2
open PySem PySem.Spec PyProof.Rows
section
variable {P:Program} {w:World} {K:PySem.W.Frag} {mg:Str->Option Value} {base:Heap}
end
section
variable {X:Cx}
end
section
variable {κ:Type} [DecidableEq κ]
end
end L2
namespace VL
open PySem PySem.Spec PyProof.Rows L2
abbrev St:=L2.St
inductive D where
  | non | bl (b:Bool) | int (i:Int) | str (x:Str) | lst (xs:List D) | tup (xs:List D)
  | scr (ns:List Int)
  | dct (fz:Bool) (kvs:List (Int × Int))
  | ptr (a:Nat)
def fU(kvs:List (Int × Int)):List (Key × V):=kvs.map fun p=>(Sum.inl p.1,V.int p.2)
def DRd(H:Hp)(a:Addr)(fz:Bool)(kvs:List (Int × Int)):Prop:=(fz=true/\∃ o,H a=some (.frz o (.dK (fU kvs))))\/(fz=false/\H a=some (.dK (fU kvs)))
theorem DRd.same{H H':Hp}{a:Addr}{fz:Bool}{kvs:List (Int × Int)}(e:Same H H')(h:DRd H a fz kvs):DRd H' a fz kvs:=by
  rcases h with⟨z,o,h⟩ | ⟨z,h⟩
  · exact .inl ⟨z,o,e _ _ h⟩
  · exact .inr ⟨z,e _ _ h⟩
theorem DRd.rd{H:Hp}{a:Addr}{fz:Bool}{kvs:List (Int × Int)}(h:DRd H a fz kvs):Rd H a (.dK (fU kvs)):=by
  rcases h with⟨_,o,h⟩ | ⟨_,h⟩
  · exact .inr ⟨o,h⟩
  · exact .inl h
mutual
inductive Rep (K:PySem.W.Frag) (H:Hp):V->D->Prop where
  | non:Rep K H V.non D.non
  | bl (b:Bool):Rep K H (V.bl b) (D.bl b)
  | int (i:Int):Rep K H (V.int i) (D.int i)
  | str (x:Str):Rep K H (V.str x) (D.str x)
  | lst {a:Addr} {xs:List V} {ds:List D}:Rd H a (.lst xs)->Reps K H xs ds->Rep K H (V.ref a) (D.lst ds)
  | tup {a:Addr} {xs:List V} {ds:List D}:H a=some (.tup xs)->Reps K H xs ds->Rep K H (V.ref a) (D.tup ds)
  | scr {a:Addr} {ns:List Int}:SqL K H a (ns.map V.int)->Rep K H (V.ref a) (D.scr ns)
  | dct {a:Addr} {fz:Bool} {kvs:List (Int × Int)}:DRd H a fz kvs->Rep K H (V.ref a) (D.dct fz kvs)
  | ptr (a:Addr):Rep K H (V.ref a) (D.ptr a)
inductive Reps (K:PySem.W.Frag) (H:Hp):List V->List D->Prop where
  | nil:Reps K H [] []
  | cons {v:V} {d:D} {vs:List V} {ds:List D}:Rep K H v d->Reps K H vs ds->Reps K H (v::vs) (d::ds)
end
theorem bJ{H H':Hp}{a:Addr}{u:HO}(e:Same H H')(h:Rd H a u):Rd H' a u:=by
  rcases h with h | ⟨o,h⟩
  · exact .inl (e _ _ h)
  · exact .inr ⟨o,e _ _ h⟩
theorem bK{H:Hp}{a:Addr}{u:HO}(h:H a=some u):Rd H a u:=.inl h
theorem dG{H:Hp}{a:Addr}{xs ys:List V}(h:Rd H a (.lst xs))(h':Rd H a (.lst ys)):xs=ys:=by
  rcases h with h | ⟨o,h⟩ <;> rcases h' with h' | ⟨o',h'⟩ <;> rw[h] at h' <;> cases h' <;> rfl
theorem d4{H:Hp}{a:Addr}{xs ys:List V}(h:Rd H a (.tup xs))(h':Rd H a (.tup ys)):xs=ys:=by
  rcases h with h | ⟨o,h⟩ <;> rcases h' with h' | ⟨o',h'⟩ <;> rw[h] at h' <;> cases h' <;> rfl
theorem kr{H:Hp}{a:Addr}{xs ys:List V}(h:Rd H a (.lst xs))(h':Rd H a (.tup ys)):False:=by
  rcases h with h | ⟨o,h⟩ <;> rcases h' with h' | ⟨o',h'⟩ <;> rw[h] at h' <;> cases h'
theorem ao{K:PySem.W.Frag}{H H':Hp}(e:Same H H'){v:V}{d:D}(h:Rep K H v d):Rep K H' v d :=
  Rep.rec (motive_1:=fun v d _=>Rep K H' v d) (motive_2:=fun vs ds _=>Reps K H' vs ds)
    .non (fun b=>.bl b) (fun i=>.int i) (fun x=>.str x) (fun h _ ih=>.lst (bJ e h) ih) (fun h _ ih=>.tup (e _ _ h) ih) (fun h=>.scr (e.seq h)) (fun h=>.dct (h.same e)) (fun a=>.ptr a)
    .nil (fun _ _ ih1 ih2=>.cons ih1 ih2) h
theorem aC{K:PySem.W.Frag}{H H':Hp}(e:Same H H'){vs:List V}{ds:List D}(h:Reps K H vs ds):Reps K H' vs ds :=
  Reps.rec (motive_1:=fun v d _=>Rep K H' v d) (motive_2:=fun vs ds _=>Reps K H' vs ds)
    .non (fun b=>.bl b) (fun i=>.int i) (fun x=>.str x) (fun h _ ih=>.lst (bJ e h) ih) (fun h _ ih=>.tup (e _ _ h) ih) (fun h=>.scr (e.seq h)) (fun h=>.dct (h.same e)) (fun a=>.ptr a)
    .nil (fun _ _ ih1 ih2=>.cons ih1 ih2) h
section
variable {K:PySem.W.Frag} {H:Hp}
theorem Reps.length:∀ {vs:List V} {ds:List D},Reps K H vs ds->vs.length=ds.length
  | [],_,h=>by cases h;rfl
  | _::vs,_,h=>by cases h with | cons _ t=>simp[Reps.length t]
theorem Reps.append:∀ {vs ws:List V} {ds es:List D},Reps K H vs ds->Reps K H ws es->Reps K H (vs++ws) (ds++es)
  | [],_,_,_,h,h2=>by cases h;exact h2
  | _::_,_,_,_,h,h2=>by cases h with | cons a t=>exact .cons a (Reps.append t h2)
theorem Reps.get:∀ {vs:List V} {ds:List D} {i:Nat} {d:D},Reps K H vs ds->ds[i]?=some d->∃ v,vs[i]?=some v/\Rep K H v d
  | [],_,_,_,h,e=>by cases h;simp at e
  | _::_,_,0,_,h,e=>by cases h with | cons a t=>simp at e;subst e;exact⟨_,rfl,a⟩
  | _ :: _,_,i+1,_,h,e=>by
    cases h with
    | cons a t =>
      obtain⟨v,e1,r⟩:=Reps.get (i:=i) t (by simpa using e)
      exact⟨v,by simpa using e1,r⟩
theorem Reps.getV:∀ {vs:List V} {ds:List D} {i:Nat} {v:V},Reps K H vs ds->vs[i]?=some v->∃ d,ds[i]?=some d/\Rep K H v d
  | [],_,_,_,h,e=>by simp at e
  | _::_,_,0,_,h,e=>by cases h with | cons a t=>simp at e;subst e;exact⟨_,rfl,a⟩
  | _ :: _,_,i+1,_,h,e=>by
    cases h with
    | cons a t =>
      obtain⟨v,e1,r⟩:=Reps.getV (i:=i) t (by simpa using e)
      exact⟨v,by simpa using e1,r⟩
theorem Reps.take:∀ {vs:List V} {ds:List D} (n:Nat),Reps K H vs ds->Reps K H (vs.take n) (ds.take n)
  | _,_,0,_=>by simpa using Reps.nil
  | [],_,n+1,h=>by cases h;simpa using Reps.nil
  | _::_,_,n+1,h=>by cases h with | cons a t=>exact .cons a (Reps.take n t)
theorem Reps.drop:∀ {vs:List V} {ds:List D} (n:Nat),Reps K H vs ds->Reps K H (vs.drop n) (ds.drop n)
  | _,_,0,h=>by simpa using h
  | [],_,n+1,h=>by cases h;simpa using Reps.nil
  | _::_,_,n+1,h=>by cases h with | cons a t=>exact Reps.drop n t
theorem Reps.set{v:V}{d:D}(r:Rep K H v d):∀ {vs:List V} {ds:List D} (i:Nat),Reps K H vs ds->Reps K H (vs.set i v) (ds.set i d)
  | [],_,_,h=>by cases h;simpa using Reps.nil
  | _::_,_,0,h=>by cases h with | cons a t=>exact .cons r t
  | _::_,_,i+1,h=>by cases h with | cons a t=>exact .cons a (Reps.set r i t)
theorem Reps.ints:∀ ns:List Int,Reps K H (ns.map V.int) (ns.map D.int)
  | []=>.nil
  | n::ns=>.cons (.int n) (Reps.ints ns)
theorem Reps.rep{vs:List V}{ds:List D}(h:Reps K H vs ds):∀ k:Nat,Reps K H (List.replicate k vs).flatten (List.replicate k ds).flatten
  | 0=>.nil
  | k+1=>by rw[List.replicate_succ,List.replicate_succ,List.flatten_cons,List.flatten_cons];exact h.append (Reps.rep h k)
end
noncomputable def ae(H:Hp)(A:Addr->Prop):Hp:=fun b=>@ite _ (A b) (Classical.propDecidable _) none (H b)
theorem qB{H:Hp}{A:Addr->Prop}{b:Addr}(h:A b):ae H A b=none:=by unfold ae;rw[if_pos h]
theorem aH{H:Hp}{A:Addr->Prop}{b:Addr}(h:¬ A b):ae H A b=H b:=by unfold ae;rw[if_neg h]
theorem bL{H:Hp}{A:Addr->Prop}{b:Addr}{o:HO}(h:ae H A b=some o):¬ A b/\H b=some o:=by
  by_cases q:A b
  · rw[qB q] at h;cases h
  · rw[aH q] at h;exact⟨q,h⟩
theorem aJ(H:Hp)(A:Addr->Prop):Same (ae H A) H:=fun _ _ h=>(bL h).2
theorem bD{H H':Hp}{A B:Addr->Prop}(e:Same H H')(s:∀ b,B b->A b):Same (ae H A) (ae H' B):=fun b o h=>by
  obtain⟨n,h⟩:=bL h
  rw[aH fun q=>n (s b q)]
  exact e b o h
theorem kt{H H':Hp}{A:Addr->Prop}(e:Same H H')(n:∀ b,A b->H b=none):Same H (ae H' A):=fun b o h=>by
  rw[aH fun q=>by rw[n b q] at h;cases h]
  exact e b o h
abbrev cC:Addr->Prop:=fun _=>False
theorem i8(H:Hp):Same H (ae H cC):=kt (fun _ _ h=>h) fun _ h=>h.elim
theorem bM{H:Hp}{p:Addr}(h:H p=none)(o:HO):Same H (upd H p o):=fun b u q=>by rw[ai (b8 q h)];exact q
def Dom(H:Hp)(A:Addr->Prop):Prop:=∀ b,A b->H b ≠ none
theorem Dom.mono{H H':Hp}{A:Addr->Prop}(d:Dom H A)(e:Same H H'):Dom H' A:=fun b h n=>d b h (e.free n)
theorem Dom.none(H:Hp):Dom H cC:=fun _ h=>h.elim
theorem Dom.not_new{H:Hp}{A:Addr->Prop}{l:Addr}(d:Dom H A)(h:H l=Option.none):¬ A l:=fun q=>d l q h
def bb:D->Bool
  | .lst _=>false
  | .tup _=>false
  | .scr _=>false
  | .dct _ _=>false
  | .ptr _=>false
  | _=>true
theorem ku{K:PySem.W.Frag}{H H':Hp}{v:V}{d:D}(s:bb d=true)(h:Rep K H v d):Rep K H' v d:=by
  cases h with
  | non=>exact .non
  | bl b=>exact .bl b
  | int i=>exact .int i
  | str x=>exact .str x
  | lst _ _=>cases s
  | tup _ _=>cases s
  | scr _=>cases s
  | dct _=>cases s
  | ptr a=>cases s
end VL
namespace VL
open PySem PySem.Spec PyProof.Rows L2
abbrev ab:=List (Option D)
abbrev FE:=ab->Option D
inductive Es where
  | full (j:Nat)
  | el (j:Nat)
def EnvR(K:PySem.W.Frag)(H:Hp)(σ:St)(ρ:ab):Prop:=∀ (i:Nat) (d:D),ρ[i]?=some (some d)->∃ v,σ[i]?=some (some v)/\Rep K H v d
theorem EnvR.mono{K:PySem.W.Frag}{H H':Hp}{σ:St}{ρ:ab}(h:EnvR K H σ ρ)(e:Same H H'):EnvR K H' σ ρ:=fun i d q=>by
  obtain⟨v,h1,h2⟩:=h i d q
  exact⟨v,h1,ao e h2⟩
def qC:D->Option Unit
  | .scr _=>some ()
  | .dct _ _=>some ()
  | .ptr _=>some ()
  | _=>none
def ElR(K:PySem.W.Frag)(H:Hp)(A:Addr->Prop)(v:V)(d:D):Prop :=
  (bb d=true\/∃ u,qC d=some u)\/∃ p xs ds,v=V.ref p/\((d=.lst ds/\Rd H p (.lst xs))\/(d=.tup ds/\Rd H p (.tup xs)))/\Reps K (ae H A) xs ds
def Av(K:PySem.W.Frag)(H:Hp)(σ:St)(ρ:ab)(A:Addr->Prop):Es->Prop
  | .full j=>∀ v d,σ[j]?=some (some v)->ρ[j]?=some (some d)->Rep K (ae H A) v d
  | .el j=>∀ v d,σ[j]?=some (some v)->ρ[j]?=some (some d)->ElR K H A v d
theorem aM{H H':Hp}{A:Addr->Prop}(e:Same H H'):Same (ae H A) (ae H' A):=bD e fun _ h=>h
theorem ElR.mono{K:PySem.W.Frag}{H H':Hp}{A:Addr->Prop}{v:V}{d:D}(e:Same H H')(h:ElR K H A v d):ElR K H' A v d:=by
  rcases h with h | ⟨p,xs,ds,h1,h2,h3⟩
  · exact .inl h
  · refine .inr ⟨p,xs,ds,h1,?_,aC (aM e) h3⟩
    rcases h2 with⟨h2,h4⟩ | ⟨h2,h4⟩
    · exact .inl ⟨h2,bJ e h4⟩
    · exact .inr ⟨h2,bJ e h4⟩
theorem Av.mono{K:PySem.W.Frag}{H H':Hp}{σ:St}{ρ:ab}{A:Addr->Prop}{x:Es}(e:Same H H')(h:Av K H σ ρ A x):Av K H' σ ρ A x:=by
  cases x with
  | full j=>exact fun v d h1 h2=>ao (aM e) (h v d h1 h2)
  | el j=>exact fun v d h1 h2=>(h v d h1 h2).mono e
theorem Rep.el{K:PySem.W.Frag}{H:Hp}{A:Addr->Prop}{v:V}{d:D}(h:Rep K (ae H A) v d):ElR K H A v d:=by
  cases h with
  | non=>exact .inl (.inl rfl)
  | bl b=>exact .inl (.inl rfl)
  | int i=>exact .inl (.inl rfl)
  | str x=>exact .inl (.inl rfl)
  | lst h1 h2=>exact .inr ⟨_,_,_,rfl,.inl ⟨rfl,bJ (aJ H A) h1⟩,h2⟩
  | tup h1 h2=>exact .inr ⟨_,_,_,rfl,.inr ⟨rfl,bJ (aJ H A) (bK h1)⟩,h2⟩
  | scr h1=>exact .inl (.inr ⟨_,rfl⟩)
  | dct h1=>exact .inl (.inr ⟨_,rfl⟩)
  | ptr a=>exact .inl (.inr ⟨_,rfl⟩)
structure Post (K:PySem.W.Frag) (σ:St) (ρ:ab) (H:Hp) (es:List Es) (d:D) (v:V) (H':Hp):Prop where
  same:Same H H'
  rep:Rep K H' v d
  av:∀ A,Dom H A->(∀ e ∈ es,Av K H σ ρ A e)->Rep K (ae H' A) v d
structure PostF (K:PySem.W.Frag) (σ:St) (ρ:ab) (H:Hp) (es:List Es) (d:D) (v:V) (H':Hp):Prop where
  same:Same H H'
  new:∃ l xs ds,v=V.ref l/\d=.lst ds/\H l=none/\H' l=some (.lst xs)/\∀ A,Dom H A->(∀ e ∈ es,Av K H σ ρ A e)->Reps K (ae H' fun b=>A b\/b=l) xs ds
theorem Av.none{K:PySem.W.Frag}{H:Hp}{σ:St}{ρ:ab}(hE:EnvR K H σ ρ)(e:Es):Av K H σ ρ cC e:=by
  have full:∀ (j:Nat) (v:V) (d:D),σ[j]?=some (some v)->ρ[j]?=some (some d)->Rep K (ae H cC) v d:=fun j v d h1 h2=>by
    obtain⟨v',h3,h4⟩:=hE j d h2
    rw[h1] at h3;cases h3
    exact ao (i8 H) h4
  cases e with
  | full j=>exact full j
  | el j=>exact fun v d h1 h2=>(full j v d h1 h2).el
theorem PostF.post{K:PySem.W.Frag}{σ:St}{ρ:ab}{H:Hp}{es:List Es}{d:D}{v:V}{H':Hp}(h:PostF K σ ρ H es d v H')(hE:EnvR K H σ ρ):Post K σ ρ H es d v H':=by
  obtain⟨l,xs,ds,rfl,rfl,hl,hl',h3⟩:=h.new
  have av:∀ A,Dom H A->(∀ e ∈ es,Av K H σ ρ A e)->Rep K (ae H' A) (V.ref l) (.lst ds):=fun A hA ha =>
    .lst (.inl (by rw[aH (hA.not_new hl)];exact hl')) (aC (bD (fun _ _ q=>q) fun b q=>.inl q) (h3 A hA ha))
  exact⟨h.same,ao (aJ H' _) (av cC (Dom.none H) fun e _=>Av.none hE e),av⟩
def tv(K:PySem.W.Frag)(f:FE)(es:List Es):TE:=fun σ H Q=>∃ ρ d,EnvR K H σ ρ/\f ρ=some d/\∀ v H',Post K σ ρ H es d v H'->Q v H'
def tvF(K:PySem.W.Frag)(f:FE)(es:List Es):TE:=fun σ H Q=>∃ ρ d,EnvR K H σ ρ/\f ρ=some d/\∀ v H',PostF K σ ρ H es d v H'->Q v H'
def tvT(K:PySem.W.Frag)(f:ab->Option Bool):TT:=fun σ H Q=>∃ ρ b,EnvR K H σ ρ/\f ρ=some b/\∀ H',Same H H'->Q b H'
abbrev FEs:=ab->Option (List D)
structure Posts (K:PySem.W.Frag) (σ:St) (ρ:ab) (H:Hp) (es:List Es) (ds:List D) (vs:List V) (H':Hp):Prop where
  same:Same H H'
  rep:Reps K H' vs ds
  av:∀ A,Dom H A->(∀ e ∈ es,Av K H σ ρ A e)->Reps K (ae H' A) vs ds
def tvA(K:PySem.W.Frag)(f:FEs)(es:List Es):TA:=fun σ H Q=>∃ ρ ds,EnvR K H σ ρ/\f ρ=some ds/\∀ vs H',Posts K σ ρ H es ds vs H'->Q vs H'
abbrev VE(X:Cx)(e:Expr)(f:FE)(es:List Es):Prop:=PE X e (tv X.K f es)
abbrev VF(X:Cx)(e:Expr)(f:FE)(es:List Es):Prop:=PE X e (tvF X.K f es)
abbrev VT(X:Cx)(e:Expr)(f:ab->Option Bool):Prop:=PT X e (tvT X.K f)
abbrev VW(X:Cx)(e:Expr)(f:ab->Option Bool):Prop:=PW X e (tvT X.K f)
abbrev VA(X:Cx)(e:List Expr)(f:FEs)(es:List Es):Prop:=PA X e (tvA X.K f es)
theorem aD{X:Cx}{e:Expr}{t t':TE}(h:PE X e t)(i:∀ σ H Q,t' σ H Q->t σ H Q):PE X e t':=fun pins s σ H Q I q=>h pins s σ H Q I (i σ H Q q)
theorem fV{X:Cx}{e:Expr}{t t':TT}(h:PT X e t)(i:∀ σ H Q,t' σ H Q->t σ H Q):PT X e t':=fun pins s σ H Q I q=>h pins s σ H Q I (i σ H Q q)
theorem qD{X:Cx}{e:Expr}{t t':TT}(h:PW X e t)(i:∀ σ H Q,t' σ H Q->t σ H Q):PW X e t':=fun w pins s σ H Q I q=>h w pins s σ H Q I (i σ H Q q)
theorem fW{X:Cx}{e:List Expr}{t t':TA}(h:PA X e t)(i:∀ σ H Q,t' σ H Q->t σ H Q):PA X e t':=fun pos pins s σ H Q I q=>h pos pins s σ H Q I (i σ H Q q)
section
variable {X:Cx} {a b c:Expr} {es ea eb ec:List Es} {fa fb fc:FE} {pos:Pos}
theorem VF.ve{f:FE}(h:VF X a f es):VE X a f es:=aD h fun σ H Q ⟨ρ,d,hE,hf,hQ⟩=>⟨ρ,d,hE,hf,fun v H' p=>hQ v H' (p.post hE)⟩
def aa(i:Nat):FE:=fun ρ=>(ρ[i]?).getD none
theorem eK{i:Nat}{ρ:ab}{d:D}(h:aa i ρ=some d):ρ[i]?=some (some d):=by
  unfold aa at h
  cases e:ρ[i]? with
  | none=>rw[e] at h;cases h
  | some o=>rw[e] at h;simp only[Option.getD_some] at h;rw[h]
theorem qE(i:Nat){x:Str}{pos:Pos}(hN:X.N[i]?=some x:=by rfl)(hv:Vis X.env.scope x:=by first | exact Or.inl rfl | exact Or.inr (Or.inl rfl) | exact Or.inr (Or.inr rfl))(hd:(x == ("__debug__" : Str))=false:=by decide)(hcd:(x == ("__classdict__" : Str))=false:=by decide):VE X (.Name x pos) (aa i) [.full i] :=
  aD (eD hN hv hd hcd) fun σ H Q ⟨ρ,d,hE,hf,hQ⟩=>by
    have h:=eK hf
    obtain⟨v,hv,r⟩:=hE i d h
    exact⟨v,hv,hQ v H ⟨Same.refl H,r,fun A _ av=>av (.full i) (List.mem_singleton.mpr rfl) v d hv h⟩⟩
def eC(d:D):FE:=fun _=>some d
theorem kw{e:Expr}{v:V}{d:D}(h:PE X e (tC v))(r:∀ H,Rep X.K H v d):VE X e (eC d) [] :=
  aD h fun σ H Q ⟨ρ,d',hE,hf,hQ⟩=>by
    cases hf
    exact hQ v H ⟨Same.refl H,r H,fun A _ _=>r _⟩
theorem qF{i j pos}:VE X (.Constant (.int i) j pos) (eC (.int i)) []:=kw oo fun _=>.int i
theorem qG{i j pos}:VE X (.Constant (.bool i) j pos) (eC (.bl i)) []:=kw oq fun _=>.bl i
def e2(g:D->D->Option D)(a b:FE):FE:=fun ρ=>(a ρ).bind fun x=>(b ρ).bind fun y=>g x y
def e1(g:D->Option D)(a:FE):FE:=fun ρ=>(a ρ).bind g
theorem bind_some{α β:Type}{o:Option α}{f:α->Option β}{b:β}(h:o.bind f=some b):∃ a,o=some a/\f a=some b:=by
  cases o with
  | none=>cases h
  | some a=>exact⟨a,rfl,h⟩
theorem Post.up{K:PySem.W.Frag}{σ:St}{ρ:ab}{H H1 H2:Hp}{es:List Es}{d:D}{v:V}(h:Post K σ ρ H es d v H1)(e:Same H1 H2):Post K σ ρ H es d v H2 :=
  ⟨h.same.trans e,ao e h.rep,fun A hA ha=>ao (aM e) (h.av A hA ha)⟩
theorem Post.down{K:PySem.W.Frag}{σ:St}{ρ:ab}{H H1 H2:Hp}{es:List Es}{d:D}{v:V}(h:Post K σ ρ H1 es d v H2)(e:Same H H1):Post K σ ρ H es d v H2 :=
  ⟨e.trans h.same,h.rep,fun A hA ha=>h.av A (hA.mono e) fun x hx=>(ha x hx).mono e⟩
def OpV(K:PySem.W.Frag)(r:R2)(g:D->D->Option D):Prop :=
  ∀ (x y:V) (H:Hp) (dx dy d:D) (Q:VK),Rep K H x dx->Rep K H y dy->g dx dy=some d ->
    (∀ v H',Same H H'->Rep K H' v d->(∀ A,Dom H A->Rep K (ae H A) x dx->Rep K (ae H A) y dy->Rep K (ae H' A) v d)->Q v H')->r x y H Q
def UnV(K:PySem.W.Frag)(r:V->Hp->VK->Prop)(g:D->Option D):Prop :=
  ∀ (x:V) (H:Hp) (dx d:D) (Q:VK),Rep K H x dx->g dx=some d ->
    (∀ v H',Same H H'->Rep K H' v d->(∀ A,Dom H A->Rep K (ae H A) x dx->Rep K (ae H' A) v d)->Q v H')->r x H Q
theorem i9{K:PySem.W.Frag}{r:R2}{g:D->D->Option D}(hr:OpV K r g){σ:St}{H:Hp}{Q:VK}(h:tv K (e2 g fa fb) (ea++eb) σ H Q):tOp r (tv K fa ea) (tv K fb eb) σ H Q:=by
  obtain⟨ρ,d,hE,hf,hQ⟩:=h
  obtain⟨dx,h1,hf⟩:=bind_some hf
  obtain⟨dy,h2,hf⟩:=bind_some hf
  refine⟨ρ,dx,hE,h1,fun x H1 p1=>⟨ρ,dy,hE.mono p1.same,h2,fun y H2 p2=>?_⟩⟩
  have q1:=p1.up p2.same
  have q2:=p2.down p1.same
  refine hr x y H2 dx dy d Q q1.rep q2.rep hf fun v H' e r' av=>hQ v H' ⟨q1.same.trans e,r',fun A hA ha=>?_⟩
  exact av A (hA.mono q1.same) (q1.av A hA fun z hz=>ha z (List.mem_append_left _ hz)) (q2.av A hA fun z hz=>ha z (List.mem_append_right _ hz))
theorem qH{K:PySem.W.Frag}{r:V->Hp->VK->Prop}{g:D->Option D}(hr:UnV K r g){σ:St}{H:Hp}{Q:VK}(h:tv K (e1 g fa) ea σ H Q):tUn r (tv K fa ea) σ H Q:=by
  obtain⟨ρ,d,hE,hf,hQ⟩:=h
  obtain⟨dx,h1,hf⟩:=bind_some hf
  refine⟨ρ,dx,hE,h1,fun x H1 p1=>?_⟩
  exact hr x H1 dx d Q p1.rep hf fun v H' e r' av=>hQ v H' ⟨p1.same.trans e,r',fun A hA ha=>av A (hA.mono p1.same) (p1.av A hA ha)⟩
theorem qI{op:Operator}{r:R2}{g:D->D->Option D}(ho:OpR X (binaryOp op) r)(hr:OpV X.K r g)(ha:VE X a fa ea)(hb:VE X b fb eb):VE X (.BinOp a op b pos) (e2 g fa fb) (ea++eb) :=
  aD (eF ho ha hb) fun _ _ _ h=>i9 hr h
theorem fX{f:FE}(h:VE X a f es)(hs:∀ ρ d,f ρ=some d->bb d=true):VE X a f [] :=
  aD h fun σ H Q ⟨ρ,d,hE,hf,hQ⟩=>⟨ρ,d,hE,hf,fun v H' p=>hQ v H' ⟨p.same,p.rep,fun A _ _=>ku (hs ρ d hf) p.rep⟩⟩
theorem ky{g:D->D->Option D}(h:∀ x y d,g x y=some d->bb d=true)(fa fb:FE)(ρ:ab)(d:D)(e:e2 g fa fb ρ=some d):bb d=true:=by
  obtain⟨x,_,e⟩:=bind_some e
  obtain⟨y,_,e⟩:=bind_some e
  exact h x y d e
theorem qJ{g:D->Option D}(h:∀ x d,g x=some d->bb d=true)(fa:FE)(ρ:ab)(d:D)(e:e1 g fa ρ=some d):bb d=true:=by
  obtain⟨x,_,e⟩:=bind_some e
  exact h x d e
def gI(C:Int->Int->Prop)[∀ i j,Decidable (C i j)](k:Int->Int->D):D->D->Option D
  | .int i,.int j=>if C i j then some (k i j) else none
  | _,_=>none
theorem eM{C C':Int->Int->Prop}[∀ i j,Decidable (C' i j)]{k:Int->Int->D}{kv:Int->Int->V}(K:PySem.W.Frag)(hC:∀ i j,C' i j->C i j)(hk:∀ i j H,Rep K H (kv i j) (k i j)):OpV K (rI C kv) (gI C' k):=by
  intro x y H dx dy d Q rx ry hg hQ
  cases rx <;> cases ry <;> try (unfold gI at hg;cases hg;done)
  rename_i i j
  by_cases c:C' i j
  · simp only[gI,if_pos c] at hg
    cases hg
    exact⟨i,j,rfl,rfl,hC i j c,hQ _ H (Same.refl H) (hk i j H) fun A _ _ _=>hk i j _⟩
  · simp only[gI,if_neg c] at hg
    cases hg
theorem fY{C':Int->Int->Prop}[∀ i j,Decidable (C' i j)]{k:Int->Int->D}{kv:Int->Int->V}(K:PySem.W.Frag)(hk:∀ i j H,Rep K H (kv i j) (k i j)):OpV K (rI0 kv) (gI C' k):=by
  intro x y H dx dy d Q rx ry hg hQ
  cases rx <;> cases ry <;> try (unfold gI at hg;cases hg;done)
  rename_i i j
  by_cases c:C' i j
  · simp only[gI,if_pos c] at hg
    cases hg
    exact⟨i,j,rfl,rfl,hQ _ H (Same.refl H) (hk i j H) fun A _ _ _=>hk i j _⟩
  · simp only[gI,if_neg c] at hg
    cases hg
abbrev eN(_ _:Int):Prop:=True
def fZ(i:Int):Prop:=-18446744073709551616 < i/\i < 18446744073709551616
instance (i:Int):Decidable (fZ i):=inferInstanceAs (Decidable (_/\_))
def mid(i:Int):Prop:=i.natAbs.log2 < 4000
instance (i:Int):Decidable (mid i):=inferInstanceAs (Decidable (_ < _))
def okMul(i j:Int):Prop:=fZ i\/fZ j\/(mid i/\mid j)
instance (i j:Int):Decidable (okMul i j):=inferInstanceAs (Decidable (_\/_))
def eO(_ j:Int):Prop:=0 < j/\mid j
instance (i j:Int):Decidable (eO i j):=inferInstanceAs (Decidable (_/\_))
def g0(_ j:Int):Prop:=0 < j
instance (i j:Int):Decidable (g0 i j):=inferInstanceAs (Decidable (_ < _))
def d5(i j:Int):Prop:=(0<=j/\j<=1000000)/\fZ i
instance (i j:Int):Decidable (d5 i j):=inferInstanceAs (Decidable (_/\_))
theorem kz{i:Int}(h:mid i):Builtin.Int.intBits i<=4000:=by
  unfold Builtin.Int.intBits
  split
  · exact Nat.zero_le _
  · exact h
theorem okMul.ok{i j:Int}(h:okMul i j):IntMulOk i j:=by
  rcases h with h | h | ⟨h1,h2⟩
  · exact .of_left (intBits_le_64 h.1 h.2)
  · exact .of_right (intBits_le_64 h.1 h.2)
  · exact PyProof.Rows.mulOk_of_bits (kz h1) (kz h2) (by decide)
abbrev aF:=gI eN fun i j=>.int (i+j)
abbrev cD:=gI eN fun i j=>.int (i - j)
abbrev bc:=gI okMul fun i j=>.int (i * j)
abbrev bA:=gI eO fun i j=>.int (i / j)
abbrev b3:=gI g0 fun i j=>.int (i % j)
abbrev cE:=gI d5 fun i j=>.int (i ^ j.toNat)
theorem qK{C:Int->Int->Prop}[∀ i j,Decidable (C i j)]{k:Int->Int->D}(hk:∀ i j,bb (k i j)=true)(x y d:D)(h:gI C k x y=some d):bb d=true:=by
  unfold gI at h
  split at h
  · split at h
    · cases h;exact hk _ _
    · cases h
  · cases h
theorem kA:OpR X (binaryOp .Mult) (rI okMul fun i j=>.int (i * j)):=opI fun _ _ _ _ _ _ _ hc q=>mul_int q hc.ok
theorem qL:OpR X (binaryOp .FloorDiv) (rI eO fun i j=>.int (i / j)):=opI fun i j _ _ _ _ _ hc q=>by
  have h1:(0:Int) < j:=hc.1
  have h2:j.natAbs.log2 < 4000:=hc.2
  exact floordiv_int (by omega) (by rw[Int.fdiv_eq_ediv_of_nonneg i (by omega)];exact q) (.inl (PyProof.noPylong_of_log2 (by omega)))
theorem qM:OpR X (binaryOp .Pow) (rI d5 fun i j=>.int (i ^ j.toNat)):=opI fun i j _ _ _ _ _ hc q=>by
  have h1:-18446744073709551616 < i/\i < 18446744073709551616:=hc.2
  exact pow_int_small hc.1.1 hc.1.2 (by omega) q
theorem dH{op:Operator}{r:R2}{C:Int->Int->Prop}[∀ i j,Decidable (C i j)]{k:Int->Int->D}(ho:OpR X (binaryOp op) r)(hr:OpV X.K r (gI C k))(hk:∀ i j,bb (k i j)=true)(ha:VE X a fa ea)(hb:VE X b fb eb):
    VE X (.BinOp a op b pos) (e2 (gI C k) fa fb) []:=fX (qI ho hr ha hb) (ky (qK hk) fa fb)
theorem qN(ha:VE X a fa ea)(hb:VE X b fb eb):VE X (.BinOp a .Add b pos) (e2 aF fa fb) []:=dH jS (fY X.K fun _ _ _=>.int _) (fun _ _=>rfl) ha hb
theorem qO(ha:VE X a fa ea)(hb:VE X b fb eb):VE X (.BinOp a .Sub b pos) (e2 cD fa fb) []:=dH oV (fY X.K fun _ _ _=>.int _) (fun _ _=>rfl) ha hb
theorem qP(ha:VE X a fa ea)(hb:VE X b fb eb):VE X (.BinOp a .Mult b pos) (e2 bc fa fb) []:=dH kA (eM X.K (fun _ _ h=>h) fun _ _ _=>.int _) (fun _ _=>rfl) ha hb
theorem qQ(ha:VE X a fa ea)(hb:VE X b fb eb):VE X (.BinOp a .FloorDiv b pos) (e2 bA fa fb) []:=dH qL (eM X.K (fun _ _ h=>h) fun _ _ _=>.int _) (fun _ _=>rfl) ha hb
theorem qR(ha:VE X a fa ea)(hb:VE X b fb eb):VE X (.BinOp a .Mod b pos) (e2 b3 fa fb) []:=dH oW (eM X.K (fun _ _ h=>h) fun _ _ _=>.int _) (fun _ _=>rfl) ha hb
theorem qS(ha:VE X a fa ea)(hb:VE X b fb eb):VE X (.BinOp a .Pow b pos) (e2 cE fa fb) []:=dH qM (eM X.K (fun _ _ h=>h) fun _ _ _=>.int _) (fun _ _=>rfl) ha hb
def d6:D->Option D
  | .int i=>some (.int (-i))
  | _=>none
theorem qT(x d:D)(h:d6 x=some d):bb d=true:=by
  cases x <;> simp only[d6] at h <;> cases h
  rfl
theorem qU(ha:VE X a fa ea):VE X (.UnaryOp .USub a pos) (e1 d6 fa) [] :=
  fX (es:=ea) (aD (oU oX ha) fun _ _ _ h=>qH (fun x H dx d Q rx hg hQ=>by
    cases rx <;> simp only[d6] at hg <;> cases hg
    exact⟨_,rfl,hQ _ H (Same.refl H) (.int _) fun A _ _=>.int _⟩) h) (qJ qT fa)
abbrev ltI:=gI eN fun i j=>.bl (decide (i < j))
abbrev gtI:=gI eN fun i j=>.bl (decide (j < i))
abbrev geI:=gI eN fun i j=>.bl (decide (j<=i))
theorem qV{op:CmpOp}{r:R2}{g:D->D->Option D}(ho:OpR X (compareOp op) r)(hr:OpV X.K r g)(ha:VE X a fa ea)(hb:VE X b fb eb)(hm:behindInMarks op b=false)(hs:∀ x y d,g x y=some d->bb d=true):
    VE X (.Compare a [op] [b] pos) (e2 g fa fb) []:=fX (es:=ea++eb) (aD (jT ho ha hb hm) fun _ _ _ h=>i9 hr h) (ky hs fa fb)
def tru:D->Option Bool
  | .bl b=>some b
  | .int i=>some (i != 0)
  | .non=>some false
  | .lst xs=>some (!xs.isEmpty)
  | .tup xs=>some (!xs.isEmpty)
  | .str _=>none
  | .scr ns=>some (!ns.isEmpty)
  | .dct _ _=>none
  | .ptr _=>none
def eT(f:FE):ab->Option Bool:=fun ρ=>(f ρ).bind fun d=>match d with | .bl b=>some b | _=>none
theorem eP{op:CmpOp}{r:R2}{g:D->D->Option D}(ho:OpR X (compareOp op) r)(hr:OpV X.K r g)(ha:VE X a fa ea)(hb:VE X b fb eb)(hm:behindInMarks op b=false):VT X (.Compare a [op] [b] pos) (eT (e2 g fa fb)) :=
  fV (p7 ho ha hb hm) fun σ H Q ⟨ρ,b,hE,hf,hQ⟩=>by
    obtain⟨d,h1,h2⟩:=bind_some hf
    refine i9 hr ⟨ρ,d,hE,h1,fun v H' p=>?_⟩
    cases d <;> simp only at h2 <;> cases h2
    cases p.rep
    exact⟨b,rfl,hQ H' p.same⟩
theorem ia{C':Int->Int->Prop}[∀ i j,Decidable (C' i j)]{k:Int->Int->Bool}(K:PySem.W.Frag):OpV K (rI0 fun i j=>.bl (k i j)) (gI C' fun i j=>.bl (k i j)):=fY K fun _ _ _=>.bl _
theorem qW(ha:VE X a fa ea)(hb:VE X b fb eb):VT X (.Compare a [.Lt] [b] pos) (eT (e2 ltI fa fb)):=eP oY (ia X.K) ha hb (cZ _)
theorem qX(ha:VE X a fa ea)(hb:VE X b fb eb):VT X (.Compare a [.Gt] [b] pos) (eT (e2 gtI fa fb)):=eP oZ (ia X.K) ha hb (cZ _)
theorem qY(ha:VE X a fa ea)(hb:VE X b fb eb):VT X (.Compare a [.GtE] [b] pos) (eT (e2 geI fa fb)):=eP p0 (ia X.K) ha hb (cZ _)
def cF(f:FE):ab->Option Bool:=fun ρ=>(f ρ).bind tru
theorem qZ{K:PySem.W.Frag}{H:Hp}{v:V}{d:D}{k:Bool}(r:Rep K H v d)(h:tru d=some k):gY K v H k:=by
  cases r with
  | non=>cases h;rfl
  | bl b=>cases h;rfl
  | int i=>cases h;rfl
  | str x=>cases h
  | lst h1 h2 =>
    cases h
    refine .inl ⟨_,.inl h1,?_⟩
    cases h2 <;> rfl
  | tup h1 h2 =>
    cases h
    refine .inr (.inl ⟨_,.inl (bK h1),?_⟩)
    cases h2 <;> rfl
  | @scr a ns h1 =>
    cases h
    exact .inl ⟨_,h1,by cases ns <;> rfl⟩
  | dct h1=>cases h
  | ptr a=>cases h
theorem r0{f:FE}(h:VE X a f es)(he:∀ whole,isTrue a X.env whole=(do let v <- whole;standAt a.pos;holding [v] (truthy v)):=by intro _;rfl):VT X a (cF f) :=
  fV (pb h he) fun σ H Q ⟨ρ,b,hE,hf,hQ⟩=>by
    obtain⟨d,h1,h2⟩:=bind_some hf
    exact⟨ρ,d,hE,h1,fun v H' p=>⟨b,qZ p.rep h2,hQ H' p.same⟩⟩
def bOr(f g:ab->Option Bool):ab->Option Bool:=fun ρ=>(f ρ).bind fun b=>if b=true then some true else g ρ
def dI(f:ab->Option Bool):ab->Option Bool:=fun ρ=>(f ρ).map (!·)
variable {ta tb:ab->Option Bool} {ak:List Expr}
theorem r8(ha:VT X a ta):VW X (.BoolOp .Or [a] pos) ta:=ox ha
theorem ra(ha:VT X a ta)(hb:VW X (.BoolOp .Or (b::ak) pos) tb):VW X (.BoolOp .Or (a::b::ak) pos) (bOr ta tb) :=
  qD (oy ha hb) fun σ H Q ⟨ρ,b,hE,hf,hQ⟩=>by
    obtain⟨k,h1,h2⟩:=bind_some hf
    refine⟨ρ,k,hE,h1,fun H1 e1=>?_⟩
    cases k with
    | false=>exact fP ⟨ρ,b,hE.mono e1,h2,fun H2 e2=>hQ H2 (e1.trans e2)⟩
    | true=>cases h2;exact fQ (hQ H1 e1)
theorem rb(h:VW X a ta):VT X a ta:=h.pt
theorem rf(ha:VT X a ta):VT X (.UnaryOp .Not a pos) (dI ta) :=
  fV (oz ha) fun σ H Q ⟨ρ,b,hE,hf,hQ⟩=>by
    unfold dI at hf
    cases h1:ta ρ with
    | none=>rw[h1] at hf;cases hf
    | some k=>rw[h1] at hf;cases hf;exact⟨ρ,k,hE,h1,hQ⟩
def au:FEs:=fun _=>some []
def ah(f:FE)(g:FEs):FEs:=fun ρ=>(f ρ).bind fun d=>(g ρ).bind fun ds=>some (d::ds)
theorem rg:VA X [] au []:=fW cv fun σ H Q ⟨ρ,ds,hE,hf,hQ⟩=>by
  cases hf
  exact hQ [] H ⟨Same.refl H,.nil,fun _ _ _=>.nil⟩
theorem rh{xs:List Expr}{fs:FEs}(ha:VE X a fa ea)(hr:VA X xs fs eb)(hs:starEach (a::xs) X.env=(false,eval a X.env)::starEach xs X.env:=by rfl):VA X (a::xs) (ah fa fs) (ea++eb) :=
  fW (bO ha hr hs) fun σ H Q ⟨ρ,ds,hE,hf,hQ⟩=>by
    obtain⟨d,h1,hf⟩:=bind_some hf
    obtain⟨dr,h2,hf⟩:=bind_some hf
    cases hf
    refine⟨ρ,d,hE,h1,fun v H1 p1=>⟨ρ,dr,hE.mono p1.same,h2,fun vs H2 p2=>hQ _ H2 ⟨p1.same.trans p2.same,.cons (ao p2.same p1.rep) p2.rep,fun A hA hz=>?_⟩⟩⟩
    exact .cons (ao (aM p2.same) (p1.av A hA fun z q=>hz z (List.mem_append_left _ q))) (p2.av A (hA.mono p1.same) fun z q=>(hz z (List.mem_append_right _ q)).mono p1.same)
def bE(f:FEs):FE:=fun ρ=>(f ρ).bind fun ds=>if ds.length<=1000 then some (.lst ds) else none
def cG(f:FEs):FE:=fun ρ=>(f ρ).bind fun ds=>if ds.length<=1000 then some (.tup ds) else none
theorem ib{n:Nat}(h:n<=1000):n<=sizeLine:=Nat.le_of_lt (qg h)
theorem bq{α:Type}{c:Prop}[Decidable c]{a b:α}(h:(if c then some a else none)=some b):c/\a=b:=by
  by_cases q:c
  · rw[if_pos q] at h;exact⟨q,Option.some.inj h⟩
  · rw[if_neg q] at h;cases h
theorem rj{xs:List Expr}{fs:FEs}(h:VA X xs fs es):VF X (.List xs pos) (bE fs) es :=
  aD (pp h) fun σ H Q ⟨ρ,d,hE,hf,hQ⟩=>by
    obtain⟨ds,h1,hf⟩:=bind_some hf
    obtain⟨hl,rfl⟩:=bq hf
    refine⟨ρ,ds,hE,h1,fun vs H1 p=>⟨by rw[p.rep.length];exact ib hl,fun l hl1=>hQ _ _ ⟨p.same.trans (bM hl1 _),⟨l,vs,ds,rfl,rfl,p.same.free hl1,aK,fun A hA hz=>?_⟩⟩⟩⟩
    refine aC (fun b o q=>?_) (p.av A hA hz)
    obtain⟨n,q⟩:=bL q
    have ne:b ≠ l:=b8 q hl1
    rw[aH (fun z=>z.elim n ne),ai ne]
    exact q
theorem rk{xs:List Expr}{fs:FEs}{x1}(h:VA X xs fs es):VE X (.Tuple xs x1 pos) (cG fs) es :=
  aD (pk h) fun σ H Q ⟨ρ,d,hE,hf,hQ⟩=>by
    obtain⟨ds,h1,hf⟩:=bind_some hf
    obtain⟨hl,rfl⟩:=bq hf
    refine⟨ρ,ds,hE,h1,fun vs H1 p=>⟨by rw[p.rep.length];exact ib hl,fun l hl1=>hQ _ _ ⟨p.same.trans (bM hl1 _),.tup aK (aC (bM hl1 _) p.rep),fun A hA hz=>?_⟩⟩⟩
    have hA1:=hA.mono p.same
    refine .tup ?_ (aC (aM (bM hl1 _)) (p.av A hA hz))
    rw[aH (hA1.not_new hl1)]
    exact aK
end
end VL
namespace VL
open PySem PySem.Spec PyProof.Rows L2
structure PostB (K:PySem.W.Frag) (σ:St) (ρ:ab) (H:Hp) (es:List Es) (d:D) (v:V) (H':Hp):Prop where
  same:Same H H'
  rep:Rep K H' v d
  av:∀ A,Dom H A->(∀ e ∈ es,Av K H σ ρ A e)->ElR K H' A v d
def tvB(K:PySem.W.Frag)(f:FE)(es:List Es):TE:=fun σ H Q=>∃ ρ d,EnvR K H σ ρ/\f ρ=some d/\∀ v H',PostB K σ ρ H es d v H'->Q v H'
abbrev VB(X:Cx)(e:Expr)(f:FE)(es:List Es):Prop:=PE X e (tvB X.K f es)
theorem PostB.up{K:PySem.W.Frag}{σ:St}{ρ:ab}{H H1 H2:Hp}{es:List Es}{d:D}{v:V}(h:PostB K σ ρ H es d v H1)(e:Same H1 H2):PostB K σ ρ H es d v H2 :=
  ⟨h.same.trans e,ao e h.rep,fun A hA ha=>(h.av A hA ha).mono e⟩
theorem PostB.down{K:PySem.W.Frag}{σ:St}{ρ:ab}{H H1 H2:Hp}{es:List Es}{d:D}{v:V}(h:PostB K σ ρ H1 es d v H2)(e:Same H H1):PostB K σ ρ H es d v H2 :=
  ⟨e.trans h.same,h.rep,fun A hA ha=>h.av A (hA.mono e) fun x hx=>(ha x hx).mono e⟩
section
variable {X:Cx} {a b c:Expr} {es ea eb ec:List Es} {fa fb fc:FE} {pos p2:Pos}
theorem VE.vb(h:VE X a fa es):VB X a fa es:=aD h fun σ H Q ⟨ρ,d,hE,hf,hQ⟩=>⟨ρ,d,hE,hf,fun v H' p=>hQ v H' ⟨p.same,p.rep,fun A hA ha=>(p.av A hA ha).el⟩⟩
theorem rl(i:Nat){x:Str}{pos:Pos}(hN:X.N[i]?=some x:=by rfl)(hv:Vis X.env.scope x:=by first | exact Or.inl rfl | exact Or.inr (Or.inl rfl) | exact Or.inr (Or.inr rfl))(hd:(x == ("__debug__" : Str))=false:=by decide)(hcd:(x == ("__classdict__" : Str))=false:=by decide):VB X (.Name x pos) (aa i) [.el i] :=
  aD (eD hN hv hd hcd) fun σ H Q ⟨ρ,d,hE,hf,hQ⟩=>by
    have h:=eK hf
    obtain⟨v,hv,r⟩:=hE i d h
    exact⟨v,hv,hQ v H ⟨Same.refl H,r,fun A _ av=>av (.el i) (List.mem_singleton.mpr rfl) v d hv h⟩⟩
def items:D->Option (List D)
  | .lst ds=>some ds
  | .tup ds=>some ds
  | .scr ns=>some (ns.map .int)
  | _=>none
theorem ic{K:PySem.W.Frag}{H:Hp}{v:V}{d:D}{ds:List D}(r:Rep K H v d)(h:items d=some ds):∃ p xs,v=V.ref p/\(SqL K H p xs\/SqT K H p xs)/\Reps K H xs ds/\∀ A,ElR K H A v d->Reps K (ae H A) xs ds:=by
  cases r with
  | @lst p xs ds' h1 h2 =>
    cases h
    refine⟨p,xs,rfl,.inl (.inl h1),h2,fun A e=>?_⟩
    rcases e with (e | ⟨_,e⟩) | ⟨q,ys,es',e,⟨e1,e2⟩ | ⟨e1,e2⟩,e3⟩
    · cases e
    · cases e
    · cases e;cases e1;rw[dG h1 e2];exact e3
    · cases e1
  | @tup p xs ds' h1 h2 =>
    cases h
    have h1:=bK h1
    refine⟨p,xs,rfl,.inr (.inl h1),h2,fun A e=>?_⟩
    rcases e with (e | ⟨_,e⟩) | ⟨q,ys,es',e,⟨e1,e2⟩ | ⟨e1,e2⟩,e3⟩
    · cases e
    · cases e
    · cases e1
    · cases e;cases e1;rw[d4 h1 e2];exact e3
  | @scr p ns h1=>cases h;exact⟨p,_,rfl,.inl h1,Reps.ints ns,fun A _=>Reps.ints ns⟩
  | _=>cases h
def br:D->Bool
  | .tup _=>true
  | _=>false
theorem cw{K:PySem.W.Frag}{H:Hp}{v:V}{d:D}{ds:List D}(r:Rep K H v d)(h:items d=some ds)(n:br d=false):∃ p xs,v=V.ref p/\SqL K H p xs/\Reps K H xs ds/\∀ A,ElR K H A v d->Reps K (ae H A) xs ds:=by
  cases r with
  | @lst p xs ds' h1 h2 =>
    cases h
    refine⟨p,xs,rfl,.inl h1,h2,fun A e=>?_⟩
    rcases e with (e | ⟨_,e⟩) | ⟨q,ys,es',e,⟨e1,e2⟩ | ⟨e1,e2⟩,e3⟩
    · cases e
    · cases e
    · cases e;cases e1;rw[dG h1 e2];exact e3
    · cases e1
  | @scr p ns h1=>cases h;exact⟨p,_,rfl,h1,Reps.ints ns,fun A _=>Reps.ints ns⟩
  | tup _ _=>cases n
  | _=>cases h
theorem kB{K:PySem.W.Frag}{H:Hp}{v:V}{ds:List D}(r:Rep K H v (.lst ds)):∃ p xs,v=V.ref p/\Rd H p (.lst xs)/\Reps K H xs ds/\∀ A,ElR K H A v (.lst ds)->Reps K (ae H A) xs ds:=by
  cases r with
  | @lst p xs _ h1 h2 =>
    refine⟨p,xs,rfl,h1,h2,fun A e=>?_⟩
    rcases e with (e | ⟨_,e⟩) | ⟨q,ys,es',e,⟨e1,e2⟩ | ⟨e1,e2⟩,e3⟩
    · cases e
    · cases e
    · cases e;cases e1;rw[dG h1 e2];exact e3
    · cases e1
def ixD:D->D->Option D
  | x,.int i=>(items x).bind fun ds=>atI ds i
  | _,_=>none
theorem kC{K:PySem.W.Frag}{H:Hp}{xs:List V}{ds:List D}{i:Int}{d:D}(r:Reps K H xs ds)(h:atI ds i=some d):∃ v,atI xs i=some v/\Rep K H v d:=by
  unfold atI at h ⊢
  rw[r.length]
  obtain⟨j,h1,h2⟩:=bind_some h
  obtain⟨v,h3,h4⟩:=r.get h2
  exact⟨v,by rw[h1];exact h3,h4⟩
theorem rm(ha:VB X a fa ea)(hb:VE X b fb eb)(hs:hJ b):VE X (.Subscript a b pos) (e2 ixD fa fb) ea :=
  aD (pR (ix_list.or pU) ha hb hs) fun σ H Q ⟨ρ,d,hE,hf,hQ⟩=>by
    obtain⟨dx,h1,hf⟩:=bind_some hf
    obtain⟨dy,h2,hf⟩:=bind_some hf
    refine⟨ρ,dx,hE,h1,fun x H1 p1=>⟨ρ,dy,hE.mono p1.same,h2,fun y H2 p2=>?_⟩⟩
    have q1:=p1.up p2.same
    cases dy with
    | int i =>
      cases p2.rep
      obtain⟨ds,h3,h4⟩:=bind_some hf
      obtain⟨p,xs,rfl,hp,hx,hA⟩:=ic q1.rep h3
      obtain⟨v,h5,h6⟩:=kC hx h4
      have fin:Q v H2:=hQ v H2 ⟨q1.same,h6,fun A hD hz=>by
        obtain⟨v',h7,h8⟩:=kC (hA A (q1.av A hD hz)) h4
        rw[h5] at h7;cases h7;exact h8⟩
      rcases hp with hp | hp
      · exact .inl ⟨p,xs,i,v,rfl,rfl,hp,h5,fin⟩
      · exact .inr ⟨p,xs,i,v,rfl,rfl,hp,h5,fin⟩
    | _=>cases hf
theorem eQ{K:PySem.W.Frag}{σ:St}{ρ:ab}{H H1:Hp}{es:List Es}{xs:List V}{ds:List D}{l:Addr}(e:Same H H1)(hl:H1 l=none)(h:∀ A,Dom H A->(∀ z ∈ es,Av K H σ ρ A z)->Reps K (ae H1 A) xs ds):PostF K σ ρ H es (.lst ds) (.ref l) (upd H1 l (.lst xs)):=by
  refine⟨e.trans (bM hl _),⟨l,xs,ds,rfl,rfl,e.free hl,aK,fun A hA hz=>?_⟩⟩
  refine aC (fun b o q=>?_) (h A hA hz)
  obtain⟨n,q⟩:=bL q
  have ne:b ≠ l:=b8 q hl
  rw[aH (fun z=>z.elim n ne),ai ne]
  exact q
def ca{α:Type}(xs:List α)(lo hi:Option Int):List α:=(xs.drop (HT.sIx xs.length 0 lo)).take (HT.sIx xs.length xs.length hi - HT.sIx xs.length 0 lo)
theorem kD{K:PySem.W.Frag}{H:Hp}{xs:List V}{ds:List D}(r:Reps K H xs ds)(lo hi:Option Int):Reps K H (dE xs lo hi) (ca ds lo hi):=by
  unfold dE ca
  rw[r.length]
  exact (r.drop _).take _
abbrev FO:=ab->Option (Option Int)
def tvO(K:PySem.W.Frag)(f:FO):TO:=fun σ H Q=>∃ ρ o,EnvR K H σ ρ/\f ρ=some o/\∀ H',Same H H'->Q o H'
abbrev VO(X:Cx)(e:Option Expr)(f:FO):Prop:=PO X e (tvO X.K f)
theorem kE{e:Option Expr}{t t':TO}(h:PO X e t)(i:∀ σ H Q,t' σ H Q->t σ H Q):PO X e t':=fun pins s σ H Q I q=>h pins s σ H Q I (i σ H Q q)
def eR:FO:=fun _=>some none
def dJ(f:FE):FO:=fun ρ=>(f ρ).bind fun d=>match d with | .int i=>some (some i) | _=>none
theorem rn:VO X none eR:=kE pJ fun σ H Q ⟨ρ,o,hE,hf,hQ⟩=>by cases hf;exact hQ H (Same.refl H)
theorem rp(h:VE X a fa ea):VO X (some a) (dJ fa):=kE (pK h) fun σ H Q ⟨ρ,o,hE,hf,hQ⟩=>by
  obtain⟨d,h1,hf⟩:=bind_some hf
  refine⟨ρ,d,hE,h1,fun v H' p=>?_⟩
  cases d <;> simp only at hf <;> cases hf
  cases p.rep
  exact⟨_,rfl,hQ H' p.same⟩
def rq:R2:=fun x y H Q=>∃ l b xs zs,x=.ref l/\y=.ref b/\Rd H l (.lst xs)/\Rd H b (.lst zs)/\xs.length+zs.length<=sizeLine/\∀ p,H p=none->Q (.ref p) (upd H p (.lst (xs++zs)))
theorem kF{pins:List (Addr × Obj)}{σ:St}{H:Hp}{s:Shared}{l:Addr}{xs:List V}(I:Inv X pins σ H s)(h:Rd H l (.lst xs)):xs.length<=sizeLine/\∃ (its:List Value) (n:Nat),Vals xs its/\xs.length=its.length/\s.heap.get? l=some { cls:=.type "list",data:=.seq its.toArray n }:=by
  obtain⟨z,its,n,r,e⟩:=h.ok I.hok
  exact⟨z,its,n,r,r.length,e⟩
theorem rA:OpR X (binaryOp .Add) rq:=by
  intro pins s σ H x y v u Q I rx ry h
  obtain⟨l,b,xs,zs,rfl,rfl,hH,hB,hz,q⟩:=h
  cases rx
  cases ry
  obtain⟨z,its,n,r,hl,e⟩:=kF I hH
  obtain⟨z2,its2,n2,r2,hl2,e2⟩:=kF I hB
  refine PySem.P.add_list e e2 ?_ (by rw[List.size_toArray,List.size_toArray];omega)
  have ea:its.toArray++its2.toArray=(its++its2).toArray:=by simp
  rw[ea]
  exact⟨.ref _,_,I.lnew (t':=s.toks) (r.append r2) (by rw[List.length_append];omega),rfl,q _ I.fresh⟩
def dL:D->D->Option D
  | .lst xs,.lst ys=>if xs.length+ys.length<=100000 then some (.lst (xs++ys)) else none
  | _,_=>none
theorem rB{n:Nat}(h:n<=100000):n<=sizeLine:=Nat.le_trans h (by decide)
theorem rC(ha:VB X a fa ea)(hb:VB X b fb eb):VF X (.BinOp a .Add b pos) (e2 dL fa fb) (ea++eb) :=
  aD (eF rA ha hb) fun σ H Q ⟨ρ,d,hE,hf,hQ⟩=>by
    obtain⟨dx,h1,hf⟩:=bind_some hf
    obtain⟨dy,h2,hf⟩:=bind_some hf
    refine⟨ρ,dx,hE,h1,fun x H1 p1=>⟨ρ,dy,hE.mono p1.same,h2,fun y H2 p2=>?_⟩⟩
    have q1:=p1.up p2.same
    have q2:=p2.down p1.same
    cases dx with
    | lst ds =>
      cases dy with
      | lst es' =>
        obtain⟨hl,rfl⟩:=bq hf
        obtain⟨p,xs,rfl,hp,hx,hA⟩:=kB q1.rep
        obtain⟨p',ys,rfl,hp',hy,hA'⟩:=kB q2.rep
        refine⟨p,p',xs,ys,rfl,rfl,hp,hp',by rw[hx.length,hy.length];exact rB hl,fun r hr=>hQ _ _ (eQ q1.same hr fun A hD hz=>?_)⟩
        exact (hA A (q1.av A hD fun z w=>hz z (List.mem_append_left _ w))).append (hA' A (q2.av A hD fun z w=>hz z (List.mem_append_right _ w)))
      | _=>cases hf
    | _=>cases hf
def cH:D->Option D:=fun d=>(items d).bind fun ds=>some (.int ds.length)
def be(g:D->Option D):List D->Option D
  | [x]=>g x
  | _=>none
def d7(g:D->D->Option D):List D->Option D
  | [x,y]=>g x y
  | _=>none
def eA(f:List D->Option D)(as:FEs):FE:=fun ρ=>(as ρ).bind f
def g7(K:PySem.W.Frag)(r:List V->Hp->VK->Prop)(g:List D->Option D):Prop :=
  ∀ (xs:List V) (H:Hp) (ds:List D) (d:D) (Q:VK),Reps K H xs ds->g ds=some d->(∀ v,(∀ H',Rep K H' v d)->Q v H)->r xs H Q
theorem ie{x:Str}{p:Pos}{id:String}{r:List V->Hp->VK->Prop}{g:List D->Option D}{xs:List Expr}{as:FEs}(hc:CallR X (.builtin id) r)(hv:g7 X.K r g)(hm:X.mg x=none)(hb:bootBuiltins x=some (.builtin id))(ha:VA X (a::xs) as es)(hg:Gl X x:=by rfl)(hn:x ≠ "__name__":=by decide)(hdb:(x == ("__debug__" : Str))=false:=by decide)(he:starEach (a::xs) X.env=(false,eval a X.env)::starEach xs X.env:=by rfl)(hpl:(backTo pos (starEach xs X.env)).any (·.1)=false:=by rfl):
    VE X (.Call (.Name x p) (a::xs) [] pos) (eA g as) [] :=
  aD (fO hc hg hm hb ha hn hdb he hpl) fun σ H Q ⟨ρ,d,hE,hf,hQ⟩=>by
    obtain⟨ds,h1,hf⟩:=bind_some hf
    exact⟨ρ,ds,hE,h1,fun vs H1 p=>hv vs H1 ds d Q p.rep hf fun v hr=>hQ v H1 ⟨p.same,hr _,fun A _ _=>hr _⟩⟩
theorem eS{K:PySem.W.Frag}{H:Hp}{vs:List V}{d:D}(h:Reps K H vs [d]):∃ v,vs=[v]/\Rep K H v d:=by
  cases h with
  | cons h1 h2=>cases h2;exact⟨_,rfl,h1⟩
theorem rD{K:PySem.W.Frag}{H:Hp}{vs:List V}{d e:D}(h:Reps K H vs [d,e]):∃ v w,vs=[v,w]/\Rep K H v d/\Rep K H w e:=by
  cases h with
  | cons h1 h2 =>
    cases h2 with
    | cons h3 h4=>cases h4;exact⟨_,_,rfl,h1,h3⟩
theorem kG{g:D->Option D}{ds:List D}{d:D}(h:be g ds=some d):∃ x,ds=[x]/\g x=some d:=by
  match ds,h with
  | [x],h=>exact⟨x,rfl,h⟩
theorem rE{g:D->D->Option D}{ds:List D}{d:D}(h:d7 g ds=some d):∃ x y,ds=[x,y]/\g x y=some d:=by
  match ds,h with
  | [x,y],h=>exact⟨x,y,rfl,h⟩
theorem rF:g7 X.K (fun xs H Q=>∃ p ys,xs=[.ref p]/\(SqL X.K H p ys\/SqT X.K H p ys)/\Q (.int ys.length) H) (be cH):=by
  intro xs H ds d Q r hg hQ
  obtain⟨x,rfl,hg1⟩:=kG hg
  obtain⟨v,rfl,r1⟩:=eS r
  obtain⟨es,h1,hg2⟩:=bind_some hg1
  cases hg2
  obtain⟨p,ys,rfl,hp,hx,_⟩:=ic r1 h1
  exact⟨p,ys,rfl,hp,hQ _ fun H'=>by rw[hx.length];exact .int _⟩
theorem rG{p:Pos}{as:FEs}(ml:X.mg "len" = none)(ha:VA X [a] as es)(hg:Gl X "len":=by rfl)(he:starEach [a] X.env=(false,eval a X.env)::starEach [] X.env:=by rfl)(hpl:(backTo pos (starEach [] X.env)).any (·.1)=false:=by rfl):
    VE X (.Call (.Name "len" p) [a] [] pos) (eA (be cH) as) []:=ie pY rF ml PySem.boot_len ha hg (by decide) (by decide) he hpl
def eU:D->Option D:=fun d=>(items d).bind fun ds=>some (.lst ds)
theorem rH{p:Pos}(ml:X.mg "list" = none)(ha:VB X a fa ea)(hg:Gl X "list":=by rfl)(he:starEach [a] X.env=(false,eval a X.env)::starEach [] X.env:=by rfl)(hpl:(backTo pos (starEach [] X.env)).any (·.1)=false:=by rfl):
    VF X (.Call (.Name "list" p) [a] [] pos) (e1 eU fa) ea :=
  aD (pA pZ hg ml (by decide +kernel) (bO ha cv he) (by decide) (by decide) he hpl) fun σ H Q ⟨ρ,d,hE,hf,hQ⟩=>by
    obtain⟨dx,h1,hf⟩:=bind_some hf
    obtain⟨ds,h2,hf⟩:=bind_some hf
    cases hf
    refine⟨ρ,dx,hE,h1,fun x H1 p1=>?_⟩
    obtain⟨p,xs,rfl,hp,hx,hA⟩:=ic p1.rep h2
    exact⟨p,xs,rfl,hp,fun l hl=>hQ _ _ (eQ p1.same hl fun A hD hz=>hA A (p1.av A hD hz))⟩
def cI:List D->Option (List Int)
  | []=>some []
  | .int i::r=>(cI r).map (i::·)
  | _::_=>none
theorem ig:∀ {ds:List D} {ns:List Int},cI ds=some ns->ds=ns.map D.int
  | [],ns,h=>by cases h;rfl
  | .int i::r,ns,h=>by
    simp only[cI] at h
    cases e:cI r with
    | none=>rw[e] at h;cases h
    | some ms=>rw[e] at h;cases h;rw[ig e];rfl
  | .non::_,_,h=>by cases h
  | .bl _::_,_,h=>by cases h
  | .str _::_,_,h=>by cases h
  | .lst _::_,_,h=>by cases h
  | .tup _::_,_,h=>by cases h
  | .scr _::_,_,h=>by cases h
theorem g8{K:PySem.W.Frag}{H:Hp}:∀ {ns:List Int} {xs:List V},Reps K H xs (ns.map D.int)->xs=ns.map V.int
  | [],xs,h=>by cases h;rfl
  | n::ns,xs,h=>by
    cases h with
    | cons h1 h2=>cases h1;rw[g8 h2];rfl
theorem rJ(hc:X.calm=true):CallR X (.builtin "sum") (fun xs H Q=>∃ (p:Addr) (ns:List Int),xs=[.ref p]/\SqL X.K H p (ns.map V.int)/\Q (.int ns.sum) H):=by
  intro pins s σ H xs us Q I r h
  obtain⟨p,ns,rfl,hp,q⟩:=h
  obtain⟨u,rfl,ru⟩:=d3 r
  cases ru
  obtain⟨its,rv,pl,hz⟩:=I.list hp
  have hi:=pI rv
  obtain⟨ys,e⟩:=hi.allInts.items
  have hl:=pl.isList
  rw[e] at hl
  refine sum_intListG (I.ok.hd hc) hl fun h' tk t' hk=>?_
  have e2:preSum (numAt ys) ys.size=ns.sum:=by
    rw[preSum_eq,List.take_of_length_le (by simp),<- hi.numsOf]
    rw[show its=its.toArray.toList from rfl,e,nums_intItems]
  rw[e2]
  exact⟨.int ns.sum,H,I.kept (t':=tk) hk,⟨_,rfl⟩,q⟩
def cb:D->Option D:=fun d=>if br d=true then none else (items d).bind fun ds=>(cI ds).bind fun ns=>some (.int ns.sum)
theorem rK:g7 X.K (fun xs H Q=>∃ (p:Addr) (ns:List Int),xs=[.ref p]/\SqL X.K H p (ns.map V.int)/\Q (.int ns.sum) H) (be cb):=by
  intro xs H ds d Q r hg hQ
  obtain⟨x,rfl,hg1⟩:=kG hg
  obtain⟨v,rfl,r1⟩:=eS r
  unfold cb at hg1
  cases ht:br x with
  | true=>rw[if_pos ht] at hg1;cases hg1
  | false =>
    rw[if_neg (by rw[ht];exact Bool.false_ne_true)] at hg1
    obtain⟨es,h1,hg2⟩:=bind_some hg1
    obtain⟨ns,h2,hg3⟩:=bind_some hg2
    cases hg3
    obtain⟨p,ys,rfl,hp,hx,_⟩:=cw r1 h1 ht
    rw[ig h2] at hx
    rw[g8 hx] at hp
    exact⟨p,ns,rfl,hp,hQ _ fun H'=>.int _⟩
theorem rL{p:Pos}{as:FEs}(hc:X.calm=true)(ml:X.mg "sum" = none)(ha:VA X [a] as es)(hg:Gl X "sum":=by rfl)(he:starEach [a] X.env=(false,eval a X.env)::starEach [] X.env:=by rfl)(hpl:(backTo pos (starEach [] X.env)).any (·.1)=false:=by rfl):
    VE X (.Call (.Name "sum" p) [a] [] pos) (eA (be cb) as) []:=ie (rJ hc) rK ml PyProof.Rows.boot_sum ha hg (by decide) (by decide) he hpl
def d8:D->D->Option D
  | .int i,.int j=>some (.int (if j < i then j else i))
  | _,_=>none
theorem rM:g7 X.K (fun xs H Q=>∃ i j,xs=[.int i,.int j]/\Q (.int (if j < i then j else i)) H) (d7 d8):=by
  intro xs H ds d Q r hg hQ
  obtain⟨x,y,rfl,hg1⟩:=rE hg
  obtain⟨v,w,rfl,r1,r2⟩:=rD r
  clear hg r
  cases r1 <;> cases r2 <;> simp only[d8] at hg1 <;> cases hg1
  exact⟨_,_,rfl,hQ _ fun H'=>.int _⟩
theorem rN{p:Pos}{as:FEs}(hc:X.calm=true)(ml:X.mg "min" = none)(ha:VA X [a,b] as es)(hg:Gl X "min":=by rfl)(he:starEach [a,b] X.env=(false,eval a X.env)::starEach [b] X.env:=by rfl)(hpl:(backTo pos (starEach [b] X.env)).any (·.1)=false:=by rfl):
    VE X (.Call (.Name "min" p) [a,b] [] pos) (eA (d7 d8) as) []:=ie (pc hc) rM ml PyProof.Rows.boot_min ha hg (by decide) (by decide) he hpl
def tyD:D->String
  | .non=>"NoneType" | .bl _=>"bool" | .int _=>"int" | .str _=>"str" | .lst _=>"list" | .tup _=>"tuple" | .scr _=>"list" | .dct _ _=>"dict" | .ptr _=>"list"
def cJ(T:String)(t:String):Bool:=t == T || (T == "int" && t == "bool")
end
end VL
namespace VL
open PySem PySem.Spec PyProof.Rows L2
inductive Out where
  | nx (ρ:ab)
  | rt (d:D)
  | bk (ρ:ab)
  | ct (ρ:ab)
abbrev FS:=ab->Option Out
def rO(σ:St)(O:List Nat):Addr->Prop:=fun a=>∃ i ∈ O,σ[i]?=some (some (V.ref a))
structure Fr0 where
  H0:Hp
  PA:(Addr->Prop)->Prop
  n:Nat
  dom:∀ A,PA A->Dom H0 A
  none:PA cC
structure Hd where
  P:Hp->Prop
  up:∀ H H',Same H H'->P H->P H'
def HdOk(K:PySem.W.Frag)(H:Hp)(p:Hd):Prop:=p.P H
theorem HdOk.mono{K:PySem.W.Frag}{H H':Hp}{p:Hd}(e:Same H H')(h:HdOk K H p):HdOk K H' p:=p.up H H' e h
def hdL(K:PySem.W.Frag)(q:Addr)(xs:List V)(ds:List D):Hd:=⟨fun H=>SqL K H q xs/\Reps K H xs ds,fun _ _ e h=>⟨e.seq h.1,aC e h.2⟩⟩
def OwnC(K:PySem.W.Frag)(H:Hp)(o:HO)(d:D):Prop:=(∃ xs ds,o=.lst xs/\d=.lst ds/\Reps K H xs ds)\/∃ kvs,o=.dK (fU kvs)/\d=.dct false kvs
theorem OwnC.mono{K:PySem.W.Frag}{H H':Hp}{o:HO}{d:D}(e:Same H H')(h:OwnC K H o d):OwnC K H' o d:=by
  rcases h with⟨xs,ds,h1,h2,h3⟩ | h
  · exact .inl ⟨xs,ds,h1,h2,aC e h3⟩
  · exact .inr h
theorem OwnC.rep{K:PySem.W.Frag}{H H':Hp}{a:Addr}{o:HO}{d:D}(ha:H a=some o)(h:OwnC K H' o d)(e:Same H' H):Rep K H (.ref a) d:=by
  rcases h with⟨xs,ds,rfl,rfl,h3⟩ | ⟨kvs,rfl,rfl⟩
  · exact .lst (.inl ha) (aC e h3)
  · exact .dct (.inr ⟨rfl,ha⟩)
theorem OwnC.el{K:PySem.W.Frag}{H:Hp}{A:Addr->Prop}{a:Addr}{o:HO}{d:D}(ha:H a=some o)(h:OwnC K (ae H A) o d):ElR K H A (.ref a) d:=by
  rcases h with⟨xs,ds,rfl,rfl,h3⟩ | ⟨kvs,rfl,rfl⟩
  · exact .inr ⟨a,xs,ds,rfl,.inl ⟨rfl,.inl ha⟩,h3⟩
  · exact .inl (.inr ⟨_,rfl⟩)
def Off(σ:St)(O:List Nat)(A:Addr->Prop):Addr->Prop:=fun b=>rO σ O b\/A b
structure EnvO (K:PySem.W.Frag) (F:Fr0) (held:List Hd) (O:List Nat) (σ:St) (ρ:ab) (H:Hp):Prop where
  same:Same F.H0 H
  lσ:σ.length=F.n
  lρ:ρ.length=F.n
  val:∀ i d,ρ[i]?=some (some d)->i ∉ O->∃ v,σ[i]?=some (some v)/\∀ A,F.PA A->Rep K (ae H (Off σ O A)) v d
  hld:∀ p ∈ held,∀ A,F.PA A->HdOk K (ae H (Off σ O A)) p
  own:∀ i ∈ O,∃ a o d,σ[i]?=some (some (V.ref a))/\ρ[i]?=some (some d)/\H a=some o/\F.H0 a=Option.none/\∀ A,F.PA A->OwnC K (ae H (Off σ O A)) o d
  inj:∀ i ∈ O,∀ j ∈ O,∀ a,σ[i]?=some (some (V.ref a))->σ[j]?=some (some (V.ref a))->i=j
section
variable {K:PySem.W.Frag} {F:Fr0} {held:List Hd} {O O':List Nat} {σ:St} {ρ:ab} {H H':Hp}
theorem EnvO.envR(h:EnvO K F held O σ ρ H):EnvR K H σ ρ:=fun i d e=>by
  by_cases hi:i ∈ O
  · obtain⟨a,xs,ds,h1,h2,h3,_,h5⟩:=h.own i hi
    rw[h2] at e;cases e
    exact⟨_,h1,(h5 _ F.none).rep h3 (aJ _ _)⟩
  · obtain⟨v,h1,h2⟩:=h.val i d e hi
    exact⟨v,h1,ao (aJ _ _) (h2 _ F.none)⟩
theorem ii(hs:∀ i ∈ O',i ∈ O){A:Addr->Prop}:∀ b,Off σ O' A b->Off σ O A b:=fun b h=>by
  rcases h with⟨i,hi,e⟩ | h
  · exact .inl ⟨i,hs i hi,e⟩
  · exact .inr h
theorem EnvO.weaken(h:EnvO K F held O σ ρ H)(hs:∀ i ∈ O',i ∈ O):EnvO K F held O' σ ρ H:=by
  have up:∀ {A:Addr->Prop},Same (ae H (Off σ O A)) (ae H (Off σ O' A)):=bD (fun _ _ q=>q) (ii hs)
  refine⟨h.same,h.lσ,h.lρ,fun i d e hi=>?_,fun p hp A hA=>(h.hld p hp A hA).mono up,fun i hi=>?_,fun i hi j hj=>h.inj i (hs i hi) j (hs j hj)⟩
  · by_cases hi':i ∈ O
    · obtain⟨a,xs,ds,h1,h2,h3,h4,h5⟩:=h.own i hi'
      rw[h2] at e;cases e
      refine⟨_,h1,fun A hA=>(h5 A hA).rep ?_ up⟩
      rw[aH]
      · exact h3
      · rintro (⟨j,hj,ej⟩ | q)
        · exact hi (h.inj i hi' j (hs j hj) a h1 ej ▸ hj)
        · exact F.dom A hA a q h4
    · obtain⟨v,h1,h2⟩:=h.val i d e hi'
      exact⟨v,h1,fun A hA=>ao up (h2 A hA)⟩
  · obtain⟨a,xs,ds,h1,h2,h3,h4,h5⟩:=h.own i (hs i hi)
    exact⟨a,xs,ds,h1,h2,h3,h4,fun A hA=>(h5 A hA).mono up⟩
theorem EnvO.up(h:EnvO K F held O σ ρ H)(e:Same H H'):EnvO K F held O σ ρ H' :=
  ⟨h.same.trans e,h.lσ,h.lρ,fun i d q hi=>let ⟨v,h1,h2⟩:=h.val i d q hi;⟨v,h1,fun A hA=>ao (aM e) (h2 A hA)⟩,fun p hp A hA=>(h.hld p hp A hA).mono (aM e),
    fun i hi=>let ⟨a,xs,ds,h1,h2,h3,h4,h5⟩:=h.own i hi;⟨a,xs,ds,h1,h2,e _ _ h3,h4,fun A hA=>(h5 A hA).mono (aM e)⟩,h.inj⟩
theorem EnvO.dom(h:EnvO K F held O σ ρ H){A:Addr->Prop}(hA:F.PA A):Dom H (Off σ O A):=fun b q=>by
  rcases q with⟨i,hi,e⟩ | q
  · obtain⟨a,xs,ds,h1,h2,h3,_⟩:=h.own i hi
    rw[e] at h1;cases h1
    rw[h3];exact fun z=>nomatch z
  · exact ((F.dom A hA).mono h.same) b q
def cK(O:List Nat):Es->Bool
  | .full j=>!O.contains j
  | .el _=>true
theorem EnvO.av(h:EnvO K F held O σ ρ H){A:Addr->Prop}(hA:F.PA A){e:Es}(he:cK O e=true):Av K H σ ρ (Off σ O A) e:=by
  have out:∀ (j:Nat) (v:V) (d:D),j ∉ O->σ[j]?=some (some v)->ρ[j]?=some (some d)->Rep K (ae H (Off σ O A)) v d:=fun j v d hj h1 h2=>by
    obtain⟨v',h3,h4⟩:=h.val j d h2 hj
    rw[h1] at h3;cases h3
    exact h4 A hA
  cases e with
  | full j=>exact fun v d=>out j v d (by simpa [cK] using he)
  | el j =>
    intro v d h1 h2
    by_cases hj:j ∈ O
    · obtain⟨a,xs,ds,h3,h4,h5,_,h6⟩:=h.own j hj
      rw[h1] at h3;cases h3
      rw[h2] at h4;cases h4
      exact (h6 A hA).el h5
    · exact (out j v d hj h1 h2).el
def aT(O:List Nat)(es:List Es):List Nat:=O.filter fun i=>es.all (cK [i])
theorem eV{es:List Es}:∀ i ∈ aT O es,i ∈ O:=fun i h=>(List.mem_filter.mp h).1
theorem g9{es:List Es}{e:Es}(he:e ∈ es):cK (aT O es) e=true:=by
  cases e with
  | el j=>rfl
  | full j =>
    show (!(aT O es).contains j)=true
    rw[Bool.not_eq_true',Bool.eq_false_iff]
    intro q
    have q':=List.contains_iff_mem.mp q
    have:=List.all_eq_true.mp (List.mem_filter.mp q').2 _ he
    simp[cK] at this
theorem EnvO.eval(h:EnvO K F held O σ ρ H){es:List Es}{d:D}{v:V}(p:Post K σ ρ H es d v H'):EnvO K F held (aT O es) σ ρ H'/\∀ A,F.PA A->Rep K (ae H' (Off σ (aT O es) A)) v d:=by
  have h1:=h.weaken (O':=aT O es) eV
  exact⟨h1.up p.same,fun A hA=>p.av _ (h1.dom hA) fun e he=>h1.av hA (g9 he)⟩
theorem rP{i:Nat}{v:Option V}{A:Addr->Prop}(hi:i ∉ O)(b:Addr):Off (σ.set i v) O A b ↔ Off σ O A b:=by
  have:∀ j ∈ O,(σ.set i v)[j]?=σ[j]?:=fun j hj=>List.getElem?_set_ne (fun (e:i=j)=>hi (e ▸ hj))
  constructor
  · rintro (⟨j,hj,e⟩ | q)
    · exact .inl ⟨j,hj,by rw[this j hj] at e;exact e⟩
    · exact .inr q
  · rintro (⟨j,hj,e⟩ | q)
    · exact .inl ⟨j,hj,by rw[this j hj];exact e⟩
    · exact .inr q
theorem EnvO.set(h:EnvO K F held O σ ρ H){i:Nat}{v:V}{d:D}(hi:i ∉ O)(hv:∀ A,F.PA A->Rep K (ae H (Off σ O A)) v d):EnvO K F held O (σ.set i (some v)) (ρ.set i (some d)) H:=by
  have ne:∀ {j:Nat},j ∈ O->i ≠ j:=fun hj e=>hi (e ▸ hj)
  have up:∀ {A:Addr->Prop},Same (ae H (Off σ O A)) (ae H (Off (σ.set i (some v)) O A)):=bD (fun _ _ q=>q) fun b q=>(rP hi b).mp q
  refine⟨h.same,by rw[List.length_set];exact h.lσ,by rw[List.length_set];exact h.lρ,fun j e q hj=>?_,fun p hp A hA=>(h.hld p hp A hA).mono up,fun j hj=>?_,fun j hj k hk a e1 e2=>?_⟩
  · by_cases e1:j=i
    · subst e1
      have hl:j < ρ.length:=by
        have:=(List.getElem?_eq_some_iff.mp q).1
        rwa [List.length_set] at this
      rw[List.getElem?_set_self hl] at q
      cases q
      exact⟨v,List.getElem?_set_self (by rw[h.lσ,<- h.lρ];exact hl),fun A hA=>ao up (hv A hA)⟩
    · rw[List.getElem?_set_ne (Ne.symm e1)] at q
      obtain⟨v',h1,h2⟩:=h.val j e q hj
      exact⟨v',by rw[List.getElem?_set_ne (Ne.symm e1)];exact h1,fun A hA=>ao up (h2 A hA)⟩
  · obtain⟨a,xs,ds,h1,h2,h3,h4,h5⟩:=h.own j hj
    exact⟨a,xs,ds,by rw[List.getElem?_set_ne (ne hj)];exact h1,by rw[List.getElem?_set_ne (ne hj)];exact h2,h3,h4,fun A hA=>(h5 A hA).mono up⟩
  · rw[List.getElem?_set_ne (ne hj)] at e1
    rw[List.getElem?_set_ne (ne hk)] at e2
    exact h.inj j hj k hk a e1 e2
theorem EnvO.setF(h:EnvO K F held O σ ρ H){es:List Es}{i:Nat}{v:V}{d:D}(p:PostF K σ ρ H es d v H')(hn:i < F.n)(hi:i ∉ O)(he:∀ e ∈ es,cK O e=true):EnvO K F held (i::O) (σ.set i (some v)) (ρ.set i (some d)) H':=by
  obtain⟨l,xs,ds,rfl,rfl,hl,hl',hr⟩:=p.new
  have ne:∀ {j:Nat},j ∈ O->i ≠ j:=fun hj e=>hi (e ▸ hj)
  have at_i:(σ.set i (some (V.ref l)))[i]?=some (some (V.ref l)):=List.getElem?_set_self (by rw[h.lσ];exact hn)
  have off:∀ {A:Addr->Prop} (b:Addr),Off (σ.set i (some (V.ref l))) (i::O) A b ↔ (Off σ O A b\/b=l):=fun {A} b=>by
    constructor
    · rintro (⟨j,hj,e⟩ | q)
      · rcases List.mem_cons.mp hj with e1 | hj
        · subst e1;rw[at_i] at e;cases e;exact .inr rfl
        · rw[List.getElem?_set_ne (ne hj)] at e;exact .inl (.inl ⟨j,hj,e⟩)
      · exact .inl (.inr q)
    · rintro ((⟨j,hj,e⟩ | q) | rfl)
      · exact .inl ⟨j,List.mem_cons_of_mem _ hj,by rw[List.getElem?_set_ne (ne hj)];exact e⟩
      · exact .inr q
      · exact .inl ⟨i,List.mem_cons_self,at_i⟩
  have up:∀ {A:Addr->Prop},Same (ae H (Off σ O A)) (ae H' (Off (σ.set i (some (V.ref l))) (i::O) A)):=fun {A} b o q=>by
    obtain⟨n,q⟩:=bL q
    rw[aH fun z=>((off b).mp z).elim n (b8 q hl)]
    exact p.same b o q
  refine⟨h.same.trans p.same,by rw[List.length_set];exact h.lσ,by rw[List.length_set];exact h.lρ,fun j e q hj=>?_,fun z hz A hA=>(h.hld z hz A hA).mono up,fun j hj=>?_,fun j hj k hk a e1 e2=>?_⟩
  · have e1:j ≠ i:=fun e=>hj (e ▸ List.mem_cons_self)
    rw[List.getElem?_set_ne (Ne.symm e1)] at q
    obtain⟨v',h1,h2⟩:=h.val j e q fun z=>hj (List.mem_cons_of_mem _ z)
    exact⟨v',by rw[List.getElem?_set_ne (Ne.symm e1)];exact h1,fun A hA=>ao up (h2 A hA)⟩
  · by_cases e1:j=i
    · subst e1
      refine⟨l,_,_,at_i,List.getElem?_set_self (by rw[h.lρ];exact hn),hl',h.same.free hl,fun A hA=>.inl ⟨xs,ds,rfl,rfl,?_⟩⟩
      exact aC (bD (fun _ _ q=>q) fun b q=>(off b).mp q) (hr _ (h.dom hA) fun e q=>h.av hA (he e q))
    · have hj:j ∈ O:=(List.mem_cons.mp hj).resolve_left e1
      obtain⟨a,ys,es',h1,h2,h3,h4,h5⟩:=h.own j hj
      exact⟨a,ys,es',by rw[List.getElem?_set_ne (Ne.symm e1)];exact h1,by rw[List.getElem?_set_ne (Ne.symm e1)];exact h2,p.same _ _ h3,h4,fun A hA=>(h5 A hA).mono up⟩
  · have key:∀ {m:Nat} {b:Addr},m ∈ O->(σ.set i (some (V.ref l)))[m]?=some (some (V.ref b))->b ≠ l:=fun {m b} hm e z=>by
      subst z
      rw[List.getElem?_set_ne (ne hm)] at e
      obtain⟨a',_,_,h1,_,h3,_⟩:=h.own m hm
      rw[e] at h1;cases h1
      rw[hl] at h3;cases h3
    rcases List.mem_cons.mp hj with e3 | hj' <;> rcases List.mem_cons.mp hk with e4 | hk'
    · rw[e3,e4]
    · rw[e3,at_i] at e1;cases e1;exact absurd rfl (key hk' e2)
    · rw[e4,at_i] at e2;cases e2;exact absurd rfl (key hj' e1)
    · rw[List.getElem?_set_ne (ne hj')] at e1
      rw[List.getElem?_set_ne (ne hk')] at e2
      exact h.inj j hj' k hk' a e1 e2
theorem EnvO.putC(h:EnvO K F held O σ ρ H){i:Nat}{a:Addr}{o':HO}{d':D}(hi:i ∈ O)(ha:σ[i]?=some (some (V.ref a)))(hr:∀ A,F.PA A->OwnC K (ae H (Off σ O A)) o' d'):
    EnvO K F held O σ (ρ.set i (some d')) (upd H a o'):=by
  obtain⟨a',xs,ds,h1,h2,h3,h4,h5⟩:=h.own i hi
  rw[ha] at h1;cases h1
  have up:∀ {A:Addr->Prop},Same (ae H (Off σ O A)) (ae (upd H a o') (Off σ O A)):=fun {A} b o q=>by
    obtain⟨n,q⟩:=bL q
    have ne:b ≠ a:=fun e=>n (.inl ⟨i,hi,e ▸ ha⟩)
    rw[aH n,ai ne]
    exact q
  have hl:i < ρ.length:=(List.getElem?_eq_some_iff.mp h2).1
  refine⟨fun b o q=>?_,h.lσ,by rw[List.length_set];exact h.lρ,fun j e q hj=>?_,fun p hp A hA=>(h.hld p hp A hA).mono up,fun j hj=>?_,h.inj⟩
  · rw[ai (b8 q h4)]
    exact h.same b o q
  · have e1:j ≠ i:=fun e=>hj (e ▸ hi)
    rw[List.getElem?_set_ne (Ne.symm e1)] at q
    obtain⟨v',k1,k2⟩:=h.val j e q hj
    exact⟨v',k1,fun A hA=>ao up (k2 A hA)⟩
  · by_cases e1:j=i
    · subst e1
      exact⟨a,_,_,ha,List.getElem?_set_self hl,aK,h4,fun A hA=>(hr A hA).mono up⟩
    · obtain⟨b,zs,es',k1,k2,k3,k4,k5⟩:=h.own j hj
      have ne:b ≠ a:=fun e=>e1 (h.inj j hj i hi a (e ▸ k1) ha)
      exact⟨b,zs,es',k1,by rw[List.getElem?_set_ne (Ne.symm e1)];exact k2,by rw[ai ne];exact k3,k4,fun A hA=>(k5 A hA).mono up⟩
theorem EnvO.put(h:EnvO K F held O σ ρ H){i:Nat}{a:Addr}{ys:List V}{es:List D}(hi:i ∈ O)(ha:σ[i]?=some (some (V.ref a)))(hr:∀ A,F.PA A->Reps K (ae H (Off σ O A)) ys es):
    EnvO K F held O σ (ρ.set i (some (.lst es))) (upd H a (.lst ys)):=h.putC hi ha fun A hA=>.inl ⟨ys,es,rfl,rfl,hr A hA⟩
theorem EnvO.ownL(h:EnvO K F held O σ ρ H){i:Nat}(hi:i ∈ O){ds0:List D}(hd:ρ[i]?=some (some (.lst ds0))):∃ a xs ds,σ[i]?=some (some (V.ref a))/\ρ[i]?=some (some (.lst ds))/\H a=some (.lst xs)/\F.H0 a=Option.none/\∀ A,F.PA A->Reps K (ae H (Off σ O A)) xs ds:=by
  obtain⟨a,o,d,h1,h2,h3,h4,h5⟩:=h.own i hi
  rw[hd] at h2;cases h2
  rcases h5 _ F.none with⟨xs,ds,rfl,e,_⟩ | ⟨kvs,_,e⟩
  · cases e
    refine⟨a,xs,ds0,h1,hd,h3,h4,fun A hA=>?_⟩
    rcases h5 A hA with⟨xs',ds',e1,e2,h6⟩ | ⟨kvs,e1,_⟩
    · cases e1;cases e2;exact h6
    · cases e1
  · cases e
theorem EnvO.hold{p:Hd}(h:EnvO K F held O σ ρ H)(hv:∀ A,F.PA A->HdOk K (ae H (Off σ O A)) p):EnvO K F (p::held) O σ ρ H :=
  ⟨h.same,h.lσ,h.lρ,h.val,fun q hq=>(List.mem_cons.mp hq).elim (fun e=>e ▸ hv) (h.hld q),h.own,h.inj⟩
theorem EnvO.unhold{p:Hd}(h:EnvO K F (p::held) O σ ρ H):EnvO K F held O σ ρ H:=⟨h.same,h.lσ,h.lρ,h.val,fun q hq=>h.hld q (List.mem_cons_of_mem _ hq),h.own,h.inj⟩
end
structure Ret (K:PySem.W.Frag) (F:Fr0) (fr:Bool) (d:D) (v:V) (H':Hp):Prop where
  same:Same F.H0 H'
  rep:∀ A,F.PA A->Rep K (ae H' A) v d
  new:fr=true->∃ l xs ds,v=V.ref l/\d=.lst ds/\F.H0 l=none/\H' l=some (.lst xs)/\∀ A,F.PA A->Reps K (ae H' fun b=>A b\/b=l) xs ds
def tsP(K:PySem.W.Frag)(F:Fr0)(held:List Hd)(O' OL:List Nat)(fr:Bool)(De:Ends):Out->Prop
  | .nx ρ'=>∀ σ' H',EnvO K F held O' σ' ρ' H'->De.nx σ' H'
  | .bk ρ'=>∀ σ' H',EnvO K F held OL σ' ρ' H'->De.bk σ' H'
  | .ct ρ'=>∀ σ' H',EnvO K F held OL σ' ρ' H'->De.ct σ' H'
  | .rt d=>∀ v H',Ret K F fr d v H'->De.rt v H'
def ts(K:PySem.W.Frag)(F:Fr0)(held:List Hd)(O O' OL:List Nat)(fr:Bool)(f:FS):TS:=fun De σ H=>∃ ρ o,EnvO K F held O σ ρ H/\f ρ=some o/\tsP K F held O' OL fr De o
abbrev VS(X:Cx)(F:Fr0)(O:List Nat)(st:Stmt)(f:FS)(O' OL:List Nat)(fr:Bool):Prop:=∀ held,PS X st (ts X.K F held O O' OL fr f)
abbrev VSs(X:Cx)(F:Fr0)(O:List Nat)(st:List Stmt)(f:FS)(O' OL:List Nat)(fr:Bool):Prop:=∀ held,PSs X st (ts X.K F held O O' OL fr f)
theorem b4{X:Cx}{e:Stmt}{t t':TS}(h:PS X e t)(i:∀ De σ H,t' De σ H->t De σ H):PS X e t':=fun pins s σ H De I q=>h pins s σ H De I (i De σ H q)
theorem cL{X:Cx}{e:List Stmt}{t t':TS}(h:PSs X e t)(i:∀ De σ H,t' De σ H->t De σ H):PSs X e t':=fun pins s σ H De I q=>h pins s σ H De I (i De σ H q)
section
variable {X:Cx} {F:Fr0} {O O1 O2 O' OL:List Nat} {fr:Bool} {f g:FS} {st:Stmt} {ak:List Stmt} {pos:Pos} {e:Expr} {fe:FE} {es:List Es}
def d9:FS:=fun ρ=>some (.nx ρ)
def aE(f g:FS):FS:=fun ρ=>(f ρ).bind fun o=>match o with
  | .nx ρ'=>g ρ'
  | .rt d=>some (.rt d)
  | .bk ρ'=>some (.bk ρ')
  | .ct ρ'=>some (.ct ρ')
theorem rQ:VSs X F O [] d9 O OL fr:=fun held=>cL jH fun De σ H ⟨ρ,o,hE,hf,hQ⟩=>by cases hf;exact hQ σ H hE
theorem rR(h1:VS X F O st f O1 OL fr)(h2:VSs X F O1 ak g O2 OL fr):VSs X F O (st::ak) (aE f g) O2 OL fr:=fun held=>cL (jI (h1 held) (h2 held)) fun De σ H ⟨ρ,o,hE,hf,hQ⟩=>by
  obtain⟨o1,h1,hf⟩:=bind_some hf
  refine⟨ρ,o1,hE,h1,?_⟩
  cases o1 with
  | nx ρ'=>exact fun σ' H' hE'=>⟨ρ',o,hE',hf,hQ⟩
  | rt d=>cases hf;exact hQ
  | bk ρ'=>cases hf;exact hQ
  | ct ρ'=>cases hf;exact hQ
theorem rS(h1:VS X F O st f O1 OL fr):VSs X F O [st] f O1 OL fr:=fun held=>cL (jJ (h1 held)) fun De σ H h=>h
theorem ga(h:VSs X F O ak f O1 OL fr)(hs:∀ i ∈ O',i ∈ O1):VSs X F O ak f O' OL fr:=fun held=>cL (h held) fun De σ H ⟨ρ,o,hE,hf,hQ⟩=>⟨ρ,o,hE,hf,by
  cases o with
  | nx ρ'=>exact fun σ' H' hE'=>hQ σ' H' (hE'.weaken hs)
  | rt d=>exact hQ
  | bk ρ'=>exact hQ
  | ct ρ'=>exact hQ⟩
def sIf(t:ab->Option Bool)(f g:FS):FS:=fun ρ=>(t ρ).bind fun b=>if b=true then f ρ else g ρ
theorem rT{c:Expr}{tc:ab->Option Bool}{a b:List Stmt}(hc:VT X c tc)(ha:VSs X F O a f O1 OL fr)(hb:VSs X F O b g O2 OL fr)(h1:∀ i ∈ O',i ∈ O1:=by decide)(h2:∀ i ∈ O',i ∈ O2:=by decide):VS X F O (.If c a b pos) (sIf tc f g) O' OL fr:=fun held =>
  b4 (jK hc (ga ha h1 held) (ga hb h2 held)) fun De σ H ⟨ρ,o,hE,hf,hQ⟩=>by
    obtain⟨k,h1,hf⟩:=bind_some hf
    refine⟨ρ,k,hE.envR,h1,fun H1 e1=>?_⟩
    cases k with
    | true=>exact fQ ⟨ρ,o,hE.up e1,hf,hQ⟩
    | false=>exact fP ⟨ρ,o,hE.up e1,hf,hQ⟩
def aU(f:FE):FS:=fun ρ=>(f ρ).map .rt
theorem ij{f:FE}{ρ:ab}{o:Out}(h:aU f ρ=some o):∃ d,f ρ=some d/\o=.rt d:=by
  unfold aU at h
  cases e:f ρ with
  | none=>rw[e] at h;cases h
  | some d=>rw[e] at h;cases h;exact⟨d,rfl,rfl⟩
theorem ik{σ:St}{A:Addr->Prop}{H:Hp}:Same (ae H (Off σ O A)) (ae H A):=bD (fun _ _ q=>q) fun _ q=>.inr q
theorem rV(he:VE X e fe es):VS X F O (.Return (some e) pos) (aU fe) O' OL false:=fun held=>b4 (fL he) fun De σ H ⟨ρ,o,hE,hf,hQ⟩=>by
  obtain⟨d,h1,rfl⟩:=ij hf
  refine⟨ρ,d,hE.envR,h1,fun v H' p=>hQ v H' ?_⟩
  obtain⟨hE',hr⟩:=hE.eval p
  exact⟨hE'.same,fun A hA=>ao ik (hr A hA),fun z=>nomatch z⟩
theorem rW(he:VF X e fe es):VS X F O (.Return (some e) pos) (aU fe) O' OL fr:=fun held=>b4 (fL he) fun De σ H ⟨ρ,o,hE,hf,hQ⟩=>by
  obtain⟨d,h1,rfl⟩:=ij hf
  refine⟨ρ,d,hE.envR,h1,fun v H' p=>hQ v H' ?_⟩
  obtain⟨hE',hr⟩:=hE.eval (p.post hE.envR)
  refine⟨hE'.same,fun A hA=>ao ik (hr A hA),fun _=>?_⟩
  obtain⟨l,xs,ds,e1,e2,hl,hl',hA⟩:=p.new
  have h1:=hE.weaken (O':=aT O es) eV
  exact⟨l,xs,ds,e1,e2,hE.same.free hl,hl',fun A hPA=>aC (bD (fun _ _ q=>q) fun b q=>q.elim (fun z=>.inl (.inr z)) .inr) (hA _ (h1.dom hPA) fun e he=>h1.av hPA (g9 he))⟩
def eL(f:FE):FE:=fun ρ=>(f ρ).bind fun d=>match d with
  | .lst ds=>some (.lst ds)
  | _=>none
theorem rX{f:FE}{ρ:ab}{d:D}(h:eL f ρ=some d):∃ ds,d=.lst ds/\f ρ=some (.lst ds):=by
  obtain⟨x,h1,h2⟩:=bind_some h
  cases x with
  | lst ds=>cases h2;exact⟨ds,rfl,h1⟩
  | _=>cases h2
theorem rY(i:Nat){x:Str}{p2:Pos}(hi:i ∈ O:=by decide)(hN:X.N[i]?=some x:=by rfl)(hv:Vis X.env.scope x:=by first | exact Or.inl rfl | exact Or.inr (Or.inl rfl) | exact Or.inr (Or.inr rfl))(hd:(x == ("__debug__" : Str))=false:=by decide)(hcd:(x == ("__classdict__" : Str))=false:=by decide):VS X F O (.Return (some (.Name x p2)) pos) (aU (eL (aa i))) O' OL fr:=fun held=>b4 (fL (eD hN hv hd hcd)) fun De σ H ⟨ρ,o,hE,hf,hQ⟩=>by
  obtain⟨d,h1,rfl⟩:=ij hf
  obtain⟨ds0,e0,h10⟩:=rX h1
  subst e0
  have h2:=eK h10
  obtain⟨a,xs,ds,k1,k2,k3,k4,k5⟩:=hE.ownL hi h2
  rw[k2] at h2;cases h2
  refine⟨_,k1,hQ _ H ⟨hE.same,fun A hA=>?_,fun _=>⟨a,xs,_,rfl,rfl,k4,k3,fun A hA=>?_⟩⟩⟩
  · refine .lst (.inl ?_) (aC ik (k5 A hA))
    rw[aH fun q=>F.dom A hA a q k4]
    exact k3
  · exact aC (bD (fun _ _ q=>q) fun b q=>q.elim .inr fun z=>.inl ⟨i,hi,z ▸ k1⟩) (k5 A hA)
def aG(i:Nat)(f:FE):FS:=fun ρ=>(f ρ).map fun d=>.nx (ρ.set i (some d))
theorem il{i:Nat}{f:FE}{ρ:ab}{o:Out}(h:aG i f ρ=some o):∃ d,f ρ=some d/\o=.nx (ρ.set i (some d)):=by
  unfold aG at h
  cases e:f ρ with
  | none=>rw[e] at h;cases h
  | some d=>rw[e] at h;cases h;exact⟨d,rfl,rfl⟩
def cM(O:List Nat)(i:Nat):List Nat:=O.filter fun j=>j != i
theorem dM{i:Nat}:∀ j ∈ cM O i,j ∈ O:=fun j h=>(List.mem_filter.mp h).1
theorem im{i:Nat}:i ∉ cM O i:=fun h=>by simpa using (List.mem_filter.mp h).2
theorem rZ(i:Nat){x:Str}{p2:Pos}(hN:X.N.Nodup)(he:VE X e fe es)(hi:X.N[i]?=some x:=by rfl)(hx:Loc X.env.scope x:=by first | exact Or.inl rfl | exact Or.inr rfl)(hs:swapsWith e (some (.Name x p2)) pos.line X.env=pure false:=by rfl)(hfn:X.fn x=true\/X.env.scope.names.lookup x=some .local:=by first | exact .inl rfl | exact .inr rfl):VS X F O (.Assign [.Name x p2] e pos) (aG i fe) (cM (aT O es) i) OL fr:=fun held =>
  b4 (gS hN hi hx he hs hfn) fun De σ H ⟨ρ,o,hE,hf,hQ⟩=>by
    obtain⟨d,h1,rfl⟩:=il hf
    refine⟨ρ,d,hE.envR,h1,fun v H' p=>hQ _ _ ?_⟩
    obtain⟨hE',hr⟩:=hE.eval p
    exact (hE'.weaken dM).set im fun A hA=>ao (bD (fun _ _ q=>q) (ii dM)) (hr A hA)
theorem sd(i:Nat){x:Str}{p2:Pos}(hN:X.N.Nodup)(he:VF X e fe es)(hn:i < F.n)(hi:X.N[i]?=some x:=by rfl)(hx:Loc X.env.scope x:=by first | exact Or.inl rfl | exact Or.inr rfl)(hs:swapsWith e (some (.Name x p2)) pos.line X.env=pure false:=by rfl)(hfn:X.fn x=true\/X.env.scope.names.lookup x=some .local:=by first | exact .inl rfl | exact .inr rfl):VS X F O (.Assign [.Name x p2] e pos) (aG i fe) (i::cM (aT O es) i) OL fr:=fun held =>
  b4 (gS hN hi hx he hs hfn) fun De σ H ⟨ρ,o,hE,hf,hQ⟩=>by
    obtain⟨d,h1,rfl⟩:=il hf
    refine⟨ρ,d,hE.envR,h1,fun v H' p=>hQ _ _ ?_⟩
    refine (hE.weaken fun j hj=>eV j (dM j hj)).setF p hn im fun z hz=>?_
    have:=g9 (O:=O) hz
    cases z with
    | el j=>rfl
    | full j =>
      simp only[cK,Bool.not_eq_true',List.contains_eq_mem,decide_eq_false_iff_not] at this ⊢
      exact fun q=>this (dM j q)
end
end VL
namespace VL
open PySem PySem.Spec PyProof.Rows L2
section
variable {X:Cx} {F:Fr0} {O O1 O2 O' OL:List Nat} {fr:Bool} {f g:FS} {st:Stmt} {ak:List Stmt} {pos p2 p3:Pos} {e a b:Expr} {fe fa fb:FE} {es ea eb:List Es}
def dN(i:Nat)(f:FE):FS:=fun ρ=>(aa i ρ).bind fun x=>match x with
  | .lst ds=>(f ρ).bind fun d=>if ds.length < 100000 then some (.nx (ρ.set i (some (.lst (ds++[d]))))) else none
  | _=>none
theorem se(i:Nat){x:Str}{ap cp:Pos}(he:VE X e fe es)(hi:i ∈ aT O es:=by decide)(hN:X.N[i]?=some x:=by rfl)(hv:Vis X.env.scope x:=by first | exact Or.inl rfl | exact Or.inr (Or.inl rfl) | exact Or.inr (Or.inr rfl))(hd:(x == ("__debug__" : Str))=false:=by decide)(hcd:(x == ("__classdict__" : Str))=false:=by decide)(hbase:attributeBase (.Name x p2) "append" X.env (eval (.Name x p2) X.env)=eval (.Name x p2) X.env:=by rfl)(hfew:((backTo cp (starEach [e] X.env)).all (fun x=>!x.1) && (backToKw cp (keywordEach [] X.env)).all (fun x=>x.1.isSome)
      && decide (([e]:List Expr).length+([]:List Keyword).length+(if ([]:List Keyword).isEmpty then 0 else 1) < 30))=true:=by rfl)(hline:(ap.endLine == cp.line)=true:=by rfl)(hs:starEach [e] X.env=(false,eval e X.env)::starEach [] X.env:=by rfl)(hplain:(backTo cp (starEach [] X.env)).any (·.1)=false:=by rfl)(hsw:swapsWith (.Call (.Attribute (.Name x p2) "append" ap) [e] [] cp) none pos.line X.env=pure false:=by rfl):
    VS X F O (.Expr (.Call (.Attribute (.Name x p2) "append" ap) [e] [] cp) pos) (dN i fe) (aT O es) OL fr:=fun held =>
  b4 (oE (q9 PySem.F.plainAttrs_list PySem.F.slot_list_append PySem.F.type_list_append qb (eD hN hv hd hcd) (bO he cv hs) hbase hfew hline hs hplain) hsw) fun De σ H ⟨ρ,o,hE,hf,hQ⟩=>by
    obtain⟨x,h1,hf⟩:=bind_some hf
    have h1:=eK h1
    obtain⟨ds0,rfl⟩:∃ ds0,x=.lst ds0:=by cases x <;> first | exact⟨_,rfl⟩ | cases hf
    obtain⟨a,xs,ds,k1,k2,k3,k4,k5⟩:=hE.ownL (eV i hi) h1
    rw[k2] at h1;cases h1
    obtain⟨d,h2,hf⟩:=bind_some hf
    obtain⟨hl,rfl⟩:=bq hf
    refine⟨_,k1,.inl ⟨rfl,xs,.inl (.inl k3)⟩,ρ,d,hE.envR,h2,fun v H1 p=>?_⟩
    obtain⟨hE1,hr⟩:=hE.eval p
    obtain⟨a',ys,ds',m1,m2,m3,m4,m5⟩:=hE1.ownL hi k2
    rw[k1] at m1;cases m1
    rw[k2] at m2;cases m2
    have e3:=p.same _ _ k3
    have e4:xs=ys:=by rw[m3] at e3;cases e3;rfl
    subst e4
    have len:=(m5 _ F.none).length
    refine⟨a,xs,v,rfl,rfl,m3,Nat.lt_of_lt_of_le (show xs.length < 100000 by omega) (by decide),hQ σ _ ?_⟩
    exact hE1.put hi k1 fun A hA=>(m5 A hA).append (.cons (hr A hA) .nil)
def eW(i:Nat)(ix f:FE):FS:=fun ρ=>(f ρ).bind fun d=>(aa i ρ).bind fun x=>match x with
  | .lst ds=>(ix ρ).bind fun k=>match k with
    | .int k=>(ixN ds.length k).bind fun j=>some (.nx (ρ.set i (some (.lst (ds.set j d)))))
    | _=>none
  | _=>none
theorem sf(i:Nat){x:Str}(he:VE X e fe es)(hb:VE X b fb eb)(hi:i ∈ aT O es:=by decide)(hN:X.N[i]?=some x:=by rfl)(hv:Vis X.env.scope x:=by first | exact Or.inl rfl | exact Or.inr (Or.inl rfl) | exact Or.inr (Or.inr rfl))(hd:(x == ("__debug__" : Str))=false:=by decide)(hcd:(x == ("__classdict__" : Str))=false:=by decide)(ha:∀ v,assign (.Subscript (.Name x p2) b p3) X.env v=(do
      let ov <- holding [v] (eval (.Name x p2) X.env)
      let iv <- holding [v,ov] (eval b X.env)
      standAt p3
      holding [v,ov,iv] (setItem ov iv v)
      release [v,ov,iv] []):=by intro _;rfl)(hs:swapsWithSole [.Subscript (.Name x p2) b p3] e pos.line X.env=pure false:=by rfl)(hw:swappedStores [.Subscript (.Name x p2) b p3] e X.env=pure none:=by rfl)(h1:(assignEach [.Subscript (.Name x p2) b p3] X.env).map (·.2)=[assign (.Subscript (.Name x p2) b p3) X.env]:=by rfl):
    VS X F O (.Assign [.Subscript (.Name x p2) b p3] e pos) (eW i fb fe) (aT O es) OL fr:=fun held =>
  b4 (jO he (oK (eD hN hv hd hcd) hb pX ha) hs hw h1) fun De σ H ⟨ρ,o,hE,hf,hQ⟩=>by
    obtain⟨d,h2,hf⟩:=bind_some hf
    obtain⟨x,h1,hf⟩:=bind_some hf
    have h1:=eK h1
    refine⟨ρ,d,hE.envR,h2,fun v H1 p=>?_⟩
    obtain⟨hE1,hr⟩:=hE.eval p
    obtain⟨ds0,rfl⟩:∃ ds0,x=.lst ds0:=by cases x <;> first | exact⟨_,rfl⟩ | cases hf
    obtain⟨a,ys,ds,m1,m2,m3,m4,m5⟩:=hE1.ownL hi h1
    rw[m2] at h1;cases h1
    obtain⟨k,h3,hf⟩:=bind_some hf
    refine⟨_,m1,ρ,k,hE1.envR,h3,fun w H2 p2=>?_⟩
    cases k with
    | int k =>
      cases p2.rep
      obtain⟨j,h4,hf⟩:=bind_some hf
      cases hf
      have len:=(m5 _ F.none).length
      have hE2:=hE1.up p2.same
      refine⟨a,ys,k,j,rfl,rfl,p2.same _ _ m3,by rw[len];exact h4,hQ σ _ ?_⟩
      exact hE2.put hi m1 fun A hA=>Reps.set (ao (aM p2.same) (hr A hA)) j (aC (aM p2.same) (m5 A hA))
    | _=>cases hf
inductive Tgs (X:Cx):List Expr->List Nat->Prop where
  | nil:Tgs X [] []
  | cons {i:Nat} {x:Str} {p:Pos} {es:List Expr} {is:List Nat} (hi:X.N[i]?=some x) (hx:Loc X.env.scope x) (hf:X.fn x=true\/X.env.scope.names.lookup x=some .local) (t:Tgs X es is)
      (hs:(assignEach (.Name x p::es) X.env).map (·.2)=assign (.Name x p) X.env::(assignEach es X.env).map (·.2)):Tgs X (.Name x p::es) (i::is)
def dO:List Nat->TGs
  | []=>jM
  | i::is=>jN (bI i) (dO is)
theorem Tgs.ok(hN:X.N.Nodup):∀ {es:List Expr} {is:List Nat},Tgs X es is->PGs X es (dO is)
  | _,_,.nil=>oH
  | _,_,.cons hi hx hf t hs=>oI (bZ hN hi hx hf) (Tgs.ok hN t) hs
theorem kH{K:PySem.W.Frag}{H:Hp}{v:V}{ds:List D}(r:Rep K H v (.tup ds)):∃ p xs,v=V.ref p/\Rd H p (.tup xs)/\Reps K H xs ds:=by
  cases r with
  | @tup p xs _ h1 h2=>exact⟨p,xs,rfl,.inl h1,h2⟩
theorem sg{K:PySem.W.Frag}{H:Hp}{A:Addr->Prop}{p:Addr}{xs:List V}{ds:List D}(h1:Rd H p (.tup xs))(r:Rep K (ae H A) (.ref p) (.tup ds)):Reps K (ae H A) xs ds:=by
  cases r with
  | tup h2 h3=>rw[d4 h1 (bJ (aJ H A) (.inl h2))];exact h3
def aW(body:D->FS):List D->FS
  | [],ρ=>some (.nx ρ)
  | x::r,ρ=>(body x ρ).bind fun o=>match o with
    | .nx ρ'=>aW body r ρ'
    | .ct ρ'=>aW body r ρ'
    | .bk ρ'=>some (.nx ρ')
    | .rt d=>some (.rt d)
theorem io{body:D->FS}{x:D}{r:List D}{ρ:ab}:aW body (x::r) ρ=(body x ρ).bind fun o=>match o with
    | .nx ρ'=>aW body r ρ'
    | .ct ρ'=>aW body r ρ'
    | .bk ρ'=>some (.nx ρ')
    | .rt d=>some (.rt d):=rfl
theorem kI{K:PySem.W.Frag}{held held':List Hd}{De:Ends}{d:D}{ds:List D}{o:Out}{ρ:ab}{body:D->FS}{N:St->Hp->Prop}{o1:Out}{OL':List Nat}(h1:body d ρ=some o1)(hf:aW body (d::ds) ρ=some o)(hQ:tsP K F held OL OL' fr De o)(hh:∀ σ ρ H,EnvO K F held' OL σ ρ H->EnvO K F held OL σ ρ H)(hN:∀ σ' H' ρ',EnvO K F held' OL σ' ρ' H'->aW body ds ρ'=some o->N σ' H'):tsP K F held' OL OL fr { De with nx:=N,ct:=N,bk:=De.nx } o1:=by
  rw[io,h1] at hf
  cases o1 with
  | nx ρ'=>exact fun σ' H' hE'=>hN σ' H' ρ' hE' hf
  | ct ρ'=>exact fun σ' H' hE'=>hN σ' H' ρ' hE' hf
  | bk ρ'=>cases hf;exact fun σ' H' hE'=>hQ σ' H' (hh _ _ _ hE')
  | rt d'=>cases hf;exact hQ
theorem sh{K:PySem.W.Frag}{H:Hp}{v:V}{d:D}{ds:List D}{σ:St}(hr:∀ A,F.PA A->Rep K (ae H (Off σ O A)) v d)(hds:items d=some ds)(ht:br d=false):
    ∃ q xs,v=V.ref q/\∀ A,F.PA A->HdOk K (ae H (Off σ O A)) (hdL K q xs ds):=by
  have h0:=hr _ F.none
  cases h0 with
  | @lst q xs ds' h1 h2 =>
    cases hds
    refine⟨q,xs,rfl,fun A hA=>?_⟩
    cases hr A hA with
    | @lst _ ys _ h3 h4 =>
      have e:=dG (bJ (aJ _ _) h1) (bJ (aJ _ _) h3)
      subst e
      exact⟨.inl h3,h4⟩
  | @scr q ns h1 =>
    cases hds
    refine⟨q,ns.map V.int,rfl,fun A hA=>?_⟩
    cases hr A hA with
    | scr h3=>exact⟨h3,Reps.ints ns⟩
  | tup _ _=>cases ht
  | _=>cases hds
def dP(t:Nat)(it:FE)(tb:FS):FS:=fun ρ=>(it ρ).bind fun d=>if br d=true then none else (items d).bind fun ds=>aW (fun x ρ=>tb (ρ.set t (some x))) ds ρ
theorem sj(t:Nat){x:Str}{iter:Expr}{body:List Stmt}{fi:FE}{ei:List Es}{tb:FS}(Ol:List Nat)(hN:X.N.Nodup)(hc:X.calm=true)(hi:VE X iter fi ei)(hb:VSs X F Ol body tb O2 Ol fr)(h1:∀ i ∈ Ol,i ∈ aT O ei:=by decide)(h2:∀ i ∈ Ol,i ∈ O2:=by decide)(h3:t ∉ Ol:=by decide)(hp:PassesOwn (model X.prog X.w) X.A X.env X.xe:=by exact PassesOwn.never)(hxN:X.N[t]?=some x:=by rfl)(hx:Loc X.env.scope x:=by first | exact Or.inl rfl | exact Or.inr rfl)(hfn:X.fn x=true\/X.env.scope.names.lookup x=some .local:=by first | exact .inl rfl | exact .inr rfl)(hs:∀ x,foldedSetIterable iter X.env x=pure x:=by intro _;rfl):VS X F O (.For (.Name x p2) iter body [] pos) (dP t fi tb) Ol OL fr:=fun held=>by
  have hb':PSs X body (fun De σ H=>∃ p:Hd,ts X.K F (p::held) Ol Ol Ol fr tb De σ H):=fun pins s σ H De I ⟨p,h⟩=>ga hb h2 (p::held) pins s σ H De I h
  refine b4 (dD hp hc (fM hi) (bZ hN hxN hx hfn) hb' hs) fun De σ H h=>?_
  obtain⟨ρ,o,hE,hf,hQ⟩:=h
  obtain⟨d,hd,hf⟩:=bind_some hf
  cases ht:br d with
  | true=>rw[if_pos ht] at hf;cases hf
  | false =>
    rw[if_neg (by rw[ht];exact Bool.false_ne_true)] at hf
    obtain⟨ds,hds,hf⟩:=bind_some hf
    refine⟨ρ,d,hE.envR,hd,fun v H1 p=>?_⟩
    obtain⟨hE1,hr⟩:=hE.eval p
    have hE2:=hE1.weaken h1
    have hr2:∀ A,F.PA A->Rep X.K (ae H1 (Off σ Ol A)) v d:=fun A hA=>ao (bD (fun _ _ q=>q) (ii h1)) (hr A hA)
    obtain⟨q,xs,rfl,hq⟩:=sh hr2 hds ht
    have len:xs.length=ds.length:=(hq _ F.none).2.length
    refine⟨q,rfl,⟨xs,(aJ _ _).seq (hq _ F.none).1⟩,?_⟩
    refine gU (K:=X.K) (a:=q) (xs:=xs) (g:=bI t) (tb:=fun De σ H=>∃ p:Hd,ts X.K F (p::held) Ol Ol Ol fr tb De σ H) (D:=De) (fun i σ' H'=>∃ ρ',EnvO X.K F (hdL X.K q xs ds::held) Ol σ' ρ' H'/\aW (fun x ρ=>tb (ρ.set t (some x))) (ds.drop i) ρ'=some o) ⟨ρ,hE2.hold hq,by simpa using hf⟩ ?_ ?_ ?_
    · rintro i σ' H' _ ⟨ρ',hE',_⟩
      exact (aJ _ _).seq (hE'.hld _ List.mem_cons_self _ F.none).1
    · rintro i y σ' H' hy ⟨ρ',hE',hf'⟩
      obtain⟨dy,h4,_⟩:=(hE'.hld _ List.mem_cons_self _ F.none).2.getV hy
      have h5:∀ A,F.PA A->Rep X.K (ae H' (Off σ' Ol A)) y dy:=fun A hA=>by
        obtain⟨dy',h6,h7⟩:=(hE'.hld _ List.mem_cons_self A hA).2.getV hy
        rw[h4] at h6;cases h6;exact h7
      have hi':i < ds.length:=(List.getElem?_eq_some_iff.mp h4).1
      have ed:ds.drop i=dy::ds.drop (i+1):=by
        rw[List.drop_eq_getElem_cons hi']
        have e2:ds[i]=dy:=(List.getElem?_eq_some_iff.mp h4).2
        rw[e2]
      rw[ed] at hf'
      have hf2:=hf'
      rw[io] at hf2
      obtain⟨o1,h8,_⟩:=bind_some hf2
      refine⟨hdL X.K q xs ds,ρ'.set t (some dy),o1,hE'.set h3 h5,h8,?_⟩
      exact kI h8 hf' hQ (fun _ _ _ z=>z.unhold) fun σ'' H'' ρ'' hE'' hf''=>⟨ρ'',hE'',hf''⟩
    · rintro σ' H' ⟨ρ',hE',hf'⟩
      rw[len,List.drop_length] at hf'
      cases hf'
      exact hQ σ' H' hE'.unhold
def bi(lo:Int)(n:Nat):List D:=(List.range n).map fun (k:Nat)=>.int (lo+k)
theorem sk{lo:Int}{n i:Nat}(h:i < n):(bi lo n).drop i=.int (lo+i)::(bi lo n).drop (i+1):=by
  have hl:i < (bi lo n).length:=by simpa [bi] using h
  rw[List.drop_eq_getElem_cons hl]
  simp[bi]
def okR(j:Int):Prop:=-4611686018427387904<=j/\j < 4611686018427387904
instance (j:Int):Decidable (okR j):=inferInstanceAs (Decidable (_/\_))
def dQ(t:Nat)(as:FEs)(tb:FS):FS:=fun ρ=>(as ρ).bind fun ds=>match ds with
  | [.int j]=>if okR j then aW (fun x ρ=>tb (ρ.set t (some x))) (bi 0 j.toNat) ρ else none
  | _=>none
theorem sq{K:PySem.W.Frag}{held:List Hd}{De:Ends}{o:Out}{ρ:ab}{σ:St}{H:Hp}{lo:Int}{n t:Nat}{Ol OL':List Nat}{tb:FS}(hE:EnvO K F held Ol σ ρ H)(h3:t ∉ Ol)(hf:aW (fun x ρ=>tb (ρ.set t (some x))) (bi lo n) ρ=some o)(hQ:tsP K F held Ol OL' fr De o):
    ∃ W:Nat->Nat->St->Hp->Prop,(∃ m,W 0 m σ H)/\∀ i m σ H,W i m σ H ->
      ((Itr lo n).stop i H/\De.nx σ H)\/((Itr lo n).go i H/\∃ N:St->Hp->Prop,(∀ σ' H',N σ' H'->∃ m',m' < m/\W (i+1) m' σ' H')/\∀ x H',(Itr lo n).yld i H x H'->bI t x σ H' fun σ2 H2=>ts K F held Ol Ol Ol fr tb { De with nx:=N,ct:=N,bk:=De.nx } σ2 H2):=by
  refine jQ (lo:=lo) (n:=n) (g:=bI t) (tb:=ts K F held Ol Ol Ol fr tb) (D:=De) (fun i σ' H'=>∃ ρ',EnvO K F held Ol σ' ρ' H'/\aW (fun x ρ=>tb (ρ.set t (some x))) ((bi lo n).drop i) ρ'=some o) ⟨ρ,hE,by simpa using hf⟩ ?_ ?_
  · rintro i σ' H' hi ⟨ρ',hE',hf'⟩
    rw[sk hi] at hf'
    have hf2:=hf'
    rw[io] at hf2
    obtain⟨o1,h8,_⟩:=bind_some hf2
    refine⟨ρ'.set t (some (.int (lo+i))),o1,hE'.set h3 fun A hA=>.int _,h8,?_⟩
    exact kI h8 hf' hQ (fun _ _ _ z=>z) fun σ'' H'' ρ'' hE'' hf''=>⟨ρ'',hE'',hf''⟩
  · rintro σ' H' ⟨ρ',hE',hf'⟩
    rw[List.drop_eq_nil_of_le (by simp[bi])] at hf'
    cases hf'
    exact hQ σ' H' hE'
theorem EnvO.evals{K:PySem.W.Frag}{held:List Hd}{σ:St}{ρ:ab}{H H':Hp}(h:EnvO K F held O σ ρ H){ds:List D}{vs:List V}(p:Posts K σ ρ H es ds vs H'):EnvO K F held O σ ρ H':=h.up p.same
theorem sr(t:Nat){x:Str}{a:Expr}{body:List Stmt}{as:FEs}{ei:List Es}{tb:FS}{pr pn:Pos}(Ol:List Nat)(hN:X.N.Nodup)(hc:X.calm=true)(mr:X.mg "range" = none)(hi:VA X [a] as ei)(hb:VSs X F Ol body tb O2 Ol fr)(h1:∀ i ∈ Ol,i ∈ O:=by decide)(h2:∀ i ∈ Ol,i ∈ O2:=by decide)(h3:t ∉ Ol:=by decide)(hp:PassesOwn (model X.prog X.w) X.A X.env X.xe:=by exact PassesOwn.never)(hg:Gl X "range":=by rfl)(hst:starEach [a] X.env=[(false,eval a X.env)]:=by rfl)(hxN:X.N[t]?=some x:=by rfl)(hx:Loc X.env.scope x:=by first | exact Or.inl rfl | exact Or.inr rfl)(hfn:X.fn x=true\/X.env.scope.names.lookup x=some .local:=by first | exact .inl rfl | exact .inr rfl)(hs:∀ x,foldedSetIterable (.Call (.Name "range" pn) [a] [] pr) X.env x=pure x:=by intro _;rfl):VS X F O (.For (.Name x p2) (.Call (.Name "range" pn) [a] [] pr) body [] pos) (dQ t as tb) Ol OL fr:=fun held=>by
  refine b4 (dD hp hc (gT hg mr hi hst) (bZ hN hxN hx hfn) (ga hb h2 held) hs) fun De σ H h=>?_
  obtain⟨ρ,o,hE,hf,hQ⟩:=h
  obtain⟨ds,hd,hf⟩:=bind_some hf
  refine⟨ρ,ds,hE.envR,hd,fun vs H1 p=>?_⟩
  have hE1:=(hE.evals p).weaken h1
  match ds,hf,p with
  | [.int j],hf,p =>
    by_cases hj:okR j
    · simp only[if_pos hj] at hf
      obtain⟨v,rfl,r⟩:=eS p.rep
      cases r
      exact⟨j,rfl,hj.1,hj.2,sq hE1 h3 hf hQ⟩
    · simp only[if_neg hj] at hf
      cases hf
end
structure RetC (K:PySem.W.Frag) (H:Hp) (vs:List V) (ds:List D) (fr:Bool) (d:D) (v:V) (H':Hp):Prop where
  same:Same H H'
  rep:∀ A,Dom H A->Reps K (ae H A) vs ds->Rep K (ae H' A) v d
  new:fr=true->∃ l xs es,v=V.ref l/\d=.lst es/\H l=none/\H' l=some (.lst xs)/\∀ A,Dom H A->Reps K (ae H A) vs ds->Reps K (ae H' fun b=>A b\/b=l) xs es
def spF(K:PySem.W.Frag)(G:List D->Option D)(fr:Bool):Sp:=fun vs H Q _=>∃ ds d,Reps K H vs ds/\G ds=some d/\∀ v H',RetC K H vs ds fr d v H'->Q v H'
def mkF(fr:Bool)(np n:Nat)(body:FS):List D->Option D:=fun ds=>if ds.length=np then (body (ds.map some++List.replicate (n - np) none)).bind fun o=>match o with
  | .rt d=>some d
  | .nx _=>if fr=true then none else some .non
  | _=>none
  else none
theorem ss{P:Program}{w:World}{K:PySem.W.Frag}{mg:Str->Option Value}{base:Heap}{x qual:Str}{st:Stmt}{f:Addr}{fd:FuncData}{N ps:List Str}{k:Nat}{fr:Bool}{body:FS}{O' OL:List Nat}(Fn:Fun K x qual st f fd)(S:FnScope N ps (am st))(h:∀ (cdv:Value) (A:Around) (outer:List PySem.Env) (s:Shared) (H:Hp) (E:XK) (F:Fr0),F.n=N.length->Room k (A.deeper (envOfC qual (am st) s.heap.objs.size f cdv)) ->
      VSs (bP CX0 P w K mg base N qual (am st) f cdv A outer s H E).nox F [] (aL st) body O' OL fr):
    FnOk P w K mg base CX0 (k+1) f fd ps (spF K (mkF fr ps.length N.length body) fr):=by
  have hpl:ps.length<=N.length:=by have:=congrArg List.length S.pre;rw[List.length_take] at this;omega
  refine Fn.ok S (fun vs H Q E h=>?_) (fun cdv A outer s H vs Q E hr h'=>?_)
  · obtain⟨ds,d,r,hg,_⟩:=h
    unfold mkF at hg
    by_cases hl:ds.length=ps.length
    · rw[r.length,hl]
    · rw[if_neg hl] at hg;cases hg
  · obtain⟨ds,d,r,hg,hQ⟩:=h'
    unfold mkF at hg
    by_cases hl:ds.length=ps.length
    · rw[if_pos hl] at hg
      obtain⟨o,ho,hg⟩:=bind_some hg
      let F:Fr0:=⟨H,fun A=>Dom H A/\Reps K (ae H A) vs ds,N.length,fun A h=>h.1,⟨Dom.none H,aC (i8 H) r⟩⟩
      refine⟨_,h cdv A outer s H E F rfl hr [],ds.map some++List.replicate (N.length - ps.length) none,o,?_,ho,?_⟩
      · have lv:=r.length
        have get:∀ (i:Nat) (d:D),(ds.map some++List.replicate (N.length - ps.length) none)[i]?=some (some d)->ds[i]?=some d:=fun i d q=>by
          by_cases hi:i < ds.length
          · rw[List.getElem?_append_left (by simpa using hi),List.getElem?_map] at q
            cases e:ds[i]? with
            | none=>rw[e] at q;cases q
            | some z=>rw[e] at q;simpa using q
          · rw[List.getElem?_append_right (by simpa using hi),List.getElem?_replicate] at q
            split at q <;> cases q
        refine⟨Same.refl H,?_,?_,fun i d q _=>?_,fun p hp=>absurd hp (by simp),fun i hi=>absurd hi (by simp),fun i hi=>absurd hi (by simp)⟩
        · show (L2.start N vs).length=N.length
          unfold L2.start
          rw[List.length_append,List.length_map,List.length_replicate]
          omega
        · show _=N.length
          rw[List.length_append,List.length_map,List.length_replicate]
          omega
        · have h1:=get i d q
          obtain⟨v,h2,_⟩:=r.get h1
          refine⟨v,?_,fun A hA=>?_⟩
          · unfold L2.start
            have hi:i < vs.length:=(List.getElem?_eq_some_iff.mp h2).1
            rw[List.getElem?_append_left (by simpa using hi),List.getElem?_map,h2]
            rfl
          · obtain⟨v',h3,h4⟩:=hA.2.get h1
            rw[h2] at h3;cases h3
            exact ao (bD (fun _ _ z=>z) fun b z=>z.elim (fun⟨_,hj,_⟩=>absurd hj (by simp)) id) h4
      · cases o with
        | rt d' =>
          cases hg
          exact fun v H' rt=>hQ v H' ⟨rt.same,fun A hA hr=>rt.rep A ⟨hA,hr⟩,fun e=>let ⟨l,xs,es,e1,e2,e3,e4,e5⟩:=rt.new e;⟨l,xs,es,e1,e2,e3,e4,fun A hA hr=>e5 A ⟨hA,hr⟩⟩⟩
        | nx ρ' =>
          cases fr with
          | true=>cases hg
          | false =>
            cases hg
            exact fun σ' H' hE=>hQ _ H' ⟨hE.same,fun A hA hr=>.non,fun e=>nomatch e⟩
        | _=>cases hg
    · rw[if_neg hl] at hg;cases hg
section
variable {X:Cx} {k:Nat} {f:Addr} {fd:FuncData} {ps:List Str} {G:List D->Option D} {fr:Bool} {x:Str} {p pos:Pos} {e:Expr} {es':List Expr} {as:FEs} {es:List Es}
theorem su(Gk:FnOk X.prog X.w X.K X.mg X.base CX0 k f fd ps (spF X.K G fr))(hr:Room k X.A)(hm:X.mg x=some (.ref f))(hk:PySem.W.keepIn X.K (.ref f)=true)(hb:Binds X.K fd ps [])(ha:VA X (e::es') as es)(hg:Gl X x:=by rfl)(hdb:(x == ("__debug__" : Str))=false:=by decide)(he:starEach (e::es') X.env=(false,eval e X.env)::starEach es' X.env:=by rfl)(hpl:(backTo pos (starEach es' X.env)).any (·.1)=false:=by rfl):
    VE X (.Call (.Name x p) (e::es') [] pos) (eA G as) es :=
  aD (hG Gk hr hg hm hk hb .nil hW ha hdb he hpl) fun σ H Q ⟨ρ,d,hE,hf,hQ⟩=>by
    obtain⟨ds,h1,hf⟩:=bind_some hf
    refine⟨ρ,ds,hE,h1,fun vs H1 p=>?_⟩
    show spF X.K G fr (vs++[]) H1 Q E0
    rw[List.append_nil]
    refine⟨ds,d,p.rep,hf,fun v H' r=>hQ v H' ⟨p.same.trans r.same,ao (aJ _ _) (r.rep cC (Dom.none _) (aC (i8 _) p.rep)),fun A hA hz=>r.rep A (hA.mono p.same) (p.av A hA hz)⟩⟩
theorem sv(Gk:FnOk X.prog X.w X.K X.mg X.base CX0 k f fd ps (spF X.K G true))(hr:Room k X.A)(hm:X.mg x=some (.ref f))(hk:PySem.W.keepIn X.K (.ref f)=true)(hb:Binds X.K fd ps [])(ha:VA X (e::es') as es)(hg:Gl X x:=by rfl)(hdb:(x == ("__debug__" : Str))=false:=by decide)(he:starEach (e::es') X.env=(false,eval e X.env)::starEach es' X.env:=by rfl)(hpl:(backTo pos (starEach es' X.env)).any (·.1)=false:=by rfl):
    VF X (.Call (.Name x p) (e::es') [] pos) (eA G as) es :=
  aD (hG Gk hr hg hm hk hb .nil hW ha hdb he hpl) fun σ H Q ⟨ρ,d,hE,hf,hQ⟩=>by
    obtain⟨ds,h1,hf⟩:=bind_some hf
    refine⟨ρ,ds,hE,h1,fun vs H1 p=>?_⟩
    show spF X.K G true (vs++[]) H1 Q E0
    rw[List.append_nil]
    refine⟨ds,d,p.rep,hf,fun v H' r=>hQ v H' ⟨p.same.trans r.same,?_⟩⟩
    obtain⟨l,xs,es,e1,e2,e3,e4,e5⟩:=r.new rfl
    exact⟨l,xs,es,e1,e2,p.same.free e3,e4,fun A hA hz=>e5 A (hA.mono p.same) (p.av A hA hz)⟩
end
end VL
namespace VL
open PySem PySem.Spec PyProof.Rows L2
theorem ip(env:PySem.Env):∀ (names:List (Str × NameKind)) (acc:List (Str × Addr)),(∀ x ∈ names,x.2=.free->∃ c,env.cells.lookup x.1=some c) ->
    ∃ cl,(forIn names acc fun x r=>(if (x.2 == NameKind.free)=true then (do let c <- cellOf env x.1;pure (ForInStep.yield ((x.1,c)::r))) else pure (ForInStep.yield r):Sem (ForInStep (List (Str × Addr)))))=pure cl /\
      (∀ x c,cl.lookup x=some c->acc.lookup x=some c\/env.cells.lookup x=some c)/\(∀ x,(∃ c,acc.lookup x=some c)->∃ c,cl.lookup x=some c)/\(∀ x ∈ names,x.2=.free->∃ c,cl.lookup x.1=some c)
  | [],acc,_=>⟨acc,rfl,fun _ _ h=>.inl h,fun _ h=>h,fun _ h=>nomatch h⟩
  | (n, k)::r,acc,h=>by
    have hr:∀ x ∈ r,x.2=.free->∃ c,env.cells.lookup x.1=some c:=fun x hx=>h x (List.mem_cons_of_mem _ hx)
    by_cases hk:k=.free
    · subst hk
      obtain⟨c,hc⟩:=h (n,.free) List.mem_cons_self rfl
      obtain⟨cl,e,h1,h2,h3⟩:=ip env r ((n,c)::acc) hr
      refine⟨cl,?_,fun x c' hx=>?_,fun x ⟨c',hx⟩=>?_,fun x hx hf=>?_⟩
      · rw[List.forIn_cons]
        have e1:cellOf env n=pure c:=by unfold cellOf;rw[hc]
        simp only[beq_self_eq_true,if_true,e1,pure_bind]
        exact e
      · rcases h1 x c' hx with q | q
        · rw[List.lookup_cons] at q
          cases hxn:x == n with
          | true =>
            rw[hxn] at q
            have e2:x=n:=by simpa using hxn
            cases q
            rw[e2]
            exact .inr hc
          | false=>rw[hxn] at q;exact .inl q
        · exact .inr q
      · refine h2 x ?_
        rw[List.lookup_cons]
        cases x == n with
        | true=>exact⟨_,rfl⟩
        | false=>exact⟨c',hx⟩
      · rcases List.mem_cons.mp hx with q | q
        · subst q
          refine h2 n ⟨c,?_⟩
          rw[List.lookup_cons]
          simp
        · exact h3 x q hf
    · obtain⟨cl,e,h1,h2,h3⟩:=ip env r acc hr
      refine⟨cl,?_,h1,h2,fun x hx hf=>?_⟩
      · rw[List.forIn_cons]
        have e1:(k == NameKind.free)=false:=by simpa using hk
        simp only[e1,Bool.false_eq_true,if_false,pure_bind]
        exact e
      · rcases List.mem_cons.mp hx with q | q
        · subst q;exact absurd hf hk
        · exact h3 x q hf
theorem kJ{scope:Scope}{env:PySem.Env}(h:∀ x ∈ scope.names,x.2=.free->∃ c,env.cells.lookup x.1=some c):
    ∃ cl,closureFor scope env=pure cl/\(∀ x c,cl.lookup x=some c->env.cells.lookup x=some c)/\(∀ x ∈ scope.names,x.2=.free->∃ c,cl.lookup x.1=some c):=by
  obtain⟨cl,e,h1,h2,h3⟩:=ip env scope.names [] h
  refine⟨cl,?_,fun x c q=>(h1 x c q).resolve_left (fun z=>by simp at z),h3⟩
  simp only[closureFor]
  rw[e]
  first | rfl | simp
section
variable {prog:Program} {w:World} {A:Around} {R:Result->Shared->Prop} {s:Shared}
theorem sw{elt target iter:Expr}{ifs:List Expr}{scope:Scope}{pos:Pos}{it acc:Value}{env:PySem.Env}(I:Nat->Shared->Prop)(turn : ∀ n s,I n s->wpAny (model prog w) A (pyNext it) (fun r s₁=>match r with
      | none=>R (.ok .next) s₁
      | some v=>wpAny (model prog w) A (letOwnedTupleGo target it v) (fun _ s₁'=>wpAny (model prog w) A (assign target env v) (fun _ s₂ =>
          wpAny (model prog w) A (forIn ifs true fun c r=>if r=true then do let ok <- isTrue c env (eval c env);pure (ForInStep.yield ok) else pure (ForInStep.yield r)) (fun ok s₃ =>
            if ok=true then wpAny (model prog w) A (eval elt env) (fun x s₄ =>
              wpAny (model prog w) A (call (.builtin "list.append") [acc,x]) (fun _ s₅=>∃ m,m < n/\I m s₅) (fun _ _=>False) s₄) (fun _ _=>False) s₃
            else ∃ m,m < n/\I m s₃) (fun _ _=>False) s₂) (fun _ _=>False) s₁') (fun _ _=>False) s₁) (fun _ _=>False) s)(n:Nat)(h:I n s):codeAny (model prog w) A (.compLoop (.ListComp elt [⟨target,iter,ifs,0⟩] scope pos) 0 it acc env) R s:=by
  refine codeAny_loop rfl I (fun n s hI=>?_) n h
  show wpAny _ A ((compTurn (.ListComp elt [⟨target,iter,ifs,0⟩] scope pos) 0 it acc env).onRaise (fun x=>do noteFrame x env;theTreesLotGoes x)) _ _ s
  refine wpAny_noted ?_
  rw[compTurn_list]
  refine wpAny_bind (wpAny_standAt (wpAny_bind (wpAny_mono (turn n s hI) (fun r s₁ h₁=>?_) fun _ _ h'=>h'.elim)))
  cases r with
  | none=>exact wpAny_pure h₁
  | some v =>
    refine wpAny_bind (wpAny_mono h₁ (fun _ s₁' h₁'=>?_) fun _ _ h'=>h'.elim)
    refine wpAny_bind (wpAny_mono h₁' (fun _ s₂ h₂=>wpAny_bind (wpAny_mono h₂ (fun ok s₃ h₃=>?_) fun _ _ h'=>h'.elim)) fun _ _ h'=>h'.elim)
    cases ok with
    | false=>exact wpAny_pure ⟨rfl,h₃⟩
    | true =>
      exact wpAny_bind (wpAny_bind (wpAny_mono h₃ (fun x s₄ h₄=>wpAny_bind (wpAny_mono h₄ (fun _ s₅ h₅=>wpAny_pure (wpAny_pure ⟨rfl,h₅⟩)) fun _ _ h'=>h'.elim)) fun _ _ h'=>h'.elim))
end
def blk(X:Cx)(N:List Str)(s:Shared)(H:Hp)(scope:Scope)(cl:List (Str × Addr))(ex:List Addr):Cx :=
  { X with N:=N,s₀:=s,H₀:=H,env:=compEnvC scope cl s.heap.objs.size X.env,outer:=X.stack,ex:=ex,fn:=fun _=>false,pn:=[],xe:=fun _ _=>False }
structure BlkOk (X:Cx) (scope:Scope) (own:List Str) (caps:List Nat) (cn:List Str):Prop where
  kind:scope.kind=.function
  nocell:∀ x ∈ scope.names,x.2 ≠ .cell
  locals:∀ x ∈ scope.names,x.2=.local->scope.names.lookup x.1=some .local
  free:∀ x ∈ scope.names,x.2=.free->(X.env.kindOf x.1=some .cell\/X.env.kindOf x.1=some .free)
  names:caps.map (fun j=>X.N[j]?)=cn.map some
  capf:∀ x ∈ cn,scope.names.lookup x=some .free
  nd:(own++cn).Nodup
theorem iq{env:PySem.Env}:∀ {names:List (Str × NameKind)} {x:Str} {k:NameKind},(names.map fun (n,k)=>if (k == NameKind.free && env.scope.kind == .function && env.kindOf n == some .cell) then (n,NameKind.cell) else (n,k)).lookup x=some k ->
    (∀ y ∈ names,y.2 ≠ .cell)->(k=.cell\/k=.free)->(x,NameKind.free) ∈ names
  | [],_,_,h,_,_=>by simp at h
  | (n, k')::r,x,k,h,hc,hk=>by
    have ih:=@iq env r x k
    have h:List.lookup x ((if (k' == NameKind.free && env.scope.kind == .function && env.kindOf n == some .cell)=true then (n,NameKind.cell) else (n,k'))::(r.map fun (n,k)=>if (k == NameKind.free && env.scope.kind == .function && env.kindOf n == some .cell) then (n,NameKind.cell) else (n,k)))=some k:=h
    have hr:∀ y ∈ r,y.2 ≠ .cell:=fun y hy=>hc y (List.mem_cons_of_mem _ hy)
    by_cases hcd:(k' == NameKind.free && env.scope.kind == .function && env.kindOf n == some .cell)=true
    · have hk':k'=.free:=by
        rw[Bool.and_eq_true,Bool.and_eq_true] at hcd
        simpa using hcd.1.1
      rw[if_pos hcd,List.lookup_cons] at h
      cases hx:x == n with
      | true =>
        have e:x=n:=by simpa using hx
        rw[e,hk'];exact List.mem_cons_self
      | false=>rw[hx] at h;exact List.mem_cons_of_mem _ (ih h hr hk)
    · rw[if_neg hcd,List.lookup_cons] at h
      cases hx:x == n with
      | true =>
        have e:x=n:=by simpa using hx
        rw[hx] at h
        cases h
        rcases hk with hk | hk
        · exact absurd hk (hc (n,k') List.mem_cons_self)
        · rw[e,<- hk];exact List.mem_cons_self
      | false=>rw[hx] at h;exact List.mem_cons_of_mem _ (ih h hr hk)
theorem kK{env:PySem.Env}:∀ {names:List (Str × NameKind)} {x:Str},names.lookup x=some .free ->
    (names.map fun (n,k)=>if (k == NameKind.free && env.scope.kind == .function && env.kindOf n == some .cell) then (n,NameKind.cell) else (n,k)).lookup x ≠ some .local
  | [],_,h=>by simp at h
  | (n,k)::r,x,h=>by
    have ih:=@kK env r x
    show List.lookup x ((if (k == NameKind.free && env.scope.kind == .function && env.kindOf n == some .cell)=true then (n,NameKind.cell) else (n,k))::(r.map fun (n,k)=>if (k == NameKind.free && env.scope.kind == .function && env.kindOf n == some .cell) then (n,NameKind.cell) else (n,k))) ≠ some .local
    rw[List.lookup_cons] at h
    by_cases hcd:(k == NameKind.free && env.scope.kind == .function && env.kindOf n == some .cell)=true
    · rw[if_pos hcd,List.lookup_cons]
      cases hx:x == n with
      | true=>exact fun z=>by cases z
      | false=>rw[hx] at h;exact ih h
    · rw[if_neg hcd,List.lookup_cons]
      cases hx:x == n with
      | true=>rw[hx] at h;cases h;exact fun z=>by cases z
      | false=>rw[hx] at h;exact ih h
section
variable {X:Cx} {pins:List (Addr × Obj)} {σ:St} {H:Hp} {s:Shared} {scope:Scope} {own cn:List Str} {caps:List Nat} {cl:List (Str × Addr)} {ex:List Addr}
def bQ(σ:St)(caps:List Nat):St:=caps.map fun j=>(σ[j]?).getD none
theorem sx(I:L2.Inv X pins σ H s)(B:BlkOk X scope own caps cn)(hcl:∀ x c,cl.lookup x=some c->X.env.cells.lookup x=some c)(hha:∀ x ∈ scope.names,x.2=.free->∃ c,cl.lookup x.1=some c)(hex:∀ b ∈ ex,b9 X pins H b/\b < s.heap.objs.size){h₁:Heap}{tk:Nat}(hns:h₁.Ns s.heap.objs.size (fun _=>none))(hk:∀ b o,s.heap.get? b=some o->h₁.get? b=some o):
    L2.Inv (blk X (own++cn) s H scope cl ex) [] (List.replicate own.length none++bQ σ caps) H { s with heap:=h₁,toks:=tk }:=by
  have hcap:cn.length=caps.length:=by have:=congrArg List.length B.names;simpa using this.symm
  refine⟨⟨I.ok.mod,B.kind,I.ok.glob,I.ok.blt,Nat.le_refl _,fun x y c h1 h2=>I.ok.inj x y c (hcl x c h1) (hcl y c h2),fun x hx=>?_,fun x c h=>(nomatch h),I.ok.hd,I.ok.frames,.inl rfl,fun b hb=>?_,fun b o e=>I.bs b o e,Nat.le_trans I.ok.bsz I.sz,fun b o e hb=>?_,fun b hb hfs=>?_,I.stack,I.stkFree⟩,
    rfl,I.bare,Un.kept hk,⟨_,hns,fun i x v h1 h2 h3=>?_⟩,fun x c h=>?_,I.hok.fresh (Nat.le_refl _),fun x c h=>I.freeC x c (hcl x c h),fun p hp=>absurd hp (by simp[blk]),I.hok.kept hk,?_⟩
  · have hx':(relabel scope X.env).names.lookup x=some .cell\/(relabel scope X.env).names.lookup x=some .free:=hx
    have m:(x,NameKind.free) ∈ scope.names:=by
      rcases hx' with q | q
      · exact iq q B.nocell (.inl rfl)
      · exact iq q B.nocell (.inr rfl)
    exact hha _ m rfl
  · obtain⟨f,lt⟩:=hex b hb
    exact⟨Nat.ne_of_lt lt,fun x c h=>f.2.2.2.2.1 x c (hcl x c h)⟩
  · obtain⟨f,lt⟩:=hex b hb
    rcases f.2.2.2.1 with q | q
    · exact I.ok.noex b o e q
    · exact absurd (Nat.lt_of_lt_of_le (Heap.lt_size e) I.ok.bsz) (Nat.not_lt.mpr q)
  · obtain⟨f,lt⟩:=hex b hb
    rcases List.mem_cons.mp (I.stkSub b hfs) with q | q
    · exact f.2.1 q
    · exact f.2.2.1 q
  ·
    have hlen:(List.replicate own.length (none:Option V)).length=own.length:=List.length_replicate
    by_cases hi:i < own.length
    · rw[List.getElem?_append_left (by rw[hlen];exact hi),List.getElem?_replicate,if_pos hi] at h2
      cases h2
    · rw[List.getElem?_append_right (by rw[hlen];omega),hlen] at h2
      have h1':cn[i - own.length]?=some x:=by
        have h1'':(own++cn)[i]?=some x:=h1
        rwa [List.getElem?_append_right (by omega)] at h1''
      unfold bQ at h2
      rw[List.getElem?_map] at h2
      cases hj:caps[i - own.length]? with
      | none=>rw[hj] at h2;cases h2
      | some j =>
        rw[hj] at h2
        have hN:X.N[j]?=some x:=by
          have q:=congrArg (fun l=>l[i - own.length]?) B.names
          simp only[List.getElem?_map,hj,h1',Option.map_some] at q
          exact Option.some.inj q
        have hσ:σ[j]?=some (some v):=by
          simp only[Option.map_some,Option.some.injEq] at h2
          cases e:σ[j]? with
          | none=>rw[e] at h2;cases h2
          | some o=>rw[e] at h2;simp only[Option.getD_some] at h2;rw[h2]
        have hxf:scope.names.lookup x=some .free:=B.capf x (List.mem_of_getElem? h1')
        have hkind:=B.free (x,.free) (PySem.mem_of_lookup hxf) rfl
        have hvis:Vis X.env.scope x:=hkind.elim (fun q=>.inr (.inl q)) fun q=>.inr (.inr q)
        obtain⟨m,hm,hl⟩:=I.loc
        obtain⟨u,r,look⟩:=hl j x v hN hσ hvis
        rcases look with⟨hloc,_⟩ | ⟨_,c,hc,hcell⟩
        · rcases hkind with q | q <;> rw[q] at hloc <;> cases hloc
        · obtain⟨c',hc'⟩:=hha (x,.free) (PySem.mem_of_lookup hxf) rfl
          have e:=hcl x c' hc'
          rw[hc] at e;cases e
          refine⟨u,r,.inr ⟨?_,c,hc',?_⟩⟩
          · rcases h3 with q | q | q
            · exfalso
              have:(relabel scope X.env).names.lookup x=some .local:=q
              unfold relabel at this
              have z:=@kK X.env scope.names x hxf
              exact z this
            · exact .inl q
            · exact .inr q
          · obtain⟨oc,ho,hd⟩:=hcell
            exact⟨oc,hk _ _ ho,hd⟩
  · obtain⟨v,oc,ho,hd⟩:=I.cell x c (hcl x c h)
    exact⟨v,oc,hk _ _ ho,hd⟩
  · show (List.replicate own.length none++bQ σ caps).length=(own++cn).length
    simp[bQ,hcap]
end
end VL
namespace VL
open PySem PySem.Spec PyProof.Rows L2
theorem Inv.track{X:Cx}{pins:List (Addr × Obj)}{σ:St}{H:Hp}{s:Shared}{d:Addr}{ys:List V}{its:List Value}{n:Nat}(I:L2.Inv X pins σ H s)(e:s.heap.get? d=some { cls:=.type "list",data:=.seq its.toArray n })(hv:Vals ys its)(hz:ys.length<=sizeLine)(f:b9 X pins H d)(f3:X.s₀.heap.objs.size<=d):L2.Inv X pins σ (upd H d (.lst ys)) s:=by
  obtain⟨f0,f1,f2,_,f4,f5⟩:=f
  have old:∀ b o,X.s₀.heap.get? b=some o->b ≠ d:=fun b o q z=>absurd (Nat.lt_of_lt_of_le (Heap.lt_size q) (by rw[z];exact f3)) (Nat.lt_irrefl _)
  have nd:∀ b u,H b=some u->b ≠ d:=fun b u q z=>by rw[z,f0] at q;cases q
  refine⟨I.ok,I.os,I.bare,⟨I.base.keep,I.base.slot,fun b o q n hx=>?_,I.base.there,fun b xs q=>?_,fun b o u q=>?_,fun b ps q=>?_⟩,I.loc,I.cell,?_,fun x c q=>?_,fun p hp=>?_,fun b o q=>?_,I.len⟩
  · rw[ai (old b o q)];exact I.base.free b o q n hx
  · have z:=I.base.tups b xs q;rw[ai (nd b _ z)];exact z
  · have z:=I.base.frzs b o u q;rw[ai (nd b _ z)];exact z
  · obtain⟨more,z⟩:=I.base.tbls b ps q;exact⟨more,by rw[ai (nd b _ z)];exact z⟩
  · rw[ai (Ne.symm f1)];exact I.free
  · rw[ai (f4 x c q)];exact I.freeC x c q
  · obtain⟨k1,k2,k3,k4,k5⟩:=I.pin p hp
    exact⟨k1,by rw[ai (f5 p hp)];exact k2,k3,k4,k5⟩
  · by_cases hb:b=d
    · subst hb
      rw[aK] at q;cases q
      exact⟨hz,its,n,hv,e⟩
    · rw[ai hb] at q
      refine (I.hok b o q).stay (fun c v _ z=>z) (fun c z=>?_) fun c xs z=>?_
      · rw[ai (nd c _ z)];exact z
      · rw[ai (nd c _ z)];exact z
def PTs(X:Cx)(ifs:List Expr)(t:TT):Prop :=
  ∀ (pins:List (Addr × Obj)) (s:Shared) (σ:St) (H:Hp) (Q:Bool->Hp->Prop),L2.Inv X pins σ H s->t σ H Q ->
    wpAny (model X.prog X.w) X.A (forIn ifs true fun c r=>if r=true then do let ok <- isTrue c X.env (eval c X.env);pure (ForInStep.yield ok) else pure (ForInStep.yield r)) (TP X pins σ Q) X.xe s
theorem sy{X:Cx}:PTs X [] (fun _ H Q=>Q true H):=fun pins s σ H Q I h=>wpAny_tests_nil ⟨H,I,h⟩
theorem sA{X:Cx}{c:Expr}{t:TT}(h:PT X c t):PTs X [c] t:=fun pins s σ H Q I hq=>wpAny_tests_one (h pins s σ H Q I hq)
def kL(nown:Nat)(caps:List Nat)(wi:TI)(g:TG)(tt:TT)(te:TE):TE:=fun σ H Q=>wi σ H fun J H1=>∃ W:Nat->Nat->List V->St->Hp->Prop,
  (∃ m, W 0 m [] (List.replicate nown none++bQ σ caps) H1)/\∀ i m ys σb H2,W i m ys σb H2->ys.length < sizeLine /\
    ((J.stop i H2/\∀ d,H2 d=none->Q (.ref d) (upd H2 d (.lst ys))) \/
     (J.go i H2/\∀ x H3,J.yld i H2 x H3->g x σb H3 fun σb' H4=>tt σb' H4 fun b H5 =>
        if b=true then te σb' H5 fun y H6=>∃ m',m' < m/\W (i+1) m' (ys++[y]) σb' H6 else ∃ m',m' < m/\W (i+1) m' ys σb' H5))
section
variable {X:Cx} {elt tg iter:Expr} {ifs:List Expr} {scope:Scope} {own cn:List Str} {caps:List Nat} {wi:TI} {g:TG} {tt:TT} {te:TE} {pos:Pos}
structure After (X:Cx) (pins:List (Addr × Obj)) (σ:St) (H:Hp) (d c:Addr) (ys:List V) (s:Shared):Prop where
  inv:L2.Inv X pins σ (upd H d (.lst ys)) s
  ns:∃ m,s.heap.Ns c m
  new:H d=none
  cf:b9 X pins (upd H d (.lst ys)) c
theorem sB(B:BlkOk X scope own caps cn)(hc:X.calm=true)(hg:∀ s H cl ex,PG (blk X (own++cn) s H scope cl ex) tg g)(ht:∀ s H cl ex,PTs (blk X (own++cn) s H scope cl ex) ifs tt)(he:∀ s H cl ex,PE (blk X (own++cn) s H scope cl ex) elt te){pins:List (Addr × Obj)}{s3:Shared}{σ:St}{H2:Hp}{Q:VK}{it d:Addr}{fp:List Addr}{tn:Nat->Heap->Prop}{J:It}{W:Nat->Nat->List V->St->Hp->Prop}{m0 tk:Nat}{h₁:Heap}(I3:L2.Inv X pins σ H2 s3){cl:List (Str × Addr)}(hcl:∀ x c,cl.lookup x=some c->X.env.cells.lookup x=some c)(hha:∀ x ∈ scope.names,x.2=.free->∃ c,cl.lookup x.1=some c)(T:Turn X.prog X.w X.K tg J fp it tn)(st:tn 0 s3.heap)(f2:∀ b ∈ fp,b9 X pins H2 b)(fpd:b9 X pins H2 d)(fd3:X.s₀.heap.objs.size<=d)(dnf:∀ b ∈ fp,b ≠ d)(hd3:s3.heap.get? d=some { cls:=.type "list",data:=.seq #[] 0 })(w0:W 0 m0 [] (List.replicate own.length none++bQ σ caps) H2)(turn : ∀ i m ys σb H2,W i m ys σb H2->ys.length < sizeLine /\
      ((J.stop i H2/\∀ d,H2 d=none->Q (.ref d) (upd H2 d (.lst ys))) \/
       (J.go i H2/\∀ x H3,J.yld i H2 x H3->g x σb H3 fun σb' H4=>tt σb' H4 fun b H5 =>
          if b=true then te σb' H5 fun y H6=>∃ m',m' < m/\W (i+1) m' (ys++[y]) σb' H6 else ∃ m',m' < m/\W (i+1) m' ys σb' H5)))(hns:h₁.Ns s3.heap.objs.size (fun _=>none))(hk:∀ b o,s3.heap.get? b=some o->h₁.get? b=some o){RR:Value->Addr->Result->Shared->Prop}(hRR:∀ d c ys H' s',After X pins σ H' d c ys s'->Q (.ref d) (upd H' d (.lst ys))->RR (.ref d) c (.ok .next) s'):
    codeAny (model X.prog X.w) X.A (.compStart (.ListComp elt [⟨tg,iter,ifs,0⟩] scope pos) 0 (.ref it) (.ref d) (compEnvC scope cl s3.heap.objs.size X.env)) (RR (.ref d) s3.heap.objs.size) { s3 with heap:=h₁,toks:=tk }:=by
  have lt3:∀ b ∈ d::fp,b < s3.heap.objs.size:=fun b hb=>by
    rcases List.mem_cons.mp hb with e | hb
    · rw[e];exact Heap.lt_size hd3
    · obtain⟨o,e,_⟩:=T.obj _ _ st b hb;exact Heap.lt_size e
  have fex:∀ b ∈ d::fp,b9 X pins H2 b:=fun b hb=>(List.mem_cons.mp hb).elim (fun e=>e ▸ fpd) (f2 b)
  have IB:=sx (ex:=d::fp) (tk:=tk) I3 B hcl hha (fun b hb=>⟨fex b hb,lt3 b hb⟩) hns hk
  have fpB:∀ {P:List (Addr × Obj)} {H':Hp},(∀ b ∈ fp,H' b=none)->(∀ p ∈ P,p.1=d)->∀ b ∈ fp,b9 (blk X (own++cn) s3 H2 scope cl (d::fp)) P H' b:=fun {P H'} hn hP b hb=>by
    refine⟨hn b hb,Nat.ne_of_lt (lt3 b (List.mem_cons_of_mem _ hb)),fun z=>?_,.inl (List.mem_cons_of_mem _ hb),fun x c q=>(f2 b hb).2.2.2.2.1 x c (hcl x c q),fun p hp=>?_⟩
    · rcases List.mem_cons.mp (I3.stkSub b z) with q | q
      · exact (f2 b hb).2.1 q
      · exact (f2 b hb).2.2.1 q
    · have hp':p ∈ P:=by simpa [blk] using hp
      rw[hP p hp'];exact Ne.symm (dnf b hb)
  have dB:∀ {P:List (Addr × Obj)} {H':Hp},H' d=none->(∀ p ∈ P,p.1 ∈ fp)->b9 (blk X (own++cn) s3 H2 scope cl (d::fp)) P H' d:=fun {P H'} hn hP=>by
    refine⟨hn,Nat.ne_of_lt (lt3 d List.mem_cons_self),fun z=>?_,.inl List.mem_cons_self,fun x c q=>fpd.2.2.2.2.1 x c (hcl x c q),fun p hp=>?_⟩
    · rcases List.mem_cons.mp (I3.stkSub d z) with q | q
      · exact fpd.2.1 q
      · exact fpd.2.2.1 q
    · have hp':p ∈ P:=by simpa [blk] using hp
      exact fun e=>dnf p.1 (hP p hp') e
  have loop:∀ s':Shared,s'={ s3 with heap:=h₁,toks:=tk }->codeAny (model X.prog X.w) X.A (.compLoop (.ListComp elt [⟨tg,iter,ifs,0⟩] scope pos) 0 (.ref it) (.ref d) (compEnvC scope cl s3.heap.objs.size X.env)) (RR (.ref d) s3.heap.objs.size) s':=by
    rintro s' rfl
    refine sw (fun n s'=>∃ (i:Nat) (ys:List V) (σb:St) (H':Hp) (its:List Value) (nn:Nat),L2.Inv (blk X (own++cn) s3 H2 scope cl (d::fp)) [] σb H' s'/\tn i s'.heap/\(∀ b ∈ fp,H' b=none)/\H' d=none/\s'.heap.get? d=some { cls:=.type "list",data:=.seq its.toArray nn }/\Vals ys its/\W i n ys σb H') ?_ m0
      ⟨0,[],_,H2,[],0,IB,T.keep _ _ _ st fun b _ o e=>hk b o e,fun b hb=>(f2 b hb).1,fpd.1,hk _ _ hd3,.nil,w0⟩
    rintro n s4 ⟨i,ys,σb,H',its,nn,I4,st4,fr4,hd4,o4,r4,w4⟩
    have I4p:L2.Inv (blk X (own++cn) s3 H2 scope cl (d::fp)) [(d,{ cls:=.type "list",data:=.seq its.toArray nn })] σb H' s4:=I4.pins_of fun p hp=>by
      have e:p=(d,{ cls:=.type "list",data:=.seq its.toArray nn }):=by simpa using hp
      subst e
      obtain⟨a0,a1,a2,_⟩:=dB (P:=[]) hd4 (by simp)
      exact⟨o4,a0,a1,a2,fun v z=>by cases z⟩
    obtain⟨hys,alt⟩:=turn i n ys σb H' w4
    rcases alt with⟨stop,q⟩ | ⟨go,step⟩
    · refine thn (T.done (blk X (own++cn) s3 H2 scope cl (d::fp)) rfl rfl rfl hc i [(d,{ cls:=.type "list",data:=.seq its.toArray nn })] s4 σb H' _ I4p (fpB fr4 (by simp)) st4 stop) fun r s5 ⟨hr,I5⟩=>?_
      subst hr
      obtain⟨o5,_⟩:=I5.pin (d,{ cls:=.type "list",data:=.seq its.toArray nn }) (by simp[blk])
      have IX:L2.Inv X pins σ H' s5:=I3.call' (ch:=d::fp) I5.os I5.base I5.hok I5.bare fun b hb=>⟨(fex b hb).2.2.2.1,(fex b hb).2.1,(fex b hb).2.2.2.2.1,(fex b hb).2.2.2.2.2⟩
      have fpd':b9 X pins H' d:=⟨hd4,fpd.2⟩
      have IT:=Inv.track IX o5 r4 (Nat.le_of_lt hys) fpd' fd3
      refine hRR d s3.heap.objs.size ys H' s5 ⟨IT,?_,hd4,?_⟩ (q d hd4)
      · obtain⟨m,hm,_⟩:=I5.loc;exact⟨m,hm⟩
      · have cf:H' s3.heap.objs.size=none:=I5.free
        refine I3.fpOk (Nat.le_refl _) ?_
        rw[ai (Ne.symm (Nat.ne_of_lt (lt3 d List.mem_cons_self)))]
        exact cf
    · refine thn (T.item (blk X (own++cn) s3 H2 scope cl (d::fp)) rfl rfl rfl hc i [(d,{ cls:=.type "list",data:=.seq its.toArray nn })] s4 σb H' _ I4p (fpB fr4 (by simp)) st4 go) fun r s5 ⟨u,hr,h5⟩=>?_
      subst hr
      refine thn h5 fun _ s6 ⟨x,H6,I6,r6,y6,st6,fr6⟩=>?_
      have I6':=I6.pinned (fpB fr6 (by simp)) (T.obj _ _ st6)
      refine thn (hg s3 H2 cl (d::fp) _ s6 σb H6 x u _ I6' r6 (step x H6 y6)) fun _ s7 ⟨σ7,H7,I7,q7⟩=>?_
      refine thn (ht s3 H2 cl (d::fp) _ s7 σ7 H7 _ I7 q7) fun b s8 ⟨H8,I8,q8⟩=>?_
      have fin:∀ {H9:Hp} {s9:Shared},L2.Inv (blk X (own++cn) s3 H2 scope cl (d::fp)) ([(d,{ cls:=.type "list",data:=.seq its.toArray nn })]++eE fp s6.heap) σ7 H9 s9 ->
          L2.Inv (blk X (own++cn) s3 H2 scope cl (d::fp)) [] σ7 H9 s9/\tn (i+1) s9.heap/\(∀ b ∈ fp,H9 b=none)/\H9 d=none/\s9.heap.get? d=some { cls:=.type "list",data:=.seq its.toArray nn }:=fun {H9 s9} I9=>by
        have pd:=I9.pin (d,{ cls:=.type "list",data:=.seq its.toArray nn }) (by simp[blk])
        refine⟨I9.pins_of fun p hp=>absurd hp (by simp),T.keep _ _ _ st6 fun b hb o e=>(I9.pin (b,o) (List.mem_append_right _ (List.mem_append_right _ (fN hb e)))).1,fun b hb=>?_,pd.2.1,pd.1⟩
        obtain⟨o,e,_⟩:=T.obj _ _ st6 b hb
        exact (I9.pin (b,o) (List.mem_append_right _ (List.mem_append_right _ (fN hb e)))).2.1
      cases b with
      | false =>
        obtain⟨m',hm,w'⟩:=q8
        obtain⟨k1,k2,k3,k4,k5⟩:=fin I8
        exact⟨m',hm,i+1,ys,σ7,H8,its,nn,k1,k2,k3,k4,k5,r4,w'⟩
      | true =>
        refine thn (he s3 H2 cl (d::fp) _ s8 σ7 H8 _ I8 q8) fun v s9 ⟨y,H9,I9,r9,m',hm,w'⟩=>?_
        obtain⟨k1,k2,k3,k4,k5⟩:=fin I9
        have lv:=r4.length
        refine call_meets F.slot_list_append ⟨_,k5,rfl⟩ F.entry_list_append (F.args_list_append_2 _ _) (PySem.list_append d its.toArray nn v (by rw[List.size_toArray];omega)) ⟨k5,?_⟩
        have up:=PySem.IsL.update k5 (fun a=>a.push v)
        have ep:its.toArray.push v=(its++[v]).toArray:=by simp
        rw[ep] at up
        refine⟨m',hm,i+1,ys++[y],σ7,H9,its++[v],_,?_,?_,k3,k4,up,r4.append (.cons r9 .nil),w'⟩
        · exact k1.turned (it:=d) (fun b o hb e=>(Heap.get?_update_other s9.heap _ (Ne.symm hb)).trans e) k4 (dB (P:=[]) k4 (by simp)).2.1 (.inl List.mem_cons_self) (dB (P:=[]) k4 (by simp)).2.2.2.2.1 fun p hp=>absurd hp (by simp[blk])
        · exact T.keep _ _ _ k2 fun b hb o e=>(Heap.get?_update_other s9.heap _ (Ne.symm (dnf b hb))).trans e
  exact codeAny_compStart_list (loop _ rfl) (T.self X.A 0 _ _ _ (T.keep _ _ _ st fun b _ o e=>hk b o e) (loop _ rfl))
theorem kM(B:BlkOk X scope own caps cn)(hc:X.calm=true)(hi:PI X tg iter wi)(hg:∀ s H cl ex,PG (blk X (own++cn) s H scope cl ex) tg g)(ht:∀ s H cl ex,PTs (blk X (own++cn) s H scope cl ex) ifs tt)(he:∀ s H cl ex,PE (blk X (own++cn) s H scope cl ex) elt te){pins:List (Addr × Obj)}{s:Shared}{σ:St}{H:Hp}{Q:VK}(I:L2.Inv X pins σ H s)(h:kL own.length caps wi g tt te σ H Q){cl:List (Str × Addr)}(hcl:∀ x c,cl.lookup x=some c->X.env.cells.lookup x=some c)(hha:∀ x ∈ scope.names,x.2=.free->∃ c,cl.lookup x.1=some c){RR:Value->Addr->Result->Shared->Prop}(hRR:∀ d c ys H' s',After X pins σ H' d c ys s'->Q (.ref d) (upd H' d (.lst ys))->RR (.ref d) c (.ok .next) s'):
    wpAny (model X.prog X.w) X.A (eval iter X.env) (fun x s₁=>wpAny (model X.prog X.w) X.A (pyIter x) (fun it s₂=>wpAny (model X.prog X.w) X.A (newList []) (fun acc s₃ =>
      wpAny (model X.prog X.w) X.A (newFunctionEnv scope X.env.globals cl [] X.env.qual none .none (some X.env)) (fun cenv s₄ =>
        codeAny (model X.prog X.w) X.A (.compStart (.ListComp elt [⟨tg,iter,ifs,0⟩] scope pos) 0 it acc { cenv with scope:=relabel scope X.env }) (RR acc cenv.locals) s₄) X.xe s₃) X.xe s₂) X.xe s₁) X.xe s:=by
  refine thn (hi pins s σ H _ I h) fun x s1 h1=>thn h1 fun itv s2 h2=>?_
  obtain⟨it,fp,tn,J,H2,rfl,I2,T,st2,f2,W,⟨m0,w0⟩,turn⟩:=h2
  refine wpAny_newObj_type (wpAny_newFunctionEnv B.nocell (by intro y hy;simp at hy) (fun h₁ hns₁ hsb₁=>?_) B.kind)
  dsimp only at hns₁ hsb₁ ⊢
  generalize hd:s2.heap.objs.size=d at hns₁ hsb₁ ⊢
  have hfd:H2 d=none:=by rw[<- hd];exact I2.hok.fresh (Nat.le_refl _)
  have fpd:b9 X pins H2 d:=I2.fpOk (by rw[hd];exact Nat.le_refl _) hfd
  have fpl:∀ b ∈ fp,b < s2.heap.objs.size:=fun b hb=>by obtain⟨o,e,_⟩:=T.obj _ _ st2 b hb;exact Heap.lt_size e
  have dnf:∀ b ∈ fp,b ≠ d:=fun b hb e=>absurd (fpl b hb) (by rw[e,hd];exact Nat.lt_irrefl _)
  have I3:L2.Inv X pins σ H2 { s2 with heap:=s2.heap.push { cls:=.type "list",dict:=none,data:=.seq ([]:List Value).toArray } }:=I2.kept (t':=s2.toks) fun b o e=>Heap.get?_push_of_some _ e
  exact sB (s3:={ s2 with heap:=s2.heap.push { cls:=.type "list",dict:=none,data:=.seq ([]:List Value).toArray } }) B hc hg ht he I3 hcl hha T (T.keep _ _ _ st2 fun b _ o e=>Heap.get?_push_of_some _ e) f2 fpd (by rw[<- hd];exact I2.sz) dnf
    (by rw[<- hd];exact Heap.get?_push_size _ rfl) w0 turn hns₁ (fun b o e=>hsb₁.extBut b o (Nat.ne_of_lt (Heap.lt_size e)) (Heap.get?_push_of_some _ e)) hRR
end
end VL
namespace VL
open PySem PySem.Spec PyProof.Rows L2
structure PostI (K:PySem.W.Frag) (σ:St) (ρ:ab) (H:Hp) (es:List Es) (ds:List D) (J:It) (H1:Hp):Prop where
  same:Same H H1
  go:∀ (i:Nat) (d:D) (H':Hp),ds[i]?=some d->Same H1 H'->J.go i H'/\∀ x H'',J.yld i H' x H''->Same H' H''/\Rep K H'' x d/\∀ A,Dom H A->(∀ e ∈ es,Av K H σ ρ A e)->Rep K (ae H'' A) x d
  stop:∀ H',Same H1 H'->J.stop ds.length H'
def tvI(K:PySem.W.Frag)(f:FEs)(es:List Es):TI:=fun σ H R=>∃ ρ ds,EnvR K H σ ρ/\f ρ=some ds/\∀ J H1,PostI K σ ρ H es ds J H1->R J H1
abbrev VI(X:Cx)(tg iter:Expr)(f:FEs)(es:List Es):Prop:=PI X tg iter (tvI X.K f es)
theorem gb{X:Cx}{tg e:Expr}{t t':TI}(h:PI X tg e t)(i:∀ σ H R,t' σ H R->t σ H R):PI X tg e t':=fun pins s σ H R I q=>h pins s σ H R I (i σ H R q)
section
variable {X:Cx} {tg iter a b:Expr} {fa fi:FE} {as:FEs} {es ea ei:List Es} {pr pn:Pos}
def da(f:FE):FEs:=fun ρ=>(f ρ).bind fun d=>if br d=true then none else items d
theorem sC(h:VB X iter fi ei):VI X tg iter (da fi) ei:=gb (fM h) fun σ H R ⟨ρ,ds,hE,hf,hR⟩=>by
  obtain⟨d,h1,hf⟩:=bind_some hf
  cases ht:br d with
  | true=>rw[if_pos ht] at hf;cases hf
  | false =>
    rw[if_neg (by rw[ht];exact Bool.false_ne_true)] at hf
    refine⟨ρ,d,hE,h1,fun v H1 p=>?_⟩
    obtain⟨q,xs,rfl,hq,hx,hA⟩:=cw p.rep hf ht
    have len:=hx.length
    refine⟨q,rfl,⟨xs,hq⟩,hR _ _ ⟨p.same,fun i d' H' hd e=>?_,fun H' e=>⟨xs,e.seq hq,by omega⟩⟩⟩
    obtain⟨x,h2,h3⟩:=hx.get hd
    refine⟨⟨xs,x,e.seq hq,h2⟩,fun y H'' ⟨eq,hy⟩=>?_⟩
    subst eq
    have e2:=hy xs (e.seq hq)
    rw[h2] at e2;cases e2
    refine⟨Same.refl _,ao e h3,fun A hD hz=>?_⟩
    obtain⟨x',h4,h5⟩:=(hA A (p.av A hD hz)).get hd
    rw[h2] at h4;cases h4
    exact ao (aM e) h5
theorem sD{K:PySem.W.Frag}{σ:St}{ρ:ab}{H H1:Hp}{lo:Int}{n:Nat}(e:Same H H1):PostI K σ ρ H [] (bi lo n) (Itr lo n) H1:=by
  refine⟨e,fun i d H' hd _=>?_,fun H' _=>?_⟩
  · have hi:i < n:=by
      have:=(List.getElem?_eq_some_iff.mp hd).1
      simpa [bi] using this
    have ed:d=.int (lo+i):=by
      have:=(List.getElem?_eq_some_iff.mp hd).2
      rw[<- this];simp[bi]
    subst ed
    refine⟨hi,fun x H'' ⟨e1,e2⟩=>?_⟩
    subst e1 e2
    exact⟨Same.refl _,.int _,fun A _ _=>.int _⟩
  · show n<=(bi lo n).length
    simp[bi]
def iR1(as:FEs):FEs:=fun ρ=>(as ρ).bind fun ds=>match ds with
  | [.int j]=>if okR j then some (bi 0 j.toNat) else none
  | _=>none
theorem sE(mr:X.mg "range" = none)(hi:VA X [a] as ei)(hg:Gl X "range":=by rfl)(hst:starEach [a] X.env=[(false,eval a X.env)]:=by rfl):VI X tg (.Call (.Name "range" pn) [a] [] pr) (iR1 as) [] :=
  gb (gT hg mr hi hst) fun σ H R ⟨ρ,ds,hE,hf,hR⟩=>by
    obtain⟨vs,h1,hf⟩:=bind_some hf
    refine⟨ρ,vs,hE,h1,fun xs H1 p=>?_⟩
    match vs,hf,p with
    | [.int j],hf,p =>
      obtain⟨hj,rfl⟩:=bq hf
      obtain⟨v,rfl,r⟩:=eS p.rep
      cases r
      exact⟨j,rfl,hj.1,hj.2,hR _ _ (sD p.same)⟩
end
def aA{α:Type}(σ:List (Option α))(is:List Nat)(xs:List α):List (Option α):=(is.zip xs).foldl (fun r p=>r.set p.1 (some p.2)) σ
structure TgV (K:PySem.W.Frag) (g:TG) (is:List Nat) (un:D->Option (List D)):Prop where
  ok:∀ (x:V) (σ:St) (H:Hp) (Q:St->Hp->Prop) (d:D) (ds:List D),Rep K H x d->un d=some ds->(∀ xs:List V,Reps K H xs ds->(∀ A,Rep K (ae H A) x d->Reps K (ae H A) xs ds)->Q (aA σ is xs) H)->g x σ H Q
  len:∀ d ds,un d=some ds->ds.length=is.length
def un1(d:D):Option (List D):=some [d]
theorem gc{K:PySem.W.Frag}(t:Nat):TgV K (bI t) [t] un1 where
  ok:=fun x σ H Q d ds r hd h=>by
    cases hd
    exact h [x] (.cons r .nil) fun A r'=>.cons r' .nil
  len:=fun d ds h=>by cases h;rfl
def unT(n:Nat):D->Option (List D)
  | .tup ds=>if ds.length=n then some ds else none
  | _=>none
theorem kN{Q:St->Hp->Prop}{H:Hp}:∀ {is:List Nat} {xs:List V} {σ:St},is.length=xs.length->Q (aA σ is xs) H->dO is xs σ H Q
  | [],[],_,_,h=>⟨rfl,h⟩
  | [],_::_,_,h,_=>by cases h
  | _::_,[],_,h,_=>by cases h
  | i::is,x::xs,σ,hl,h=>⟨x,xs,rfl,kN (σ:=σ.set i (some x)) (by simpa using hl) h⟩
theorem gd{K:PySem.W.Frag}(is:List Nat):TgV K (gQ K is.length (dO is)) is (unT is.length) where
  ok:=fun x σ H Q d ds r hd h=>by
    cases d with
    | tup es =>
      obtain⟨hl,rfl⟩:=bq hd
      obtain⟨p,xs,rfl,hp,hx⟩:=kH r
      have len:=hx.length
      exact⟨p,xs,rfl,.inl hp,by omega,kN (by omega) (h xs hx fun A r'=>sg hp r')⟩
    | _=>cases hd
  len:=fun d ds h=>by
    cases d with
    | tup es=>obtain⟨hl,rfl⟩:=bq h;exact hl
    | _=>cases h
def aN(nown:Nat)(caps:List Nat)(ρ:ab):ab:=List.replicate nown none++caps.map fun j=>(ρ[j]?).getD none
theorem ge{P:Nat->V->D->Prop}:∀ {is:List Nat} {xs:List V} {ds:List D} {σ:St} {ρ:ab},σ.length=ρ.length->xs.length=ds.length->(∀ (j:Nat) v d,σ[j]?=some (some v)->ρ[j]?=some (some d)->P j v d) ->
    (∀ (k:Nat) j v d,is[k]?=some j->xs[k]?=some v->ds[k]?=some d->P j v d)->∀ (j:Nat) v d,(aA σ is xs)[j]?=some (some v)->(aA ρ is ds)[j]?=some (some d)->P j v d
  | [],_,_,_,_,_,_,h0,_=>by simpa [aA] using h0
  | i::is,[],[],_,_,_,_,h0,_=>by simpa [aA] using h0
  | i::is,[],_::_,_,_,_,h,_,_=>by cases h
  | i::is,_::_,[],_,_,_,h,_,_=>by cases h
  | i :: is,x::xs,d::ds,σ,ρ,hl,hx,h0,h1=>by
    refine ge (is:=is) (xs:=xs) (ds:=ds) (σ:=σ.set i (some x)) (ρ:=ρ.set i (some d)) (by simpa using hl) (by simpa using hx) (fun j v d' e1 e2=>?_) fun k j v d' a1 a2 a3=>h1 (k+1) j v d' (by simpa using a1) (by simpa using a2) (by simpa using a3)
    by_cases hj:j=i
    · subst hj
      have l1:j < σ.length:=by have:=(List.getElem?_eq_some_iff.mp e1).1;simpa using this
      rw[List.getElem?_set_self l1] at e1
      rw[List.getElem?_set_self (by omega)] at e2
      cases e1;cases e2
      exact h1 0 j x d rfl rfl rfl
    · rw[List.getElem?_set_ne (Ne.symm hj)] at e1 e2
      exact h0 j v d' e1 e2
theorem kO{α β:Type}:∀ {is:List Nat} {xs:List α} {ds:List β} {σ:List (Option α)} {ρ:List (Option β)},σ.length=ρ.length->xs.length=ds.length->(∀ (j:Nat) d,ρ[j]?=some (some d)->∃ v,σ[j]?=some (some v)) ->
    ∀ (j:Nat) d,(aA ρ is ds)[j]?=some (some d)->∃ v,(aA σ is xs)[j]?=some (some v)
  | [],_,_,_,_,_,_,h0=>by simpa [aA] using h0
  | i::is,[],[],_,_,_,_,h0=>by simpa [aA] using h0
  | i::is,[],_::_,_,_,_,h,_=>by cases h
  | i::is,_::_,[],_,_,_,h,_=>by cases h
  | i :: is,x::xs,d::ds,σ,ρ,hl,hx,h0=>by
    refine kO (is:=is) (xs:=xs) (ds:=ds) (σ:=σ.set i (some x)) (ρ:=ρ.set i (some d)) (by simpa using hl) (by simpa using hx) fun j d' e2=>?_
    by_cases hj:j=i
    · subst hj
      have l1:j < ρ.length:=by have:=(List.getElem?_eq_some_iff.mp e2).1;simpa using this
      exact⟨x,List.getElem?_set_self (by omega)⟩
    · rw[List.getElem?_set_ne (Ne.symm hj)] at e2 ⊢
      exact h0 j d' e2
theorem kP{α:Type}:∀ {is:List Nat} {xs:List α} {σ:List (Option α)},(aA σ is xs).length=σ.length
  | [],_,_=>by simp[aA]
  | _::_,[],_=>by simp[aA]
  | i::is,x::xs,σ=>by
    have:=kP (is:=is) (xs:=xs) (σ:=σ.set i (some x))
    simpa [aA] using this
theorem kQ{α:Type}{n:Nat}:∀ {is:List Nat} {xs:List α} {σ:List (Option α)},(∀ i ∈ is,i < n)->∀ j,n<=j->(aA σ is xs)[j]?=σ[j]?
  | [],_,_,_,_,_=>by simp[aA]
  | _::_,[],_,_,_,_=>by simp[aA]
  | i::is,x::xs,σ,h,j,hj=>by
    have:=kQ (is:=is) (xs:=xs) (σ:=σ.set i (some x)) (fun k hk=>h k (List.mem_cons_of_mem _ hk)) j hj
    have hi:=h i List.mem_cons_self
    rw[List.getElem?_set_ne (by omega)] at this
    simpa [aA] using this
def esC(nown:Nat)(caps:List Nat)(ei:List Es):List Es->List Es
  | []=>[]
  | .full j::r=>(if j < nown then ei else [.full (caps.getD (j - nown) 0)])++esC nown caps ei r
  | .el j::r=>(if j < nown then ei else [.el (caps.getD (j - nown) 0)])++esC nown caps ei r
theorem gf{nown:Nat}{caps:List Nat}{ei:List Es}:∀ {ee:List Es} {e:Es},e ∈ ee->(∀ j,e=.full j\/e=.el j->j < nown)->∀ z ∈ ei,z ∈ esC nown caps ei ee
  | .full j::r,e,he,hj,z,hz=>by
    rcases List.mem_cons.mp he with q | q
    · have:=hj j (.inl q)
      show z ∈ (if j < nown then ei else _)++_
      rw[if_pos this];exact List.mem_append_left _ hz
    · exact List.mem_append_right _ (gf q hj z hz)
  | .el j::r,e,he,hj,z,hz=>by
    rcases List.mem_cons.mp he with q | q
    · have:=hj j (.inr q)
      show z ∈ (if j < nown then ei else _)++_
      rw[if_pos this];exact List.mem_append_left _ hz
    · exact List.mem_append_right _ (gf q hj z hz)
theorem ir{nown:Nat}{caps:List Nat}{ei:List Es}{j:Nat}(hj:¬ j < nown):∀ {ee:List Es},Es.full j ∈ ee->Es.full (caps.getD (j - nown) 0) ∈ esC nown caps ei ee
  | .full k::r,he=>by
    rcases List.mem_cons.mp he with q | q
    · cases q
      show _ ∈ (if j < nown then ei else _)++_
      rw[if_neg hj];exact List.mem_append_left _ List.mem_cons_self
    · exact List.mem_append_right _ (ir hj q)
  | .el k::r,he=>by
    rcases List.mem_cons.mp he with q | q
    · cases q
    · exact List.mem_append_right _ (ir hj q)
theorem iu{nown:Nat}{caps:List Nat}{ei:List Es}{j:Nat}(hj:¬ j < nown):∀ {ee:List Es},Es.el j ∈ ee->Es.el (caps.getD (j - nown) 0) ∈ esC nown caps ei ee
  | .full k::r,he=>by
    rcases List.mem_cons.mp he with q | q
    · cases q
    · exact List.mem_append_right _ (iu hj q)
  | .el k::r,he=>by
    rcases List.mem_cons.mp he with q | q
    · cases q
      show _ ∈ (if j < nown then ei else _)++_
      rw[if_neg hj];exact List.mem_append_left _ List.mem_cons_self
    · exact List.mem_append_right _ (iu hj q)
def bN(g:D->Option (Option D)):List D->Option (List D)
  | []=>some []
  | x::r=>(g x).bind fun o=>(bN g r).bind fun ds=>some (match o with | some d=>d::ds | none=>ds)
def cc(is:List Nat)(un:D->Option (List D))(c:ab->Option Bool)(fe:FE)(ρ:ab):D->Option (Option D):=fun d=>(un d).bind fun ds=>(c (aA ρ is ds)).bind fun b=>if b=true then (fe (aA ρ is ds)).map some else some none
def aV(nown:Nat)(caps:List Nat)(is:List Nat)(un:D->Option (List D))(fi:FEs)(c:ab->Option Bool)(fe:FE):FE:=fun ρ=>(fi ρ).bind fun ds=>if ds.length < 100000 then (bN (cc is un c fe (aN nown caps ρ)) ds).map .lst else none
def bt:ab->Option Bool:=fun _=>some true
theorem kR{K:PySem.W.Frag}{nown:Nat}{caps is:List Nat}{un:D->Option (List D)}{fi:FEs}{ei ee:List Es}{g:TG}{c:ab->Option Bool}{fe:FE}(hg:TgV K g is un)(his:∀ i ∈ is,i < nown){σ:St}{H:Hp}{Q:VK}(h:tvF K (aV nown caps is un fi c fe) (esC nown caps ei ee) σ H Q):kL nown caps (tvI K fi ei) g (tvT K c) (tv K fe ee) σ H Q:=by
  obtain⟨ρ,dd,hE,hf,hQ⟩:=h
  obtain⟨ds,h1,hf⟩:=bind_some hf
  by_cases hl:ds.length < 100000
  · rw[if_pos hl] at hf
    cases htot:bN (cc is un c fe (aN nown caps ρ)) ds with
    | none=>rw[htot] at hf;cases hf
    | some tot =>
      rw[htot] at hf
      cases hf
      refine⟨ρ,ds,hE,h1,fun J H1 p=>?_⟩
      refine⟨fun i m ys σb H2=>m=ds.length - i/\i<=ds.length/\Same H1 H2/\(σb.length=nown+caps.length/\∀ k,nown<=k->σb[k]?=(bQ σ caps)[k - nown]?) /\
        ∃ done ak,bN (cc is un c fe (aN nown caps ρ)) (ds.drop i)=some ak/\tot=done++ak/\done.length<=i/\Reps K H2 ys done/\∀ A,Dom H A->(∀ e ∈ esC nown caps ei ee,Av K H σ ρ A e)->Reps K (ae H2 A) ys done,?_,?_⟩
      · refine⟨ds.length,by simp,Nat.zero_le _,Same.refl _,⟨by simp[bQ],fun k hk=>?_⟩,[],tot,by simpa using htot,rfl,Nat.le_refl _,.nil,fun _ _ _=>.nil⟩
        rw[List.getElem?_append_right (by simpa using hk)]
        simp
      · rintro i m ys σb H2 ⟨rfl,hi,e2,⟨hlen,hcap⟩,done,ak,hgo,htot',hdl,hr,hA⟩
        have lys:=hr.length
        refine⟨Nat.lt_of_lt_of_le (show ys.length < 100000 by omega) (by decide),?_⟩
        by_cases hlt:i < ds.length
        · obtain⟨d,hd⟩:∃ d,ds[i]?=some d:=⟨ds[i],by simp[hlt]⟩
          have ed:ds.drop i=d::ds.drop (i+1):=by
            rw[List.drop_eq_getElem_cons hlt]
            have q:=(List.getElem?_eq_some_iff.mp hd).2
            rw[q]
          rw[ed] at hgo
          obtain⟨o,ho,hgo⟩:=bind_some hgo
          obtain⟨rest',hgo',hgo⟩:=bind_some hgo
          cases hgo
          obtain⟨ts,hun,ho⟩:=bind_some ho
          obtain⟨b,hb,ho⟩:=bind_some ho
          obtain⟨jg,jy⟩:=p.go i d H2 hd e2
          refine .inr ⟨jg,fun x H3 y=>?_⟩
          obtain⟨e3,rx,ax⟩:=jy x H3 y
          refine hg.ok x σb H3 _ d ts rx hun fun xs rxs axs=>?_
          have e13:Same H H3:=(p.same.trans e2).trans e3
          have lx:=rxs.length
          have lts:=hg.len d ts hun
          have lb:σb.length=(aN nown caps ρ).length:=by rw[hlen];simp[aN]
          have base:∀ (j:Nat) v d',σb[j]?=some (some v)->(aN nown caps ρ)[j]?=some (some d')->¬ j < nown/\∃ k,caps[j - nown]?=some k/\σ[k]?=some (some v)/\ρ[k]?=some (some d'):=fun j v d' q1 q2=>by
            by_cases hj:j < nown
            · unfold aN at q2
              rw[List.getElem?_append_left (by simpa using hj),List.getElem?_replicate,if_pos hj] at q2
              cases q2
            · rw[hcap j (by omega)] at q1
              unfold aN at q2
              rw[List.getElem?_append_right (by simp;omega)] at q2
              simp only[List.length_replicate,List.getElem?_map] at q2
              unfold bQ at q1
              rw[List.getElem?_map] at q1
              cases hk:caps[j - nown]? with
              | none=>rw[hk] at q1;cases q1
              | some k =>
                rw[hk] at q1 q2
                refine⟨hj,k,rfl,?_,?_⟩
                · simp only[Option.map_some,Option.some.injEq] at q1
                  cases e:σ[k]? with
                  | none=>rw[e] at q1;cases q1
                  | some o'=>rw[e] at q1;simp only[Option.getD_some] at q1;rw[q1]
                · simp only[Option.map_some,Option.some.injEq] at q2
                  cases e:ρ[k]? with
                  | none=>rw[e] at q2;cases q2
                  | some o'=>rw[e] at q2;simp only[Option.getD_some] at q2;rw[q2]
          have hE':EnvR K H3 (aA σb is xs) (aA (aN nown caps ρ) is ts):=fun j d' q=>by
            obtain⟨v,hv⟩:=kO lb lx (fun j' d'' q'=>by
              by_cases hj:j' < nown
              · unfold aN at q'
                rw[List.getElem?_append_left (by simpa using hj),List.getElem?_replicate,if_pos hj] at q'
                cases q'
              · have q0:=q'
                unfold aN at q'
                rw[List.getElem?_append_right (by simp;omega)] at q'
                simp only[List.length_replicate,List.getElem?_map] at q'
                cases hk:caps[j' - nown]? with
                | none=>rw[hk] at q';cases q'
                | some k =>
                  rw[hk] at q'
                  simp only[Option.map_some,Option.some.injEq] at q'
                  cases e:ρ[k]? with
                  | none=>rw[e] at q';cases q'
                  | some o' =>
                    rw[e] at q'
                    simp only[Option.getD_some] at q'
                    subst q'
                    obtain⟨v,hv,_⟩:=hE k d'' e
                    refine⟨v,?_⟩
                    rw[hcap j' (by omega)]
                    unfold bQ
                    rw[List.getElem?_map,hk]
                    simp[hv]) j d' q
            refine⟨v,hv,ge (P:=fun _ v d=>Rep K H3 v d) lb lx (fun j v d' q1 q2=>?_) (fun k j v d' a1 a2 a3=>?_) j v d' hv q⟩
            · obtain⟨_,k,_,k1,k2⟩:=base j v d' q1 q2
              obtain⟨v',k3,k4⟩:=hE k d' k2
              rw[k1] at k3;cases k3
              exact ao e13 k4
            · obtain⟨v',k3,k4⟩:=rxs.get a3
              rw[a2] at k3;cases k3
              exact k4
          have av:∀ A,Dom H A->(∀ e ∈ esC nown caps ei ee,Av K H σ ρ A e)->∀ H5,Same H3 H5->∀ e ∈ ee,Av K H5 (aA σb is xs) (aA (aN nown caps ρ) is ts) A e:=fun A hD hz H5 e5 e he=>by
            have item:(∀ z ∈ ei,z ∈ esC nown caps ei ee)->Reps K (ae H3 A) xs ts:=fun hsub=>axs A (ax A hD fun z hz'=>hz z (hsub z hz'))
            refine Av.mono e5 ?_
            cases e with
            | full j0 =>
              intro v d' q1 q2
              refine ge (P:=fun j v d=>j=j0->Rep K (ae H3 A) v d) lb lx (fun j v d' q3 q4 ej=>?_) (fun k j v d' a1 a2 a3 ej=>?_) j0 v d' q1 q2 rfl
              · rw[<- ej] at he
                obtain⟨hj,k,hk,k1,k2⟩:=base j v d' q3 q4
                have:=hz _ (ir hj he)
                rw[List.getD_eq_getElem?_getD,hk] at this
                exact ao (aM e13) (this v d' k1 k2)
              · rw[<- ej] at he
                have hj:=his j (List.mem_of_getElem? a1)
                obtain⟨v',k3,k4⟩:=(item (gf he fun j' hj'=>by rcases hj' with q | q <;> cases q;exact hj)).get a3
                rw[a2] at k3;cases k3
                exact k4
            | el j0 =>
              intro v d' q1 q2
              refine ge (P:=fun j v d=>j=j0->ElR K H3 A v d) lb lx (fun j v d' q3 q4 ej=>?_) (fun k j v d' a1 a2 a3 ej=>?_) j0 v d' q1 q2 rfl
              · rw[<- ej] at he
                obtain⟨hj,k,hk,k1,k2⟩:=base j v d' q3 q4
                have:=hz _ (iu hj he)
                rw[List.getD_eq_getElem?_getD,hk] at this
                exact (this v d' k1 k2).mono e13
              · rw[<- ej] at he
                have hj:=his j (List.mem_of_getElem? a1)
                obtain⟨v',k3,k4⟩:=(item (gf he fun j' hj'=>by rcases hj' with q | q <;> cases q;exact hj)).get a3
                rw[a2] at k3;cases k3
                exact k4.el
          have shape:(aA σb is xs).length=nown+caps.length/\∀ k,nown<=k->(aA σb is xs)[k]?=(bQ σ caps)[k - nown]?:=⟨by rw[kP];exact hlen,fun k hk=>by rw[kQ his k hk];exact hcap k hk⟩
          refine⟨_,b,hE',hb,fun H5 e5=>?_⟩
          have e25:Same H2 H5:=e3.trans e5
          cases b with
          | false =>
            cases ho
            refine fP ⟨ds.length - (i+1),by omega,rfl,hlt,e2.trans e25,shape,done,rest',hgo',htot',by omega,aC e25 hr,fun A hD hz=>aC (aM e25) (hA A hD hz)⟩
          | true =>
            have ho':(fe (aA (aN nown caps ρ) is ts)).map some=some o:=ho
            cases hfe:fe (aA (aN nown caps ρ) is ts) with
            | none=>rw[hfe] at ho';cases ho'
            | some dv =>
              rw[hfe] at ho'
              cases ho'
              refine fQ ⟨_,dv,hE'.mono e5,hfe,fun v H6 p6=>?_⟩
              have e26:Same H2 H6:=e25.trans p6.same
              refine⟨ds.length - (i+1),by omega,rfl,hlt,e2.trans e26,shape,done++[dv],rest',hgo',by rw[htot'];simp,by simp;omega,(aC e26 hr).append (.cons p6.rep .nil),fun A hD hz=>?_⟩
              exact (aC (aM e26) (hA A hD hz)).append (.cons (p6.av A (hD.mono (e13.trans e5)) (av A hD hz H5 e5)) .nil)
        · have ei':i=ds.length:=by omega
          subst ei'
          rw[List.drop_length] at hgo
          cases hgo
          rw[List.append_nil] at htot'
          subst htot'
          exact .inl ⟨p.stop H2 e2,fun d hd=>hQ _ _ (eQ (p.same.trans e2) hd fun A hD hz=>hA A hD hz)⟩
  · rw[if_neg hl] at hf;cases hf
end VL
namespace VL
open PySem PySem.Spec PyProof.Rows L2
def b2z(b:Bool):Int:=if b then 1 else 0
def db:D->D->Bool
  | .non,.non=>true
  | .bl a,.bl b=>a == b
  | .int i,.int j=>i == j
  | .str x,.str y=>x == y
  | .bl a,.int j=>b2z a == j
  | .int i,.bl b=>i == b2z b
  | _,_=>false
def az:Nat->D->D->Bool
  | k+1,.lst xs,.lst ys=>xs.length == ys.length && (xs.zip ys).all fun p=>az k p.1 p.2
  | k+1,.tup xs,.tup ys=>xs.length == ys.length && (xs.zip ys).all fun p=>az k p.1 p.2
  | _,d,e=>db d e
def aB:Nat->D->Bool
  | _,.scr _=>false
  | _,.dct _ _=>false
  | _,.ptr _=>false
  | 0,.lst _=>false
  | 0,.tup _=>false
  | k+1,.lst xs=>xs.all (aB k)
  | k+1,.tup xs=>xs.all (aB k)
  | _,_=>true
structure Cmp3 (A:Around) (s:Shared) (v u:Value) (b:Bool):Prop where
  eq:SeqAt.EqAt A s v u b
  rc:SeqAt.RcAt A s v u b
  ne:SeqAt.RcNeAt A s v u (!b)
theorem iw(f:D->D->Bool):∀ (xs ys:List D),xs.length=ys.length ->
    (List.range xs.length).all (fun j=>match xs[j]?,ys[j]? with | some a,some b=>f a b | _,_=>false)=(xs.zip ys).all fun p=>f p.1 p.2
  | [],[],_=>rfl
  | [],_::_,h=>by cases h
  | _::_,[],h=>by cases h
  | x::xs,y::ys,h=>by
    have ih:=iw f xs ys (by simpa using h)
    rw[List.length_cons,List.range_succ_eq_map,List.all_cons,List.all_map,List.zip_cons_cons,List.all_cons,<- ih]
    simp[Function.comp_def]
def iy:D->Bool
  | .scr _=>true
  | .dct _ _=>true
  | .ptr _=>true
  | _=>false
def gg:D->D->Bool
  | .lst _,.lst _=>true
  | .tup _,.tup _=>true
  | _,_=>false
theorem kS{X:Cx}{pins:List (Addr × Obj)}{σ:St}{H:Hp}{s:Shared}(I:L2.Inv X pins σ H s)(A:Around)(v u:V)(vv uu:Value)(d e:D)(hu:A.units < cLine)(nd:iy d=false)(ne:iy e=false)(nl:gg d e=false)(rd:Rep X.K H v d)(re:Rep X.K H u e)(rv:RelV v vv)(ru:RelV u uu):Cmp3 A s vv uu (db d e):=by
  cases rd with
  | scr _=>cases nd
  | dct _=>cases nd
  | ptr _=>cases nd
  | non =>
    cases rv
    cases re with
    | scr _=>cases ne
    | dct _=>cases ne
    | ptr _=>cases ne
    | non =>
      cases ru
      exact⟨.same _,.none_none,.none_none⟩
    | bl b2 =>
      cases ru
      exact⟨.none_bool b2,.none_bool b2,.none_bool b2⟩
    | int i2 =>
      obtain⟨t2,rfl⟩:=ru
      exact⟨.none_int i2 t2,.none_int i2 t2,.none_int i2 t2⟩
    | str x2 =>
      obtain⟨t2,rfl⟩:=ru
      exact⟨.none_str x2 t2,.none_str x2 t2,.none_str x2 t2⟩
    | @lst p2 xs2 ds2 h2 r2 =>
      cases ru;obtain⟨its2,q2,pl2,z2⟩:=I.list (.inl h2);have l2:=pl2.isList
      exact⟨.none_list l2 hu,.none_list l2 hu,.none_list l2 hu⟩
    | @tup p2 xs2 ds2 h2 r2 =>
      have h2:=bK h2
      cases ru;obtain⟨its2,q2,l2,z2⟩:=I.tuple (.inl h2)
      exact⟨.none_tuple l2 hu,.none_tuple l2 hu,.none_tuple l2 hu⟩
  | bl b1 =>
    cases rv
    cases re with
    | scr _=>cases ne
    | dct _=>cases ne
    | ptr _=>cases ne
    | non =>
      cases ru
      exact⟨.bool_none b1,.bool_none b1,.bool_none b1⟩
    | bl b2 =>
      cases ru
      exact⟨.bool_bool b1 b2,.bool_bool b1 b2,.bool_bool b1 b2⟩
    | int i2 =>
      obtain⟨t2,rfl⟩:=ru
      exact⟨.bool_int b1 i2 t2,.bool_int b1 i2 t2,.bool_int b1 i2 t2⟩
    | str x2 =>
      obtain⟨t2,rfl⟩:=ru
      exact⟨.bool_str b1 x2 t2,.bool_str b1 x2 t2,.bool_str b1 x2 t2⟩
    | @lst p2 xs2 ds2 h2 r2 =>
      cases ru;obtain⟨its2,q2,pl2,z2⟩:=I.list (.inl h2);have l2:=pl2.isList
      exact⟨.bool_list b1 l2 hu,.bool_list b1 l2 hu,.bool_list b1 l2 hu⟩
    | @tup p2 xs2 ds2 h2 r2 =>
      have h2:=bK h2
      cases ru;obtain⟨its2,q2,l2,z2⟩:=I.tuple (.inl h2)
      exact⟨.bool_tuple b1 l2 hu,.bool_tuple b1 l2 hu,.bool_tuple b1 l2 hu⟩
  | int i1 =>
    obtain⟨t1,rfl⟩:=rv
    cases re with
    | scr _=>cases ne
    | dct _=>cases ne
    | ptr _=>cases ne
    | non =>
      cases ru
      exact⟨.int_none i1 t1,.int_none i1 t1,.int_none i1 t1⟩
    | bl b2 =>
      cases ru
      exact⟨.int_bool i1 t1 b2,.int_bool i1 t1 b2,.int_bool i1 t1 b2⟩
    | int i2 =>
      obtain⟨t2,rfl⟩:=ru
      exact⟨.int_int i1 t1 i2 t2,.int_int i1 t1 i2 t2,.int_int i1 t1 i2 t2⟩
    | str x2 =>
      obtain⟨t2,rfl⟩:=ru
      exact⟨.int_str i1 t1 x2 t2,.int_str i1 t1 x2 t2,.int_str i1 t1 x2 t2⟩
    | @lst p2 xs2 ds2 h2 r2 =>
      cases ru;obtain⟨its2,q2,pl2,z2⟩:=I.list (.inl h2);have l2:=pl2.isList
      exact⟨.int_list i1 t1 l2 hu,.int_list i1 t1 l2 hu,.int_list i1 t1 l2 hu⟩
    | @tup p2 xs2 ds2 h2 r2 =>
      have h2:=bK h2
      cases ru;obtain⟨its2,q2,l2,z2⟩:=I.tuple (.inl h2)
      exact⟨.int_tuple i1 t1 l2 hu,.int_tuple i1 t1 l2 hu,.int_tuple i1 t1 l2 hu⟩
  | str x1 =>
    obtain⟨t1,rfl⟩:=rv
    cases re with
    | scr _=>cases ne
    | dct _=>cases ne
    | ptr _=>cases ne
    | non =>
      cases ru
      exact⟨.str_none x1 t1,.str_none x1 t1,.str_none x1 t1⟩
    | bl b2 =>
      cases ru
      exact⟨.str_bool x1 t1 b2,.str_bool x1 t1 b2,.str_bool x1 t1 b2⟩
    | int i2 =>
      obtain⟨t2,rfl⟩:=ru
      exact⟨.str_int x1 t1 i2 t2,.str_int x1 t1 i2 t2,.str_int x1 t1 i2 t2⟩
    | str x2 =>
      obtain⟨t2,rfl⟩:=ru
      exact⟨.str_str x1 t1 x2 t2,.str_str x1 t1 x2 t2,.str_str x1 t1 x2 t2⟩
    | @lst p2 xs2 ds2 h2 r2 =>
      cases ru;obtain⟨its2,q2,pl2,z2⟩:=I.list (.inl h2);have l2:=pl2.isList
      exact⟨.str_list x1 t1 l2 hu,.str_list x1 t1 l2 hu,.str_list x1 t1 l2 hu⟩
    | @tup p2 xs2 ds2 h2 r2 =>
      have h2:=bK h2
      cases ru;obtain⟨its2,q2,l2,z2⟩:=I.tuple (.inl h2)
      exact⟨.str_tuple x1 t1 l2 hu,.str_tuple x1 t1 l2 hu,.str_tuple x1 t1 l2 hu⟩
  | @lst p1 xs1 ds1 h1 r1 =>
    cases rv;obtain⟨its1,q1,pl1,z1⟩:=I.list (.inl h1);have l1:=pl1.isList
    cases re with
    | scr _=>cases ne
    | dct _=>cases ne
    | ptr _=>cases ne
    | non =>
      cases ru
      exact⟨.list_none l1 hu,.list_none l1 hu,.list_none l1 hu⟩
    | bl b2 =>
      cases ru
      exact⟨.list_bool b2 l1 hu,.list_bool b2 l1 hu,.list_bool b2 l1 hu⟩
    | int i2 =>
      obtain⟨t2,rfl⟩:=ru
      exact⟨.list_int i2 t2 l1 hu,.list_int i2 t2 l1 hu,.list_int i2 t2 l1 hu⟩
    | str x2 =>
      obtain⟨t2,rfl⟩:=ru
      exact⟨.list_str x2 t2 l1 hu,.list_str x2 t2 l1 hu,.list_str x2 t2 l1 hu⟩
    | lst _ _=>cases nl
    | @tup p2 xs2 ds2 h2 r2 =>
      have h2:=bK h2
      cases ru;obtain⟨its2,q2,l2,z2⟩:=I.tuple (.inl h2)
      exact⟨.list_tuple l1 l2 hu,.list_tuple l1 l2 hu,.list_tuple l1 l2 hu⟩
  | @tup p1 xs1 ds1 h1 r1 =>
    have h1:=bK h1
    cases rv;obtain⟨its1,q1,l1,z1⟩:=I.tuple (.inl h1)
    cases re with
    | scr _=>cases ne
    | dct _=>cases ne
    | ptr _=>cases ne
    | non =>
      cases ru
      exact⟨.tuple_none l1 hu,.tuple_none l1 hu,.tuple_none l1 hu⟩
    | bl b2 =>
      cases ru
      exact⟨.tuple_bool b2 l1 hu,.tuple_bool b2 l1 hu,.tuple_bool b2 l1 hu⟩
    | int i2 =>
      obtain⟨t2,rfl⟩:=ru
      exact⟨.tuple_int i2 t2 l1 hu,.tuple_int i2 t2 l1 hu,.tuple_int i2 t2 l1 hu⟩
    | str x2 =>
      obtain⟨t2,rfl⟩:=ru
      exact⟨.tuple_str x2 t2 l1 hu,.tuple_str x2 t2 l1 hu,.tuple_str x2 t2 l1 hu⟩
    | @lst p2 xs2 ds2 h2 r2 =>
      cases ru;obtain⟨its2,q2,pl2,z2⟩:=I.list (.inl h2);have l2:=pl2.isList
      exact⟨.tuple_list l1 l2 hu,.tuple_list l1 l2 hu,.tuple_list l1 l2 hu⟩
    | tup _ _=>cases nl
theorem kU{K:PySem.W.Frag}:∀ (k:Nat) (H:Hp) {xs:List V} {j:Nat} {d e:D},(∃ v,xs[j]?=some v/\Rep K H v d)->(∃ v,xs[j]?=some v/\Rep K H v e)->aB k d=true->aB k e=true->az k d e=true:=by
  intro k H
  have main:∀ (k:Nat) {v:V} {d e:D},Rep K H v d->Rep K H v e->aB k d=true->aB k e=true->az k d e=true:=by
    intro k
    induction k with
    | zero =>
      intro v d e h1 h2 f1 f2
      cases h1 <;> cases h2 <;> first | (cases f1;done) | (cases f2;done) | simp[az,db]
    | succ k ih =>
      intro v d e h1 h2 f1 f2
      have seq:∀ {xs:List V} {ds es:List D},Reps K H xs ds->Reps K H xs es->ds.all (aB k)=true->es.all (aB k)=true->(ds.length == es.length && (ds.zip es).all fun p=>az k p.1 p.2)=true:=by
        intro xs ds es r1 r2 g1 g2
        rw[Bool.and_eq_true]
        refine⟨by rw[<- r1.length,r2.length];simp,List.all_eq_true.mpr fun z hz=>?_⟩
        obtain⟨j,hj,ej⟩:=List.getElem_of_mem hz
        have ej':(ds.zip es)[j]?=some z:=by rw[List.getElem?_eq_getElem hj,ej]
        rw[List.getElem?_zip_eq_some] at ej'
        obtain⟨a,a1,a2⟩:=r1.get ej'.1
        obtain⟨b,b1,b2⟩:=r2.get ej'.2
        rw[a1] at b1;cases b1
        exact ih a2 b2 (List.all_eq_true.mp g1 _ (List.mem_of_getElem? ej'.1)) (List.all_eq_true.mp g2 _ (List.mem_of_getElem? ej'.2))
      cases h1 with
      | lst a1 a2 =>
        cases h2 with
        | lst b1 b2=>rw[dG a1 b1] at a2;exact seq a2 b2 f1 f2
        | tup b1 b2=>exact (kr a1 (.inl b1)).elim
        | scr _=>cases f2
        | dct _=>cases f2
        | ptr _=>cases f2
      | tup a1 a2 =>
        cases h2 with
        | tup b1 b2=>rw[d4 (.inl a1) (.inl b1)] at a2;exact seq a2 b2 f1 f2
        | lst b1 b2=>exact (kr b1 (.inl a1)).elim
        | scr _=>cases f2
        | dct _=>cases f2
        | ptr _=>cases f2
      | scr _=>cases f1
      | dct _=>cases f1
      | ptr _=>cases f1
      | _=>cases h2;simp[az,db]
  intro xs j d e ⟨v,h1,r1⟩ ⟨w,h2,r2⟩ f1 f2
  rw[h1] at h2;cases h2
  exact main k r1 r2 f1 f2
theorem kW{k:Nat}{d e:D}(h:gg d e=false):az k d e=db d e:=by
  cases k <;> cases d <;> cases e <;> first | rfl | cases h
theorem gh{k:Nat}{d:D}(h:aB k d=true):iy d=false:=by
  cases d <;> first | rfl | (cases k <;> cases h)
theorem kX{X : Cx}{pins:List (Addr × Obj)}{σ:St}{H:Hp}{s:Shared}(I:L2.Inv X pins σ H s):∀ (k:Nat) (A:Around) (v u:V) (vv uu:Value) (d e:D),A.units+k < cLine->aB k d=true->aB k e=true ->
    Rep X.K H v d->Rep X.K H u e->RelV v vv->RelV u uu->Cmp3 A s vv uu (az k d e):=by
  intro k
  induction k with
  | zero =>
    intro A v u vv uu d e hA fd fe rd re rv ru
    have nb:gg d e=false:=by
      cases d <;> cases e <;> first | rfl | cases fd
    rw[kW nb]
    exact kS I A v u vv uu d e (by omega) (gh fd) (gh fe) nb rd re rv ru
  | succ k ih =>
    intro A v u vv uu d e hA fd fe rd re rv ru
    have hu:A.units < cLine:=by omega
    have hin:A.in1.units+k < cLine:=by show A.units+1+k < cLine;omega
    cases nb:gg d e with
    | false =>
      rw[kW nb]
      exact kS I A v u vv uu d e hu (gh fd) (gh fe) nb rd re rv ru
    | true =>
      have items:∀ {ds es:List D} {xs ys:List V} {its its2:List Value},ds.all (aB k)=true->es.all (aB k)=true->Reps X.K H xs ds->Reps X.K H ys es->Vals xs its->Vals ys its2 ->
          ∀ j (h1:j < its.toArray.size) (h2:j < its2.toArray.size),SeqAt.EqAt A.in1 s its.toArray[j] its2.toArray[j] (match ds[j]?,es[j]? with | some a,some b=>az k a b | _,_=>false):=by
        intro ds es xs ys its its2 hd he rx ry vx vy j h1 h2
        have lx:=rx.length
        have ly:=ry.length
        have mx:=vx.length
        have my:=vy.length
        have k1:j < ds.length:=by simp only[List.size_toArray] at h1;omega
        have k2:j < es.length:=by simp only[List.size_toArray] at h2;omega
        obtain⟨a,ea⟩:∃ a,ds[j]?=some a:=⟨_,List.getElem?_eq_getElem k1⟩
        obtain⟨b,eb⟩:∃ b,es[j]?=some b:=⟨_,List.getElem?_eq_getElem k2⟩
        obtain⟨x,ex,qx⟩:=rx.get ea
        obtain⟨y,ey,qy⟩:=ry.get eb
        obtain⟨w1,e1,r1⟩:=vx.get ex
        obtain⟨w2,e2,r2⟩:=vy.get ey
        have f1:its.toArray[j]=w1:=by have:=(List.getElem?_eq_some_iff.mp e1).2;simpa using this
        have f2:its2.toArray[j]=w2:=by have:=(List.getElem?_eq_some_iff.mp e2).2;simpa using this
        rw[f1,f2,ea,eb]
        exact (ih A.in1 x y w1 w2 a b hin (List.all_eq_true.mp hd a (List.mem_of_getElem? ea)) (List.all_eq_true.mp he b (List.mem_of_getElem? eb)) qx qy r1 r2).eq
      cases rd with
      | @lst p xs ds h1 h2 =>
        cases rv
        cases re with
        | @lst q ys es h3 h4 =>
          cases ru
          obtain⟨its,vx,pl,hz⟩:=I.list (.inl h1)
          obtain⟨its2,vy,pl2,hz2⟩:=I.list (.inl h3)
          have e1:its.toArray.size=ds.length:=by rw[List.size_toArray,<- vx.length,h2.length]
          have e2:its2.toArray.size=es.length:=by rw[List.size_toArray,<- vy.length,h4.length]
          have core:SeqAt.RcAt A s (.ref p) (.ref q) (az (k+1) (.lst ds) (.lst es))/\SeqAt.RcNeAt A s (.ref p) (.ref q) (!az (k+1) (.lst ds) (.lst es)):=by
            by_cases hl:ds.length=es.length
            · have val:az (k+1) (.lst ds) (.lst es)=(List.range its.toArray.size).all (fun j=>match ds[j]?,es[j]? with | some a,some b=>az k a b | _,_=>false):=by
                rw[e1,iw (az k) ds es hl]
                show (ds.length == es.length && _)=_
                rw[hl];simp
              rw[val]
              exact⟨.lists pl.isList pl2.isList (by omega) hu (items fd fe h2 h4 vx vy),.lists pl.isList pl2.isList (by omega) hu (items fd fe h2 h4 vx vy)⟩
            · have val:az (k+1) (.lst ds) (.lst es)=false:=by
                show (ds.length == es.length && _)=false
                rw[show (ds.length == es.length)=false by simpa using hl];rfl
              rw[val]
              have hne:(its.toArray.size != its2.toArray.size)=true:=by rw[e1,e2];simpa using hl
              exact⟨.lists_lengths pl.isList pl2.isList hne hu,.lists_lengths pl.isList pl2.isList hne hu⟩
          refine⟨?_,core.1,core.2⟩
          by_cases hpq:p=q
          · subst hpq
            have ev:az (k+1) (.lst ds) (.lst es)=true:=by
              have exy:=dG h1 h3
              subst exy
              show (ds.length == es.length && (ds.zip es).all fun p=>az k p.1 p.2)=true
              rw[Bool.and_eq_true]
              refine⟨by rw[<- h2.length,h4.length];simp,List.all_eq_true.mpr fun z hz=>?_⟩
              obtain⟨j,hj,ej⟩:=List.getElem_of_mem hz
              have ej':(ds.zip es)[j]?=some z:=by rw[List.getElem?_eq_getElem hj,ej]
              rw[List.getElem?_zip_eq_some] at ej'
              exact kU k H (h2.get ej'.1) (h4.get ej'.2) (List.all_eq_true.mp fd _ (List.mem_of_getElem? ej'.1)) (List.all_eq_true.mp fe _ (List.mem_of_getElem? ej'.2))
            rw[ev]
            exact .same _
          · exact .of_refs hpq core.1
        | tup _ _=>cases nb
        | _=>cases nb
      | @tup p xs ds h1 h2 =>
        have h1:=bK h1
        cases rv
        cases re with
        | @tup q ys es h3 h4 =>
          have h3:=bK h3
          cases ru
          obtain⟨its,vx,pl,hz⟩:=I.tuple (.inl h1)
          obtain⟨its2,vy,pl2,hz2⟩:=I.tuple (.inl h3)
          have e1:its.toArray.size=ds.length:=by rw[List.size_toArray,<- vx.length,h2.length]
          have e2:its2.toArray.size=es.length:=by rw[List.size_toArray,<- vy.length,h4.length]
          have core:SeqAt.RcAt A s (.ref p) (.ref q) (az (k+1) (.tup ds) (.tup es))/\SeqAt.RcNeAt A s (.ref p) (.ref q) (!az (k+1) (.tup ds) (.tup es)):=by
            have val:az (k+1) (.tup ds) (.tup es)=((List.range (min its.toArray.size its2.toArray.size)).all (fun j=>match ds[j]?,es[j]? with | some a,some b=>az k a b | _,_=>false) && its.toArray.size == its2.toArray.size):=by
              rw[e1,e2]
              by_cases hl:ds.length=es.length
              · rw[<- hl,Nat.min_self,iw (az k) ds es hl]
                show (ds.length == es.length && _)=_
                rw[hl];simp
              · show (ds.length == es.length && _)=_
                rw[show (ds.length == es.length)=false by simpa using hl];simp
            rw[val]
            exact⟨.tuples pl pl2 hu (items fd fe h2 h4 vx vy),.tuples pl pl2 hu (items fd fe h2 h4 vx vy)⟩
          refine⟨?_,core.1,core.2⟩
          by_cases hpq:p=q
          · subst hpq
            have ev:az (k+1) (.tup ds) (.tup es)=true:=by
              have exy:=d4 h1 h3
              subst exy
              show (ds.length == es.length && (ds.zip es).all fun p=>az k p.1 p.2)=true
              rw[Bool.and_eq_true]
              refine⟨by rw[<- h2.length,h4.length];simp,List.all_eq_true.mpr fun z hz=>?_⟩
              obtain⟨j,hj,ej⟩:=List.getElem_of_mem hz
              have ej':(ds.zip es)[j]?=some z:=by rw[List.getElem?_eq_getElem hj,ej]
              rw[List.getElem?_zip_eq_some] at ej'
              exact kU k H (h2.get ej'.1) (h4.get ej'.2) (List.all_eq_true.mp fd _ (List.mem_of_getElem? ej'.1)) (List.all_eq_true.mp fe _ (List.mem_of_getElem? ej'.2))
            rw[ev]
            exact .same _
          · exact .of_refs hpq core.1
        | lst _ _=>cases nb
        | _=>cases nb
      | _=>cases e <;> cases nb
end VL
namespace VL
open PySem PySem.Spec PyProof.Rows L2
section
variable {X:Cx} {a b c:Expr} {es ea eb:List Es} {fa fb:FE} {pos p p2:Pos} {k:Nat}
def kY(K:PySem.W.Frag):R2:=fun x y H Q=>∃ d e,Rep K H x d/\Rep K H y e/\aB 4 d=true/\aB 4 e=true/\Q (.bl (az 4 d e)) H
def kZ(K:PySem.W.Frag):R2:=fun x y H Q=>∃ d e,Rep K H x d/\Rep K H y e/\aB 4 d=true/\aB 4 e=true/\Q (.bl (!az 4 d e)) H
theorem iz(hr:Room k X.A):OpR X (compareOp .Eq) (kY X.K):=by
  intro pins s σ H x y v u Q I rx ry h
  obtain⟨d,e,r1,r2,f1,f2,q⟩:=h
  have hu:=hr.units
  exact (kX I 4 X.A x y v u d e (by omega) f1 f2 r1 r2 rx ry).rc X.prog X.w X.xe _ ⟨.bl _,H,I,rfl,q⟩
theorem sF(hr:Room k X.A):OpR X (compareOp .NotEq) (kZ X.K):=by
  intro pins s σ H x y v u Q I rx ry h
  obtain⟨d,e,r1,r2,f1,f2,q⟩:=h
  have hu:=hr.units
  exact (kX I 4 X.A x y v u d e (by omega) f1 f2 r1 r2 rx ry).ne X.prog X.w X.xe _ ⟨.bl _,H,I,rfl,q⟩
def eqD(d e:D):Option D:=if aB 4 d=true/\aB 4 e=true then some (.bl (az 4 d e)) else none
def neD(d e:D):Option D:=if aB 4 d=true/\aB 4 e=true then some (.bl (!az 4 d e)) else none
theorem iA(K:PySem.W.Frag):OpV K (kY K) eqD:=by
  intro x y H dx dy d Q rx ry hg hQ
  obtain⟨⟨h1,h2⟩,rfl⟩:=bq hg
  exact⟨dx,dy,rx,ry,h1,h2,hQ _ H (Same.refl H) (.bl _) fun A _ _ _=>.bl _⟩
theorem sG(K:PySem.W.Frag):OpV K (kZ K) neD:=by
  intro x y H dx dy d Q rx ry hg hQ
  obtain⟨⟨h1,h2⟩,rfl⟩:=bq hg
  exact⟨dx,dy,rx,ry,h1,h2,hQ _ H (Same.refl H) (.bl _) fun A _ _ _=>.bl _⟩
theorem sH(x y d:D)(h:eqD x y=some d):bb d=true:=by obtain⟨_,rfl⟩:=bq h;rfl
theorem sI(hr:Room k X.A)(ha:VE X a fa ea)(hb:VE X b fb eb):VE X (.Compare a [.Eq] [b] pos) (e2 eqD fa fb) []:=qV (iz hr) (iA X.K) ha hb (cZ _) sH
theorem sJ(hr:Room k X.A)(ha:VE X a fa ea)(hb:VE X b fb eb):VT X (.Compare a [.Eq] [b] pos) (eT (e2 eqD fa fb)):=eP (iz hr) (iA X.K) ha hb (cZ _)
theorem sK(hr:Room k X.A)(ha:VE X a fa ea)(hb:VE X b fb eb):VT X (.Compare a [.NotEq] [b] pos) (eT (e2 neD fa fb)):=eP (sF hr) (sG X.K) ha hb (cZ _)
theorem sL(K:PySem.W.Frag)(d:D):PySem.W.kitOne K (.type (tyD d)) (.type "int")=some (cJ "int" (tyD d)):=by
  cases d <;> first | rfl | kernel_rfl
theorem sM(K:PySem.W.Frag)(d:D):PySem.W.kitOne K (.type (tyD d)) (.type "bool")=some (cJ "bool" (tyD d)):=by
  cases d <;> first | rfl | kernel_rfl
def iB:D->Bool
  | .ptr _=>true
  | _=>false
theorem sO{T:String}(hk:∀ K d,PySem.W.kitOne K (.type (tyD d)) (.type T)=some (cJ T (tyD d))):CallR X (.builtin "isinstance") (fun xs H Q=>∃ x d,xs=[x,.ty T]/\Rep X.K H x d/\iB d=false/\Q (.bl (cJ T (tyD d))) H):=by
  intro pins s σ H xs us Q I r h
  obtain⟨x,d,rfl,rx,np,q⟩:=h
  obtain⟨u,w,rfl,ru,rw'⟩:=jV r
  cases rw'
  have fin:∀ tk,EP X pins σ Q (.bool (cJ T (tyD d))) { s with toks:=tk }:=fun tk=>⟨.bl _,H,I.tok tk,rfl,q⟩
  have e:=hk X.K d
  cases rx with
  | non=>cases ru;exact PySem.W.kia_one PySem.W.kitx_none I.kIn True.intro e (fun z=>nomatch z) fin
  | bl b=>cases ru;exact PySem.W.kia_one PySem.W.kitx_bool I.kIn True.intro e (fun z=>nomatch z) fin
  | int i=>obtain⟨t,rfl⟩:=ru;exact PySem.W.kia_one PySem.W.kitx_int I.kIn True.intro e (fun z=>nomatch z) fin
  | str i=>obtain⟨t,rfl⟩:=ru;exact PySem.W.kia_one PySem.W.kitx_str I.kIn True.intro e (fun z=>nomatch z) fin
  | lst h1 h2 =>
    cases ru
    obtain⟨its,_,⟨o,n,e1,e2,_⟩,_⟩:=I.list (.inl h1)
    exact PySem.W.kia_one PySem.W.kitx_list I.kIn ⟨o,e1,e2⟩ e (fun z=>nomatch z) fin
  | scr h1 =>
    cases ru
    obtain⟨its,_,⟨o,n,e1,e2,_⟩,_⟩:=I.list h1
    exact PySem.W.kia_one PySem.W.kitx_list I.kIn ⟨o,e1,e2⟩ e (fun z=>nomatch z) fin
  | tup h1 h2 =>
    cases ru
    obtain⟨its,_,⟨o,e1,e2,_⟩,_⟩:=I.tuple (.inl (bK h1))
    exact PySem.W.kia_one PySem.W.kitx_tuple I.kIn ⟨o,e1,e2⟩ e (fun z=>nomatch z) fin
  | dct h1 =>
    cases ru
    obtain⟨_,_,vs,_,o,es,ep,e1,e2,_⟩:=dF I.hok h1.rd
    exact PySem.W.kia_one PySem.W.kitx_dict I.kIn ⟨o,e1,e2.1⟩ e (fun z=>nomatch z) fin
  | ptr a=>cases np
def cN(T:String):D->Option D:=fun d=>if iB d=true then none else some (.bl (cJ T (tyD d)))
theorem sP{T:Str}{TS:String}(hk:∀ K d,PySem.W.kitOne K (.type (tyD d)) (.type TS)=some (cJ TS (tyD d)))(hT:bootBuiltins T=some (.type TS))(mi:X.mg "isinstance" = none)(mt:X.mg T=none)(ha:VE X a fa ea)(hg:Gl X "isinstance":=by rfl)(hgT:Gl X T:=by rfl)(hn:T ≠ "__name__":=by decide)(hd:(T == ("__debug__" : Str))=false:=by decide)(hs:starEach [a,.Name T p2] X.env=(false,eval a X.env)::starEach [.Name T p2] X.env:=by rfl)(hs2:starEach [.Name T p2] X.env=(false,eval (.Name T p2) X.env)::starEach [] X.env:=by rfl)(hpl:(backTo pos (starEach [.Name T p2] X.env)).any (·.1)=false:=by rfl):
    VE X (.Call (.Name "isinstance" p) [a,.Name T p2] [] pos) (e1 (cN TS) fa) [] :=
  aD (fO (sO hk) hg mi (by decide +kernel) (bO ha (bO (ou (v:=.ty TS) hgT mt hT rfl hn hd) cv hs2) hs) (by decide) (by decide) hs hpl) fun σ H Q ⟨ρ,d,hE,hf,hQ⟩=>by
    obtain⟨dx,h1,hf⟩:=bind_some hf
    cases np:iB dx with
    | true=>simp only[cN,np] at hf;cases hf
    | false =>
    simp only[cN,np] at hf
    cases hf
    exact⟨ρ,dx,hE,h1,fun x H1 p1=>⟨x,dx,rfl,p1.rep,np,hQ _ H1 ⟨p1.same,.bl _,fun A _ _=>.bl _⟩⟩⟩
end
section
variable {X:Cx} {elt tg iter:Expr} {ifs:List Expr} {scope:Scope} {own cn:List Str} {caps is:List Nat} {g:TG} {un:D->Option (List D)} {fi:FEs} {ei ee:List Es} {c:ab->Option Bool} {fe:FE} {pos spos p2:Pos}
theorem dc{X:Cx}:PTs X [] (tvT X.K bt):=fun pins s σ H Q I h=>by
  obtain⟨ρ,b,_,hb,hQ⟩:=h
  cases hb
  exact sy pins s σ H Q I (hQ H (Same.refl H))
theorem sQ{X:Cx}{e:Expr}{f:ab->Option Bool}(h:VT X e f):PTs X [e] (tvT X.K f):=sA h
theorem sR(B:BlkOk X scope own caps cn)(hc:X.calm=true)(hi:VI X tg iter fi ei)(hg:∀ s H cl ex,PG (blk X (own++cn) s H scope cl ex) tg g)(hgv:TgV X.K g is un)(his:∀ i ∈ is,i < own.length)(ht:∀ s H cl ex,PTs (blk X (own++cn) s H scope cl ex) ifs (tvT X.K c))(he:∀ s H cl ex,VE (blk X (own++cn) s H scope cl ex) elt fe ee)(hs:∀ x,foldedSetIterable iter X.env x=pure x:=by intro _;rfl):
    VF X (.ListComp elt [⟨tg,iter,ifs,0⟩] scope pos) (aV own.length caps is un fi c fe) (esC own.length caps ei ee):=by
  intro pins s σ H Q I h
  obtain⟨cl,hclos,hcl,hha⟩:=kJ (scope:=scope) (env:=X.env) fun x hx hf=>I.ok.has x.1 (B.free x hx hf)
  rw[eval_ListComp]
  refine wpAny_comprehension_free (use:=none) rfl hs hclos B.kind B.locals (kM B hc hi hg ht he I (kR hgv his h) hcl hha (RR:=fun acc C=>compPost (model X.prog X.w) X.A X.xe none (EP X pins σ Q) acc C) fun d c ys H' s' af q=>?_)
  obtain⟨m,hm⟩:=af.ns
  obtain⟨f0,f1,_,f3,f4,f5⟩:=af.cf
  refine⟨m,hm,fun h' sb=>⟨.ref d,_,af.inv.turned (t':=s'.toks) (it:=c) (fun b o hb e=>(sb.2 b hb).trans e) f0 f1 f3 f4 f5,rfl,q⟩⟩
theorem sS(i:Nat){x:Str}(hN:X.N.Nodup)(B:BlkOk X scope own caps cn)(hc:X.calm=true)(hi:VI X tg iter fi ei)(hg:∀ s H cl ex,PG (blk X (own++cn) s H scope cl ex) tg g)(hgv:TgV X.K g is un)(his:∀ i ∈ is,i < own.length)(ht:∀ s H cl ex,PTs (blk X (own++cn) s H scope cl ex) ifs (tvT X.K c))(he:∀ s H cl ex,VE (blk X (own++cn) s H scope cl ex) elt fe ee)(hsw:swapsWith (.ListComp elt [⟨tg,iter,ifs,0⟩] scope pos) (some (.Name x p2)) spos.line X.env=pure true)(hxi:X.N[i]?=some x)(hx:Loc X.env.scope x)(hfn:X.fn x=true\/X.env.scope.names.lookup x=some .local)(hs:∀ x,foldedSetIterable iter X.env x=pure x:=by intro _;rfl):
    PS X (.Assign [.Name x p2] (.ListComp elt [⟨tg,iter,ifs,0⟩] scope pos) spos) (gR (tvF X.K (aV own.length caps is un fi c fe) (esC own.length caps ei ee)) (bI i)):=by
  intro pins s σ H De I h
  obtain⟨cl,hclos,hcl,hha⟩:=kJ (scope:=scope) (env:=X.env) fun x hx hf=>I.ok.has x.1 (B.free x hx hf)
  rw[exec_Assign_Name_used _ _ _ _ hsw]
  refine wpAny_bind (wpAny_standAt (wpAny_bind ?_))
  show wpAny _ X.A (do let _ <- comprehension (.ListComp elt [⟨tg,iter,ifs,0⟩] scope pos) scope X.env _ (newList []) false (eval iter X.env) (some (assign (.Name x p2) X.env))) _ _ s
  refine wpAny_bind (wpAny_mono (wpAny_comprehension_free (use:=some (assign (.Name x p2) X.env)) (Q:=fun _ s'=>SP X pins De .next s') rfl hs hclos B.kind B.locals
    (kM B hc hi hg ht he I (kR hgv his h) hcl hha (RR:=fun acc C=>compPost (model X.prog X.w) X.A X.xe (some (assign (.Name x p2) X.env)) (fun _ s'=>SP X pins De .next s') acc C) fun d c ys H' s' af q=>?_)) (fun _ s' hq=>wpAny_pure (wpAny_pure hq)) fun _ _ e=>e)
  obtain⟨m,hm⟩:=af.ns
  obtain⟨f0,f1,_,f3,f4,f5⟩:=af.cf
  show wpAny _ X.A (assign (.Name x p2) X.env (.ref d)) _ _ _
  refine wpAny_assign_Name (jF af.inv hN hxi hx (show RelV (.ref d) (.ref d) from rfl) (fun s2 I2 ⟨a,sb,ha⟩=>?_) hfn)
  have ac:c ≠ a:=by
    rcases ha with z | z
    · exact fun e=>f1 (e.trans z)
    · exact fun e=>f4 x a z e.symm
  refine⟨m,hm.sameBut sb ac,fun h' sb'=>⟨_,_,I2.turned (t':=s2.toks) (it:=c) (fun b o hb e=>(sb'.2 b hb).trans e) f0 f1 f3 f4 f5,q⟩⟩
theorem sT(i:Nat){x:Str}{F:Fr0}{O OL:List Nat}{fr:Bool}(hN:X.N.Nodup)(B:BlkOk X scope own caps cn)(hc:X.calm=true)(hi:VI X tg iter fi ei)(hg:∀ s H cl ex,PG (blk X (own++cn) s H scope cl ex) tg g)(hgv:TgV X.K g is un)(his:∀ i ∈ is,i < own.length)(ht:∀ s H cl ex,PTs (blk X (own++cn) s H scope cl ex) ifs (tvT X.K c))(he:∀ s H cl ex,VE (blk X (own++cn) s H scope cl ex) elt fe ee)(hn:i < F.n)(hsw:swapsWith (.ListComp elt [⟨tg,iter,ifs,0⟩] scope pos) (some (.Name x p2)) spos.line X.env=pure true:=by rfl)(hxi:X.N[i]?=some x:=by rfl)(hx:Loc X.env.scope x:=by first | exact Or.inl rfl | exact Or.inr rfl)(hfn:X.fn x=true\/X.env.scope.names.lookup x=some .local:=by first | exact .inl rfl | exact .inr rfl)(hs:∀ x,foldedSetIterable iter X.env x=pure x:=by intro _;rfl):
    VS X F O (.Assign [.Name x p2] (.ListComp elt [⟨tg,iter,ifs,0⟩] scope pos) spos) (aG i (aV own.length caps is un fi c fe)) (i::cM (aT O (esC own.length caps ei ee)) i) OL fr:=fun held =>
  b4 (sS i hN B hc hi hg hgv his ht he hsw hxi hx hfn hs) fun De σ H ⟨ρ,o,hE,hf,hQ⟩=>by
    obtain⟨d,h1,rfl⟩:=il hf
    refine⟨ρ,d,hE.envR,h1,fun v H' p=>hQ _ _ ?_⟩
    refine (hE.weaken fun j hj=>eV j (dM j hj)).setF p hn im fun z hz=>?_
    have:=g9 (O:=O) hz
    cases z with
    | el j=>rfl
    | full j =>
      simp only[cK,Bool.not_eq_true',List.contains_eq_mem,decide_eq_false_iff_not] at this ⊢
      exact fun q=>this (dM j q)
end
end VL
namespace VL
open PySem PySem.Spec PyProof.Rows L2
def Def(P:Program)(w:World)(K:PySem.W.Frag)(mg:Str->Option Value)(base:Heap)(x:Str)(k:Nat)(ps:List Str)(G:List D->Option D)(fr:Bool):Prop :=
  ∃ f fd,FnOk P w K mg base CX0 k f fd ps (spF K G fr)/\mg x=some (.ref f)/\PySem.W.keepIn K (.ref f)=true/\Binds K fd ps []
def scF(G:List D->Option D):List D->Option D:=fun ds=>(G ds).bind fun d=>if bb d=true then some d else none
theorem l0{G:List D->Option D}{ds:List D}{d:D}(h:scF G ds=some d):G ds=some d/\bb d=true:=by
  obtain⟨e,h1,h2⟩:=bind_some h
  obtain⟨h3,rfl⟩:=bq h2
  exact⟨h1,h3⟩
section
variable {P:Program} {w:World} {K:PySem.W.Frag} {mg:Str->Option Value} {base:Heap} {x:Str} {j k:Nat} {ps:List Str} {G:List D->Option D} {fr:Bool}
theorem Def.sc(h:Def P w K mg base x k ps G fr):Def P w K mg base x k ps (scF G) fr :=
  let ⟨f,fd,F,m,kp,b⟩:=h
  ⟨f,fd,F.imp fun vs H Q E ⟨ds,d,r,hg,q⟩=>⟨ds,d,r,(l0 hg).1,q⟩,m,kp,b⟩
theorem Def.mono(h:Def P w K mg base x j ps G fr)(hk:j<=k:=by decide):Def P w K mg base x k ps G fr :=
  let ⟨f,fd,F,m,kp,b⟩:=h
  ⟨f,fd,F.mono hk,m,kp,b⟩
theorem sU{np n:Nat}{qual:Str}{st:Stmt}{f:Addr}{fd:FuncData}{N:List Str}{body:FS}(O' OL:List Nat)(h1:ps.length=np)(h2:N.length=n)(h3:G=mkF fr np n body)(Fn:Fun K x qual st f fd)(S:FnScope N ps (am st))(h:∀ (cdv:Value) (A:Around) (outer:List PySem.Env) (s:Shared) (H:Hp) (E:XK) (F:Fr0),F.n=n->Room k (A.deeper (envOfC qual (am st) s.heap.objs.size f cdv)) ->
      VSs (bP CX0 P w K mg base N qual (am st) f cdv A outer s H E).nox F [] (aL st) body O' OL fr):
    FnOk P w K mg base CX0 (k+1) f fd ps (spF K G fr):=by
  subst h1 h2 h3
  exact ss Fn S h
end
section
variable {X:Cx} {k:Nat} {ps:List Str} {G:List D->Option D} {fr:Bool} {x:Str} {p pos:Pos} {e:Expr} {es':List Expr} {as:FEs} {es:List Es}
theorem lc(d:Def X.prog X.w X.K X.mg X.base x k ps G fr)(hr:Room k X.A)(ha:VA X (e::es') as es)(hg:Gl X x:=by rfl)(hdb:(x == ("__debug__" : Str))=false:=by decide)(he:starEach (e::es') X.env=(false,eval e X.env)::starEach es' X.env:=by rfl)(hpl:(backTo pos (starEach es' X.env)).any (·.1)=false:=by rfl):
    VE X (.Call (.Name x p) (e::es') [] pos) (eA G as) es :=
  let ⟨_,_,F,m,kp,b⟩:=d
  su F hr m kp b ha hg hdb he hpl
theorem sV(d:Def X.prog X.w X.K X.mg X.base x k ps G true)(hr:Room k X.A)(ha:VA X (e::es') as es)(hg:Gl X x:=by rfl)(hdb:(x == ("__debug__" : Str))=false:=by decide)(he:starEach (e::es') X.env=(false,eval e X.env)::starEach es' X.env:=by rfl)(hpl:(backTo pos (starEach es' X.env)).any (·.1)=false:=by rfl):
    VF X (.Call (.Name x p) (e::es') [] pos) (eA G as) es :=
  let ⟨_,_,F,m,kp,b⟩:=d
  sv F hr m kp b ha hg hdb he hpl
theorem sW(d:Def X.prog X.w X.K X.mg X.base x k ps (scF G) fr)(hr:Room k X.A)(ha:VA X (e::es') as es)(hg:Gl X x:=by rfl)(hdb:(x == ("__debug__" : Str))=false:=by decide)(he:starEach (e::es') X.env=(false,eval e X.env)::starEach es' X.env:=by rfl)(hpl:(backTo pos (starEach es' X.env)).any (·.1)=false:=by rfl):
    VE X (.Call (.Name x p) (e::es') [] pos) (eA (scF G) as) [] :=
  fX (lc d hr ha hg hdb he hpl) fun ρ d h=>by
    obtain⟨ds,_,h2⟩:=bind_some h
    exact (l0 h2).2
end
section
variable {X:Cx} {a b:Expr} {fa fb:FE} {ea eb:List Es} {pos p2:Pos}
theorem sX{K:PySem.W.Frag}{H:Hp}{v:V}{ds:List D}(r:Rep K H v (.tup ds)):∃ p xs,v=V.ref p/\H p=some (.tup xs)/\Reps K H xs ds:=by
  cases r with
  | @tup p xs _ h1 h2=>exact⟨p,xs,rfl,h1,h2⟩
theorem de{K:PySem.W.Frag}{H:Hp}{v:V}{ds:List D}(r:Rep K H v (.tup ds)):∃ p xs,v=V.ref p/\Rd H p (.tup xs)/\Reps K H xs ds:=by
  cases r with
  | @tup p xs _ h1 h2=>exact⟨p,xs,rfl,.inl h1,h2⟩
def sY(K:PySem.W.Frag):R2:=fun x y H Q=>∃ a b xs ys,x=.ref a/\y=.ref b/\SqT K H a xs/\SqT K H b ys/\xs.length+ys.length<=sizeLine /\
  (xs=[]->Q (.ref b) H)/\(xs ≠ []->ys=[]->Q (.ref a) H)/\(xs ≠ []->ys ≠ []->∀ p,H p=none->Q (.ref p) (upd H p (.tup (xs++ys))))
theorem sZ:OpR X (binaryOp .Add) (sY X.K):=by
  intro pins s σ H x y v u Q I rx ry h
  obtain⟨a,b,xs,ys,e1,e2,ha,hb,hz,q0,q1,q2⟩:=h
  by_cases hx:xs=[]
  · subst e1 e2 hx
    cases rx
    cases ry
    obtain⟨its,r1,p1,_⟩:=I.tuple ha
    obtain⟨its2,r2,p2,_⟩:=I.tuple hb
    cases r1
    obtain⟨⟨cls,dd,data,sl⟩,ho,hc,n,hd⟩:=id p1
    obtain⟨⟨cls2,dd2,data2,sl2⟩,ho2,hc2,n2,hd2⟩:=id p2
    simp only at hc hd hc2 hd2
    subst hc hd hc2 hd2
    exact concat_meets ⟨_,ho,rfl⟩ ⟨_,ho2,rfl⟩ noFill_tuple_add seq_tuple_add PySem.F.slot_tuple_add PySem.F.entry_tuple_add (PySem.F.args_tuple_add_2 _ _)
      (tuple_addW0 a b #[] its2.toArray n n2 dd dd2 sl sl2 rfl) ⟨ho,ho2,.ref b,H,I,rfl,q0 rfl⟩
  · exact pQ pins s σ H x y v u Q I rx ry ⟨a,b,xs,ys,e1,e2,ha,hb,hx,hz,q1 hx,q2 hx⟩
def dR:D->D->Option D
  | .tup xs,.tup ys=>if xs.length+ys.length<=1000 then some (.tup (xs++ys)) else none
  | _,_=>none
theorem iC{K:PySem.W.Frag}{σ:St}{ρ:ab}{H H1:Hp}{es:List Es}{xs:List V}{ds:List D}{l:Addr}(e:Same H H1)(hl:H1 l=none)(r:Reps K H1 xs ds)(h:∀ A,Dom H A->(∀ z ∈ es,Av K H σ ρ A z)->Reps K (ae H1 A) xs ds):Post K σ ρ H es (.tup ds) (.ref l) (upd H1 l (.tup xs)):=by
  refine⟨e.trans (bM hl _),.tup aK (aC (bM hl _) r),fun A hA hz=>?_⟩
  have hA1:=hA.mono e
  refine .tup ?_ (aC (aM (bM hl _)) (h A hA hz))
  rw[aH (hA1.not_new hl)]
  exact aK
theorem iD{K:PySem.W.Frag}{H:Hp}{p:Addr}{xs:List V}{ds:List D}{A:Addr->Prop}(h:Rd H p (.tup xs))(r:Rep K (ae H A) (.ref p) (.tup ds)):Reps K (ae H A) xs ds:=by
  obtain⟨q,ys,e,h1,h2⟩:=de r
  cases e
  rw[d4 h (bJ (aJ _ _) h1)]
  exact h2
theorem t0(ha:VE X a fa ea)(hb:VE X b fb eb):VE X (.BinOp a .Add b pos) (e2 dR fa fb) (ea++eb) :=
  aD (eF sZ ha hb) fun σ H Q ⟨ρ,d,hE,hf,hQ⟩=>by
    obtain⟨dx,h1,hf⟩:=bind_some hf
    obtain⟨dy,h2,hf⟩:=bind_some hf
    refine⟨ρ,dx,hE,h1,fun x H1 p1=>⟨ρ,dy,hE.mono p1.same,h2,fun y H2 p2=>?_⟩⟩
    have q1:=p1.up p2.same
    have q2:=p2.down p1.same
    cases dx with
    | tup ds =>
      cases dy with
      | tup es' =>
        obtain⟨hl,rfl⟩:=bq hf
        obtain⟨p,xs,rfl,hp,hx⟩:=de q1.rep
        obtain⟨p',ys,rfl,hp',hy⟩:=de q2.rep
        have hA:∀ A,Dom H A->(∀ z ∈ ea++eb,Av X.K H σ ρ A z)->Reps X.K (ae H2 A) xs ds:=fun A hD hz=>iD hp (q1.av A hD fun z w=>hz z (List.mem_append_left _ w))
        have hB:∀ A,Dom H A->(∀ z ∈ ea++eb,Av X.K H σ ρ A z)->Reps X.K (ae H2 A) ys es':=fun A hD hz=>iD hp' (q2.av A hD fun z w=>hz z (List.mem_append_right _ w))
        refine⟨p,p',xs,ys,rfl,rfl,.inl hp,.inl hp',by rw[hx.length,hy.length];exact ib hl,fun e=>?_,fun e1 e2=>?_,fun e1 e2 r hr=>?_⟩
        · subst e
          cases hx
          refine hQ _ _ ⟨q2.same,by rw[List.nil_append];exact q2.rep,fun A hD hz=>by rw[List.nil_append];exact q2.av A hD fun z w=>hz z (List.mem_append_right _ w)⟩
        · subst e2
          cases hy
          refine hQ _ _ ⟨q1.same,by rw[List.append_nil];exact q1.rep,fun A hD hz=>by rw[List.append_nil];exact q1.av A hD fun z w=>hz z (List.mem_append_left _ w)⟩
        · exact hQ _ _ (iC q1.same hr (hx.append hy) fun A hD hz=>(hA A hD hz).append (hB A hD hz))
      | _=>cases hf
    | _=>cases hf
def dS(fa:FE)(lo hi:FO):FE:=fun ρ=>(fa ρ).bind fun x=>(lo ρ).bind fun l=>(hi ρ).bind fun h=>match x with
  | .tup ds=>if HT.sIx ds.length 0 l=0/\HT.sIx ds.length ds.length h=ds.length then none else some (.tup (ca ds l h))
  | _=>none
theorem t3{lo hi:Option Expr}{flo fhi:FO}(ha:VB X a fa ea)(hl:VO X lo flo)(hh:VO X hi fhi):VE X (.Subscript a (.Slice lo hi none p2) pos) (dS fa flo fhi) ea :=
  aD (pL pO ha hl hh) fun σ H Q ⟨ρ,d,hE,hf,hQ⟩=>by
    obtain⟨dx,h1,hf⟩:=bind_some hf
    obtain⟨l,h2,hf⟩:=bind_some hf
    obtain⟨h,h3,hf⟩:=bind_some hf
    refine⟨ρ,dx,hE,h1,fun x H1 p1=>⟨ρ,l,hE.mono p1.same,h2,fun H2 e2=>⟨ρ,h,hE.mono (p1.same.trans e2),h3,fun H3 e3=>?_⟩⟩⟩
    have q:=p1.up (e2.trans e3)
    cases dx with
    | tup ds =>
      by_cases hw:HT.sIx ds.length 0 l=0/\HT.sIx ds.length ds.length h=ds.length
      · simp only[if_pos hw] at hf;cases hf
      · simp only[if_neg hw] at hf
        cases hf
        obtain⟨p,xs,rfl,hp,hx⟩:=de q.rep
        refine⟨p,xs,rfl,.inl hp,by rw[hx.length];exact hw,fun r hr=>hQ _ _ (iC q.same hr (kD hx l h) fun A hD hz=>kD ?_ l h)⟩
        rcases q.av A hD hz with (e | ⟨_,e⟩) | ⟨q',ys,es',e,⟨e1,e2⟩ | ⟨e1,e2⟩,e3⟩
        · cases e
        · cases e
        · cases e1
        · cases e;cases e1;rw[d4 hp e2];exact e3
    | _=>cases hf
end
end VL
namespace VL
open PySem PySem.Spec PyProof.Rows L2
def b5(d:D):Option (List D):=if br d=true then none else items d
def cO(ds:List D):List D:=ds.zipIdx.map fun p=>.tup [.int (p.2:Nat),p.1]
def cP(ds es:List D):List D:=(ds.zip es).map fun p=>.tup [p.1,p.2]
def dU(a:FE):FEs:=fun ρ=>(a ρ).bind fun d=>(b5 d).bind fun ds=>some (cO ds)
def dW(a b:FE):FEs:=fun ρ=>(a ρ).bind fun d=>(b ρ).bind fun e=>(b5 d).bind fun ds=>(b5 e).bind fun es=>some (cP ds es)
end VL
namespace VL
open PySem PySem.Spec PyProof.Rows L2
theorem iE{X:Cx}{pins:List (Addr × Obj)}{σ:St}{H:Hp}{s:Shared}{h':Heap}{t':Nat}{ch:List Addr}(I:Inv X pins σ H s)(k:∀ b o,b ∉ ch->s.heap.get? b=some o->h'.get? b=some o)(hf:∀ b ∈ ch,b9 X pins H b):
    Inv X pins σ H { s with heap:=h',toks:=t' }:=by
  have nit:∀ b u,H b=some u->b ∉ ch:=fun b u e z=>by rw[(hf b z).1] at e;cases e
  have hL:X.env.locals ∉ ch:=fun z=>(hf _ z).2.1 rfl
  refine I.step (g':=s.gens) (d':=s.drawn) (ch:=ch) (fun b hb=>?_) (fun b o _ _ hc e _=>k b o hc e) (fun b o _ _ hc e _=>⟨o.slots,k b o hc e⟩) (fun _ _ _ _ n=>n)
    (fun b o hc e=>⟨o,k b o hc e⟩) (fun _ _ e=>e) (fun _ _ _ e=>e) (fun b ps e=>⟨#[],by rw[e];simp⟩) (fun m hm=>?_) (fun b u e=>?_) I.bare
  · obtain⟨f0,f1,f2,f3,f4,f5⟩:=hf b hb
    exact⟨f3,f1,f4,f5⟩
  · obtain⟨o,es,ep,ho,r⟩:=hm
    exact⟨o,es,ep,k _ o hL ho,r⟩
  · refine (I.hok b u e).stay (fun c v hc q=>k c v ?_ q) (fun _ q=>q) fun _ _ q=>q
    rcases hc with z | z
    · rw[z];exact nit b u e
    · exact nit c _ z
theorem ld{X:Cx}{pins:List (Addr × Obj)}{σ:St}{H:Hp}{s:Shared}{T:Addr}{o:HO}(I:Inv X pins σ H s)(hf:b9 X pins H T)(new:ObjOk X.prog X.w (upd H T o) s.heap T o):Inv X pins σ (upd H T o) s:=by
  obtain⟨f0,f1,f2,f3,f4,f5⟩:=hf
  have key:=I.step (h':=s.heap) (H':=upd H T o) (g':=s.gens) (d':=s.drawn) (t':=s.toks) (ch:=[T]) (fun b hb=>?_) (fun b o _ _ hc e _=>e) (fun b o _ _ hc e _=>⟨o.slots,e⟩) (fun b o' hc e n=>by rw[ai (by simpa using hc)];exact n)
    (fun b o hc e=>⟨o,e⟩) (fun b xs e=>by rw[ai (b8 e f0)];exact e) (fun b o u e=>by rw[ai (b8 e f0)];exact e) (fun b ps e=>⟨#[],by rw[ai (b8 e f0),e];simp⟩) (fun m hm=>hm) (fun b u e=>?_) I.bare
  · exact key
  · have e:b=T:=by simpa using hb
    subst e
    exact⟨f3,f1,f4,f5⟩
  · by_cases hb:b=T
    · subst hb;rw[aK] at e;cases e;exact new
    · rw[ai hb] at e
      exact (I.hok b u e).stay (fun c v _ q=>q) (fun c q=>by rw[ai (b8 q f0)];exact q) fun c xs q=>by rw[ai (b8 q f0)];exact q
def Ite(K:PySem.W.Frag)(a:Addr):It :=
  ⟨fun i H=>∃ xs x,SqL K H a xs/\xs[i]?=some x,fun i H x H'=>∃ T y,H T=none/\x=.ref T/\H'=upd H T (.tup [.int (i:Nat),y])/\∀ xs,SqL K H a xs->xs[i]?=some y,fun i H=>∃ xs,SqL K H a xs/\xs.length<=i⟩
theorem lf{X:Cx}{pins:List (Addr × Obj)}{σ:St}{H:Hp}{s:Shared}(I:Inv X pins σ H s):b9 X pins H s.heap.objs.size:=I.fpOk (Nat.le_refl _) (I.hok.fresh (Nat.le_refl _))
theorem t4{P:Program}{w:World}{K:PySem.W.Frag}{elts:List Expr}{ek:Nat}{ep:Pos}(a e it:Addr)(hei:e ≠ it):Turn P w K (.Tuple elts ek ep) (Ite K a) [e,it] e (fun i h=>(∃ old,IsEnum h e it (i:Nat) old)/\h.IsListIter it a i) where
  mem:=by simp
  obj := fun i h st b hb=>by
    obtain⟨⟨old,he⟩,hit⟩:=st
    have e:b=e\/b=it:=by simpa using hb
    rcases e with rfl | rfl
    · exact⟨_,he,fun v z=>by have z':Data.fields _=Data.cell v:=z;cases z'⟩
    · obtain⟨o,e,c,d⟩:=hit
      exact⟨o,e,fun v z=>by rw[d] at z;cases z⟩
  keep:=fun i h h' st k=>⟨let ⟨old,he⟩:=st.1;⟨old,k e (by simp) _ he⟩,st.2.at fun o q=>k it (by simp) o q⟩
  item:=by
    intro X hP hw hK hc i pins s σ H E I hf st hg
    subst hP hw hK
    obtain⟨⟨old,he⟩,hit⟩:=st
    obtain⟨xs,x,hq,hx⟩:=hg
    obtain⟨its,rv,p,hz⟩:=I.list hq
    obtain⟨u,hu,ru⟩:=rv.get hx
    have fT:=lf I
    have hsz:∀ b ∈ [e,it],b < s.heap.objs.size:=fun b hb=>by
      have:b=e\/b=it:=by simpa using hb
      rcases this with rfl | rfl
      · exact Heap.lt_size he
      · obtain⟨o,q,_⟩:=hit;exact Heap.lt_size q
    refine wpAny_pyNext_enum_item he hit p.isList (x:=u) (by simpa using hu) hei fun h' ho hit' hT hs' hk=>?_
    refine⟨_,rfl,wpAny_letOwnedTupleGo_enum (s:={ s with heap:=h',toks:=s.toks+1 }) ho fun h2 he2 hs2=>?_⟩
    have hT2:h2.get? s.heap.objs.size=some { cls:=.type "tuple",data:=.seq #[.int i s.toks,u] }:=(hs2.2 _ (Nat.ne_of_gt (hsz e (by simp)))).trans hT
    have I1:Inv X pins σ H { s with heap:=h2,toks:=s.toks+1 }:=iE I (fun b o hb q=>(hs2.2 b fun z=>hb (by simp[z])).trans (hk b o (fun z=>hb (by simp[z])) (fun z=>hb (by simp[z])) q)) hf
    have I2:=ld (o:=.tup [.int (i:Nat),x]) I1 fT ⟨show 2<=sizeLine by decide,[.int i s.toks,u],.cons ⟨_,rfl⟩ (.cons ru .nil),⟨_,hT2,rfl,_,rfl⟩⟩
    refine⟨.ref s.heap.objs.size,_,I2,rfl,⟨s.heap.objs.size,x,fT.1,rfl,rfl,fun ys hy=>by rw[I.list_inj hy hq];exact hx⟩,⟨⟨u,?_⟩,?_⟩,fun b hb=>?_⟩
    · have q:((i+1:Nat):Int)=(i:Int)+1:=by omega
      show IsEnum h2 e it ((i+1:Nat):Int) u
      rw[q];exact he2
    · exact hit'.at fun o q=>(hs2.2 it hei.symm).trans q
    · rw[ai (Nat.ne_of_lt (hsz b hb))];exact (hf b hb).1
  done:=by
    intro X hP hw hK hc i pins s σ H E I hf st hg
    subst hP hw hK
    obtain⟨⟨old,he⟩,hit⟩:=st
    obtain⟨xs,hq,hx⟩:=hg
    obtain⟨its,rv,p,hz⟩:=I.list hq
    have hl:=rv.length
    obtain⟨f0,f1,f2,f3,f4,f5⟩:=hf it (by simp)
    exact wpAny_pyNext_enum_end (I.ok.hd hc) he hit p.isList (Array.getElem?_eq_none (by simp;omega)) fun h' eb=>⟨rfl,I.turned (t':=s.toks) (fun b o hb e=>eb b o hb e) f0 f1 f3 f4 f5⟩
  self:=fun _ _ _ _ _ st h=>let ⟨⟨_,he⟩,_⟩:=st;wpAny_pyIter_enum he h
def Itz(K:PySem.W.Frag)(l1 l2:Addr):It :=
  ⟨fun i H=>∃ xs ys x y,SqL K H l1 xs/\SqL K H l2 ys/\xs[i]?=some x/\ys[i]?=some y,
   fun i H v H'=>∃ T x y,H T=none/\v=.ref T/\H'=upd H T (.tup [x,y])/\∀ xs ys,SqL K H l1 xs->SqL K H l2 ys->xs[i]?=some x/\ys[i]?=some y,
   fun i H=>∃ xs ys,SqL K H l1 xs/\SqL K H l2 ys/\(xs.length<=i\/ys.length<=i)⟩
theorem t5{P:Program}{w:World}{K:PySem.W.Frag}{elts:List Expr}{ek:Nat}{ep:Pos}(l1 l2 z TI TO i1 i2:Addr)(D:ZipApart z TI TO i1 i2 l1 l2):
    Turn P w K (.Tuple elts ek ep) (Itz K l1 l2) [z,TI,TO,i1,i2] z (fun i h=>IsZip h z TI TO .none/\IsPair h TI (.ref i1) (.ref i2)/\(∃ a b,IsPair h TO a b)/\h.IsListIter i1 l1 i/\h.IsListIter i2 l2 i) where
  mem:=by simp
  obj := fun i h st b hb=>by
    obtain⟨hz,hTI,⟨a,b',hTO⟩,h1,h2⟩:=st
    have e:b=z\/b=TI\/b=TO\/b=i1\/b=i2:=by simpa using hb
    rcases e with rfl | rfl | rfl | rfl | rfl
    · exact⟨_,hz,fun v z=>by have z':Data.fields _=Data.cell v:=z;cases z'⟩
    · exact⟨_,hTI,fun v z=>by have z':Data.seq _ _=Data.cell v:=z;cases z'⟩
    · exact⟨_,hTO,fun v z=>by have z':Data.seq _ _=Data.cell v:=z;cases z'⟩
    · obtain⟨o,e,c,d⟩:=h1
      exact⟨o,e,fun v z=>by rw[d] at z;cases z⟩
    · obtain⟨o,e,c,d⟩:=h2
      exact⟨o,e,fun v z=>by rw[d] at z;cases z⟩
  keep:=fun i h h' st k=>by
    obtain⟨hz,hTI,⟨a,b',hTO⟩,h1,h2⟩:=st
    exact⟨k z (by simp) _ hz,k TI (by simp) _ hTI,⟨a,b',k TO (by simp) _ hTO⟩,h1.at fun o q=>k i1 (by simp) o q,h2.at fun o q=>k i2 (by simp) o q⟩
  item:=by
    intro X hP hw hK hc i pins s σ H E I hf st hg
    subst hP hw hK
    obtain⟨hz,hTI,⟨a,b',hTO⟩,h1,h2⟩:=st
    obtain⟨xs,ys,x,y,hq1,hq2,hx,hy⟩:=hg
    obtain⟨its1,rv1,p1,hz1⟩:=I.list hq1
    obtain⟨its2,rv2,p2,hz2⟩:=I.list hq2
    obtain⟨u,hu,ru⟩:=rv1.get hx
    obtain⟨v,hv,rv⟩:=rv2.get hy
    have fT:=lf I
    have hsz:∀ b ∈ [z,TI,TO,i1,i2],b < s.heap.objs.size:=fun b hb=>by
      have e:b=z\/b=TI\/b=TO\/b=i1\/b=i2:=by simpa using hb
      rcases e with rfl | rfl | rfl | rfl | rfl
      · exact Heap.lt_size hz
      · exact Heap.lt_size hTI
      · exact Heap.lt_size hTO
      · obtain⟨o,q,_⟩:=h1;exact Heap.lt_size q
      · obtain⟨o,q,_⟩:=h2;exact Heap.lt_size q
    refine wpAny_pyNext_zip_item D hz hTI hTO h1 h2 p1.isList p2.isList (x:=u) (y:=v) (by simpa using hu) (by simpa using hv) fun h' hz' hTO' h1' h2' hT hs' hk=>?_
    refine⟨_,rfl,wpAny_letOwnedTupleGo_zip (s:={ s with heap:=h' }) hz' fun h3 hz3 hs3=>?_⟩
    have hT3:IsPair h3 s.heap.objs.size u v:=(hs3.2 _ (Nat.ne_of_gt (hsz z (by simp)))).trans hT
    have I1:Inv X pins σ H { s with heap:=h3,toks:=s.toks }:=iE I (fun b o hb q=>(hs3.2 b fun z=>hb (by simp[z])).trans (hk b o (fun z=>hb (by simp[z])) (fun z=>hb (by simp[z])) (fun z=>hb (by simp[z])) (fun z=>hb (by simp[z])) q)) hf
    have I2:=ld (o:=.tup [x,y]) I1 fT ⟨show 2<=sizeLine by decide,[u,v],.cons ru (.cons rv .nil),⟨_,hT3,rfl,_,rfl⟩⟩
    refine⟨.ref s.heap.objs.size,_,I2,rfl,⟨s.heap.objs.size,x,y,fT.1,rfl,rfl,fun as bs ha hb=>⟨by rw[I.list_inj ha hq1];exact hx,by rw[I.list_inj hb hq2];exact hy⟩⟩,⟨hz3,?_,⟨u,v,?_⟩,?_,?_⟩,fun b hb=>?_⟩
    · exact (hs3.2 TI D.TIz).trans (hk TI _ D.TIz D.TITO D.TIi1 D.TIi2 hTI)
    · exact (hs3.2 TO D.TOz).trans hTO'
    · exact h1'.at fun o q=>(hs3.2 i1 D.i1z).trans q
    · exact h2'.at fun o q=>(hs3.2 i2 D.i2z).trans q
    · rw[ai (Nat.ne_of_lt (hsz b hb))];exact (hf b hb).1
  done:=by
    intro X hP hw hK hc i pins s σ H E I hf st hg
    subst hP hw hK
    obtain⟨hz,hTI,⟨a,b',hTO⟩,h1,h2⟩:=st
    obtain⟨xs,ys,hq1,hq2,hx⟩:=hg
    obtain⟨its1,rv1,p1,hz1⟩:=I.list hq1
    obtain⟨its2,rv2,p2,hz2⟩:=I.list hq2
    have l1:=rv1.length
    have l2:=rv2.length
    refine wpAny_pyNext_zip_end (I.ok.hd hc) D hz hTI hTO h1 h2 p1.isList p2.isList (hx.imp (fun q=>Array.getElem?_eq_none (by simp;omega)) fun q=>Array.getElem?_eq_none (by simp;omega)) fun h' hk=>⟨rfl,?_⟩
    exact iE (t':=s.toks) I (fun b o hb q=>hk b o (fun z=>hb (by simp[z])) (fun z=>hb (by simp[z])) (fun z=>hb (by simp[z])) (fun z=>hb (by simp[z])) q) hf
  self:=fun _ _ _ _ _ st h=>wpAny_pyIter_zip st.1 h
section
variable {X:Cx} {tg a b:Expr} {elts:List Expr} {ek:Nat} {ep pn pr:Pos} {ta:TA}
def t6(K:PySem.W.Frag)(ta:TA):TI:=fun σ H R=>ta σ H fun vs H1=>∃ p xs,vs=[.ref p]/\SqL K H1 p xs/\R (Ite K p) H1
theorem t7(hg:Gl X "enumerate")(hm:X.mg "enumerate" = none)(ha:PA X [a] ta)(hs:starEach [a] X.env=[(false,eval a X.env)]:=by rfl):PI X (.Tuple elts ek ep) (.Call (.Name "enumerate" pn) [a] [] pr) (t6 X.K ta):=by
  intro pins s σ H R I h
  refine Call_ (dA I hg hm boot_enumerate (PyProof.Rows.callWith_type1 (thn (ha pr pins s σ H _ I h) fun us s1 ⟨vs,H1,I1,r1,q1⟩=>?_) hs rfl))
  obtain⟨p,xs,rfl,hq,q⟩:=q1
  obtain⟨u,rfl,ru⟩:=d3 r1
  cases ru
  obtain⟨its,rv,pl,hz⟩:=I1.list hq
  refine call_enumerate_list pl.isList fun h' he hit hsz hk=>?_
  refine wpAny_pyIter_enum he ?_
  refine⟨s1.heap.objs.size+1,[s1.heap.objs.size+1,s1.heap.objs.size],_,_,H1,rfl,I1.kept (t':=s1.toks) fun b o e=>hk b o e,t4 p _ _ (by simp),⟨⟨_,he⟩,hit⟩,fun b hb=>?_,q⟩
  have e:b=s1.heap.objs.size+1\/b=s1.heap.objs.size:=by simpa using hb
  rcases e with rfl | rfl
  · exact I1.fpOk (by omega) (I1.hok.fresh (by omega))
  · exact I1.fpOk (Nat.le_refl _) (I1.hok.fresh (Nat.le_refl _))
def t8(K:PySem.W.Frag)(ta:TA):TI:=fun σ H R=>ta σ H fun vs H1=>∃ p p' xs ys,vs=[.ref p,.ref p']/\SqL K H1 p xs/\SqL K H1 p' ys/\R (Itz K p p') H1
theorem t9(hg:Gl X "zip")(hm:X.mg "zip" = none)(ha:PA X [a,b] ta)(hs:starEach [a,b] X.env=[(false,eval a X.env),(false,eval b X.env)]:=by rfl)(hs2:starEach [b] X.env=[(false,eval b X.env)]:=by rfl):
    PI X (.Tuple elts ek ep) (.Call (.Name "zip" pn) [a,b] [] pr) (t8 X.K ta):=by
  intro pins s σ H R I h
  refine Call_ (dA I hg hm boot_zip (PyProof.Rows.callWith_type1 (thn (ha pr pins s σ H _ I h) fun us s1 ⟨vs,H1,I1,r1,q1⟩=>?_) (by rw[hs,hs2]) (by rw[hs2];rfl)))
  obtain⟨p,p',xs,ys,rfl,hq,hq',q⟩:=q1
  cases r1 with
  | cons ru rr =>
    cases rr with
    | cons rv' rr =>
      cases rr
      cases ru
      cases rv'
      obtain⟨its,rv,pl,hz⟩:=I1.list hq
      obtain⟨its',rv',pl',hz'⟩:=I1.list hq'
      have lt1:p < s1.heap.objs.size:=by obtain⟨o,e,_⟩:=pl.isList;exact Heap.lt_size e
      have lt2:p' < s1.heap.objs.size:=by obtain⟨o,e,_⟩:=pl'.isList;exact Heap.lt_size e
      refine call_zip_2 pl.isList pl'.isList fun h' hz hTI hTO hit1 hit2 hsz hk=>?_
      refine wpAny_pyIter_zip hz ?_
      refine⟨s1.heap.objs.size+4,[s1.heap.objs.size+4,s1.heap.objs.size+2,s1.heap.objs.size+3,s1.heap.objs.size,s1.heap.objs.size+1],_,_,H1,rfl,I1.kept (t':=s1.toks) fun b o e=>hk b o e,
        t5 p p' _ _ _ _ _ (zipApart_new lt1 lt2),⟨hz,hTI,⟨_,_,hTO⟩,hit1,hit2⟩,fun b hb=>?_,q⟩
      have e:b=s1.heap.objs.size+4\/b=s1.heap.objs.size+2\/b=s1.heap.objs.size+3\/b=s1.heap.objs.size\/b=s1.heap.objs.size+1:=by simpa using hb
      rcases e with rfl | rfl | rfl | rfl | rfl <;> exact I1.fpOk (by omega) (I1.hok.fresh (by omega))
end
end VL
namespace VL
open PySem PySem.Spec PyProof.Rows L2
theorem eX{d:D}{ds:List D}(h:b5 d=some ds):br d=false/\items d=some ds:=by
  unfold b5 at h
  cases ht:br d with
  | true=>rw[if_pos ht] at h;cases h
  | false=>rw[if_neg (by rw[ht];exact Bool.false_ne_true)] at h;exact⟨rfl,h⟩
theorem tf{ds:List D}{i:Nat}{d:D}(h:(cO ds)[i]?=some d):∃ e,ds[i]?=some e/\d=.tup [.int (i:Nat),e]:=by
  unfold cO at h
  rw[List.getElem?_map,List.getElem?_zipIdx] at h
  cases e:ds[i]? with
  | none=>rw[e] at h;cases h
  | some x=>rw[e] at h;simp at h;exact⟨x,rfl,h.symm⟩
theorem tj{ds es:List D}{i:Nat}{d:D}(h:(cP ds es)[i]?=some d):∃ a b,ds[i]?=some a/\es[i]?=some b/\d=.tup [a,b]:=by
  unfold cP at h
  rw[List.getElem?_map] at h
  cases e:(ds.zip es)[i]? with
  | none=>rw[e] at h;cases h
  | some p =>
    rw[e] at h
    obtain⟨h1,h2⟩:=List.getElem?_zip_eq_some.mp e
    simp at h
    exact⟨p.1,p.2,h1,h2,h.symm⟩
theorem tm(ds:List D):(cO ds).length=ds.length:=by simp[cO]
theorem tq(ds es:List D):(cP ds es).length=min ds.length es.length:=by simp[cP]
section
variable {X:Cx} {tg a b:Expr} {elts:List Expr} {ek:Nat} {ep pn pr:Pos} {fa fb:FE} {ea eb:List Es}
theorem tu(mr:X.mg "enumerate" = none)(h:VB X a fa ea)(hg:Gl X "enumerate":=by rfl)(hst:starEach [a] X.env=[(false,eval a X.env)]:=by rfl):VI X (.Tuple elts ek ep) (.Call (.Name "enumerate" pn) [a] [] pr) (dU fa) ea :=
  gb (t7 hg mr (bO h cv hst) hst) fun σ H R ⟨ρ,ds,hE,hf,hR⟩=>by
    obtain⟨d,h1,hf⟩:=bind_some hf
    obtain⟨es,h2,hf⟩:=bind_some hf
    cases hf
    obtain⟨ht,hi⟩:=eX h2
    refine⟨ρ,d,hE,h1,fun v H1 p=>?_⟩
    obtain⟨q,xs,rfl,hq,hx,hA⟩:=cw p.rep hi ht
    have len:=hx.length
    refine⟨q,xs,rfl,hq,hR _ _ ⟨p.same,fun i d' H' hd e=>?_,fun H' e=>⟨xs,e.seq hq,by rw[tm];omega⟩⟩⟩
    obtain⟨e',hd2,rfl⟩:=tf hd
    obtain⟨x,h3,h4⟩:=hx.get hd2
    refine⟨⟨xs,x,e.seq hq,h3⟩,fun y H'' ⟨T,y',hT,ey,eH,hy⟩=>?_⟩
    subst ey eH
    have e2:=hy xs (e.seq hq)
    rw[h3] at e2;cases e2
    have sn:=bM hT (.tup [.int (i:Nat),x])
    refine⟨sn,.tup aK (.cons (.int _) (.cons (ao (e.trans sn) h4) .nil)),fun A hD hz=>?_⟩
    obtain⟨x',h5,h6⟩:=(hA A (p.av A hD hz)).get hd2
    rw[h3] at h5;cases h5
    refine .tup ?_ (.cons (.int _) (.cons (ao (aM (e.trans sn)) h6) .nil))
    rw[aH ((hD.mono (p.same.trans e)).not_new hT)]
    exact aK
theorem tz(mr:X.mg "zip" = none)(ha:VB X a fa ea)(hb:VB X b fb eb)(hg:Gl X "zip":=by rfl)(hst:starEach [a,b] X.env=[(false,eval a X.env),(false,eval b X.env)]:=by rfl)(hst2:starEach [b] X.env=[(false,eval b X.env)]:=by rfl):
    VI X (.Tuple elts ek ep) (.Call (.Name "zip" pn) [a,b] [] pr) (dW fa fb) (ea++eb) :=
  gb (t9 hg mr (bO ha (bO hb cv hst2) (by rw[hst,hst2])) hst hst2) fun σ H R ⟨ρ,ds,hE,hf,hR⟩=>by
    obtain⟨d,h1,hf⟩:=bind_some hf
    obtain⟨d2,h1',hf⟩:=bind_some hf
    obtain⟨es,h2,hf⟩:=bind_some hf
    obtain⟨es2,h2',hf⟩:=bind_some hf
    cases hf
    obtain⟨ht,hi⟩:=eX h2
    obtain⟨ht',hi'⟩:=eX h2'
    refine⟨ρ,d,hE,h1,fun v H1 p1=>⟨ρ,d2,hE.mono p1.same,h1',fun v2 H2 p2=>?_⟩⟩
    have p:=p1.up p2.same
    have p':=p2.down p1.same
    obtain⟨q,xs,rfl,hq,hx,hA⟩:=cw p.rep hi ht
    obtain⟨q',ys,rfl,hq',hy,hA'⟩:=cw p'.rep hi' ht'
    have len:=hx.length
    have len':=hy.length
    refine⟨q,q',xs,ys,rfl,hq,hq',hR _ _ ⟨p.same,fun i d' H' hd e=>?_,fun H' e=>⟨xs,ys,e.seq hq,e.seq hq',by rw[tq];omega⟩⟩⟩
    obtain⟨e1,e2,hd1,hd2,rfl⟩:=tj hd
    obtain⟨x,h3,h4⟩:=hx.get hd1
    obtain⟨y,h3',h4'⟩:=hy.get hd2
    refine⟨⟨xs,ys,x,y,e.seq hq,e.seq hq',h3,h3'⟩,fun w H'' ⟨T,x',y',hT,ey,eH,hxy⟩=>?_⟩
    subst ey eH
    obtain⟨g1,g2⟩:=hxy xs ys (e.seq hq) (e.seq hq')
    rw[h3] at g1;cases g1
    rw[h3'] at g2;cases g2
    have sn:=bM hT (.tup [x,y])
    refine⟨sn,.tup aK (.cons (ao (e.trans sn) h4) (.cons (ao (e.trans sn) h4') .nil)),fun A hD hz=>?_⟩
    obtain⟨x'',h5,h6⟩:=(hA A (p.av A hD fun z hz'=>hz z (List.mem_append_left _ hz'))).get hd1
    rw[h3] at h5;cases h5
    obtain⟨y'',h5',h6'⟩:=(hA' A (p'.av A hD fun z hz'=>hz z (List.mem_append_right _ hz'))).get hd2
    rw[h3'] at h5';cases h5'
    refine .tup ?_ (.cons (ao (aM (e.trans sn)) h6) (.cons (ao (aM (e.trans sn)) h6') .nil))
    rw[aH ((hD.mono (p.same.trans e)).not_new hT)]
    exact aK
end
end VL
namespace VL
open PySem PySem.Spec PyProof.Rows L2
section
variable {X:Cx} {F:Fr0} {O O2 OL:List Nat} {fr:Bool} {a b:Expr} {body:List Stmt} {fa fb:FE} {ea eb:List Es} {tb:FS} {p2 pos pn pr:Pos}
end
end VL
namespace VL
open PySem PySem.Spec PyProof.Rows L2
section
variable {prog:Program} {w:World} {A:Around} {s:Shared} {R:Result->Shared->Prop}
variable {I:Addr} {fp wr:List Addr} {G:Array GenState->Array GenState->Prop} {n:Nat} {P:Nat->Value->Prop} {St:Nat->Shared->Prop}
end
section
variable {prog:Program} {w:World} {A:Around} {E:Value->Shared->Prop} {s:Shared}
end
section
variable {X:Cx} {a b e ix:Expr} {fa fb fe fx:FE} {ea eb es ei:List Es} {pos pos2 p p2:Pos} {ta:TA}
end
section
variable {X:Cx} {F:Fr0} {O OL:List Nat} {fr:Bool} {e ix:Expr} {fe fx:FE} {es ei:List Es} {pos p2:Pos}
end
def tB(sc:Scope)(names:List (Str × NameKind)):Bool:=names.all fun x=>!(x.2 == .free) || sc.names.lookup x.1 == some .cell || sc.names.lookup x.1 == some .free
theorem cQ{X:Cx}{names:List (Str × NameKind)}(sc:Scope)(hs:X.env.scope=sc)(h:tB sc names=true):∀ x ∈ names,x.2=.free->(X.env.kindOf x.1=some .cell\/X.env.kindOf x.1=some .free):=fun x hx hf=>by
  have:=List.all_eq_true.mp h x hx
  unfold PySem.Env.kindOf
  rw[hs]
  simp only[hf,beq_self_eq_true,Bool.not_true,Bool.false_or,Bool.or_eq_true,beq_iff_eq] at this
  exact this
end VL
namespace VL
open PySem PySem.Spec PyProof.Rows L2
section
variable {X:Cx} {a b e:Expr} {te:TE} {fa fb:FE} {ea eb:List Es} {pos p p2:Pos} {lo hi:Option Expr} {ke:Expr} {tl th tk:TO} {flo fhi fst:FO}
end
end VL
namespace VL
open PySem PySem.Spec PyProof.Rows L2
section
variable {X:Cx} {tg:Expr}
end
section
variable {X:Cx} {F:Fr0} {O O2 OL:List Nat} {fr:Bool} {a b c:Expr} {body:List Stmt} {as:FEs} {ei:List Es} {tb:FS} {p2 pos pn pr:Pos}
end
section
variable {X:Cx} {a b:Expr} {fa fb:FE} {ea eb es:List Es} {as:FEs} {pos p kp cp:Pos}
theorem lg:∀ {ns:List Int} {us:List Value},Vals (ns.map V.int) us->IntsAre us ns
  | [],_,.nil=>.nil
  | n::ns,_,.cons r t=>by
    obtain⟨k,rfl⟩:=r
    exact .cons n k (lg t)
def bF(rev:Bool)(ns:List Int):List Int:=if rev then ns.mergeSort (fun a b=>decide (b<=a)) else ns.mergeSort (fun a b=>decide (a<=b))
theorem gi(rev:Bool)(ns:List Int):(bF rev ns).Perm ns:=by
  unfold bF;split <;> exact List.mergeSort_perm _ _
theorem lh(ns:List Int):(bF false ns).Pairwise (·<=·):=by
  have:=List.pairwise_mergeSort (le:=fun (a b:Int)=>decide (a<=b)) (fun a b c h1 h2=>by simp at *;omega) (fun a b=>by simp;omega) ns
  exact this.imp fun h=>by simpa using h
theorem tD{a b:List Int}(hp:a.Perm b)(ha:a.Pairwise (·<=·))(hb:b.Pairwise (·<=·)):a=b:=hp.eq_of_pairwise (fun x y _ _ h1 h2=>Int.le_antisymm h1 h2) ha hb
theorem tE{us:List Value}{ns:List Int}(h:IntsAre us ns):Vals (ns.map V.int) us:=hU h
def li(K:PySem.W.Frag)(rev:Bool)(ta:TA):TE:=fun σ H Q=>ta σ H fun vs H1=>∃ (q:Addr) (ns:List Int),vs=[.ref q]/\SqL K H1 q (ns.map V.int)/\ns.length < 64/\∀ l,H1 l=none->Q (.ref l) (upd H1 l (.lst ((bF rev ns).map V.int)))
theorem tF{pins:List (Addr × Obj)}{σ:St}{H:Hp}{s:Shared}{Q:VK}{us:List Value}{out:Array Value}{ns ns':List Int}(I:Inv X pins σ H s)(hl:ns.length < 64)(hi:IntsAre out.toList ns')(e:ns'=ns'')(hlen:ns''.length=ns.length)(hQ:∀ l,H l=none->Q (.ref l) (upd H l (.lst (ns''.map V.int)))):EP X pins σ Q (.ref (s.heap.objs.size+1)) { s with heap:=sortedAll s.heap us out }:=by
  subst e
  obtain⟨c,he⟩:=sortedAll_at s.heap us out
  have hf:H (s.heap.objs.size+1)=none:=I.hok.fresh (Nat.le_succ _)
  refine⟨.ref _,_,I.laid (t':=s.toks) (o:=.lst (ns'.map V.int)) (fun b o q=>sortedAll_old q) (Nat.le_succ _) ⟨?_,out.toList,c,tE hi,by simpa using he⟩,rfl,hQ _ hf⟩
  rw[List.length_map,hlen]
  exact Nat.le_trans (Nat.le_of_lt hl) (by decide)
theorem tG{ta:TA}(hg:Gl X "sorted")(hm:X.mg "sorted" = none)(ha:PA X [a] ta)(he:starEach [a] X.env=(false,eval a X.env)::starEach [] X.env):PE X (.Call (.Name "sorted" p) [a] [] pos) (li X.K false ta):=by
  refine aD (fO (id:="sorted") (r:=fun xs H Q=>∃ (q:Addr) (ns:List Int),xs=[.ref q]/\SqL X.K H q (ns.map V.int)/\ns.length < 64/\∀ l,H l=none->Q (.ref l) (upd H l (.lst ((bF false ns).map V.int)))) ?_ hg hm (by decide +kernel) ha (by decide) (by decide) he rfl) fun σ H Q h=>h
  intro pins s σ H xs us Q I r h
  obtain⟨q,ns,rfl,hq,hl,hQ⟩:=h
  obtain⟨u,rfl,ru⟩:=d3 r
  cases ru
  obtain⟨its,rv,pl,hz⟩:=I.list hq
  have hlen:=rv.length
  rw[List.length_map] at hlen
  refine sorted_ints pl.isList (lg rv) (by omega) fun out ns' h1 h2 h3=>?_
  have e:ns'=bF false ns:=tD (h2.trans (gi false ns).symm) h3 (lh ns)
  exact tF I hl h1 e (gi false ns).length_eq hQ
def dX(rev:Bool):D->Option D:=fun d=>(b5 d).bind fun ds=>(cI ds).bind fun ns=>if ns.length < 64 then some (.lst ((bF rev ns).map .int)) else none
theorem tH{K:PySem.W.Frag}{rev:Bool}{σ:St}{H:Hp}{Q:VK}(h:tvF K (e1 (dX rev) fa) [] σ H Q):li K rev (jX (tvB K fa ea) jW) σ H Q:=by
  obtain⟨ρ,d,hE,hf,hQ⟩:=h
  obtain⟨dx,h1,hf⟩:=bind_some hf
  obtain⟨ds,h2,hf⟩:=bind_some hf
  obtain⟨ns,h3,hf⟩:=bind_some hf
  obtain⟨hl,rfl⟩:=bq hf
  obtain⟨ht,hi⟩:=eX h2
  refine⟨ρ,dx,hE,h1,fun x H1 p1=>?_⟩
  obtain⟨q,xs,rfl,hp,hx,hA⟩:=cw p1.rep hi ht
  have e:=ig h3
  subst e
  have e2:=g8 hx
  subst e2
  exact⟨q,ns,rfl,hp,hl,fun l hl'=>hQ _ _ (eQ p1.same hl' fun A hD hz=>Reps.ints _)⟩
theorem tI(ms:X.mg "sorted" = none)(ha:VB X a fa ea)(hg:Gl X "sorted":=by rfl)(he:starEach [a] X.env=(false,eval a X.env)::starEach [] X.env:=by rfl):VF X (.Call (.Name "sorted" p) [a] [] pos) (e1 (dX false) fa) [] :=
  aD (tG hg ms (bO ha cv he) he) fun σ H Q h=>tH h
end
end VL
namespace VL
open PySem PySem.Spec PyProof.Rows L2
end VL
namespace VL
open PySem PySem.Spec PyProof.Rows L2
end VL
namespace VL
open PySem PySem.Spec PyProof.Rows L2
section
variable {X:Cx} {a b c:Expr} {as:FEs} {es:List Es} {pos p:Pos}
end
section
variable {X:Cx}
end
section
variable {X:Cx} {F:Fr0} {O OL:List Nat} {fr:Bool} {e:Expr} {fe:FE} {es:List Es} {pos p2:Pos}
end
end VL
namespace VL
open PySem PySem.Spec PyProof.Rows L2
abbrev AA(A:Addr->Prop)(a:Addr)(bs:List Addr):Addr->Prop:=fun b=>A b\/b=a\/b ∈ bs
def InR(K:PySem.W.Frag)(H:Hp)(A:Addr->Prop)(bs:List Addr)(dss:List (List D)):Prop :=
  bs.length=dss.length/\∀ (k:Nat) b ds,bs[k]?=some b->dss[k]?=some ds->∃ ys,H b=some (.lst ys)/\Reps K (ae H A) ys ds
section
variable {K:PySem.W.Frag} {H H':Hp} {A A':Addr->Prop} {bs:List Addr} {dss:List (List D)}
theorem InR.mono(e:Same H H')(h:InR K H A bs dss):InR K H' A bs dss:=⟨h.1,fun k b ds h1 h2=>by
  obtain⟨ys,h3,h4⟩:=h.2 k b ds h1 h2
  exact⟨ys,e _ _ h3,aC (aM e) h4⟩⟩
theorem InR.change(e:Same (ae H A) (ae H' A'))(h0:∀ b ∈ bs,H' b=H b)(h:InR K H A bs dss):InR K H' A' bs dss:=⟨h.1,fun k b ds h1 h2=>by
  obtain⟨ys,h3,h4⟩:=h.2 k b ds h1 h2
  exact⟨ys,by rw[h0 b (List.mem_of_getElem? h1)];exact h3,aC e h4⟩⟩
theorem InR.at(h:InR K H A bs dss){k:Nat}{b:Addr}(hb:bs[k]?=some b):∃ ds ys,dss[k]?=some ds/\H b=some (.lst ys)/\Reps K (ae H A) ys ds:=by
  have hk:k < dss.length:=by have:=(List.getElem?_eq_some_iff.mp hb).1;have:=h.1;omega
  obtain⟨ys,h3,h4⟩:=h.2 k b dss[k] hb (List.getElem?_eq_getElem hk)
  exact⟨_,ys,List.getElem?_eq_getElem hk,h3,h4⟩
theorem gj:∀ {vs:List V} {ds:List D},vs.length=ds.length->(∀ (k:Nat) v d,vs[k]?=some v->ds[k]?=some d->Rep K H v d)->Reps K H vs ds
  | [],[],_,_=>.nil
  | [],_::_,h,_=>by cases h
  | _::_,[],h,_=>by cases h
  | v::vs,d::ds,h,k=>.cons (k 0 v d rfl rfl) (gj (by simpa using h) fun m v' d' h1 h2=>k (m+1) v' d' (by simpa using h1) (by simpa using h2))
theorem InR.reps(h:InR K H A bs dss)(hA:∀ b,A' b->A b)(hb:∀ b ∈ bs,¬ A' b):Reps K (ae H A') (bs.map V.ref) (dss.map D.lst):=by
  refine gj (by simpa using h.1) fun k v d h1 h2=>?_
  rw[List.getElem?_map] at h1 h2
  cases e1:bs[k]? with
  | none=>rw[e1] at h1;cases h1
  | some b =>
    cases e2:dss[k]? with
    | none=>rw[e2] at h2;cases h2
    | some ds =>
      rw[e1] at h1;rw[e2] at h2
      cases h1;cases h2
      obtain⟨ys,h3,h4⟩:=h.2 k b ds e1 e2
      refine .lst (.inl ?_) (aC (bD (fun _ _ q=>q) hA) h4)
      rw[aH (hb b (List.mem_of_getElem? e1))]
      exact h3
theorem tJ{α:Type}{xs:List α}(h:xs.Nodup){i j:Nat}{x:α}(h1:xs[i]?=some x)(h2:xs[j]?=some x):i=j :=
  (List.getElem?_inj (List.getElem?_eq_some_iff.mp h1).1 h).mp (h1.trans h2.symm)
theorem InR.put(h:InR K H A bs dss)(hn:bs.Nodup){k:Nat}{b:Addr}(hb:bs[k]?=some b)(hA:A b){ys:List V}{ds:List D}(hr:Reps K (ae H A) ys ds):InR K (upd H b (.lst ys)) A bs (dss.set k ds):=by
  have up:Same (ae H A) (ae (upd H b (.lst ys)) A):=fun c o q=>by
    obtain⟨n,q⟩:=bL q
    rw[aH n,ai (show c ≠ b from fun e=>n (by rw[e];exact hA))]
    exact q
  refine⟨by rw[List.length_set];exact h.1,fun m c es h1 h2=>?_⟩
  by_cases e:m=k
  · subst e
    rw[hb] at h1;cases h1
    have hm:m < dss.length:=by have:=(List.getElem?_eq_some_iff.mp h2).1;simpa using this
    rw[List.getElem?_set_self hm] at h2;cases h2
    exact⟨ys,aK,aC up hr⟩
  · rw[List.getElem?_set_ne (Ne.symm e)] at h2
    obtain⟨zs,h3,h4⟩:=h.2 m c es h1 h2
    have ne:c ≠ b:=fun q=>e (tJ hn (q ▸ h1) hb)
    exact⟨zs,by rw[ai ne];exact h3,aC up h4⟩
theorem InR.snoc(h:InR K H A bs dss){b:Addr}{ys:List V}{ds:List D}(hb:H b=some (.lst ys))(hr:Reps K (ae H A) ys ds):InR K H A (bs++[b]) (dss++[ds]):=by
  refine⟨by simp[h.1],fun k c es h1 h2=>?_⟩
  by_cases e:k < bs.length
  · rw[List.getElem?_append_left e] at h1
    rw[List.getElem?_append_left (by rw[<- h.1];exact e)] at h2
    exact h.2 k c es h1 h2
  · have:k=bs.length:=by have:=(List.getElem?_eq_some_iff.mp h1).1;simp at this;omega
    subst this
    rw[List.getElem?_append_right (Nat.le_refl _),Nat.sub_self] at h1
    rw[h.1,List.getElem?_append_right (Nat.le_refl _),Nat.sub_self] at h2
    cases h1;cases h2
    exact⟨ys,hb,hr⟩
end
def lkD(ρ:ab)(i r:Nat):Option D:=(aa r ρ).bind fun k=>(aa i ρ).bind fun x=>match k,x with
  | .int k,.lst ds=>ds[k.toNat]?
  | _,_=>none
def vw(i:Nat):Option Nat->ab->ab
  | none,ρ=>ρ
  | some r,ρ=>ρ.set r (lkD ρ i r)
structure EnvD (K:PySem.W.Frag) (F:Fr0) (held:List Hd) (i:Nat) (al:Option Nat) (a:Addr) (bs:List Addr) (dss:List (List D)) (σ:St) (ρ:ab) (H:Hp):Prop where
  same:Same F.H0 H
  lσ:σ.length=F.n
  lρ:ρ.length=F.n
  si:σ[i]?=some (some (V.ref a))
  ri:ρ[i]?=some (some (.lst (dss.map .lst)))
  ha:H a=some (.lst (bs.map V.ref))
  nd:(a::bs).Nodup
  new:∀ b,b=a\/b ∈ bs->F.H0 b=Option.none
  inn:∀ A,F.PA A->InR K H (AA A a bs) bs dss
  val:∀ j d,ρ[j]?=some (some d)->j ≠ i->al ≠ some j->∃ v,σ[j]?=some (some v)/\∀ A,F.PA A->Rep K (ae H (AA A a bs)) v d
  hld:∀ p ∈ held,∀ A,F.PA A->HdOk K (ae H (AA A a bs)) p
  als:∀ r,al=some r->r ≠ i/\∃ (k:Nat) (b:Addr),ρ[r]?=some (some (.int (k:Nat)))/\bs[k]?=some b/\σ[r]?=some (some (V.ref b))
section
variable {K:PySem.W.Frag} {F:Fr0} {held:List Hd} {i:Nat} {al:Option Nat} {a:Addr} {bs:List Addr} {dss:List (List D)} {σ:St} {ρ:ab} {H H':Hp}
theorem EnvD.up(h:EnvD K F held i al a bs dss σ ρ H)(e:Same H H'):EnvD K F held i al a bs dss σ ρ H' :=
  ⟨h.same.trans e,h.lσ,h.lρ,h.si,h.ri,e _ _ h.ha,h.nd,h.new,fun A hA=>(h.inn A hA).mono e,fun j d q h1 h2=>let ⟨v,h3,h4⟩:=h.val j d q h1 h2;⟨v,h3,fun A hA=>ao (aM e) (h4 A hA)⟩,fun p hp A hA=>(h.hld p hp A hA).mono (aM e),h.als⟩
theorem EnvD.out(h:EnvD K F held i al a bs dss σ ρ H){A:Addr->Prop}(hA:F.PA A){b:Addr}(hb:b=a\/b ∈ bs):¬ A b:=fun q=>F.dom A hA b q (h.new b hb)
theorem EnvD.dom(h:EnvD K F held i al a bs dss σ ρ H){A:Addr->Prop}(hA:F.PA A):Dom H (AA A a bs):=fun b q=>by
  rcases q with q | rfl | q
  · exact ((F.dom A hA).mono h.same) b q
  · rw[h.ha];exact fun z=>nomatch z
  · obtain⟨k,hk⟩:=List.getElem?_of_mem q
    obtain⟨_,ys,_,h2,_⟩:=(h.inn A hA).at hk
    rw[h2];exact fun z=>nomatch z
theorem EnvD.repI(h:EnvD K F held i al a bs dss σ ρ H){A:Addr->Prop}(hA:F.PA A):Rep K (ae H A) (V.ref a) (.lst (dss.map .lst)):=by
  refine .lst (.inl ?_) ((h.inn A hA).reps (fun b q=>.inl q) fun b hb=>h.out hA (.inr hb))
  rw[aH (h.out hA (.inl rfl))]
  exact h.ha
theorem tK{k:Nat}{r:Nat}(hr:ρ[r]?=some (some (.int (k:Nat))))(hi:ρ[i]?=some (some (.lst (dss.map .lst)))):lkD ρ i r=(dss[k]?).map D.lst:=by
  unfold lkD aa
  rw[hr,hi]
  simp
theorem EnvD.envR(h:EnvD K F held i al a bs dss σ ρ H):EnvR K H σ (vw i al ρ):=fun j d e=>by
  have plain:ρ[j]?=some (some d)->al ≠ some j->∃ v,σ[j]?=some (some v)/\Rep K H v d:=fun e' hj=>by
    by_cases hi:j=i
    · subst hi
      rw[h.ri] at e';cases e'
      exact⟨_,h.si,ao (aJ _ _) (h.repI F.none)⟩
    · obtain⟨v,h1,h2⟩:=h.val j d e' hi hj
      exact⟨v,h1,ao (aJ _ _) (h2 _ F.none)⟩
  cases al with
  | none=>exact plain e fun z=>nomatch z
  | some r =>
    obtain⟨hri,k,b,h1,h2,h3⟩:=h.als r rfl
    by_cases hj:j=r
    · subst hj
      have hl:j < ρ.length:=(List.getElem?_eq_some_iff.mp h1).1
      unfold vw at e
      rw[List.getElem?_set_self hl,tK h1 h.ri] at e
      obtain⟨ds,ys,h4,h5,h6⟩:=(h.inn _ F.none).at h2
      rw[h4] at e;cases e
      exact⟨_,h3,.lst (.inl h5) (aC (aJ _ _) h6)⟩
    · unfold vw at e
      rw[List.getElem?_set_ne (Ne.symm hj)] at e
      exact plain e fun z=>hj (Option.some.inj z).symm
def apD(i:Nat)(al:Option Nat):Es->Bool
  | .full j=>j != i && al != some j
  | .el j=>j != i && al != some j
theorem tL{j:Nat}(h:al ≠ some j):(vw i al ρ)[j]?=ρ[j]?:=by
  cases al with
  | none=>rfl
  | some r=>exact List.getElem?_set_ne (show r ≠ j from fun e=>h (by rw[e]))
theorem EnvD.av(h:EnvD K F held i al a bs dss σ ρ H){A:Addr->Prop}(hA:F.PA A){e:Es}(he:apD i al e=true):Av K H σ (vw i al ρ) (AA A a bs) e:=by
  have out:∀ (j:Nat) (v:V) (d:D),j ≠ i->al ≠ some j->σ[j]?=some (some v)->(vw i al ρ)[j]?=some (some d)->Rep K (ae H (AA A a bs)) v d:=fun j v d h1 h2 h3 h4=>by
    rw[tL h2] at h4
    obtain⟨v',h5,h6⟩:=h.val j d h4 h1 h2
    rw[h3] at h5;cases h5
    exact h6 A hA
  cases e with
  | full j =>
    simp only[apD,Bool.and_eq_true,bne_iff_ne,ne_eq] at he
    exact fun v d h1 h2=>out j v d he.1 he.2 h1 h2
  | el j =>
    simp only[apD,Bool.and_eq_true,bne_iff_ne,ne_eq] at he
    exact fun v d h1 h2=>(out j v d he.1 he.2 h1 h2).el
theorem EnvD.eval(h:EnvD K F held i al a bs dss σ ρ H){es:List Es}{d:D}{v:V}(hes:es.all (apD i al)=true)(p:Post K σ (vw i al ρ) H es d v H'){A:Addr->Prop}(hA:F.PA A):Rep K (ae H' (AA A a bs)) v d :=
  p.av _ (h.dom hA) fun e he=>h.av hA (List.all_eq_true.mp hes e he)
theorem EnvD.set(h:EnvD K F held i al a bs dss σ ρ H){j:Nat}{v:V}{d:D}(hj:j ≠ i)(hal:al ≠ some j)(hv:∀ A,F.PA A->Rep K (ae H (AA A a bs)) v d):EnvD K F held i al a bs dss (σ.set j (some v)) (ρ.set j (some d)) H:=by
  refine⟨h.same,by rw[List.length_set];exact h.lσ,by rw[List.length_set];exact h.lρ,?_,?_,h.ha,h.nd,h.new,h.inn,fun m e q h1 h2=>?_,h.hld,fun r hr=>?_⟩
  · rw[List.getElem?_set_ne hj];exact h.si
  · rw[List.getElem?_set_ne hj];exact h.ri
  · by_cases e1:m=j
    · subst e1
      have l1:m < ρ.length:=by have:=(List.getElem?_eq_some_iff.mp q).1;simpa using this
      rw[List.getElem?_set_self l1] at q;cases q
      exact⟨v,List.getElem?_set_self (by rw[h.lσ,<- h.lρ];exact l1),hv⟩
    · rw[List.getElem?_set_ne (Ne.symm e1)] at q ⊢
      exact h.val m e q h1 h2
  · obtain⟨h1,k,b,h2,h3,h4⟩:=h.als r hr
    have ne:j ≠ r:=fun e=>hal (e ▸ hr)
    exact⟨h1,k,b,by rw[List.getElem?_set_ne ne];exact h2,h3,by rw[List.getElem?_set_ne ne];exact h4⟩
theorem EnvD.put(h:EnvD K F held i al a bs dss σ ρ H){k:Nat}{b:Addr}(hb:bs[k]?=some b){ys:List V}{ds:List D}(hr:∀ A,F.PA A->Reps K (ae H (AA A a bs)) ys ds):
    EnvD K F held i al a bs (dss.set k ds) σ (ρ.set i (some (.lst ((dss.set k ds).map .lst)))) (upd H b (.lst ys)):=by
  have hm:=List.mem_of_getElem? hb
  have up:∀ {A:Addr->Prop},Same (ae H (AA A a bs)) (ae (upd H b (.lst ys)) (AA A a bs)):=fun {A} c o q=>by
    obtain⟨n,q⟩:=bL q
    rw[aH n,ai (show c ≠ b from fun e=>n (.inr (.inr (by rw[e];exact hm))))]
    exact q
  have nd:=List.nodup_cons.mp h.nd
  have hl:i < ρ.length:=(List.getElem?_eq_some_iff.mp h.ri).1
  refine⟨fun c o q=>?_,h.lσ,by rw[List.length_set];exact h.lρ,h.si,List.getElem?_set_self hl,?_,h.nd,h.new,fun A hA=>(h.inn A hA).put nd.2 hb (.inr (.inr hm)) (hr A hA),fun j e q h1 h2=>?_,fun p hp A hA=>(h.hld p hp A hA).mono up,fun r hr=>?_⟩
  · rw[ai (show c ≠ b from fun e=>by subst e;rw[h.new c (.inr hm)] at q;cases q)]
    exact h.same c o q
  · rw[ai (show a ≠ b from fun e=>nd.1 (by rw[e];exact hm))]
    exact h.ha
  · rw[List.getElem?_set_ne (Ne.symm h1)] at q
    obtain⟨v,h3,h4⟩:=h.val j e q h1 h2
    exact⟨v,h3,fun A hA=>ao up (h4 A hA)⟩
  · obtain⟨h1,m,c,h2,h3,h4⟩:=h.als r hr
    exact⟨h1,m,c,by rw[List.getElem?_set_ne (Ne.symm h1)];exact h2,h3,h4⟩
theorem EnvD.swap(h:EnvD K F held i none a bs dss σ ρ H)(e:Same H H'){k:Nat}{b l:Addr}(hb:bs[k]?=some b)(hl:H l=none){ys:List V}{ds:List D}(hl':H' l=some (.lst ys))(hr:∀ H'',Reps K H'' ys ds):
    EnvD K F held i none a (bs.set k l) (dss.set k ds) σ (ρ.set i (some (.lst ((dss.set k ds).map .lst)))) (upd H' a (.lst ((bs.set k l).map V.ref))):=by
  have hE:=h.up e
  have nd:=List.nodup_cons.mp h.nd
  have hla:l ≠ a:=fun q=>by subst q;rw[h.ha] at hl;cases hl
  have hlb:l ∉ bs:=fun q=>h.dom F.none l (.inr (.inr q)) hl
  have hk:k < bs.length:=(List.getElem?_eq_some_iff.mp hb).1
  have hpl:i < ρ.length:=(List.getElem?_eq_some_iff.mp h.ri).1
  have sub:∀ {c:Addr},c ∈ bs.set k l->c=l\/c ∈ bs:=fun {c} q=>(List.mem_or_eq_of_mem_set q).elim .inr .inl
  have up:∀ {A:Addr->Prop},Same (ae H (AA A a bs)) (ae (upd H' a (.lst ((bs.set k l).map V.ref))) (AA A a (bs.set k l))):=fun {A} c o q=>by
    obtain⟨n,q⟩:=bL q
    have ne:c ≠ a:=fun z=>n (.inr (.inl z))
    have nl:c ≠ l:=b8 q hl
    rw[aH,ai ne]
    · exact e c o q
    · rintro (z | z | z)
      · exact n (.inl z)
      · exact ne z
      · rcases sub z with z | z
        · exact nl z
        · exact n (.inr (.inr z))
  refine⟨fun c o q=>?_,h.lσ,by rw[List.length_set];exact h.lρ,h.si,List.getElem?_set_self hpl,aK,?_,fun c hc=>?_,fun A hA=>⟨by simp[(h.inn A hA).1],fun m c es h1 h2=>?_⟩,fun j d q h1 h2=>?_,fun p hp A hA=>(h.hld p hp A hA).mono up,fun r hr=>nomatch hr⟩
  · rw[ai (show c ≠ a from fun z=>by subst z;rw[h.new c (.inl rfl)] at q;cases q)]
    exact hE.same c o q
  · refine List.nodup_cons.mpr ⟨fun z=>?_,?_⟩
    · rcases sub z with z | z
      · exact hla z.symm
      · exact nd.1 z
    · refine List.pairwise_iff_getElem.mpr fun m n hm hn hmn=>?_
      have hm':m < bs.length:=by simpa using hm
      have hn':n < bs.length:=by simpa using hn
      rw[List.getElem_set,List.getElem_set]
      by_cases e1:k=m
      · rw[if_pos e1,if_neg (by omega)]
        intro z
        exact hlb (by rw[z];exact List.getElem_mem _)
      · rw[if_neg e1]
        by_cases e2:k=n
        · rw[if_pos e2]
          intro z
          exact hlb (by rw[<- z];exact List.getElem_mem _)
        · rw[if_neg e2]
          exact List.pairwise_iff_getElem.mp nd.2 m n hm' hn' hmn
  · rcases hc with rfl | hc
    · exact h.new c (.inl rfl)
    · rcases sub hc with rfl | hc
      · cases q:F.H0 c with
        | none=>rfl
        | some o=>rw[h.same c o q] at hl;cases hl
      · exact h.new c (.inr hc)
  · by_cases e1:m=k
    · subst e1
      rw[List.getElem?_set_self hk] at h1;cases h1
      have hm:m < dss.length:=by rw[<- (h.inn A hA).1];exact hk
      rw[List.getElem?_set_self hm] at h2;cases h2
      exact⟨ys,by rw[ai hla];exact hl',hr _⟩
    · rw[List.getElem?_set_ne (Ne.symm e1)] at h1 h2
      obtain⟨zs,h3,h4⟩:=(h.inn A hA).2 m c es h1 h2
      have ne:c ≠ a:=fun z=>nd.1 (z ▸ List.mem_of_getElem? h1)
      exact⟨zs,by rw[ai ne];exact e _ _ h3,aC up h4⟩
  · rw[List.getElem?_set_ne (Ne.symm h1)] at q
    obtain⟨v,h3,h4⟩:=h.val j d q h1 h2
    exact⟨v,h3,fun A hA=>ao up (h4 A hA)⟩
end
end VL
namespace VL
open PySem PySem.Spec PyProof.Rows L2
def tM(K:PySem.W.Frag)(F:Fr0)(held:List Hd)(i:Nat)(al':Option Nat)(fr:Bool)(De:Ends):Out->Prop
  | .nx ρ'=>∀ a bs dss σ' H',EnvD K F held i al' a bs dss σ' ρ' H'->De.nx σ' H'
  | .rt d=>∀ v H',Ret K F fr d v H'->De.rt v H'
  | .bk _=>True
  | .ct _=>True
def tsD(K:PySem.W.Frag)(F:Fr0)(held:List Hd)(i:Nat)(al al':Option Nat)(fr:Bool)(f:FS):TS:=fun De σ H=>∃ a bs dss ρ o,EnvD K F held i al a bs dss σ ρ H/\f ρ=some o/\tM K F held i al' fr De o
abbrev VD(X:Cx)(F:Fr0)(i:Nat)(al:Option Nat)(st:Stmt)(f:FS)(al':Option Nat)(fr:Bool):Prop:=∀ held,PS X st (tsD X.K F held i al al' fr f)
abbrev VDs(X:Cx)(F:Fr0)(i:Nat)(al:Option Nat)(st:List Stmt)(f:FS)(al':Option Nat)(fr:Bool):Prop:=∀ held,PSs X st (tsD X.K F held i al al' fr f)
section
variable {X:Cx} {F:Fr0} {i:Nat} {al al1 al2:Option Nat} {fr:Bool} {f g:FS} {st:Stmt} {ak:List Stmt} {pos p2 p3 p4:Pos} {e b1 b2:Expr} {fe f1 f2:FE} {es e1 e2:List Es}
theorem gk{K:PySem.W.Frag}{H H':Hp}:∀ {vs:List V} {ds:List D},ds.all bb=true->Reps K H vs ds->Reps K H' vs ds
  | [],_,_,h=>by cases h;exact .nil
  | _ :: _,_,s,h=>by
    cases h with
    | cons h1 h2 =>
      rw[List.all_cons,Bool.and_eq_true] at s
      exact .cons (ku s.1 h1) (gk s.2 h2)
end
end VL
namespace VL
open PySem PySem.Spec PyProof.Rows L2
structure PostD (K:PySem.W.Frag) (σ:St) (ρ:ab) (H:Hp) (es:List Es) (d:D) (v:V) (H':Hp):Prop where
  same:Same H H'
  new:∃ l bs dss,v=V.ref l/\d=.lst (dss.map .lst)/\(l::bs).Nodup/\(∀ b,b=l\/b ∈ bs->H b=none)/\H' l=some (.lst (bs.map V.ref))/\∀ A,Dom H A->(∀ e ∈ es,Av K H σ ρ A e)->InR K H' (AA A l bs) bs dss
def tN(K:PySem.W.Frag)(σ:St)(ρ:ab)(H:Hp)(es:List Es)(ds:List D)(J:It)(H1:Hp):Prop:=∀ (i:Nat) (d:D) (H':Hp) x H'',ds[i]?=some d->Same H1 H'->J.yld i H' x H''->∀ A,Dom H A->(∀ e ∈ es,Av K H σ ρ A e)->Rep K (ae H1 A) x d
def tO(K:PySem.W.Frag)(f:FEs)(es:List Es):TI:=fun σ H R=>∃ ρ ds,EnvR K H σ ρ/\f ρ=some ds/\∀ J H1,PostI K σ ρ H es ds J H1->tN K σ ρ H es ds J H1->R J H1
abbrev VIL(X:Cx)(tg iter:Expr)(f:FEs)(es:List Es):Prop:=PI X tg iter (tO X.K f es)
section
variable {X:Cx} {elt tg iter:Expr} {ifs:List Expr} {scope:Scope} {own cn:List Str} {caps is:List Nat} {g:TG} {un:D->Option (List D)} {fi:FEs} {ei ee:List Es} {c:ab->Option Bool} {fe:FE} {pos spos p2:Pos}
end
end VL
namespace VL
open PySem PySem.Spec PyProof.Rows L2
section
variable {prog:Program} {w:World} {A:Around} {E:Value->Shared->Prop} {s:Shared}
end
section
variable {X:Cx} {tg a:Expr} {ta:TA} {p p2 pos pos2:Pos}
end
section
variable {X:Cx} {F:Fr0} {O O2 OL:List Nat} {fr:Bool} {a:Expr} {body:List Stmt} {as:FEs} {ei:List Es} {tb:FS} {p2 pos pn pr pm pq:Pos}
end
section
variable {X:Cx} {a b c:Expr} {fa fb fc:FE} {ea eb ec:List Es} {pos:Pos}
end
end VL
namespace VL
open PySem PySem.Spec PyProof.Rows L2
section
variable {K:PySem.W.Frag} {F:Fr0} {held:List Hd} {i r:Nat} {al:Option Nat} {a:Addr} {bs:List Addr} {dss:List (List D)} {σ:St} {ρ:ab} {H H':Hp}
end
def tP(K:PySem.W.Frag)(F:Fr0)(held:List Hd)(i:Nat)(al':Option Nat)(a:Addr)(bs:List Addr)(fr:Bool)(De:Ends):Out->Prop
  | .nx ρ'=>∀ dss σ' H',EnvD K F held i al' a bs dss σ' ρ' H'->De.nx σ' H'
  | .rt d=>∀ v H',Ret K F fr d v H'->De.rt v H'
  | .bk _=>True
  | .ct _=>True
def tsK(K:PySem.W.Frag)(F:Fr0)(held:List Hd)(i:Nat)(al al':Option Nat)(a:Addr)(bs:List Addr)(fr:Bool)(f:FS):TS:=fun De σ H=>∃ dss ρ o,EnvD K F held i al a bs dss σ ρ H/\f ρ=some o/\tP K F held i al' a bs fr De o
abbrev VJ(X:Cx)(F:Fr0)(i:Nat)(al:Option Nat)(st:Stmt)(f:FS)(al':Option Nat)(fr:Bool):Prop:=∀ held a bs,PS X st (tsK X.K F held i al al' a bs fr f)
abbrev VJs(X:Cx)(F:Fr0)(i:Nat)(al:Option Nat)(st:List Stmt)(f:FS)(al':Option Nat)(fr:Bool):Prop:=∀ held a bs,PSs X st (tsK X.K F held i al al' a bs fr f)
section
variable {X:Cx} {F:Fr0} {i r:Nat} {al al1 al2:Option Nat} {fr:Bool} {f g:FS} {st:Stmt} {ak:List Stmt} {pos p2 p3 p4:Pos} {e b1 b2:Expr} {fe f1 f2:FE} {es e1 e2:List Es}
end
end VL
namespace VL
open PySem PySem.Spec PyProof.Rows L2
structure RetX (K:PySem.W.Frag) (H0:Hp) (d:D) (v:V) (H':Hp):Prop where
  same:Same H0 H'
  new:∃ l bs dss,v=V.ref l/\d=.lst (dss.map .lst)/\(l::bs).Nodup/\(∀ b,b=l\/b ∈ bs->H0 b=none)/\H' l=some (.lst (bs.map V.ref))/\∀ A,InR K H' A bs dss
section
variable {K:PySem.W.Frag} {F:Fr0} {held:List Hd} {i:Nat} {a:Addr} {bs:List Addr} {dss:List (List D)} {σ:St} {ρ:ab} {H H':Hp}
theorem EnvD.push(h:EnvD K F held i none a bs dss σ ρ H)(e:Same H H'){l:Addr}(hl:H l=none){ys:List V}{ds:List D}(hl':H' l=some (.lst ys))(hr:∀ H'',Reps K H'' ys ds):
    EnvD K F held i none a (bs++[l]) (dss++[ds]) σ (ρ.set i (some (.lst ((dss++[ds]).map .lst)))) (upd H' a (.lst ((bs++[l]).map V.ref))):=by
  have hE:=h.up e
  have nd:=List.nodup_cons.mp h.nd
  have hla:l ≠ a:=fun q=>by subst q;rw[h.ha] at hl;cases hl
  have hlb:l ∉ bs:=fun q=>h.dom F.none l (.inr (.inr q)) hl
  have hpl:i < ρ.length:=(List.getElem?_eq_some_iff.mp h.ri).1
  have sub:∀ {c:Addr},c ∈ bs++[l]->c ∈ bs\/c=l:=fun {c} q=>(List.mem_append.mp q).imp id List.mem_singleton.mp
  have up:∀ {A:Addr->Prop},Same (ae H (AA A a bs)) (ae (upd H' a (.lst ((bs++[l]).map V.ref))) (AA A a (bs++[l]))):=fun {A} c o q=>by
    obtain⟨n,q⟩:=bL q
    have ne:c ≠ a:=fun z=>n (.inr (.inl z))
    have nl:c ≠ l:=b8 q hl
    rw[aH,ai ne]
    · exact e c o q
    · rintro (z | z | z)
      · exact n (.inl z)
      · exact ne z
      · rcases sub z with z | z
        · exact n (.inr (.inr z))
        · exact nl z
  refine⟨fun c o q=>?_,h.lσ,by rw[List.length_set];exact h.lρ,h.si,List.getElem?_set_self hpl,aK,?_,fun c hc=>?_,fun A hA=>InR.snoc ⟨(h.inn A hA).1,fun m c es h1 h2=>?_⟩ ?_ (hr _),fun j d q h1 h2=>?_,fun p hp A hA=>(h.hld p hp A hA).mono up,fun r hr=>nomatch hr⟩
  · rw[ai (show c ≠ a from fun z=>by subst z;rw[h.new c (.inl rfl)] at q;cases q)]
    exact hE.same c o q
  · refine List.nodup_cons.mpr ⟨fun z=>?_,?_⟩
    · rcases sub z with z | z
      · exact nd.1 z
      · exact hla z.symm
    · rw[List.nodup_append]
      exact⟨nd.2,by simp,fun x hx y hy=>by rw[List.mem_singleton] at hy;subst hy;exact fun q=>hlb (q ▸ hx)⟩
  · rcases hc with rfl | hc
    · exact h.new c (.inl rfl)
    · rcases sub hc with hc | rfl
      · exact h.new c (.inr hc)
      · cases q:F.H0 c with
        | none=>rfl
        | some o=>rw[h.same c o q] at hl;cases hl
  · obtain⟨zs,h3,h4⟩:=(h.inn A hA).2 m c es h1 h2
    have ne:c ≠ a:=fun z=>nd.1 (z ▸ List.mem_of_getElem? h1)
    exact⟨zs,by rw[ai ne];exact e _ _ h3,aC up h4⟩
  · rw[ai hla];exact hl'
  · rw[List.getElem?_set_ne (Ne.symm h1)] at q
    obtain⟨v,h3,h4⟩:=h.val j d q h1 h2
    exact⟨v,h3,fun A hA=>ao up (h4 A hA)⟩
end
def tQ(K:PySem.W.Frag)(F:Fr0)(held:List Hd)(i:Nat)(De:Ends):Out->Prop
  | .nx ρ'=>∀ a bs dss σ' H',EnvD K F held i none a bs dss σ' ρ' H'->De.nx σ' H'
  | .rt d=>∀ v H',RetX K F.H0 d v H'->De.rt v H'
  | .bk _=>True
  | .ct _=>True
def tsX(K:PySem.W.Frag)(F:Fr0)(held:List Hd)(i:Nat)(f:FS):TS:=fun De σ H=>∃ a bs dss ρ o,EnvD K F held i none a bs dss σ ρ H/\f ρ=some o/\tQ K F held i De o
abbrev VX(X:Cx)(F:Fr0)(i:Nat)(st:Stmt)(f:FS):Prop:=∀ held,PS X st (tsX X.K F held i f)
abbrev VXs(X:Cx)(F:Fr0)(i:Nat)(st:List Stmt)(f:FS):Prop:=∀ held,PSs X st (tsX X.K F held i f)
def tR(K:PySem.W.Frag)(F:Fr0)(held:List Hd)(O':List Nat)(De:Ends):Out->Prop
  | .nx ρ'=>∀ σ' H',EnvO K F held O' σ' ρ' H'->De.nx σ' H'
  | .rt d=>∀ v H',RetX K F.H0 d v H'->De.rt v H'
  | .bk _=>True
  | .ct _=>True
def tsR(K:PySem.W.Frag)(F:Fr0)(held:List Hd)(O O':List Nat)(f:FS):TS:=fun De σ H=>∃ ρ o,EnvO K F held O σ ρ H/\f ρ=some o/\tR K F held O' De o
abbrev VRs(X:Cx)(F:Fr0)(O:List Nat)(st:List Stmt)(f:FS)(O':List Nat):Prop:=∀ held,PSs X st (tsR X.K F held O O' f)
section
variable {X:Cx} {F:Fr0} {O O1 O2 O' OL:List Nat} {i:Nat} {fr:Bool} {f g:FS} {st:Stmt} {ak:List Stmt} {pos p2 p3 p4:Pos} {e:Expr} {fe:FE} {es:List Es}
end
def spX(K:PySem.W.Frag)(G:List D->Option D):Sp:=fun vs H Q _=>∃ ds d,Reps K H vs ds/\G ds=some d/\∀ v H',RetX K H d v H'->Q v H'
theorem RetX.retC{K:PySem.W.Frag}{H:Hp}{vs:List V}{ds:List D}{d:D}{v:V}{H':Hp}(h:RetX K H d v H'):RetC K H vs ds true d v H':=by
  obtain⟨l,bs,dss,rfl,rfl,hnd,hnew,hl,hin⟩:=h.new
  have out:∀ {A:Addr->Prop},Dom H A->∀ b,b=l\/b ∈ bs->¬ A b:=fun {A} hA b hb q=>hA b q (hnew b hb)
  refine⟨h.same,fun A hA _=>.lst (.inl ?_) ((hin A).reps (fun _ q=>q) fun b hb=>out hA b (.inr hb)),fun _=>⟨l,_,_,rfl,rfl,hnew l (.inl rfl),hl,fun A hA _=>?_⟩⟩
  · rw[aH (out hA l (.inl rfl))];exact hl
  · refine (hin fun b=>A b\/b=l).reps (fun _ q=>q) fun b hb q=>?_
    rcases q with q | q
    · exact out hA b (.inr hb) q
    · exact (List.nodup_cons.mp hnd).1 (q ▸ hb)
def DefX(P:Program)(w:World)(K:PySem.W.Frag)(mg:Str->Option Value)(base:Heap)(x:Str)(k:Nat)(ps:List Str)(G:List D->Option D):Prop :=
  ∃ f fd,FnOk P w K mg base CX0 k f fd ps (spX K G)/\mg x=some (.ref f)/\PySem.W.keepIn K (.ref f)=true/\Binds K fd ps []
section
variable {P:Program} {w:World} {K:PySem.W.Frag} {mg:Str->Option Value} {base:Heap} {x:Str} {j k:Nat} {ps:List Str} {G:List D->Option D}
theorem DefX.mono(h:DefX P w K mg base x j ps G)(hk:j<=k:=by decide):DefX P w K mg base x k ps G :=
  let ⟨f,fd,F,m,kp,b⟩:=h
  ⟨f,fd,F.mono hk,m,kp,b⟩
theorem DefX.d(h:DefX P w K mg base x k ps G):Def P w K mg base x k ps G true :=
  let ⟨f,fd,F,m,kp,b⟩:=h
  ⟨f,fd,F.imp fun vs H Q E ⟨ds,d,r,hg,q⟩=>⟨ds,d,r,hg,fun v H' rx=>q v H' rx.retC⟩,m,kp,b⟩
end
section
variable {X:Cx} {k:Nat} {ps:List Str} {G:List D->Option D} {F:Fr0} {O O' OL:List Nat} {fr:Bool} {x y:Str} {p p2 pos spos:Pos} {e:Expr} {es':List Expr} {as:FEs} {es:List Es} {ak:List Stmt} {fs:FS} {al':Option Nat}
end
section
variable {X:Cx} {elt tg iter:Expr} {ifs:List Expr} {scope:Scope} {own cn:List Str} {caps is:List Nat} {g:TG} {un:D->Option (List D)} {fi:FEs} {ei ee:List Es} {c:ab->Option Bool} {fe:FE} {pos spos p2:Pos} {F:Fr0} {i:Nat} {fr:Bool}
end
end VL
namespace VL
open PySem PySem.Spec PyProof.Rows L2
def All3(P:V->D->List Addr->Prop):List V->List D->List (List Addr)->Prop
  | [],[],[]=>True
  | v::vs,d::ds,S::Ss=>P v d S/\All3 P vs ds Ss
  | _,_,_=>False
section
variable {P Q:V->D->List Addr->Prop}
theorem All3.imp:∀ {vs:List V} {ds:List D} {Ss:List (List Addr)},(∀ v d S,S ∈ Ss->P v d S->Q v d S)->All3 P vs ds Ss->All3 Q vs ds Ss
  | [],[],[],_,_=>trivial
  | v::vs,d::ds,S::Ss,h,p=>⟨h v d S List.mem_cons_self p.1,All3.imp (fun v d S' hS=>h v d S' (List.mem_cons_of_mem _ hS)) p.2⟩
  | [],[],_::_,_,p=>p.elim
  | [],_::_,_,_,p=>p.elim
  | _::_,[],_,_,p=>p.elim
  | _::_,_::_,[],_,p=>p.elim
theorem All3.len:∀ {vs:List V} {ds:List D} {Ss:List (List Addr)},All3 P vs ds Ss->vs.length=ds.length/\Ss.length=ds.length
  | [],[],[],_=>⟨rfl,rfl⟩
  | v::vs,d::ds,S::Ss,p=>by have:=All3.len p.2;simp[this]
  | [],[],_::_,p=>p.elim
  | [],_::_,_,p=>p.elim
  | _::_,[],_,p=>p.elim
  | _::_,_::_,[],p=>p.elim
theorem All3.get:∀ {vs:List V} {ds:List D} {Ss:List (List Addr)} {k:Nat} {v:V},All3 P vs ds Ss->vs[k]?=some v->∃ d S,ds[k]?=some d/\Ss[k]?=some S/\P v d S
  | v::vs,d::ds,S::Ss,0,_,p,e=>by simp at e;subst e;exact⟨d,S,rfl,rfl,p.1⟩
  | v::vs,d::ds,S::Ss,k+1,_,p,e=>by
    obtain⟨d',S',h1,h2,h3⟩:=All3.get (k:=k) p.2 (by simpa using e)
    exact⟨d',S',by simpa using h1,by simpa using h2,h3⟩
  | [],_,_,_,_,_,e=>by simp at e
  | _::_,[],_,_,_,p,_=>p.elim
  | _::_,_::_,[],_,_,p,_=>p.elim
theorem All3.snoc{v:V}{d:D}{S:List Addr}:∀ {vs:List V} {ds:List D} {Ss:List (List Addr)},All3 P vs ds Ss->P v d S->All3 P (vs++[v]) (ds++[d]) (Ss++[S])
  | [],[],[],_,h=>⟨h,trivial⟩
  | v::vs,d::ds,S::Ss,p,h=>⟨p.1,All3.snoc p.2 h⟩
  | [],[],_::_,p,_=>p.elim
  | [],_::_,_,p,_=>p.elim
  | _::_,[],_,p,_=>p.elim
  | _::_,_::_,[],p,_=>p.elim
theorem All3.put{d':D}:∀ {vs:List V} {ds:List D} {Ss:List (List Addr)} {k:Nat} {v:V} {S:List Addr},All3 P vs ds Ss->vs[k]?=some v->Ss[k]?=some S->Q v d' S->(∀ j v d S',j ≠ k->Ss[j]?=some S'->P v d S'->Q v d S')->All3 Q vs (ds.set k d') Ss
  | v :: vs,d::ds,S::Ss,0,_,_,p,e1,e2,q,h=>by
    simp at e1 e2
    subst e1 e2
    refine⟨q,?_⟩
    have key:∀ {vs:List V} {ds:List D} {Ss':List (List Addr)} (off:Nat),0 < off->(∀ j,Ss'[j]?=(S::Ss)[j+off]?)->All3 P vs ds Ss'->All3 Q vs ds Ss':=by
      intro vs ds Ss'
      induction Ss' generalizing vs ds with
      | nil =>
        intro off _ _ p
        cases vs with
        | nil=>cases ds with
          | nil=>exact trivial
          | cons _ _=>exact p.elim
        | cons _ _=>cases ds with
          | nil=>exact p.elim
          | cons _ _=>exact p.elim
      | cons T Ts ih =>
        intro off ho he p
        cases vs with
        | nil=>cases ds <;> exact p.elim
        | cons v vs=>cases ds with
          | nil=>exact p.elim
          | cons d ds =>
          refine⟨h off v d T (by omega) (by have:=he 0;simpa using this.symm) p.1,ih (off+1) (by omega) (fun j=>?_) p.2⟩
          have:=he (j+1)
          rw[List.getElem?_cons_succ] at this
          rw[this];congr 1;omega
    exact key 1 (by omega) (fun j=>by simp) p.2
  | v::vs,d::ds,S::Ss,k+1,w,S',p,e1,e2,q,h=>by
    refine⟨h 0 v d S (by omega) rfl p.1,?_⟩
    exact All3.put (k:=k) p.2 (by simpa using e1) (by simpa using e2) q fun j v d T hj hT hp=>h (j+1) v d T (by omega) (by simpa using hT) hp
  | [],_,_,_,_,_,_,e,_,_,_=>by simp at e
  | _::_,[],_,_,_,_,p,_,_,_,_=>p.elim
  | _::_,_::_,[],_,_,_,p,_,_,_,_=>p.elim
end
def OwnN(K:PySem.W.Frag)(H:Hp):Nat->V->D->List Addr->Prop
  | 0,v,d,S=>∃ c ys ds,v=V.ref c/\d=.lst ds/\S=[c]/\H c=some (.lst ys)/\ds.all bb=true/\Reps K H ys ds
  | n+1,v,d,S=>∃ b vs dl Ss,v=V.ref b/\d=.lst dl/\S=b::Ss.flatten/\H b=some (.lst vs)/\All3 (OwnN K H n) vs dl Ss
section
variable {K:PySem.W.Frag} {H H':Hp}
theorem OwnN.frame:∀ {n:Nat} {v:V} {d:D} {S:List Addr},(∀ b ∈ S,∀ o,H b=some o->H' b=some o)->OwnN K H n v d S->OwnN K H' n v d S
  | 0,_,_,_,h,⟨c,ys,ds,e1,e2,e3,e4,e5,e6⟩=>⟨c,ys,ds,e1,e2,e3,h c (by rw[e3];exact List.mem_cons_self) _ e4,e5,gk e5 e6⟩
  | n+1,_,_,_,h,⟨b,vs,dl,Ss,e1,e2,e3,e4,e5⟩=>⟨b,vs,dl,Ss,e1,e2,e3,h b (by rw[e3];exact List.mem_cons_self) _ e4,All3.imp (fun v d S hS p=>OwnN.frame (n:=n) (fun b hb o=>h b (by rw[e3];exact List.mem_cons_of_mem _ (List.mem_flatten.mpr ⟨S,hS,hb⟩)) o) p) e5⟩
theorem OwnN.mono{n:Nat}{v:V}{d:D}{S:List Addr}(e:Same H H')(h:OwnN K H n v d S):OwnN K H' n v d S:=h.frame fun b _ o q=>e b o q
theorem OwnN.dom:∀ {n:Nat} {v:V} {d:D} {S:List Addr},OwnN K H n v d S->∀ b ∈ S,H b ≠ none
  | 0,_,_,_,⟨c,ys,ds,e1,e2,e3,e4,e5,e6⟩,b,hb=>by
    rw[e3,List.mem_singleton] at hb
    rw[hb,e4];exact fun z=>nomatch z
  | n + 1,_,_,_,⟨c,vs,dl,Ss,e1,e2,e3,e4,e5⟩,b,hb=>by
    rw[e3] at hb
    rcases List.mem_cons.mp hb with rfl | hb
    · rw[e4];exact fun z=>nomatch z
    · obtain⟨S,hS,hb⟩:=List.mem_flatten.mp hb
      obtain⟨k,hk⟩:=List.getElem?_of_mem hS
      have hl:=e5.len
      have hkv:k < vs.length:=by have:=(List.getElem?_eq_some_iff.mp hk).1;omega
      obtain⟨d,S',_,h2,h3⟩:=e5.get (List.getElem?_eq_getElem hkv)
      rw[hk] at h2;cases h2
      exact OwnN.dom h3 b hb
theorem OwnN.rep:∀ {n:Nat} {v:V} {d:D} {S:List Addr} {A:Addr->Prop},OwnN K H n v d S->(∀ b ∈ S,¬ A b)->Rep K (ae H A) v d
  | 0,_,_,_,A,⟨c,ys,ds,e1,e2,e3,e4,e5,e6⟩,h=>by
    subst e1 e2
    refine .lst (.inl ?_) (gk e5 e6)
    rw[aH (h c (by rw[e3];exact List.mem_cons_self))]
    exact e4
  | n + 1,_,_,_,A,⟨b,vs,dl,Ss,e1,e2,e3,e4,e5⟩,h=>by
    subst e1 e2
    refine .lst (.inl ?_) (gj e5.len.1 fun k v d h1 h2=>?_)
    · rw[aH (h b (by rw[e3];exact List.mem_cons_self))]
      exact e4
    · obtain⟨d',S,q1,q2,q3⟩:=e5.get h1
      rw[h2] at q1;cases q1
      exact OwnN.rep q3 fun c hc=>h c (by rw[e3];exact List.mem_cons_of_mem _ (List.mem_flatten.mpr ⟨S,List.mem_of_getElem? q2,hc⟩))
end
structure RetO (K:PySem.W.Frag) (H0:Hp) (n:Nat) (d:D) (v:V) (H':Hp):Prop where
  same:Same H0 H'
  new:∃ S,OwnN K H' n v d S/\S.Nodup/\∀ b ∈ S,H0 b=none
def tvG(K:PySem.W.Frag)(n:Nat)(f:FE):TE:=fun σ H Q=>∃ ρ d,EnvR K H σ ρ/\f ρ=some d/\∀ v H',RetO K H n d v H'->Q v H'
end VL
namespace VL
open PySem PySem.Spec PyProof.Rows L2
section
variable {X:Cx} {elt tg iter:Expr} {ifs:List Expr} {scope:Scope} {own cn:List Str} {n:Nat} {caps is:List Nat} {g:TG} {un:D->Option (List D)} {fi:FEs} {ei:List Es} {c:ab->Option Bool} {fe:FE} {pos:Pos}
end
def tS(K:PySem.W.Frag)(F:Fr0)(held:List Hd)(n:Nat)(O':List Nat)(De:Ends):Out->Prop
  | .nx ρ'=>∀ σ' H',EnvO K F held O' σ' ρ' H'->De.nx σ' H'
  | .rt d=>∀ v H',RetO K F.H0 n d v H'->De.rt v H'
  | .bk _=>True
  | .ct _=>True
def tsQ(K:PySem.W.Frag)(F:Fr0)(held:List Hd)(n:Nat)(O O':List Nat)(f:FS):TS:=fun De σ H=>∃ ρ o,EnvO K F held O σ ρ H/\f ρ=some o/\tS K F held n O' De o
abbrev VQs(X:Cx)(F:Fr0)(n:Nat)(O:List Nat)(st:List Stmt)(f:FS)(O':List Nat):Prop:=∀ held,PSs X st (tsQ X.K F held n O O' f)
section
variable {X:Cx} {F:Fr0} {n:Nat} {O O1 O2 O' OL:List Nat} {fr:Bool} {f g:FS} {st:Stmt} {ak:List Stmt} {pos:Pos} {e:Expr} {fe:FE}
end
def spG(K:PySem.W.Frag)(n:Nat)(G:List D->Option D):Sp:=fun vs H Q _=>∃ ds d,Reps K H vs ds/\G ds=some d/\∀ v H',RetO K H n d v H'->Q v H'
theorem RetO.retC{K:PySem.W.Frag}{H:Hp}{n:Nat}{vs:List V}{ds:List D}{d:D}{v:V}{H':Hp}(h:RetO K H n d v H'):RetC K H vs ds true d v H':=by
  obtain⟨S,s1,s2,s3⟩:=h.new
  have out:∀ {A:Addr->Prop},Dom H A->∀ b ∈ S,¬ A b:=fun {A} hA b hb q=>hA b q (s3 b hb)
  refine⟨h.same,fun A hA _=>s1.rep (out hA),fun _=>?_⟩
  cases n with
  | zero =>
    obtain⟨c,ys,ds',rfl,rfl,rfl,e4,e5,e6⟩:=s1
    exact⟨c,ys,ds',rfl,rfl,s3 c List.mem_cons_self,e4,fun A hA _=>gk e5 e6⟩
  | succ n =>
    obtain⟨b,vs',dl,Ss,rfl,rfl,rfl,e4,e5⟩:=s1
    refine⟨b,vs',dl,rfl,rfl,s3 b List.mem_cons_self,e4,fun A hA _=>gj e5.len.1 fun k v d h1 h2=>?_⟩
    obtain⟨d',S,q1,q2,q3⟩:=e5.get h1
    rw[h2] at q1;cases q1
    have hm:∀ c ∈ S,c ∈ Ss.flatten:=fun c hc=>List.mem_flatten.mpr ⟨S,List.mem_of_getElem? q2,hc⟩
    refine q3.rep fun c hc q=>?_
    rcases q with q | q
    · exact out hA c (List.mem_cons_of_mem _ (hm c hc)) q
    · exact (List.nodup_cons.mp s2).1 (q ▸ hm c hc)
def DefG(P:Program)(w:World)(K:PySem.W.Frag)(mg:Str->Option Value)(base:Heap)(x:Str)(k:Nat)(ps:List Str)(n:Nat)(G:List D->Option D):Prop :=
  ∃ f fd,FnOk P w K mg base CX0 k f fd ps (spG K n G)/\mg x=some (.ref f)/\PySem.W.keepIn K (.ref f)=true/\Binds K fd ps []
section
variable {P:Program} {w:World} {K:PySem.W.Frag} {mg:Str->Option Value} {base:Heap} {x:Str} {j k n:Nat} {ps:List Str} {G:List D->Option D}
theorem DefG.mono(h:DefG P w K mg base x j ps n G)(hk:j<=k:=by decide):DefG P w K mg base x k ps n G :=
  let ⟨f,fd,F,m,kp,b⟩:=h
  ⟨f,fd,F.mono hk,m,kp,b⟩
theorem DefG.d(h:DefG P w K mg base x k ps n G):Def P w K mg base x k ps G true :=
  let ⟨f,fd,F,m,kp,b⟩:=h
  ⟨f,fd,F.imp fun vs H Q E ⟨ds,d,r,hg,q⟩=>⟨ds,d,r,hg,fun v H' rx=>q v H' rx.retC⟩,m,kp,b⟩
end
section
variable {X:Cx} {k n:Nat} {ps:List Str} {G:List D->Option D} {x:Str} {p pos:Pos} {e:Expr} {es':List Expr} {as:FEs} {es:List Es}
end
end VL
namespace VL
open PySem PySem.Spec PyProof.Rows L2
abbrev AS(A:Addr->Prop)(S:List Addr):Addr->Prop:=fun b=>A b\/b ∈ S
structure EnvW (K:PySem.W.Frag) (F:Fr0) (held:List Hd) (i n:Nat) (S:List Addr) (v0:V) (d0:D) (σ:St) (ρ:ab) (H:Hp):Prop where
  same:Same F.H0 H
  lσ:σ.length=F.n
  lρ:ρ.length=F.n
  si:σ[i]?=some (some v0)
  ri:ρ[i]?=some (some d0)
  own:OwnN K H n v0 d0 S
  nd:S.Nodup
  new:∀ b ∈ S,F.H0 b=Option.none
  val:∀ j d,ρ[j]?=some (some d)->j ≠ i->∃ v,σ[j]?=some (some v)/\∀ A,F.PA A->Rep K (ae H (AS A S)) v d
  hld:∀ p ∈ held,∀ A,F.PA A->HdOk K (ae H (AS A S)) p
section
variable {K:PySem.W.Frag} {F:Fr0} {held:List Hd} {i n:Nat} {S:List Addr} {v0:V} {d0:D} {σ:St} {ρ:ab} {H H':Hp}
theorem EnvW.up(h:EnvW K F held i n S v0 d0 σ ρ H)(e:Same H H'):EnvW K F held i n S v0 d0 σ ρ H' :=
  ⟨h.same.trans e,h.lσ,h.lρ,h.si,h.ri,h.own.mono e,h.nd,h.new,fun j d q h1=>let ⟨v,h3,h4⟩:=h.val j d q h1;⟨v,h3,fun A hA=>ao (aM e) (h4 A hA)⟩,fun p hp A hA=>(h.hld p hp A hA).mono (aM e)⟩
theorem EnvW.envR(h:EnvW K F held i n S v0 d0 σ ρ H):EnvR K H σ ρ:=fun j d e=>by
  by_cases hi:j=i
  · subst hi
    rw[h.ri] at e;cases e
    exact⟨_,h.si,ao (aJ H cC) (h.own.rep fun _ _ q=>q)⟩
  · obtain⟨v,h1,h2⟩:=h.val j d e hi
    exact⟨v,h1,ao (aJ _ _) (h2 _ F.none)⟩
theorem EnvW.dom(h:EnvW K F held i n S v0 d0 σ ρ H){A:Addr->Prop}(hA:F.PA A):Dom H (AS A S):=fun b q=>by
  rcases q with q | q
  · exact ((F.dom A hA).mono h.same) b q
  · exact h.own.dom b q
theorem EnvW.eval(h:EnvW K F held i n S v0 d0 σ ρ H){es:List Es}{d:D}{v:V}(hes:es.all (apD i none)=true)(p:Post K σ ρ H es d v H'){A:Addr->Prop}(hA:F.PA A):Rep K (ae H' (AS A S)) v d:=by
  refine p.av _ (h.dom hA) fun e he=>?_
  have hj:=List.all_eq_true.mp hes e he
  have out:∀ (j:Nat) (v:V) (d:D),j ≠ i->σ[j]?=some (some v)->ρ[j]?=some (some d)->Rep K (ae H (AS A S)) v d:=fun j v d h1 h3 h4=>by
    obtain⟨v',h5,h6⟩:=h.val j d h4 h1
    rw[h3] at h5;cases h5
    exact h6 A hA
  cases e with
  | full j =>
    simp only[apD,Bool.and_eq_true,bne_iff_ne,ne_eq] at hj
    exact fun v d h1 h2=>out j v d hj.1 h1 h2
  | el j =>
    simp only[apD,Bool.and_eq_true,bne_iff_ne,ne_eq] at hj
    exact fun v d h1 h2=>(out j v d hj.1 h1 h2).el
end
def tT(K:PySem.W.Frag)(F:Fr0)(held:List Hd)(i n:Nat)(fr:Bool)(De:Ends):Out->Prop
  | .nx ρ'=>∀ S v0 d0 σ' H',EnvW K F held i n S v0 d0 σ' ρ' H'->De.nx σ' H'
  | .rt d=>∀ v H',Ret K F fr d v H'->De.rt v H'
  | .bk _=>True
  | .ct _=>True
def tsG(K:PySem.W.Frag)(F:Fr0)(held:List Hd)(i n:Nat)(fr:Bool)(f:FS):TS:=fun De σ H=>∃ S v0 d0 ρ o,EnvW K F held i n S v0 d0 σ ρ H/\f ρ=some o/\tT K F held i n fr De o
abbrev VG(X:Cx)(F:Fr0)(i n:Nat)(st:Stmt)(f:FS)(fr:Bool):Prop:=∀ held,PS X st (tsG X.K F held i n fr f)
abbrev VGs(X:Cx)(F:Fr0)(i n:Nat)(st:List Stmt)(f:FS)(fr:Bool):Prop:=∀ held,PSs X st (tsG X.K F held i n fr f)
section
variable {X:Cx} {F:Fr0} {i n:Nat} {fr:Bool} {f g:FS} {st:Stmt} {ak:List Stmt} {pos p2 p3 p4:Pos} {e:Expr} {fe:FE} {es:List Es}
end
def Ext(S:List Addr)(H H':Hp):Prop:=∀ b o,H b=some o->b ∉ S->H' b=some o
theorem Ext.trans{S:List Addr}{H H1 H2:Hp}(h1:Ext S H H1)(h2:Ext S H1 H2):Ext S H H2:=fun b o q n=>h2 b o (h1 b o q n) n
theorem Ext.sub{S T:List Addr}{H H1:Hp}(h:Ext S H H1)(hs:∀ b ∈ S,b ∈ T):Ext T H H1:=fun b o q n=>h b o q fun z=>n (hs b z)
theorem Ext.refl(S:List Addr)(H:Hp):Ext S H H:=fun _ _ q _=>q
section
variable {X:Cx} {r:Nat} {y:Str} {e:Expr} {d:D} {es:List Es} {pos p2 ap cp:Pos}
end
section
variable {X:Cx} {r1 r2:Nat} {y1 y2:Str} {d:D} {body:List Stmt} {pos p1 p2:Pos}
end
section
variable {X:Cx} {F:Fr0} {i r1 r2:Nat} {x y1 y2:Str} {d:D} {e:Expr} {fe:FE} {es:List Es} {fr:Bool} {ak:List Stmt} {g:FS} {O' OL:List Nat} {pos px py1 py1' py2 pm pl pe2 ap cp:Pos}
theorem EnvW.ext{K:PySem.W.Frag}{held:List Hd}{n:Nat}{S:List Addr}{v0:V}{d0 d1:D}{σ σ':St}{ρ:ab}{H H':Hp}(h:EnvW K F held i n S v0 d0 σ ρ H)(h1:i ≠ r1)(h2:i ≠ r2)(hσ:∀ j,j ≠ r1->j ≠ r2->σ'[j]?=σ[j]?)(hl:σ'.length=σ.length)(hx:Ext S H H')(ho:OwnN K H' n v0 d1 S):
    EnvW K F held i n S v0 d1 σ' (((ρ.set i (some d1)).set r1 none).set r2 none) H':=by
  have up:∀ {A:Addr->Prop},Same (ae H (AS A S)) (ae H' (AS A S)):=fun {A} b o q=>by
    obtain⟨n,q⟩:=bL q
    rw[aH n]
    exact hx b o q fun z=>n (.inr z)
  have hpl:i < ρ.length:=(List.getElem?_eq_some_iff.mp h.ri).1
  have get:∀ j d,(((ρ.set i (some d1)).set r1 none).set r2 none)[j]?=some (some d)->j ≠ i->j ≠ r1/\j ≠ r2/\ρ[j]?=some (some d):=fun j d q hj=>by
    by_cases e2:r2=j
    · subst e2
      have l1:r2 < ((ρ.set i (some d1)).set r1 none).length:=by have:=(List.getElem?_eq_some_iff.mp q).1;simpa using this
      rw[List.getElem?_set_self l1] at q;cases q
    · rw[List.getElem?_set_ne e2] at q
      by_cases e1:r1=j
      · subst e1
        have l1:r1 < (ρ.set i (some d1)).length:=by have:=(List.getElem?_eq_some_iff.mp q).1;simpa using this
        rw[List.getElem?_set_self l1] at q;cases q
      · rw[List.getElem?_set_ne e1,List.getElem?_set_ne (Ne.symm hj)] at q
        exact⟨Ne.symm e1,Ne.symm e2,q⟩
  refine⟨fun b o q=>hx b o (h.same b o q) fun z=>(by rw[h.new b z] at q;cases q),by rw[hl];exact h.lσ,by simp only[List.length_set];exact h.lρ,by rw[hσ i h1 h2];exact h.si,?_,ho,h.nd,h.new,fun j d q hj=>?_,fun p hp A hA=>(h.hld p hp A hA).mono up⟩
  · rw[List.getElem?_set_ne (Ne.symm h2),List.getElem?_set_ne (Ne.symm h1),List.getElem?_set_self hpl]
  · obtain⟨g1,g2,g3⟩:=get j d q hj
    obtain⟨v,k1,k2⟩:=h.val j d g3 hj
    exact⟨v,by rw[hσ j g1 g2];exact k1,fun A hA=>ao up (k2 A hA)⟩
end
section
variable {X:Cx} {k n:Nat} {ps:List Str} {G:List D->Option D} {F:Fr0} {O O' OL:List Nat} {fr:Bool} {x y:Str} {p p2 pos spos:Pos} {e:Expr} {es':List Expr} {as:FEs} {es:List Es} {ak:List Stmt} {fs:FS}
end
end VL
namespace VL
open PySem PySem.Spec PyProof.Rows L2
abbrev VY(X:Cx)(e:Expr)(n:Nat)(fe:FE):Prop:=PE X e (tvG X.K n fe)
section
variable {X:Cx} {F:Fr0} {O O':List Nat} {elt tg iter e:Expr} {ifs:List Expr} {scope:Scope} {own cn:List Str} {n k:Nat} {caps is:List Nat} {g:TG} {un:D->Option (List D)} {fi:FEs} {ei es:List Es} {c:ab->Option Bool} {fe:FE} {pos p:Pos} {ps:List Str} {G:List D->Option D} {x:Str} {es':List Expr} {as:FEs}
end
end VL
namespace VL
open PySem PySem.Spec PyProof.Rows L2
section
variable {X:Cx} {a b c:Expr} {es ea eb ec:List Es} {fa fb fc:FE} {pos p2:Pos} {k:Nat}
def e3(g:D->D->D->Option D)(a b c:FE):FE:=fun ρ=>(a ρ).bind fun x=>(b ρ).bind fun y=>(c ρ).bind fun z=>g x y z
end
section
variable {K:PySem.W.Frag} {F:Fr0} {held:List Hd} {O O':List Nat} {σ:St} {ρ:ab} {H H':Hp}
end
section
variable {X:Cx} {F:Fr0} {O O1 O2 O' OL:List Nat} {fr:Bool} {f g:FS} {st:Stmt} {pos p2 p3:Pos} {e b:Expr} {fe fb:FE} {es eb:List Es} {k:Nat}
end
end VL
namespace VL
open PySem PySem.Spec PyProof.Rows L2
section
variable {X:Cx} {a:Expr} {as:FEs} {es:List Es} {pos pos2 p p2:Pos} {ta:TA}
end
end VL
namespace VL
open PySem PySem.Spec PyProof.Rows L2
abbrev Cod:=Value->Int
def cat(c:Cod)(z:Array Keyed)(i:Nat):Int:=(z[i]?.map fun q=>c q.1).getD 0
theorem eY{c:Cod}{y z:Array Keyed}{i j:Nat}(h:y[i]?=z[j]?):cat c y i=cat c z j:=by unfold cat;rw[h]
def Ris(c:Cod)(z:Array Keyed)(n:Nat):Prop:=∀ u v,u<=v->v < n->cat c z u<=cat c z v
def Fal(c:Cod)(z:Array Keyed)(n:Nat):Prop:=∀ u v,u<=v->v < n->cat c z v<=cat c z u
theorem lj{c:Cod}{z:Array Keyed}{p d:Nat}(hp:p < z.size)(hd:d<=p)(i:Nat):cat c (bubble z p d) i=(if i=p - d then cat c z p else if p - d < i/\i<=p then cat c z (i - 1) else cat c z i):=by
  have h:=getElem?_bubble hp d hd i
  split <;> rename_i h1
  · rw[if_pos h1] at h;exact eY h
  · rw[if_neg h1] at h
    split <;> rename_i h2
    · rw[if_pos h2] at h;exact eY h
    · rw[if_neg h2] at h;exact eY h
theorem gl{c:Cod}{z:Array Keyed}{p q:Nat}(hq:q<=z.size)(i:Nat):cat c (mirror z p q ((q - p) / 2)) i=(if p<=i/\i < q then cat c z (p+q - 1 - i) else cat c z i):=by
  have h:=getElem?_mirror_all (i:=p) hq i
  split <;> rename_i h1
  · rw[if_pos h1] at h;exact eY h
  · rw[if_neg h1] at h;exact eY h
structure Srt (kd:SortKind) (z:Array Keyed) (st:SortSt):Prop where
  pm:(arrOf st).Perm z
  kd:kindOf st=kd
  fl:failedOf st=none
  pe:pendingOf st = #[]
theorem Srt.sz{kd:SortKind}{z:Array Keyed}{st:SortSt}(h:Srt kd z st):(arrOf st).size=z.size:=Array.Perm.size_eq h.pm
theorem Srt.arr{kd:SortKind}{z y:Array Keyed}{st:SortSt}(h:Srt kd z st)(hp:y.Perm (arrOf st)):Srt kd z (setArr st y):=⟨hp.trans h.pm,h.kd,h.fl,h.pe⟩
section
variable {prog:Program} {w:World} {A:Around} {E:Value->Shared->Prop} {s:Shared} {z:Array Keyed} {c:Cod} {kd:SortKind} {st:SortSt}
def Cmp(prog:Program)(w:World)(A:Around)(E:Value->Shared->Prop)(s:Shared)(c:Cod)(kd:SortKind)(z:Array Keyed):Prop :=
  ∀ (st:SortSt) (u v:Nat) (Q:Option Bool->SortSt->Prop),Srt kd z st->u < z.size->v < z.size->Q (some (decide (cat c (arrOf st) u < cat c (arrOf st) v))) st->wpS (model prog w) A E s (ltAt' u v) Q st
theorem ll{a n:Nat}{Q:AscSt->SortSt->Prop}(hC:Cmp prog w A E s c kd z)(hn:n<=z.size)(ha:1<=a)(hl:a<=n)(hS:Srt kd z st)(hr:Ris c (arrOf st) a)(h:∀ m,a<=m->m<=n->Ris c (arrOf st) m->(m=n\/cat c (arrOf st) m < cat c (arrOf st) (m - 1))->Q (none,m) st):wpS (model prog w) A E s (ascLoop a n) Q st:=by
  unfold ascLoop
  apply wpS_forRange (I:=fun i b t=>t=st/\b=(none,i)/\Ris c (arrOf st) i)
  · rintro i b t h1 h2 ⟨rfl,rfl,h3⟩
    apply wpS_bind
    apply hC _ _ _ _ hS (by simp only;omega) (by simp only;omega)
    simp only
    by_cases hd:cat c (arrOf t) i < cat c (arrOf t) (i - 1)
    · rw[decide_eq_true hd]
      exact wpS_pure (h i h1 (by omega) h3 (.inr hd))
    · rw[decide_eq_false hd]
      refine wpS_pure ⟨rfl,rfl,fun u v huv hv=>?_⟩
      by_cases e:v < i
      · exact h3 u v huv e
      · have ev:v=i:=by omega
        subst ev
        by_cases e2:u=v
        · rw[e2];exact Int.le_refl _
        · have:=h3 u (v - 1) (by omega) (by omega)
          omega
  · rintro b t ⟨rfl,rfl,h3⟩
    have e:max a n=n:=by omega
    rw[e] at h3 ⊢
    exact h n hl (Nat.le_refl n) h3 (.inl rfl)
  · exact⟨rfl,rfl,hr⟩
theorem gm{i j:Nat}{Q:Unit->SortSt->Prop}(h:Q () (setArr st (mirror (arrOf st) i j ((j - i) / 2)))):wpS (model prog w) A E s (reverseSlice' i j) Q st:=wpS_reverse h
theorem tU{y:Array Keyed}{m:Nat}(hm:m<=y.size)(hf:Fal c y m):Ris c (mirror y 0 m ((m - 0) / 2)) m:=fun u v huv hv=>by
  rw[gl hm,gl hm,if_pos ⟨Nat.zero_le _,by omega⟩,if_pos ⟨Nat.zero_le _,by omega⟩]
  exact hf _ _ (by omega) (by omega)
theorem lm{m n:Nat}{Q:Option Nat->SortSt->Prop}(hC:Cmp prog w A E s c kd z)(hn:n<=z.size)(h1:1<=m)(hm:m<=n)(hS:Srt kd z st)(hf:Fal c (arrOf st) m)(h:∀ k t,Srt kd z t->1<=k->k<=n->Ris c (arrOf t) k->Q (some k) t):wpS (model prog w) A E s (tail3 m n) Q st:=by
  unfold tail3
  apply wpS_bind
  apply gm
  have hS':=hS.arr (mirror_perm (arrOf st) 0 m ((m - 0) / 2))
  apply wpS_bind
  apply ll hC hn h1 hm hS' (tU (by rw[hS.sz];omega) hf)
  intro k hk1 hk2 hr _
  exact wpS_pure (h k _ hS' (by omega) hk2 hr)
def Lik(c:Cod)(y:Array Keyed)(m k:Nat):Prop:=k+1<=m/\∀ i,m - (k+1)<=i->i < m->cat c y i=cat c y (m - 1)
theorem ln{y:Array Keyed}{m k:Nat}(hm:m<=y.size)(hl:Lik c y m k)(i:Nat):cat c (mirror y (m - (k+1)) m ((m - (m - (k+1))) / 2)) i=cat c y i:=by
  rw[gl hm]
  split <;> rename_i h
  · rw[hl.2 _ (by have:=hl.1;omega) (by have:=hl.1;omega),hl.2 i h.1 h.2]
  · rfl
theorem iF{y x:Array Keyed}{m:Nat}(e:∀ i,cat c y i=cat c x i)(h:Fal c x m):Fal c y m:=fun u v huv hv=>by rw[e,e];exact h u v huv hv
theorem gn{y:Array Keyed}{m:Nat}(h:Fal c y m)(hm:1<=m)(hl:cat c y m<=cat c y (m - 1)):Fal c y (m+1):=fun u v huv hv=>by
  by_cases e:v < m
  · exact h u v huv e
  · have ev:v=m:=by omega
    subst ev
    by_cases e2:u=v
    · rw[e2];exact Int.le_refl _
    · have:=h u (v - 1) (by omega) (by omega)
      omega
theorem tV{m n:Nat}{Q:DescSt->SortSt->Prop}(hC:Cmp prog w A E s c kd z)(hn:n<=z.size)(h1:1<=m)(hm:m<=n)(hS:Srt kd z st)(hf:Fal c (arrOf st) m)(h:∀ k q t,Srt kd z t->m<=k->k<=n->Fal c (arrOf t) k->Lik c (arrOf t) k q->Q (none,k,q) t):wpS (model prog w) A E s (descLoop m n) Q st:=by
  unfold descLoop
  apply wpS_forRange (I:=fun i b t=>∃ q,b=(none,i,q)/\Srt kd z t/\Fal c (arrOf t) i/\Lik c (arrOf t) i q)
  · rintro i b t hi1 hi2 ⟨q,rfl,hS',hf',hl⟩
    have hz:i<=(arrOf t).size:=by rw[hS'.sz];omega
    apply wpS_bind
    apply hC _ _ _ _ hS' (by simp only;omega) (by simp only;omega)
    simp only
    by_cases hd:cat c (arrOf t) i < cat c (arrOf t) (i - 1)
    · rw[decide_eq_true hd]
      simp only[if_true]
      have hf2:=gn hf' (by omega) (Int.le_of_lt hd)
      by_cases hq:q > 0
      · rw[if_pos hq]
        apply wpS_bind
        apply gm
        have el:=ln hz hl
        have hS2:=hS'.arr (mirror_perm (arrOf t) (i - (q+1)) i ((i - (i - (q+1))) / 2))
        exact wpS_pure ⟨0,rfl,hS2,iF el hf2,by omega,fun k hk1 hk2=>by rw[show k=i by omega];rfl⟩
      · rw[if_neg hq]
        exact wpS_pure ⟨0,rfl,hS',hf2,by omega,fun k hk1 hk2=>by rw[show k=i by omega];rfl⟩
    · rw[decide_eq_false hd]
      simp only[Bool.false_eq_true,if_false]
      apply wpS_bind
      apply hC _ _ _ _ hS' (by omega) (by omega)
      simp only
      by_cases he:cat c (arrOf t) (i - 1) < cat c (arrOf t) i
      · rw[decide_eq_true he]
        exact wpS_pure (h i q t hS' hi1 (by omega) hf' hl)
      · rw[decide_eq_false he]
        have ee:cat c (arrOf t) i=cat c (arrOf t) (i - 1):=by omega
        refine wpS_pure ⟨q+1,rfl,hS',gn hf' (by omega) (by omega),by have:=hl.1;omega,fun k hk1 hk2=>?_⟩
        show cat c (arrOf t) k=cat c (arrOf t) (i+1 - 1)
        by_cases ek:k=i
        · rw[ek];rfl
        · rw[hl.2 k (by omega) (by omega),Nat.add_sub_cancel,ee]
  · rintro b t ⟨q,rfl,hS',hf',hl⟩
    have e:max m n=n:=by omega
    rw[e] at hf' hl ⊢
    exact h n q t hS' hm (Nat.le_refl n) hf' hl
  · exact⟨0,rfl,hS,hf,by omega,fun k hk1 hk2=>by rw[show k=m - 1 by omega]⟩
theorem lp{m n:Nat}{Q:Option Nat->SortSt->Prop}(hC:Cmp prog w A E s c kd z)(hn:n<=z.size)(hm:m+1<=n)(hS:Srt kd z st)(hf:Fal c (arrOf st) (m+1))(h:∀ k t,Srt kd z t->1<=k->k<=n->Ris c (arrOf t) k->Q (some k) t):wpS (model prog w) A E s (descPart m n) Q st:=by
  unfold descPart
  apply wpS_bind
  apply wpS_lift
  apply wpAny_rule
  refine⟨rfl,?_⟩
  apply wpS_bind
  apply tV hC hn (by omega) hm hS hf
  intro k q t hS' hk1 hk2 hf' hl
  simp only
  have hz:k<=(arrOf t).size:=by rw[hS'.sz];omega
  by_cases hq:q > 0
  · rw[if_pos hq]
    apply wpS_bind
    apply gm
    exact lm hC hn (by omega) hk2 (hS'.arr (mirror_perm (arrOf t) (k - (q+1)) k ((k - (k - (q+1))) / 2))) (iF (ln hz hl) hf') h
  · rw[if_neg hq]
    exact lm hC hn (by omega) hk2 hS' hf' h
theorem tW{y:Array Keyed}:Ris c y 1:=fun u v huv hv=>by
  have e1:u=0:=by omega
  have e2:v=0:=by omega
  rw[e1,e2];exact Int.le_refl _
theorem tX{n:Nat}{Q:Option Nat->SortSt->Prop}(hC:Cmp prog w A E s c kd z)(hn:n<=z.size)(h1:1<=n)(hS:Srt kd z st)(h:∀ k t,Srt kd z t->1<=k->k<=n->Ris c (arrOf t) k->Q (some k) t):wpS (model prog w) A E s (countRun' 0 n) Q st:=by
  rw[countRun0_eq]
  apply wpS_bind
  apply ll hC hn (Nat.le_refl 1) h1 hS tW
  intro m hm1 hm2 hr hd
  simp only
  by_cases em:m=n
  · subst em
    rw[if_pos (by simp)]
    exact wpS_pure (h m st hS hm1 (Nat.le_refl m) hr)
  · rw[if_neg (by simpa using em)]
    have hd':cat c (arrOf st) m < cat c (arrOf st) (m - 1):=hd.resolve_left em
    by_cases hb:m > 1
    · rw[if_pos hb]
      apply wpS_bind
      apply hC _ _ _ _ hS (by omega) (by omega)
      simp only
      by_cases hu:cat c (arrOf st) 0 < cat c (arrOf st) (m - 1)
      · rw[decide_eq_true hu]
        exact wpS_pure (h m st hS hm1 hm2 hr)
      · rw[decide_eq_false hu]
        simp only[Bool.false_eq_true,if_false]
        apply wpS_bind
        apply gm
        have hz:m<=(arrOf st).size:=by rw[hS.sz];omega
        have flat:∀ i,i < m->cat c (arrOf st) i=cat c (arrOf st) (m - 1):=fun i hi=>by
          have a1:=hr 0 i (Nat.zero_le i) hi
          have a2:=hr i (m - 1) (by omega) (by omega)
          omega
        have em':∀ i,cat c (mirror (arrOf st) 0 m ((m - 0) / 2)) i=cat c (arrOf st) i:=fun i=>by
          rw[gl hz]
          split <;> rename_i hi
          · rw[flat _ (by omega),flat i hi.2]
          · rfl
        apply lp hC hn (by omega) (hS.arr (mirror_perm (arrOf st) 0 m ((m - 0) / 2))) _ h
        apply iF em'
        apply gn _ hm1 (Int.le_of_lt hd')
        exact fun u v huv hv=>by rw[flat u (by omega),flat v hv];exact Int.le_refl _
    · rw[if_neg hb]
      have e1:m=1:=by omega
      subst e1
      apply lp hC hn (by omega) hS _ h
      apply gn _ (Nat.le_refl 1) (Int.le_of_lt hd')
      exact fun u v huv hv=>by
        have e1:u=0:=by omega
        have e2:v=0:=by omega
        rw[e1,e2];exact Int.le_refl _
theorem tY{n ok:Nat}{Q:Bool->SortSt->Prop}(hC:Cmp prog w A E s c kd z)(hn:n<=z.size)(h1:1<=ok)(ho:ok<=n)(hS:Srt kd z st)(hr:Ris c (arrOf st) ok)(h:∀ t,Srt kd z t->Ris c (arrOf t) n->Q true t):wpS (model prog w) A E s (binarySort' 0 n ok) Q st:=by
  rw[binarySort'_eq]
  simp only[Nat.zero_add]
  apply wpS_bind
  apply wpS_mono (Q:=fun b t=>b=(none,())/\Srt kd z t/\Ris c (arrOf t) n)
  · apply wpS_forRange (I:=fun i b t=>b=(none,())/\Srt kd z t/\Ris c (arrOf t) (min i n))
    · rintro k b t hk1 hk2 ⟨rfl,hS',hr'⟩
      have ek:min k n=k:=by omega
      rw[ek] at hr'
      apply wpS_bind
      apply wpS_mono (Q:=fun b u=>u=t/\∃ l,b=(none,l,l)/\l<=k/\(∀ i,i < l->cat c (arrOf t) i<=cat c (arrOf t) k)/\∀ i,l<=i->i < k->cat c (arrOf t) k < cat c (arrOf t) i)
      · apply wpS_forRange (I:=fun x b u=>u=t/\∃ l m,b=(none,l,m)/\l<=m/\m<=k/\m - l+x<=k/\(∀ i,i < l->cat c (arrOf t) i<=cat c (arrOf t) k)/\∀ i,m<=i->i < k->cat c (arrOf t) k < cat c (arrOf t) i)
        · rintro x b u hx1 hx2 ⟨rfl,l,m,rfl,hlm,hmk,hx,hlo,hhi⟩
          simp only
          by_cases hc:l ≥ m
          · rw[if_pos hc]
            have e:l=m:=by omega
            subst e
            exact wpS_pure ⟨rfl,l,rfl,hmk,hlo,hhi⟩
          · rw[if_neg hc]
            apply wpS_bind
            apply hC _ _ _ _ hS' (by omega) (by omega)
            simp only
            by_cases hd:cat c (arrOf u) k < cat c (arrOf u) ((l+m) / 2)
            · rw[decide_eq_true hd]
              refine wpS_pure ⟨rfl,l,(l+m) / 2,rfl,by omega,by omega,by omega,hlo,fun i a1 a2=>?_⟩
              have:=hr' ((l+m) / 2) i a1 a2
              omega
            · rw[decide_eq_false hd]
              refine wpS_pure ⟨rfl,(l+m) / 2+1,m,rfl,by omega,by omega,by omega,fun i a1=>?_,hhi⟩
              have:=hr' i ((l+m) / 2) (by omega) (by omega)
              omega
        · rintro b u ⟨rfl,l,m,rfl,hlm,hmk,hx,hlo,hhi⟩
          have e:l=m:=by omega
          subst e
          exact⟨rfl,l,rfl,hmk,hlo,hhi⟩
        · exact⟨rfl,0,k,rfl,Nat.zero_le k,Nat.le_refl k,by omega,fun i hi=>absurd hi (Nat.not_lt_zero i),fun i a1 a2=>by omega⟩
      · rintro b u ⟨rfl,l,rfl,hlk,hlo,hhi⟩
        simp only
        rw[moveDown'_eq]
        apply wpS_bind
        apply wpS_modify
        refine wpS_pure ⟨rfl,hS'.arr (bubble_perm (arrOf u) k (k - l)),?_⟩
        have ek1:min (k+1) n=k+1:=by omega
        rw[ek1]
        have hz:k < (arrOf u).size:=by rw[hS'.sz];omega
        intro i j hij hj
        show cat c (bubble (arrOf u) k (k - l)) i<=cat c (bubble (arrOf u) k (k - l)) j
        rw[lj hz (by omega),lj hz (by omega)]
        have el:k - (k - l)=l:=by omega
        rw[el]
        by_cases i1:i=l
        · rw[if_pos i1]
          by_cases j1:j=l
          · rw[if_pos j1];exact Int.le_refl _
          · rw[if_neg j1,if_pos ⟨by omega,by omega⟩]
            exact Int.le_of_lt (hhi (j - 1) (by omega) (by omega))
        · rw[if_neg i1]
          by_cases i2:l < i/\i<=k
          · rw[if_pos i2,if_neg (by omega),if_pos ⟨by omega,by omega⟩]
            exact hr' _ _ (by omega) (by omega)
          · rw[if_neg i2]
            by_cases j1:j=l
            · rw[if_pos j1];exact hlo i (by omega)
            · rw[if_neg j1]
              by_cases j2:l < j/\j<=k
              · rw[if_pos j2];exact hr' _ _ (by omega) (by omega)
              · rw[if_neg j2];exact hr' _ _ hij (by omega)
    · rintro b t ⟨rfl,hS',hr'⟩
      have e:min (max (max ok 1) n) n=n:=by omega
      rw[e] at hr'
      exact⟨rfl,hS',hr'⟩
    · refine⟨rfl,hS,?_⟩
      have e:min (max ok 1) n=ok:=by omega
      rw[e];exact hr
  · rintro b t ⟨rfl,hS',hr'⟩
    exact wpS_pure (h t hS' hr')
def eZ(c:Cod)(z:Array Keyed)(t:SortSt):Prop:=(arrOf t).Perm z/\failedOf t=none/\pendingOf t = #[(0,z.size,0)]/\Ris c (arrOf t) z.size
theorem Srt.end(hS:Srt kd z st)(hr:Ris c (arrOf st) z.size):eZ c z (setPending st ((pendingOf st).push (0,z.size,0))):=by
  refine⟨hS.pm,hS.fl,?_,hr⟩
  show (pendingOf st).push _=_
  rw[hS.pe];rfl
theorem tZ{Q:Unit->SortSt->Prop}(hC:Cmp prog w A E s c kd z)(hS:Srt kd z st)(h2:2<=z.size)(h64:z.size < 64)(h:∀ t,eZ c z t->Q () t):wpS (model prog w) A E s sortRuns' Q st:=by
  have mr:minRun' z.size z.size 0=z.size:=by
    cases hz:z.size with
    | zero=>omega
    | succ f=>rw[minRun'_succ,if_pos (by omega)]
  rw[sortRuns'_eq]
  apply wpS_bind
  apply wpS_get
  simp only[hS.sz,mr]
  apply wpS_bind
  apply wpS_mono (Q:=fun b t=>b=(none,z.size)/\eZ c z t)
  · apply wpS_forRange (I:=fun i b t=>(i=0->b=(none,0)/\Srt kd z t)/\(0 < i->b=(none,z.size)/\eZ c z t))
    · intro i b t _ hi ⟨a1,a2⟩
      by_cases h0:i=0
      · obtain⟨rfl,hS'⟩:=a1 h0
        subst h0
        simp only
        rw[if_neg (show ¬ (0 ≥ z.size) by omega)]
        simp only[Nat.sub_zero,Nat.min_self,Nat.zero_add]
        apply wpS_bind
        apply tX hC (Nat.le_refl _) (by omega) hS'
        intro k u hS2 hk1 hk2 hr2
        simp only
        by_cases hlt:k < z.size
        · rw[if_pos hlt]
          apply wpS_bind
          apply wpS_lift
          apply wpAny_rule
          refine⟨rfl,?_⟩
          apply wpS_bind
          apply tY hC (Nat.le_refl _) hk1 hk2 hS2 hr2
          intro v hS3 hr3
          simp only[Bool.not_true,Bool.false_eq_true,if_false]
          apply wpS_bind
          apply wpS_get
          have eb:(pendingOf v).back?=none:=by rw[hS3.pe];rfl
          rw[eb]
          simp only
          apply wpS_bind
          apply wpS_modify
          exact wpS_pure ⟨fun q=>absurd q (by omega),fun _=>⟨rfl,hS3.end hr3⟩⟩
        · rw[if_neg hlt]
          have e:k=z.size:=by omega
          subst e
          apply wpS_bind
          apply wpS_get
          have eb:(pendingOf u).back?=none:=by rw[hS2.pe];rfl
          rw[eb]
          simp only
          apply wpS_bind
          apply wpS_modify
          exact wpS_pure ⟨fun q=>absurd q (by omega),fun _=>⟨rfl,hS2.end hr2⟩⟩
      · obtain⟨rfl,hF⟩:=a2 (by omega)
        simp only
        rw[if_pos (Nat.le_refl z.size)]
        exact wpS_pure ⟨rfl,hF⟩
    · intro b t ⟨_,a2⟩
      exact a2 (by omega)
    · exact⟨fun _=>⟨rfl,hS⟩,fun q=>absurd q (Nat.lt_irrefl 0)⟩
  · rintro b t ⟨rfl,hF⟩
    simp only
    apply wpS_bind
    apply wpS_mono (Q:=fun b u=>u=t/\b=(none,()))
    · apply wpS_forRange (I:=fun _ b u=>u=t/\b=(none,()))
      · rintro i b u _ _ ⟨rfl,rfl⟩
        apply wpS_bind
        apply wpS_get
        rw[if_pos (by rw[hF.2.2.1];exact Nat.le_refl 1)]
        exact wpS_pure ⟨rfl,rfl⟩
      · exact fun b u q=>q
      · exact⟨rfl,rfl⟩
    · rintro b u ⟨rfl,rfl⟩
      exact wpS_pure (h _ hF)
end
def PairAt(h:Heap)(v:Value)(a b:Int):Prop:=∃ q t u,v=.ref q/\IsTup h q #[.int a t,.int b u]
theorem PairAt.one{h:Heap}{v:Value}{a b a' b':Int}(x:PairAt h v a b)(y:PairAt h v a' b'):a=a'/\b=b':=by
  obtain⟨q,t,u,rfl,o,h1,h2,n,h3⟩:=x
  obtain⟨q',t',u',e,o',k1,k2,n',k3⟩:=y
  cases e
  rw[h1] at k1;cases k1
  rw[h3] at k3
  cases k3
  exact⟨rfl,rfl⟩
theorem PairAt.up{h h':Heap}{v:Value}{a b:Int}(x:PairAt h v a b)(k:∀ q o,h.get? q=some o->(∃ xs n,o.data=.seq xs n/\o.cls=.type "tuple")->h'.get? q=some o):PairAt h' v a b:=by
  obtain⟨q,t,u,rfl,o,h1,h2,n,h3⟩:=x
  exact⟨q,t,u,rfl,o,k q o h1 ⟨_,n,h3,h2⟩,h2,n,h3⟩
noncomputable def bG(h:Heap)(v:Value):Int:=open Classical in if x:∃ p:Int × Int,PairAt h v p.1 p.2 then 64 * x.choose.1+x.choose.2 else 0
theorem ff{h:Heap}{v:Value}{a b:Int}(x:PairAt h v a b):bG h v=64 * a+b:=by
  have y:∃ p:Int × Int,PairAt h v p.1 p.2:=⟨(a,b),x⟩
  unfold bG
  rw[dif_pos y]
  obtain⟨e1,e2⟩:=x.one y.choose_spec
  rw[<- e1,<- e2]
section
variable {prog:Program} {w:World} {A:Around} {E:Value->Shared->Prop} {s:Shared} {z:Array Keyed} {c:Cod}
theorem lq{a b:Int}{t u:Tok}{Q:Bool->Shared->Prop}(k:Bool)(h:Q (decide (a < b)) s):wpAny (model prog w) A (oneLt' k (.int a t) (.int b u)) Q E s:=by
  cases k with
  | true=>exact oneLt_int h
  | false =>
    rw[oneLt'_eq]
    simp only[Bool.false_eq_true,if_false]
    exact wpAny_bind (wpAny_richCompare_same (op:=.Lt) (typeIs_int s a t) (typeIs_int s b u) slot_int_lt (call_int_lt ⟨fun e=>(nomatch e),wpAny_truthy_bool h⟩))
theorem u0(x y:Value)(k:Bool):keyLt' (tuples' k) x y=(do
    let l <- Builtin.List.listItems x
    let m <- Builtin.List.listItems y
    for ((g,g'),n) in (l.toList.zip m.toList).zipIdx do
      if !(<- eqBool g g') then return <- oneLt' (k && n == 0) g g'
    return l.size < m.size):=rfl
theorem u1{x y:Value}{a b a' b':Int}{Q:Bool->Shared->Prop}(hx:PairAt s.heap x a b)(hy:PairAt s.heap y a' b')(r1:0<=b/\b < 64)(r2:0<=b'/\b' < 64)(h:Q (decide (64 * a+b < 64 * a'+b')) s):
    wpAny (model prog w) A (keyLt' (tuples' true) x y) Q E s:=by
  obtain⟨q,t,u,rfl,o,h1,h2,n,h3⟩:=hx
  obtain⟨q',t',u',rfl,o',k1,k2,n',k3⟩:=hy
  rw[u0]
  refine wpAny_bind (listItems_at h1 h3 (wpAny_bind (listItems_at k1 k3 ?_)))
  simp only[List.toList_toArray,List.zip_cons_cons,List.zip_nil_right,List.zipIdx_cons,List.zipIdx_nil,List.forIn_cons,List.forIn_nil,bind_assoc]
  refine wpAny_bind (wpAny_eqBool_int ?_)
  by_cases e1:a=a'
  · subst e1
    simp only[beq_self_eq_true,Bool.not_true,Bool.false_eq_true,if_false,pure_bind,bind_assoc]
    refine wpAny_bind (wpAny_eqBool_int ?_)
    by_cases e2:b=b'
    · subst e2
      simp only[beq_self_eq_true,Bool.not_true,Bool.false_eq_true,if_false,pure_bind]
      refine wpAny_pure ?_
      have e:decide (64 * a+b < 64 * a+b)=false:=decide_eq_false (Int.lt_irrefl _)
      rw[e] at h
      exact h
    · have e:(b == b')=false:=beq_eq_false_iff_ne.mpr e2
      simp only[e,Bool.not_false,if_true,bind_assoc]
      refine wpAny_bind (lq _ ?_)
      simp only[pure_bind]
      refine wpAny_pure ?_
      have e3:decide (64 * a+b < 64 * a+b')=decide (b < b'):=decide_eq_decide.mpr (by omega)
      rw[e3] at h
      exact h
  · have e:(a == a')=false:=beq_eq_false_iff_ne.mpr e1
    simp only[e,Bool.not_false,if_true,bind_assoc]
    refine wpAny_bind (lq _ ?_)
    simp only[pure_bind]
    refine wpAny_pure ?_
    have e3:decide (64 * a+b < 64 * a'+b')=decide (a < a'):=decide_eq_decide.mpr (by omega)
    rw[e3] at h
    exact h
theorem u2(hz:∀ g ∈ z.toList,∃ a b,PairAt s.heap g.1 a b/\0<=b/\b < 64/\c g.1=64 * a+b):Cmp prog w A E s c (tuples' true) z:=fun st u v Q hS hu hv h=>by
  have at':∀ k,k < z.size->∃ g a b,(arrOf st)[k]?=some g/\PairAt s.heap g.1 a b/\0<=b/\b < 64/\cat c (arrOf st) k=64 * a+b:=fun k hk=>by
    have hk':k < (arrOf st).size:=by rw[hS.sz];exact hk
    obtain⟨a,b,h1,h2,h3,h4⟩:=hz (arrOf st)[k] ((Array.perm_iff_toList_perm.mp hS.pm).mem_iff.mp (by simp))
    have e:=Array.getElem?_eq_getElem hk'
    refine⟨_,a,b,e,h1,h2,h3,?_⟩
    unfold cat;rw[e];exact h4
  obtain⟨g,a,b,e1,p1,r1,r1',c1⟩:=at' u hu
  obtain⟨g',a',b',e2,p2,r2,r2',c2⟩:=at' v hv
  rw[c1,c2] at h
  rw[ltAt'_eq]
  apply wpS_bind
  apply wpS_get
  show wpS _ _ _ _ (do let m <- elem' (arrOf st) u;let n <- elem' (arrOf st) v;lt' m n) Q st
  rw[elem'_eq,elem'_eq,e1,e2]
  refine wpS_bind (wpS_pure (wpS_bind (wpS_pure ?_)))
  rw[lt'_eq]
  apply wpS_bind
  apply wpS_get
  rw[hS.kd]
  apply wpS_bind
  apply wpS_lift
  apply wpAny_attempt
  exact u1 p1 p2 ⟨r1,r1'⟩ ⟨r2,r2'⟩ ⟨rfl,wpS_pure h⟩
end
theorem u3(v:Value):firstOfTuple' v=(do
    let k <- typeOf v
    if (k != .type "tuple")=true then pure none else do
      let l <- Builtin.List.listItems v
      pure l[0]?):=rfl
section
variable {prog:Program} {w:World} {A:Around} {E:Value->Shared->Prop} {s:Shared} {c:Cod}
theorem iG{α β:Type}{f:α->Sem β}{g:α->β}:∀ {l:List α} {Q:List β->Shared->Prop},(∀ x ∈ l,∀ R:β->Shared->Prop,R (g x) s->wpAny (model prog w) A (f x) R E s)->Q (l.map g) s->wpAny (model prog w) A (l.mapM f) Q E s
  | [],Q,_,h=>by rw[List.mapM_nil];exact wpAny_pure h
  | x::l,Q,hf,h=>by
    rw[List.mapM_cons]
    refine wpAny_bind (hf x List.mem_cons_self _ (wpAny_bind (iG (fun y hy=>hf y (List.mem_cons_of_mem _ hy)) (wpAny_pure h))))
theorem lr{v:Value}{a b:Int}(h:PairAt s.heap v a b):∃ t,∀ R:Option Value->Shared->Prop,R (some (.int a t)) s->wpAny (model prog w) A (firstOfTuple' v) R E s:=by
  obtain⟨q,t,u,rfl,o,h1,h2,n,h3⟩:=h
  refine⟨t,fun R hR=>?_⟩
  rw[u3]
  refine wpAny_bind (wpAny_typeOf (T:="tuple") ⟨o,h1,h2⟩ ?_)
  rw[if_neg (by simp)]
  exact wpAny_bind (listItems_at h1 h3 (wpAny_pure hR))
theorem u4{vs:List Value}{Q:SortKind->Shared->Prop}(hv:∀ v ∈ vs,∃ a b,PairAt s.heap v a b)(h0:vs ≠ [])(h:Q (tuples' true) s):wpAny (model prog w) A (keyKind' vs.toArray) Q E s:=by
  rw[keyKind'_eq,List.mapM_toArray]
  have hf:∃ g:Value->Option Value,(∀ v ∈ vs,∃ a t,g v=some (.int a t))/\∀ v ∈ vs,∀ R:Option Value->Shared->Prop,R (g v) s->wpAny (model prog w) A (firstOfTuple' v) R E s:=by
    refine⟨fun v=>open Classical in if x:∃ a b,PairAt s.heap v a b then some (.int x.choose (lr (prog:=prog) (w:=w) (A:=A) (E:=E) x.choose_spec.choose_spec).choose) else none,fun v m=>?_,fun v m R hR=>?_⟩
    · simp only[dif_pos (hv v m)]
      exact⟨_,_,rfl⟩
    · simp only[dif_pos (hv v m)] at hR
      exact (lr (prog:=prog) (w:=w) (A:=A) (E:=E) (hv v m).choose_spec.choose_spec).choose_spec R hR
  obtain⟨g,g1,g2⟩:=hf
  refine wpAny_bind (wpAny_map (iG g2 ?_))
  have ha:(vs.map g).toArray.all (·.isSome)=true:=by
    simp only[List.all_toArray,List.all_map,List.all_eq_true]
    intro v m
    obtain⟨a,t,e⟩:=g1 v m
    simp[e]
  rw[if_pos ha]
  refine wpAny_bind (wpAny_rule (wpAny_bind ?_))
  have hi:∀ v ∈ (vs.map g).filterMap id,∃ a t,v=Value.int a t:=fun v m=>by
    obtain⟨o,m1,e⟩:=List.mem_filterMap.mp m
    obtain⟨x,m2,e2⟩:=List.mem_map.mp m1
    obtain⟨a,t,e3⟩:=g1 x m2
    rw[<- e2,e3] at e
    simp at e
    exact⟨a,t,e.symm⟩
  have ef:((vs.map g).toArray.filterMap id)=((vs.map g).filterMap id).toArray:=by simp
  rw[ef,oneTypeOnly'_eq,List.mapM_toArray]
  refine wpAny_bind (wpAny_map (iG (g:=fun _=>Value.type "int") (fun v m R hR=>?_) ?_))
  · obtain⟨a,t,rfl⟩:=hi v m
    exact wpAny_typeOf (typeIs_int s a t) hR
  · have hne:∃ y l,(vs.map g).filterMap id=y::l:=by
      cases vs with
      | nil=>exact absurd rfl h0
      | cons v r =>
        obtain⟨a,t,e⟩:=g1 v List.mem_cons_self
        exact⟨.int a t,_,by rw[List.map_cons,e,List.filterMap_cons];rfl⟩
    obtain⟨y,l,e⟩:=hne
    rw[e]
    have hall:((List.map (fun _=>Value.type "int") (y::l)).toArray.all (· == Value.type "int"))=true:=by
      simp only[List.all_toArray,List.all_map,List.all_eq_true]
      exact fun _ _=>rfl
    show wpAny _ _ (pure (if ((List.map (fun _=>Value.type "int") (y::l)).toArray.all (· == Value.type "int"))=true then some (Value.type "int") else none)) _ E s
    rw[if_pos hall]
    refine wpAny_pure (wpAny_pure ?_)
    exact h
theorem u5{a:Addr}{vs:List Value}{n:Nat}{R:Fin->Shared->Prop}(ho:s.heap.get? a=some (seqObj "list" vs.toArray n))(hv:∀ v ∈ vs,∃ p q,PairAt s.heap v p q/\0<=q/\q < 64)(h64:vs.length < 64)(h:∀ y:Array Keyed,y.Perm (pairsOf vs)->Ris (bG s.heap) y vs.length->R (.done (.ret .none)) { s with heap:=sortedHeap s.heap a vs (y.map (·.2)) }):wpAny (model prog w) A (Builtin.«list.sort» ⟨[.ref a],[]⟩) R E s:=by
  have la:=Heap.lt_size ho
  rw[list_sort_plain]
  refine wpAny_bind (listItems_at ho rfl (wpAny_bind (listUpdate_at ho rfl ?_)))
  have hu:=get?_update_seq ho (fun _=>#[])
  refine wpAny_bind (seqEpoch_at hu rfl (wpAny_bind (wpAny_newTuple (wpAny_bind (wpAny_newList (wpAny_holding ?_))))))
  have keep:∀ q o,q ≠ a->s.heap.get? q=some o->(((s.heap.update a (Obj.mapSeq fun _=>#[])).push (seqObj "tuple" vs.toArray 0)).push (seqObj "list" #[] 0)).get? q=some o:=fun q o hq e =>
    Heap.get?_push_of_some _ (Heap.get?_push_of_some _ ((Heap.SameBut.update ..).2 q hq |>.trans e))
  have hown:(((s.heap.update a (Obj.mapSeq fun _=>#[])).push (seqObj "tuple" vs.toArray 0)).push (seqObj "list" #[] 0)).get? a=some _:=Heap.get?_push_of_some _ (Heap.get?_push_of_some _ hu)
  have hv':∀ v ∈ vs,∃ p q,PairAt (((s.heap.update a (Obj.mapSeq fun _=>#[])).push (seqObj "tuple" vs.toArray 0)).push (seqObj "list" #[] 0)) v p q/\0<=q/\q < 64/\bG s.heap v=64 * p+q:=fun v m=>by
    obtain⟨p,q,h1,h2,h3⟩:=hv v m
    refine⟨p,q,h1.up fun b o e k=>keep b o (fun eq=>?_) e,h2,h3,ff h1⟩
    rw[eq,ho] at e
    cases e
    obtain⟨_,_,_,k2⟩:=k
    exact absurd k2 (by simp[seqObj])
  generalize hH:(((s.heap.update a (Obj.mapSeq fun _=>#[])).push (seqObj "tuple" vs.toArray 0)).push (seqObj "list" #[] 0))=H6 at hown hv'
  have hS0:sortedHeap s.heap a vs=fun out=>H6.update a (Obj.mapSeq fun _=>out):=by rw[<- hH];rfl
  show wpAny (model prog w) A _ R E { s with heap:=H6 }
  simp only
  by_cases h2:vs.toArray.size < 2
  · rw[if_pos h2,if_pos h2]
    refine wpAny_bind (wpAny_pure ?_)
    rw[StateT.run_pure]
    refine wpAny_bind (wpAny_pure ?_)
    simp only
    refine wpAny_bind (seqEpoch_at (s:={ s with heap:=H6 }) hown rfl (wpAny_bind (listUpdate_at (s:={ s with heap:=H6 }) hown rfl ?_ (hsz2:=?_))))
    · simp only[bne_self_eq_false,Bool.false_eq_true,if_false]
      refine wpAny_pure ?_
      have:=h (pairsOf vs) (Array.Perm.refl _) fun u v huv hv=>by
        have e1:u=v:=by simp at h2;omega
        rw[e1];exact Int.le_refl _
      rw[hS0] at this
      exact this
    · rw[Array.size_map];show (pairsOf vs).size<=_;rw[pairsOf_size];exact Nat.le_trans (Nat.le_of_lt h64) (by decide)
  · rw[if_neg h2,if_neg h2]
    have h2':2<=vs.length:=by simpa using h2
    refine wpAny_bind (u4 (s:={ s with heap:=H6 }) (fun v m=>let ⟨p,q,x,_⟩:=hv' v m;⟨p,q,x⟩) (fun e=>by rw[e] at h2';simp at h2') ?_)
    have hC:=u2 (prog:=prog) (w:=w) (A:=A) (E:=E) (s:={ s with heap:=H6 }) (z:=pairsOf vs) (c:=bG s.heap) fun g m=>by
      rw[pairsOf_toList] at m
      exact hv' g.1 (mem_zip_self m).2
    have run:=tZ (st:=SortSt.mk' (tuples' true) (vs.toArray.zip vs.toArray) #[] 7 none) (Q:=fun _ t=>eZ (bG s.heap) (pairsOf vs) t) hC ⟨Array.Perm.refl _,rfl,rfl,rfl⟩ (by rw[pairsOf_size];exact h2') (by rw[pairsOf_size];exact h64) fun t ht=>ht
    refine wpAny_bind (wpAny_mono run ?_ fun _ _ e=>e)
    rintro⟨⟨⟩,t⟩ s' ⟨rfl,hp,hf,_,hr⟩
    simp only
    refine wpAny_bind (seqEpoch_at (s:={ s with heap:=H6 }) hown rfl (wpAny_bind (listUpdate_at (s:={ s with heap:=H6 }) hown rfl ?_ (hsz2:=?_))))
    · rw[hf]
      simp only[bne_self_eq_false,Bool.false_eq_true,if_false]
      refine wpAny_pure ?_
      have:=h (arrOf t) hp (by rw[pairsOf_size] at hr;exact hr)
      rw[hS0] at this
      exact this
    · rw[Array.size_map,Array.Perm.size_eq hp,pairsOf_size];exact Nat.le_trans (Nat.le_of_lt h64) (by decide)
theorem u6{l:Addr}{vs:List Value}{Q:Value->Shared->Prop}(hl:s.heap.IsList l vs.toArray)(hv:∀ v ∈ vs,∃ p q,PairAt s.heap v p q/\0<=q/\q < 64)(h64:vs.length < 64)(h:∀ out:List Value,out.Perm vs->out.Pairwise (fun x y=>bG s.heap x<=bG s.heap y)->Q (.ref (s.heap.objs.size+1)) { s with heap:=sortedAll s.heap vs out.toArray }):wpAny (model prog w) A (call (.builtin "sorted") [.ref l]) Q E s:=by
  refine Calls.call_function_entry kind_sorted plain_sorted entry_sorted (args_sorted1 _) ?_
  unfold Builtin.«sorted»
  refine wpAny_bind (m:=checkCount "sorted" 1 1 _) (wpAny_pure (wpAny_bind (collect_list hl (wpAny_bind (wpAny_newList ?_)) (Nat.le_trans (Nat.le_of_lt h64) (by decide)))))
  have z1:((s.heap.push (seqObj "list" #[] 0)).update s.heap.objs.size (Obj.mapSeq (·++vs.toArray))).objs.size=s.heap.objs.size+1:=(Heap.size_update ..).trans (size_push' ..)
  generalize hH:(s.heap.push (seqObj "list" #[] 0)).update s.heap.objs.size (Obj.mapSeq (·++vs.toArray))=H1 at z1
  have hn:(H1.push (seqObj "list" vs.toArray 0)).get? (s.heap.objs.size+1)=some (seqObj "list" vs.toArray 0):=by rw[<- z1];exact Heap.get?_push_size _ rfl
  have keep:∀ q o,s.heap.get? q=some o->(H1.push (seqObj "list" vs.toArray 0)).get? q=some o:=fun q o e=>by
    refine Heap.get?_push_of_some _ ?_
    rw[<- hH]
    have ne:q ≠ s.heap.objs.size:=Nat.ne_of_lt (Heap.lt_size e)
    exact ((Heap.SameBut.update ..).2 q ne).trans (Heap.get?_push_of_some _ e)
  show wpAny _ _ _ _ _ { s with heap:=H1.push (seqObj "list" vs.toArray 0) }
  rw[z1]
  have hs:=u5 (prog:=prog) (w:=w) (A:=A.in1.in1) (E:=E) (s:={ s with heap:=H1.push (seqObj "list" vs.toArray 0) }) (R:=fun f s'=>∃ v,f=.done (.ret v)/\s'={ s with heap:=s'.heap }/\∃ out:List Value,out.Perm vs/\out.Pairwise (fun x y=>bG s.heap x<=bG s.heap y)/\s'.heap=sortedHeap (H1.push (seqObj "list" vs.toArray 0)) (s.heap.objs.size+1) vs out.toArray) hn
    (fun v m=>by obtain⟨p,q,h1,h2⟩:=hv v m;exact⟨p,q,h1.up fun b o e _=>keep b o e,h2⟩) h64 fun y hp hr=>⟨_,rfl,rfl,y.toList.map (·.2),?_,?_,?_⟩
  · refine wpAny_bind (wpAny_holding (wpAny_mono (wpAny_call_entry slot_list_sort ⟨_,hn,rfl⟩ entry_list_sort hs (args_list_sort _)) ?_ fun _ _ e=>e))
    rintro v s' ⟨e,out,h1,h2,h3⟩
    refine wpAny_pure ⟨_,rfl,?_⟩
    have z:=h out h1 h2
    unfold sortedAll at z
    rw[hH,<- h3] at z
    rw[e]
    exact z
  · have e1:=(Array.perm_iff_toList_perm.mp hp).map (·.2)
    rw[pairsOf_toList,List.map_snd_zip (Nat.le_refl _)] at e1
    exact e1
  · have hl':y.size=vs.length:=by rw[Array.Perm.size_eq hp,pairsOf_size]
    rw[List.pairwise_iff_getElem]
    intro i j hi hj hij
    simp only[List.length_map,Array.length_toList] at hi hj
    have hr':=hr i j (Nat.le_of_lt hij) (by omega)
    have ec:∀ k (hk:k < y.size),cat (bG (H1.push (seqObj "list" vs.toArray 0))) y k=bG s.heap y[k].2:=fun k hk=>by
      have m:y[k] ∈ vs.zip vs:=by
        rw[<- pairsOf_toList];exact (Array.perm_iff_toList_perm.mp hp).mem_iff.mp (by simp)
      obtain⟨e1,e2⟩:=mem_zip_self m
      obtain⟨p,q,x,_⟩:=hv _ e2
      unfold cat
      rw[Array.getElem?_eq_getElem hk]
      show bG _ y[k].1=_
      rw[ff (x.up fun b o e _=>keep b o e),<- e1,ff x]
    rw[ec i hi,ec j hj] at hr'
    simpa using hr'
  · have eo:(y.toList.map (·.2)).toArray=y.map (·.2):=by rw[<- Array.toList_map]
    rw[eo]
end
def PTq(K:PySem.W.Frag)(H:Hp)(v:V)(p:Int × Int):Prop:=∃ q,v=.ref q/\SqT K H q [.int p.1,.int p.2]
def gV:Value->V
  | .ref p=>.ref p
  | _=>.non
theorem ls:∀ {zs:List V} {us:List Value},Vals zs us->(∀ v ∈ zs,∃ p,v=.ref p)->zs=us.map gV/\∀ u ∈ us,∃ p,u=.ref p
  | _,_,.nil,_=>⟨rfl,fun _ h=>nomatch h⟩
  | _,_,.cons (a:=x) (b:=y) r t,h=>by
    obtain⟨p,e⟩:=h x List.mem_cons_self
    subst e
    obtain⟨e1,e2⟩:=ls t fun v hv=>h v (List.mem_cons_of_mem _ hv)
    cases (show y=Value.ref p from r)
    refine⟨by rw[List.map_cons,<- e1];rfl,fun u hu=>?_⟩
    rcases List.mem_cons.mp hu with rfl | hu
    · exact⟨p,rfl⟩
    · exact e2 u hu
theorem lu:∀ {us:List Value},(∀ u ∈ us,∃ p,u=.ref p)->Vals (us.map gV) us
  | [],_=>.nil
  | u::r,h=>by
    obtain⟨p,rfl⟩:=h u List.mem_cons_self
    exact .cons rfl (lu fun v hv=>h v (List.mem_cons_of_mem _ hv))
def bu(p:Int × Int):Int:=64 * p.1+p.2
section
variable {X:Cx} {a:Expr} {p pos cp kp:Pos} {fa:FE} {ea:List Es}
def lw(K:PySem.W.Frag)(xs:List V)(H:Hp)(Q:VK):Prop:=∃ (q:Addr) (zs:List V) (f:V->Int × Int),xs=[.ref q]/\SqL K H q zs/\zs.length < 64/\(∀ v ∈ zs,PTq K H v (f v)/\0<=(f v).2/\(f v).2 < 64) /\
  ∀ ys l,ys.Perm zs->ys.Pairwise (fun x y=>bu (f x)<=bu (f y))->H l=none->Q (.ref l) (upd H l (.lst ys))
theorem u7{ta:TA}(hg:Gl X "sorted")(hm:X.mg "sorted" = none)(ha:PA X [a] ta)(he:starEach [a] X.env=(false,eval a X.env)::starEach [] X.env):PE X (.Call (.Name "sorted" p) [a] [] pos) (fun σ H Q=>ta σ H fun vs H1=>lw X.K vs H1 Q):=by
  refine aD (fO (id:="sorted") (r:=lw X.K) ?_ hg hm (by decide +kernel) ha (by decide) (by decide) he rfl) fun σ H Q h=>h
  intro pins s σ H xs us Q I r h
  obtain⟨q,zs,f,rfl,hq,hl,hf,hQ⟩:=h
  obtain⟨u,rfl,ru⟩:=d3 r
  cases ru
  obtain⟨its,rv,pl,hz⟩:=I.list hq
  have hlen:=rv.length
  obtain⟨ez,er⟩:=ls rv fun v hv=>let ⟨q,e,_⟩:=(hf v hv).1;⟨q,e⟩
  have pa : ∀ v ∈ its,PairAt s.heap v (f (gV v)).1 (f (gV v)).2:=fun v hv=>by
    obtain⟨q',e⟩:=er v hv
    subst e
    obtain⟨⟨q2,e2,ht⟩,_⟩:=hf (gV (.ref q')) (by rw[ez];exact List.mem_map_of_mem hv)
    cases (show V.ref q'=.ref q2 from e2)
    obtain⟨ws,rw',it,_⟩:=I.tuple ht
    obtain⟨w1,w2,rfl,r1,r2⟩:∃ w1 w2,ws=[w1,w2]/\RelV (.int (f (gV (.ref q'))).1) w1/\RelV (.int (f (gV (.ref q'))).2) w2:=by
      cases rw' with
      | cons r1 t=>cases t with
        | cons r2 t=>cases t with
          | nil=>exact⟨_,_,rfl,r1,r2⟩
    obtain⟨t1,rfl⟩:=r1
    obtain⟨t2,rfl⟩:=r2
    exact⟨q',t1,t2,rfl,it⟩
  refine u6 pl.isList (fun v hv=>⟨_,_,pa v hv,(hf _ (by rw[ez];exact List.mem_map_of_mem hv)).2⟩) (by omega) fun out h1 h2=>?_
  obtain⟨c,hc⟩:=sortedAll_at s.heap its out.toArray
  have hfr:H (s.heap.objs.size+1)=none:=I.hok.fresh (Nat.le_succ _)
  have mo:∀ v ∈ out,v ∈ its:=fun v hv=>h1.mem_iff.mp hv
  refine⟨.ref _,_,I.laid (t':=s.toks) (o:=.lst (out.map gV)) (fun b o q=>sortedAll_old q) (Nat.le_succ _) ⟨?_,out,c,lu fun u hu=>er u (mo u hu),by simpa using hc⟩,rfl,hQ _ _ (by rw[ez];exact h1.map gV) ?_ hfr⟩
  · rw[List.length_map,h1.length_eq];omega
  · rw[List.pairwise_map]
    refine List.Pairwise.imp_of_mem ?_ h2
    intro x y hx hy hxy
    rw[ff (pa x (mo x hx)),ff (pa y (mo y hy))] at hxy
    exact hxy
def prD(p:Int × Int):D:=.tup [.int p.1,.int p.2]
def prI:D->Option (Int × Int)
  | .tup [.int a,.int b]=>if 0<=b/\b < 64 then some (a,b) else none
  | _=>none
def ce(ps:List (Int × Int)):List (Int × Int):=ps.mergeSort fun a b=>decide (bu a<=bu b)
theorem dY(ps:List (Int × Int)):(ce ps).Perm ps:=List.mergeSort_perm _ _
theorem lz(ps:List (Int × Int)):(ce ps).Pairwise fun a b=>bu a<=bu b:=by
  have:=List.pairwise_mergeSort (le:=fun (a b:Int × Int)=>decide (bu a<=bu b)) (fun a b c h1 h2=>by simp at *;omega) (fun a b=>by simp;omega) ps
  exact this.imp fun h=>by simpa using h
def fg:List D->Option (List (Int × Int))
  | []=>some []
  | d::r=>(prI d).bind fun p=>(fg r).map (p::·)
theorem u8{d:D}{p:Int × Int}(h:prI d=some p):d=prD p/\0<=p.2/\p.2 < 64:=by
  unfold prI at h
  split at h
  · obtain⟨h1,h2⟩:=bq h
    subst h2
    exact⟨rfl,h1⟩
  · cases h
theorem lA:∀ {ds:List D} {ps:List (Int × Int)},fg ds=some ps->ds=ps.map prD/\∀ p ∈ ps,0<=p.2/\p.2 < 64
  | [],_,h=>by cases h;exact⟨rfl,fun _ q=>nomatch q⟩
  | d::r,_,h=>by
    obtain⟨p,h1,h⟩:=bind_some h
    obtain⟨ps,h2,rfl⟩:=Option.map_eq_some_iff.mp h
    obtain⟨e1,e2⟩:=u8 h1
    obtain⟨e3,e4⟩:=lA h2
    refine⟨by rw[List.map_cons,<- e1,<- e3],fun x hx=>?_⟩
    rcases List.mem_cons.mp hx with rfl | hx
    · exact e2
    · exact e4 x hx
def fh:D->Option D:=fun d=>(b5 d).bind fun ds=>(fg ds).bind fun ps=>if ps.length < 64 then some (.lst ((ce ps).map prD)) else none
theorem u9{x y:Int × Int}(h1:0<=x.2/\x.2 < 64)(h2:0<=y.2/\y.2 < 64)(e1:bu x<=bu y)(e2:bu y<=bu x):x=y:=by
  obtain⟨a,b⟩:=x
  obtain⟨c,d⟩:=y
  unfold bu at e1 e2
  simp only at *
  have e3:a=c:=by omega
  have e4:b=d:=by omega
  rw[e3,e4]
theorem PTq.one{K:PySem.W.Frag}{H:Hp}{v:V}{x y:Int × Int}(h1:∃ q,v=.ref q/\Rd H q (.tup [.int x.1,.int x.2]))(h2:∃ q,v=.ref q/\Rd H q (.tup [.int y.1,.int y.2])):x=y:=by
  obtain⟨q,rfl,r1⟩:=h1
  obtain⟨q',e,r2⟩:=h2
  cases e
  have:=d4 r1 r2
  simp at this
  exact Prod.ext this.1 this.2
theorem lB{K:PySem.W.Frag}{H:Hp}{f:V->Int × Int}(hf:∀ v p,(∃ q,v=.ref q/\Rd H q (.tup [.int p.1,.int p.2]))->f v=p):∀ {xs:List V} {ps:List (Int × Int)},Reps K H xs (ps.map prD)->xs.map f=ps/\∀ v ∈ xs,∃ q,v=.ref q/\Rd H q (.tup [.int (f v).1,.int (f v).2])
  | [],[],_=>⟨rfl,fun _ h=>nomatch h⟩
  | [],_::_,h=>nomatch h
  | _::_,[],h=>nomatch h
  | x :: xs,p::ps,h=>by
    cases h with
    | cons r t =>
      obtain⟨e1,e2⟩:=lB hf t
      obtain⟨q,vs,rfl,h1,h2⟩:=de r
      obtain⟨v,w,rfl,r1,r2⟩:∃ v w,vs=[v,w]/\Rep K H v (.int p.1)/\Rep K H w (.int p.2):=by
        cases h2 with
        | cons r1 t=>cases t with
          | cons r2 t=>cases t with
            | nil=>exact⟨_,_,rfl,r1,r2⟩
      cases r1
      cases r2
      have ep:=hf (.ref q) p ⟨q,rfl,h1⟩
      refine⟨by rw[List.map_cons,ep,e1],fun v hv=>?_⟩
      rcases List.mem_cons.mp hv with rfl | hv
      · exact⟨q,rfl,by rw[ep];exact h1⟩
      · exact e2 v hv
theorem lC{K:PySem.W.Frag}{H:Hp}{f:V->Int × Int}:∀ {xs:List V},Reps K H xs (xs.map fun v=>prD (f v))->∀ v ∈ xs,Rep K H v (prD (f v))
  | x::xs,.cons r t,v,hv=>by
    rcases List.mem_cons.mp hv with rfl | hv
    · exact r
    · exact lC t v hv
theorem lD{K:PySem.W.Frag}{H:Hp}{f:V->Int × Int}:∀ {xs:List V},(∀ v ∈ xs,Rep K H v (prD (f v)))->Reps K H xs (xs.map fun v=>prD (f v))
  | [],_=>.nil
  | x::xs,h=>.cons (h x List.mem_cons_self) (lD fun v hv=>h v (List.mem_cons_of_mem _ hv))
theorem ua(ms:X.mg "sorted" = none)(ha:VB X a fa ea)(hg:Gl X "sorted":=by rfl)(he:starEach [a] X.env=(false,eval a X.env)::starEach [] X.env:=by rfl):VF X (.Call (.Name "sorted" p) [a] [] pos) (e1 fh fa) ea :=
  aD (u7 hg ms (bO ha cv he) he) fun σ H Q h=>by
    obtain⟨ρ,d,hE,hf,hQ⟩:=h
    obtain⟨dx,h1,hf⟩:=bind_some hf
    obtain⟨ds,h2,hf⟩:=bind_some hf
    obtain⟨ps,h3,hf⟩:=bind_some hf
    obtain⟨hl,rfl⟩:=bq hf
    obtain⟨ht,hi⟩:=eX h2
    refine⟨ρ,dx,hE,h1,fun x H1 p1=>?_⟩
    obtain⟨q,xs,rfl,hp,hx,hA⟩:=cw p1.rep hi ht
    obtain⟨e,hb⟩:=lA h3
    subst e
    have hfx:∃ f:V->Int × Int,∀ v p,(∃ q,v=.ref q/\Rd H1 q (.tup [.int p.1,.int p.2]))->f v=p:=by
      refine⟨fun v=>open Classical in if y:∃ p:Int × Int,∃ q,v=.ref q/\Rd H1 q (.tup [.int p.1,.int p.2]) then y.choose else (0,0),fun v p hv=>?_⟩
      have y:∃ p:Int × Int,∃ q,v=.ref q/\Rd H1 q (.tup [.int p.1,.int p.2]):=⟨p,hv⟩
      simp only[dif_pos y]
      exact PTq.one (K:=X.K) y.choose_spec hv
    obtain⟨f,hf⟩:=hfx
    obtain⟨em,er⟩:=lB hf hx
    have eps:ps.map prD=xs.map fun v=>prD (f v):=by rw[<- em,List.map_map];rfl
    refine⟨q,xs,f,rfl,hp,by rw[hx.length,List.length_map];exact hl,fun v hv=>?_,fun ys l hpm hso hr=>hQ _ _ ?_⟩
    · obtain⟨r,e,h⟩:=er v hv
      exact⟨⟨r,e,.inl h⟩,hb (f v) (by rw[<- em];exact List.mem_map_of_mem hv)⟩
    · have ey:ys.map f=ce ps:=by
        have h1:(ys.map f).Perm (ce ps):=by
          have:=hpm.map f
          rw[em] at this
          exact this.trans (dY ps).symm
        have bd:∀ z ∈ ys.map f,0<=z.2/\z.2 < 64:=fun z hz=>hb z ((dY ps).mem_iff.mp (h1.mem_iff.mp hz))
        refine h1.eq_of_pairwise (le:=fun x y=>bu x<=bu y) (fun x y mx my e1 e2=>u9 (bd x mx) (bd y (h1.mem_iff.mpr my)) e1 e2) ?_ (lz ps)
        rw[List.pairwise_map]
        exact hso
      refine eQ p1.same hr fun A hD hz=>?_
      have hB:=hA A (p1.av A hD hz)
      rw[eps] at hB
      have e2:(ce ps).map prD=ys.map fun v=>prD (f v):=by rw[<- ey,List.map_map];rfl
      rw[e2]
      exact lD fun v hv=>lC hB v (hpm.mem_iff.mp hv)
end
theorem ub:fillsNumberSlot (.type "tuple") "mul" = pure false:=PySem.fillsNumberSlot_seq (id:="tuple.__mul__") (r:=some (.builtin "tuple.__rmul__")) PySem.F.slot_tuple_mul.lookup (by decide +kernel) PySem.F.slot_tuple_rmul.lookup (by decide +kernel)
theorem uc:seqRepeat? (.type "tuple")=pure (some (.builtin "tuple.__mul__")):=by
  unfold seqRepeat?;rw[PySem.seqSlot_of (T:="tuple") (name:="__mul__") (id:="tuple.__mul__") PySem.F.slot_tuple_mul.lookup (by decide +kernel),PySem.seqSlot_of (T:="tuple") (name:="__rmul__") (id:="tuple.__rmul__") PySem.F.slot_tuple_rmul.lookup (by decide +kernel)];rfl
theorem ud(k:Int)(t:Tok)(l:Addr)(its:Array Value)(n:Nat)(dd:Option Addr)(sl:Array (Option Value)):Meets (Builtin.«int.__rmul__» ⟨[.int k t,.ref l],[]⟩) (fun _ R s=>s.heap.get? l=some { cls:=.type "tuple",dict:=dd,data:=.seq its n,slots:=sl }/\R (.ok (.ret Value.notImplemented)) s) :=
  .of_wp fun prog w A R s h=>by
    obtain⟨hp,g,d,tk,os⟩:=s
    obtain⟨hl,h⟩:=h
    wp_walk
    exact⟨_,rfl,h⟩
theorem ue(l:Addr)(v:Value)(n:Nat)(dd:Option Addr)(sl:Array (Option Value))(t:Tok):Meets (Builtin.«tuple.__mul__» ⟨[.ref l,.int 1 t],[]⟩) (fun _ R s=>s.heap.get? l=some { cls:=.type "tuple",dict:=dd,data:=.seq #[v] n,slots:=sl }/\R (.ok (.ret (.ref l))) s) :=
  .of_wp fun prog w A R s h=>by
    obtain⟨hp,g,d,tk,os⟩:=s;obtain⟨hl,h⟩:=h
    have f1:=AutoSeq1.idx_int
    have f2:=AutoSeq1.sub_tuple_tuple
    wp_walk using wpAny_loadPart' hl
    exact⟨_,rfl,h⟩
theorem iH(v:Value):∀ (n:Nat) (z:Array Value),(List.replicate n #[v]).foldl (·++·) z=z++(List.replicate n v).toArray
  | 0,z=>by simp
  | n+1,z=>by
    rw[List.replicate_succ,List.foldl_cons,iH v n,List.replicate_succ]
    apply Array.toList_inj.mp
    simp
theorem uf(l:Addr)(v:Value)(n:Nat)(dd:Option Addr)(sl:Array (Option Value))(k:Int)(t:Tok)(h1:2<=k)(h2:k<=1000):Meets (Builtin.«tuple.__mul__» ⟨[.ref l,.int k t],[]⟩) (fun _ R s=>s.heap.get? l=some { cls:=.type "tuple",dict:=dd,data:=.seq #[v] n,slots:=sl } /\
    R (.ok (.ret (.ref s.heap.objs.size))) { s with heap:=s.heap.push { cls:=.type "tuple",data:=.seq ((List.replicate k.toNat #[v]).foldl (·++·) #[]) } }) :=
  .of_wp fun prog w A R s h=>by
    obtain⟨hp,g,d,tk,os⟩:=s;obtain⟨hl,h⟩:=h
    have f1:=AutoSeq1.idx_int
    have f2:=AutoSeq1.sub_tuple_tuple
    have c1:(decide (k < -(2 ^ 63)) || decide (k ≥ 2 ^ 63))=false:=by simp;omega
    have c2:(#[v].isEmpty || k == 1)=false:=by simp;omega
    have c3:(decide (k<=0) || #[v].isEmpty)=false:=by simp;omega
    have c4:¬ ((#[v].size:Nat):Int) * k > (2 ^ 63 - 1) / 8:=by simp;omega
    have c5:Builtin.Tuple.tupleTooMany (((#[v].size:Nat):Int) * k)=false:=by unfold Builtin.Tuple.tupleTooMany;rw[sizeLine_eq];simp;omega
    wp_walk using wpAny_loadPart' hl
    rw[c1,if_neg Bool.false_ne_true]
    wp_walk using wpAny_loadPart' hl
    rw[c2,if_neg Bool.false_ne_true]
    rw[c3,if_neg Bool.false_ne_true]
    rw[if_neg c4]
    rw[c5,if_neg Bool.false_ne_true]
    refine wpAny_bind (wpAny_newObj_type ?_ (by rw[iH];show _<=sizeLine;rw[sizeLine_eq];simp;omega))
    exact wpAny_pure ⟨_,rfl,h⟩
section
variable {X:Cx} {a b:Expr} {pos:Pos} {fa fb:FE} {ea eb:List Es}
def ug(K:PySem.W.Frag):R2:=fun x y H Q=>∃ l k v,x=.ref l/\y=.int k/\SqT K H l [v]/\1<=k/\k<=1000/\(k=1->Q (.ref l) H)/\(k ≠ 1->∀ p,H p=none->Q (.ref p) (upd H p (.tup (List.replicate k.toNat v))))
theorem lE{v:V}{u:Value}(h:RelV v u):∀ n,Vals (List.replicate n v) (List.replicate n u)
  | 0=>.nil
  | n+1=>.cons h (lE h n)
theorem uh:OpR X (binaryOp .Mult) (ug X.K):=by
  intro pins s σ H x y v u Q I rx ry h
  obtain⟨l,k,z,rfl,rfl,hl,h1,h2,q1,q2⟩:=h
  cases rx
  obtain⟨t,rfl⟩:=ry
  obtain⟨its,r,p1,_⟩:=I.tuple hl
  obtain⟨w0,rfl,rz⟩:=d3 r
  obtain⟨⟨cls,dd,data,sl⟩,ho,hc,n,hd⟩:=id p1
  simp only at hc hd
  subst hc hd
  refine wpAny_binaryOp_repeat_ref (T:="tuple") (U:="int") (id:="tuple.__mul__") (by decide) ⟨_,ho,rfl⟩ (fun s'=>typeIs_int s' k t) ub PySem.F.fills_int_mul PySem.F.slot_int_rmul uc PySem.F.slot_int_index.lookup
    (call_meets PySem.F.slot_int_rmul (typeIs_int s k t) PySem.F.entry_int_rmul (PySem.F.args_int_rmul_2 _ _) (ud k t l [w0].toArray n dd sl) ⟨ho,rfl,⟨_,ho,rfl⟩,?_⟩)
  by_cases e:k=1
  · subst e
    exact call_meets PySem.F.slot_tuple_mul ⟨_,ho,rfl⟩ PySem.F.entry_tuple_mul (PySem.F.args_tuple_mul_2 _ _) (ue l w0 n dd sl t) ⟨ho,⟨.ref l,H,I,rfl,q1 rfl⟩⟩
  · refine call_meets PySem.F.slot_tuple_mul ⟨_,ho,rfl⟩ PySem.F.entry_tuple_mul (PySem.F.args_tuple_mul_2 _ _) (uf l w0 n dd sl k t (by omega) h2) ⟨ho,?_⟩
    have hf:H s.heap.objs.size=none:=I.hok.fresh (Nat.le_refl _)
    refine⟨.ref s.heap.objs.size,_,I.laid (t':=s.toks) (o:=.tup (List.replicate k.toNat z)) (fun b u e=>Heap.get?_push_of_some _ e) (Nat.le_refl _) ?_,rfl,q2 e _ hf⟩
    refine⟨by rw[List.length_replicate,sizeLine_eq];omega,List.replicate k.toNat w0,lE rz _,⟨_,Heap.get?_push_size _ rfl,rfl,0,?_⟩⟩
    rw[iH]
    simp
def fj:D->D->Option D
  | .tup [d],.int k=>if 1<=k/\k<=1000 then some (.tup (List.replicate k.toNat d)) else none
  | _,_=>none
theorem iI{K:PySem.W.Frag}{H:Hp}{v:V}{d:D}(h:Rep K H v d):∀ n,Reps K H (List.replicate n v) (List.replicate n d)
  | 0=>.nil
  | n+1=>.cons h (iI h n)
theorem ui(ha:VE X a fa ea)(hb:VE X b fb eb):VE X (.BinOp a .Mult b pos) (e2 fj fa fb) ea :=
  aD (eF uh ha hb) fun σ H Q ⟨ρ,d,hE,hf,hQ⟩=>by
    obtain⟨dx,h1,hf⟩:=bind_some hf
    obtain⟨dy,h2,hf⟩:=bind_some hf
    refine⟨ρ,dx,hE,h1,fun x H1 p1=>⟨ρ,dy,hE.mono p1.same,h2,fun y H2 p2=>?_⟩⟩
    have q1:=p1.up p2.same
    match dx,dy,hf,p2,q1 with
    | .tup [dd],.int k,hf,p2,q1 =>
      obtain⟨⟨k1,k2⟩,rfl⟩:=bq hf
      cases p2.rep
      obtain⟨p,xs,rfl,hp,hx⟩:=de q1.rep
      obtain⟨v,rfl,rv⟩:∃ v,xs=[v]/\Rep X.K H2 v dd:=by
        cases hx with
        | cons r t=>cases t;exact⟨_,rfl,r⟩
      have hA:∀ A,Dom H A->(∀ z ∈ ea,Av X.K H σ ρ A z)->Rep X.K (ae H2 A) v dd:=fun A hD hz=>by
        have:=iD hp (q1.av A hD hz)
        cases this with
        | cons r _=>exact r
      refine⟨p,k,v,rfl,rfl,.inl hp,k1,k2,fun e=>?_,fun e r hr=>?_⟩
      · subst e
        exact hQ _ _ q1
      · exact hQ _ _ (iC q1.same hr (iI rv _) fun A hD hz=>iI (hA A hD hz) _)
end
end VL
namespace VL
open PySem PySem.Spec PyProof.Rows L2
structure JE (X:Cx) (e:Expr) (f:FE) (es:List Es):Prop where
  h:VE X e f es
structure JF (X:Cx) (e:Expr) (f:FE) (es:List Es):Prop where
  h:VF X e f es
structure JB (X:Cx) (e:Expr) (f:FE) (es:List Es):Prop where
  h:VB X e f es
structure JT (X:Cx) (e:Expr) (f:ab->Option Bool):Prop where
  h:VT X e f
structure JW (X:Cx) (e:Expr) (f:ab->Option Bool):Prop where
  h:VW X e f
structure JA (X:Cx) (e:List Expr) (f:FEs) (es:List Es):Prop where
  h:VA X e f es
structure JO (X:Cx) (e:Option Expr) (f:FO):Prop where
  h:VO X e f
structure JI (X:Cx) (tg iter:Expr) (f:FEs) (es:List Es):Prop where
  h:VI X tg iter f es
structure JS (X:Cx) (F:Fr0) (O:List Nat) (st:Stmt) (f:FS) (O' OL:List Nat) (fr:Bool):Prop where
  h:VS X F O st f O' OL fr
structure JSs (X:Cx) (F:Fr0) (O:List Nat) (st:List Stmt) (f:FS) (O' OL:List Nat) (fr:Bool):Prop where
  h:VSs X F O st f O' OL fr
structure JIL (X:Cx) (tg iter:Expr) (f:FEs) (es:List Es):Prop where
  h:VIL X tg iter f es
structure JD (X:Cx) (F:Fr0) (i:Nat) (al:Option Nat) (st:Stmt) (f:FS) (al':Option Nat) (fr:Bool):Prop where
  h:VD X F i al st f al' fr
structure JDs (X:Cx) (F:Fr0) (i:Nat) (al:Option Nat) (st:List Stmt) (f:FS) (al':Option Nat) (fr:Bool):Prop where
  h:VDs X F i al st f al' fr
structure JK (X:Cx) (F:Fr0) (i:Nat) (al:Option Nat) (st:Stmt) (f:FS) (al':Option Nat) (fr:Bool):Prop where
  h:VJ X F i al st f al' fr
structure JKs (X:Cx) (F:Fr0) (i:Nat) (al:Option Nat) (st:List Stmt) (f:FS) (al':Option Nat) (fr:Bool):Prop where
  h:VJs X F i al st f al' fr
structure JX (X:Cx) (F:Fr0) (i:Nat) (st:Stmt) (f:FS):Prop where
  h:VX X F i st f
structure JXs (X:Cx) (F:Fr0) (i:Nat) (st:List Stmt) (f:FS):Prop where
  h:VXs X F i st f
structure JRs (X:Cx) (F:Fr0) (O:List Nat) (st:List Stmt) (f:FS) (O':List Nat):Prop where
  h:VRs X F O st f O'
structure JG (X:Cx) (F:Fr0) (i n:Nat) (st:Stmt) (f:FS) (fr:Bool):Prop where
  h:VG X F i n st f fr
structure JGs (X:Cx) (F:Fr0) (i n:Nat) (st:List Stmt) (f:FS) (fr:Bool):Prop where
  h:VGs X F i n st f fr
structure JQs (X:Cx) (F:Fr0) (n:Nat) (O:List Nat) (st:List Stmt) (f:FS) (O':List Nat):Prop where
  h:VQs X F n O st f O'
structure JY (X:Cx) (e:Expr) (n:Nat) (fe:FE):Prop where
  h:VY X e n fe
section
variable {X:Cx} {a b c:Expr} {es ea eb ec:List Es} {fa fb fc:FE} {pos:Pos}
theorem bj{f:FE}(h:JF X a f es):JE X a f es:=⟨VF.ve h.h⟩
theorem ad(i:Nat){x:Str}{pos:Pos}(hN:X.N[i]?=some x:=by rfl)(hv:Vis X.env.scope x:=by first | exact Or.inl rfl | exact Or.inr (Or.inl rfl) | exact Or.inr (Or.inr rfl))(hd:(x == ("__debug__" : Str))=false:=by decide)(hcd:(x == ("__classdict__" : Str))=false:=by decide):JE X (.Name x pos) (aa i) [.full i]:=⟨qE i hN hv hd hcd⟩
theorem ag{i j pos}:JE X (.Constant (.int i) j pos) (eC (.int i)) []:=⟨qF ⟩
theorem uj{i j pos}:JE X (.Constant (.bool i) j pos) (eC (.bl i)) []:=⟨qG ⟩
theorem aX(ha:JE X a fa ea)(hb:JE X b fb eb):JE X (.BinOp a .Add b pos) (e2 aF fa fb) []:=⟨qN ha.h hb.h⟩
theorem fm(ha:JE X a fa ea)(hb:JE X b fb eb):JE X (.BinOp a .Sub b pos) (e2 cD fa fb) []:=⟨qO ha.h hb.h⟩
theorem bR(ha:JE X a fa ea)(hb:JE X b fb eb):JE X (.BinOp a .Mult b pos) (e2 bc fa fb) []:=⟨qP ha.h hb.h⟩
theorem bS(ha:JE X a fa ea)(hb:JE X b fb eb):JE X (.BinOp a .FloorDiv b pos) (e2 bA fa fb) []:=⟨qQ ha.h hb.h⟩
theorem bm(ha:JE X a fa ea)(hb:JE X b fb eb):JE X (.BinOp a .Mod b pos) (e2 b3 fa fb) []:=⟨qR ha.h hb.h⟩
theorem gp(ha:JE X a fa ea)(hb:JE X b fb eb):JE X (.BinOp a .Pow b pos) (e2 cE fa fb) []:=⟨qS ha.h hb.h⟩
theorem uk(ha:JE X a fa ea):JE X (.UnaryOp .USub a pos) (e1 d6 fa) []:=⟨qU ha.h⟩
theorem lF(ha:JE X a fa ea)(hb:JE X b fb eb):JT X (.Compare a [.Lt] [b] pos) (eT (e2 ltI fa fb)):=⟨qW ha.h hb.h⟩
theorem ul(ha:JE X a fa ea)(hb:JE X b fb eb):JT X (.Compare a [.Gt] [b] pos) (eT (e2 gtI fa fb)):=⟨qX ha.h hb.h⟩
theorem um(ha:JE X a fa ea)(hb:JE X b fb eb):JT X (.Compare a [.GtE] [b] pos) (eT (e2 geI fa fb)):=⟨qY ha.h hb.h⟩
theorem gq{f:FE}(h:JE X a f es)(he:∀ whole,isTrue a X.env whole=(do let v <- whole;standAt a.pos;holding [v] (truthy v)):=by intro _;rfl):JT X a (cF f):=⟨r0 h.h he⟩
variable {ta tb:ab->Option Bool} {ak:List Expr}
theorem uo(ha:JT X a ta):JW X (.BoolOp .Or [a] pos) ta:=⟨r8 ha.h⟩
theorem lG(ha:JT X a ta)(hb:JW X (.BoolOp .Or (b::ak) pos) tb):JW X (.BoolOp .Or (a::b::ak) pos) (bOr ta tb):=⟨ra ha.h hb.h⟩
theorem uq(h:JW X a ta):JT X a ta:=⟨rb h.h⟩
theorem ur(ha:JT X a ta):JT X (.UnaryOp .Not a pos) (dI ta):=⟨rf ha.h⟩
theorem aw: JA X [] au []:=⟨rg ⟩
theorem aj{xs:List Expr}{fs:FEs}(ha:JE X a fa ea)(hr:JA X xs fs eb)(hs:starEach (a::xs) X.env=(false,eval a X.env)::starEach xs X.env:=by rfl):JA X (a::xs) (ah fa fs) (ea++eb):=⟨rh ha.h hr.h hs⟩
theorem cx{xs:List Expr}{fs:FEs}(h:JA X xs fs es):JF X (.List xs pos) (bE fs) es:=⟨rj h.h⟩
theorem gr{xs:List Expr}{fs:FEs}{x1}(h:JA X xs fs es):JE X (.Tuple xs x1 pos) (cG fs) es:=⟨rk h.h⟩
end
section
variable {X:Cx} {a b c:Expr} {es ea eb ec:List Es} {fa fb fc:FE} {pos p2:Pos}
theorem df(h:JE X a fa es):JB X a fa es:=⟨VE.vb h.h⟩
theorem aY(i:Nat){x:Str}{pos:Pos}(hN:X.N[i]?=some x:=by rfl)(hv:Vis X.env.scope x:=by first | exact Or.inl rfl | exact Or.inr (Or.inl rfl) | exact Or.inr (Or.inr rfl))(hd:(x == ("__debug__" : Str))=false:=by decide)(hcd:(x == ("__classdict__" : Str))=false:=by decide):JB X (.Name x pos) (aa i) [.el i]:=⟨rl i hN hv hd hcd⟩
theorem cy(ha:JB X a fa ea)(hb:JE X b fb eb)(hs:hJ b):JE X (.Subscript a b pos) (e2 ixD fa fb) ea:=⟨rm ha.h hb.h hs⟩
theorem lH: JO X none eR:=⟨rn ⟩
theorem lI(h:JE X a fa ea):JO X (some a) (dJ fa):=⟨rp h.h⟩
theorem lJ(ha:JB X a fa ea)(hb:JB X b fb eb):JF X (.BinOp a .Add b pos) (e2 dL fa fb) (ea++eb):=⟨rC ha.h hb.h⟩
theorem lK{p:Pos}{as:FEs}(ml:X.mg "len" = none)(ha:JA X [a] as es)(hg:Gl X "len":=by rfl)(he:starEach [a] X.env=(false,eval a X.env)::starEach [] X.env:=by rfl)(hpl:(backTo pos (starEach [] X.env)).any (·.1)=false:=by rfl):JE X (.Call (.Name "len" p) [a] [] pos) (eA (be cH) as) []:=⟨rG ml ha.h hg he hpl⟩
theorem lL{p:Pos}(ml:X.mg "list" = none)(ha:JB X a fa ea)(hg:Gl X "list":=by rfl)(he:starEach [a] X.env=(false,eval a X.env)::starEach [] X.env:=by rfl)(hpl:(backTo pos (starEach [] X.env)).any (·.1)=false:=by rfl):JF X (.Call (.Name "list" p) [a] [] pos) (e1 eU fa) ea:=⟨rH ml ha.h hg he hpl⟩
theorem gs{p:Pos}{as:FEs}(hc:X.calm=true)(ml:X.mg "sum" = none)(ha:JA X [a] as es)(hg:Gl X "sum":=by rfl)(he:starEach [a] X.env=(false,eval a X.env)::starEach [] X.env:=by rfl)(hpl:(backTo pos (starEach [] X.env)).any (·.1)=false:=by rfl):JE X (.Call (.Name "sum" p) [a] [] pos) (eA (be cb) as) []:=⟨rL hc ml ha.h hg he hpl⟩
theorem lM{p:Pos}{as:FEs}(hc:X.calm=true)(ml:X.mg "min" = none)(ha:JA X [a,b] as es)(hg:Gl X "min":=by rfl)(he:starEach [a,b] X.env=(false,eval a X.env)::starEach [b] X.env:=by rfl)(hpl:(backTo pos (starEach [b] X.env)).any (·.1)=false:=by rfl):JE X (.Call (.Name "min" p) [a,b] [] pos) (eA (d7 d8) as) []:=⟨rN hc ml ha.h hg he hpl⟩
end
section
variable {K:PySem.W.Frag} {F:Fr0} {held:List Hd} {O O':List Nat} {σ:St} {ρ:ab} {H H':Hp}
end
section
variable {X:Cx} {F:Fr0} {O O1 O2 O' OL:List Nat} {fr:Bool} {f g:FS} {st:Stmt} {ak:List Stmt} {pos:Pos} {e:Expr} {fe:FE} {es:List Es}
theorem gt: JSs X F O [] d9 O OL fr:=⟨rQ ⟩
theorem aO(h1:JS X F O st f O1 OL fr)(h2:JSs X F O1 ak g O2 OL fr):JSs X F O (st::ak) (aE f g) O2 OL fr:=⟨rR h1.h h2.h⟩
theorem bf(h1:JS X F O st f O1 OL fr):JSs X F O [st] f O1 OL fr:=⟨rS h1.h⟩
theorem gu{c:Expr}{tc:ab->Option Bool}{a b:List Stmt}(hc:JT X c tc)(ha:JSs X F O a f O1 OL fr)(hb:JSs X F O b g O2 OL fr)(h1:∀ i ∈ O',i ∈ O1:=by decide)(h2:∀ i ∈ O',i ∈ O2:=by decide):JS X F O (.If c a b pos) (sIf tc f g) O' OL fr:=⟨rT hc.h ha.h hb.h h1 h2⟩
theorem bT(he:JE X e fe es):JS X F O (.Return (some e) pos) (aU fe) O' OL false:=⟨rV he.h⟩
theorem ut(he:JF X e fe es):JS X F O (.Return (some e) pos) (aU fe) O' OL fr:=⟨rW he.h⟩
theorem uv(i:Nat){x:Str}{p2:Pos}(hi:i ∈ O:=by decide)(hN:X.N[i]?=some x:=by rfl)(hv:Vis X.env.scope x:=by first | exact Or.inl rfl | exact Or.inr (Or.inl rfl) | exact Or.inr (Or.inr rfl))(hd:(x == ("__debug__" : Str))=false:=by decide)(hcd:(x == ("__classdict__" : Str))=false:=by decide):JS X F O (.Return (some (.Name x p2)) pos) (aU (eL (aa i))) O' OL fr:=⟨rY i hi hN hv hd hcd⟩
theorem bU(i:Nat){x:Str}{p2:Pos}(hN:X.N.Nodup)(he:JE X e fe es)(hi:X.N[i]?=some x:=by rfl)(hx:Loc X.env.scope x:=by first | exact Or.inl rfl | exact Or.inr rfl)(hs:swapsWith e (some (.Name x p2)) pos.line X.env=pure false:=by rfl)(hfn:X.fn x=true\/X.env.scope.names.lookup x=some .local:=by first | exact .inl rfl | exact .inr rfl):JS X F O (.Assign [.Name x p2] e pos) (aG i fe) (cM (aT O es) i) OL fr:=⟨rZ i hN he.h hi hx hs hfn⟩
theorem dZ(i:Nat){x:Str}{p2:Pos}(hN:X.N.Nodup)(he:JF X e fe es)(hn:i < F.n)(hi:X.N[i]?=some x:=by rfl)(hx:Loc X.env.scope x:=by first | exact Or.inl rfl | exact Or.inr rfl)(hs:swapsWith e (some (.Name x p2)) pos.line X.env=pure false:=by rfl)(hfn:X.fn x=true\/X.env.scope.names.lookup x=some .local:=by first | exact .inl rfl | exact .inr rfl):JS X F O (.Assign [.Name x p2] e pos) (aG i fe) (i::cM (aT O es) i) OL fr:=⟨sd i hN he.h hn hi hx hs hfn⟩
end
section
variable {X:Cx} {F:Fr0} {O O1 O2 O' OL:List Nat} {fr:Bool} {f g:FS} {st:Stmt} {ak:List Stmt} {pos p2 p3:Pos} {e a b:Expr} {fe fa fb:FE} {es ea eb:List Es}
theorem lN(i:Nat){x:Str}{ap cp:Pos}(he:JE X e fe es)(hi:i ∈ aT O es:=by decide)(hN:X.N[i]?=some x:=by rfl)(hv:Vis X.env.scope x:=by first | exact Or.inl rfl | exact Or.inr (Or.inl rfl) | exact Or.inr (Or.inr rfl))(hd:(x == ("__debug__" : Str))=false:=by decide)(hcd:(x == ("__classdict__" : Str))=false:=by decide)(hbase:attributeBase (.Name x p2) "append" X.env (eval (.Name x p2) X.env)=eval (.Name x p2) X.env:=by rfl)(hfew:((backTo cp (starEach [e] X.env)).all (fun x=>!x.1) && (backToKw cp (keywordEach [] X.env)).all (fun x=>x.1.isSome)
      && decide (([e]:List Expr).length+([]:List Keyword).length+(if ([]:List Keyword).isEmpty then 0 else 1) < 30))=true:=by rfl)(hline:(ap.endLine == cp.line)=true:=by rfl)(hs:starEach [e] X.env=(false,eval e X.env)::starEach [] X.env:=by rfl)(hplain:(backTo cp (starEach [] X.env)).any (·.1)=false:=by rfl)(hsw:swapsWith (.Call (.Attribute (.Name x p2) "append" ap) [e] [] cp) none pos.line X.env=pure false:=by rfl):JS X F O (.Expr (.Call (.Attribute (.Name x p2) "append" ap) [e] [] cp) pos) (dN i fe) (aT O es) OL fr:=⟨se i he.h hi hN hv hd hcd hbase hfew hline hs hplain hsw⟩
theorem uw(i:Nat){x:Str}(he:JE X e fe es)(hb:JE X b fb eb)(hi:i ∈ aT O es:=by decide)(hN:X.N[i]?=some x:=by rfl)(hv:Vis X.env.scope x:=by first | exact Or.inl rfl | exact Or.inr (Or.inl rfl) | exact Or.inr (Or.inr rfl))(hd:(x == ("__debug__" : Str))=false:=by decide)(hcd:(x == ("__classdict__" : Str))=false:=by decide)(ha:∀ v,assign (.Subscript (.Name x p2) b p3) X.env v=(do
      let ov <- holding [v] (eval (.Name x p2) X.env)
      let iv <- holding [v,ov] (eval b X.env)
      standAt p3
      holding [v,ov,iv] (setItem ov iv v)
      release [v,ov,iv] []):=by intro _;rfl)(hs:swapsWithSole [.Subscript (.Name x p2) b p3] e pos.line X.env=pure false:=by rfl)(hw:swappedStores [.Subscript (.Name x p2) b p3] e X.env=pure none:=by rfl)(h1:(assignEach [.Subscript (.Name x p2) b p3] X.env).map (·.2)=[assign (.Subscript (.Name x p2) b p3) X.env]:=by rfl):JS X F O (.Assign [.Subscript (.Name x p2) b p3] e pos) (eW i fb fe) (aT O es) OL fr:=⟨sf i he.h hb.h hi hN hv hd hcd ha hs hw h1⟩
theorem lO(t:Nat){x:Str}{iter:Expr}{body:List Stmt}{fi:FE}{ei:List Es}{tb:FS}(Ol:List Nat)(hN:X.N.Nodup)(hc:X.calm=true)(hi:JE X iter fi ei)(hb:JSs X F Ol body tb O2 Ol fr)(h1:∀ i ∈ Ol,i ∈ aT O ei:=by decide)(h2:∀ i ∈ Ol,i ∈ O2:=by decide)(h3:t ∉ Ol:=by decide)(hp:PassesOwn (model X.prog X.w) X.A X.env X.xe:=by exact PassesOwn.never)(hxN:X.N[t]?=some x:=by rfl)(hx:Loc X.env.scope x:=by first | exact Or.inl rfl | exact Or.inr rfl)(hfn:X.fn x=true\/X.env.scope.names.lookup x=some .local:=by first | exact .inl rfl | exact .inr rfl)(hs:∀ x,foldedSetIterable iter X.env x=pure x:=by intro _;rfl):JS X F O (.For (.Name x p2) iter body [] pos) (dP t fi tb) Ol OL fr:=⟨sj t Ol hN hc hi.h hb.h h1 h2 h3 hp hxN hx hfn hs⟩
theorem lP(t:Nat){x:Str}{a:Expr}{body:List Stmt}{as:FEs}{ei:List Es}{tb:FS}{pr pn:Pos}(Ol:List Nat)(hN:X.N.Nodup)(hc:X.calm=true)(mr:X.mg "range" = none)(hi:JA X [a] as ei)(hb:JSs X F Ol body tb O2 Ol fr)(h1:∀ i ∈ Ol,i ∈ O:=by decide)(h2:∀ i ∈ Ol,i ∈ O2:=by decide)(h3:t ∉ Ol:=by decide)(hp:PassesOwn (model X.prog X.w) X.A X.env X.xe:=by exact PassesOwn.never)(hg:Gl X "range":=by rfl)(hst:starEach [a] X.env=[(false,eval a X.env)]:=by rfl)(hxN:X.N[t]?=some x:=by rfl)(hx:Loc X.env.scope x:=by first | exact Or.inl rfl | exact Or.inr rfl)(hfn:X.fn x=true\/X.env.scope.names.lookup x=some .local:=by first | exact .inl rfl | exact .inr rfl)(hs:∀ x,foldedSetIterable (.Call (.Name "range" pn) [a] [] pr) X.env x=pure x:=by intro _;rfl):JS X F O (.For (.Name x p2) (.Call (.Name "range" pn) [a] [] pr) body [] pos) (dQ t as tb) Ol OL fr:=⟨sr t Ol hN hc mr hi.h hb.h h1 h2 h3 hp hg hst hxN hx hfn hs⟩
end
section
variable {X:Cx} {k:Nat} {f:Addr} {fd:FuncData} {ps:List Str} {G:List D->Option D} {fr:Bool} {x:Str} {p pos:Pos} {e:Expr} {es':List Expr} {as:FEs} {es:List Es}
end
section
variable {prog:Program} {w:World} {A:Around} {R:Result->Shared->Prop} {s:Shared}
end
section
variable {X:Cx} {pins:List (Addr × Obj)} {σ:St} {H:Hp} {s:Shared} {scope:Scope} {own cn:List Str} {caps:List Nat} {cl:List (Str × Addr)} {ex:List Addr}
end
section
variable {X:Cx} {elt tg iter:Expr} {ifs:List Expr} {scope:Scope} {own cn:List Str} {caps:List Nat} {wi:TI} {g:TG} {tt:TT} {te:TE} {pos:Pos}
end
section
variable {X:Cx} {tg iter a b:Expr} {fa fi:FE} {as:FEs} {es ea ei:List Es} {pr pn:Pos}
theorem iJ(h:JB X iter fi ei):JI X tg iter (da fi) ei:=⟨sC h.h⟩
theorem ux(mr:X.mg "range" = none)(hi:JA X [a] as ei)(hg:Gl X "range":=by rfl)(hst:starEach [a] X.env=[(false,eval a X.env)]:=by rfl):JI X tg (.Call (.Name "range" pn) [a] [] pr) (iR1 as) []:=⟨sE mr hi.h hg hst⟩
end
section
variable {X:Cx} {a b c:Expr} {es ea eb:List Es} {fa fb:FE} {pos p p2:Pos} {k:Nat}
theorem lQ(hr:Room k X.A)(ha:JE X a fa ea)(hb:JE X b fb eb):JE X (.Compare a [.Eq] [b] pos) (e2 eqD fa fb) []:=⟨sI hr ha.h hb.h⟩
theorem uy(hr:Room k X.A)(ha:JE X a fa ea)(hb:JE X b fb eb):JT X (.Compare a [.Eq] [b] pos) (eT (e2 eqD fa fb)):=⟨sJ hr ha.h hb.h⟩
theorem uz(hr:Room k X.A)(ha:JE X a fa ea)(hb:JE X b fb eb):JT X (.Compare a [.NotEq] [b] pos) (eT (e2 neD fa fb)):=⟨sK hr ha.h hb.h⟩
theorem lR{T:Str}{TS:String}(hk:∀ K d,PySem.W.kitOne K (.type (tyD d)) (.type TS)=some (cJ TS (tyD d)))(hT:bootBuiltins T=some (.type TS))(mi:X.mg "isinstance" = none)(mt:X.mg T=none)(ha:JE X a fa ea)(hg:Gl X "isinstance":=by rfl)(hgT:Gl X T:=by rfl)(hn:T ≠ "__name__":=by decide)(hd:(T == ("__debug__" : Str))=false:=by decide)(hs:starEach [a,.Name T p2] X.env=(false,eval a X.env)::starEach [.Name T p2] X.env:=by rfl)(hs2:starEach [.Name T p2] X.env=(false,eval (.Name T p2) X.env)::starEach [] X.env:=by rfl)(hpl:(backTo pos (starEach [.Name T p2] X.env)).any (·.1)=false:=by rfl):JE X (.Call (.Name "isinstance" p) [a,.Name T p2] [] pos) (e1 (cN TS) fa) []:=⟨sP hk hT mi mt ha.h hg hgT hn hd hs hs2 hpl⟩
end
section
variable {X:Cx} {elt tg iter:Expr} {ifs:List Expr} {scope:Scope} {own cn:List Str} {caps is:List Nat} {g:TG} {un:D->Option (List D)} {fi:FEs} {ei ee:List Es} {c:ab->Option Bool} {fe:FE} {pos spos p2:Pos}
theorem dg(B:BlkOk X scope own caps cn)(hc:X.calm=true)(hi:JI X tg iter fi ei)(hg:∀ s H cl ex,PG (blk X (own++cn) s H scope cl ex) tg g)(hgv:TgV X.K g is un)(his:∀ i ∈ is,i < own.length)(ht:∀ s H cl ex,PTs (blk X (own++cn) s H scope cl ex) ifs (tvT X.K c))(he:∀ s H cl ex,JE (blk X (own++cn) s H scope cl ex) elt fe ee)(hs:∀ x,foldedSetIterable iter X.env x=pure x:=by intro _;rfl):JF X (.ListComp elt [⟨tg,iter,ifs,0⟩] scope pos) (aV own.length caps is un fi c fe) (esC own.length caps ei ee):=⟨sR B hc hi.h hg hgv his ht (fun s H cl ex=>(he s H cl ex).h) hs⟩
theorem uA(i:Nat){x:Str}{F:Fr0}{O OL:List Nat}{fr:Bool}(hN:X.N.Nodup)(B:BlkOk X scope own caps cn)(hc:X.calm=true)(hi:JI X tg iter fi ei)(hg:∀ s H cl ex,PG (blk X (own++cn) s H scope cl ex) tg g)(hgv:TgV X.K g is un)(his:∀ i ∈ is,i < own.length)(ht:∀ s H cl ex,PTs (blk X (own++cn) s H scope cl ex) ifs (tvT X.K c))(he:∀ s H cl ex,JE (blk X (own++cn) s H scope cl ex) elt fe ee)(hn:i < F.n)(hsw:swapsWith (.ListComp elt [⟨tg,iter,ifs,0⟩] scope pos) (some (.Name x p2)) spos.line X.env=pure true:=by rfl)(hxi:X.N[i]?=some x:=by rfl)(hx:Loc X.env.scope x:=by first | exact Or.inl rfl | exact Or.inr rfl)(hfn:X.fn x=true\/X.env.scope.names.lookup x=some .local:=by first | exact .inl rfl | exact .inr rfl)(hs:∀ x,foldedSetIterable iter X.env x=pure x:=by intro _;rfl):JS X F O (.Assign [.Name x p2] (.ListComp elt [⟨tg,iter,ifs,0⟩] scope pos) spos) (aG i (aV own.length caps is un fi c fe)) (i::cM (aT O (esC own.length caps ei ee)) i) OL fr:=⟨sT i hN B hc hi.h hg hgv his ht (fun s H cl ex=>(he s H cl ex).h) hn hsw hxi hx hfn hs⟩
end
section
variable {P:Program} {w:World} {K:PySem.W.Frag} {mg:Str->Option Value} {base:Heap} {x:Str} {j k:Nat} {ps:List Str} {G:List D->Option D} {fr:Bool}
end
section
variable {X:Cx} {k:Nat} {ps:List Str} {G:List D->Option D} {fr:Bool} {x:Str} {p pos:Pos} {e:Expr} {es':List Expr} {as:FEs} {es:List Es}
theorem uB(d:Def X.prog X.w X.K X.mg X.base x k ps G fr)(hr:Room k X.A)(ha:JA X (e::es') as es)(hg:Gl X x:=by rfl)(hdb:(x == ("__debug__" : Str))=false:=by decide)(he:starEach (e::es') X.env=(false,eval e X.env)::starEach es' X.env:=by rfl)(hpl:(backTo pos (starEach es' X.env)).any (·.1)=false:=by rfl):JE X (.Call (.Name x p) (e::es') [] pos) (eA G as) es:=⟨lc d hr ha.h hg hdb he hpl⟩
theorem lS(d:Def X.prog X.w X.K X.mg X.base x k ps G true)(hr:Room k X.A)(ha:JA X (e::es') as es)(hg:Gl X x:=by rfl)(hdb:(x == ("__debug__" : Str))=false:=by decide)(he:starEach (e::es') X.env=(false,eval e X.env)::starEach es' X.env:=by rfl)(hpl:(backTo pos (starEach es' X.env)).any (·.1)=false:=by rfl):JF X (.Call (.Name x p) (e::es') [] pos) (eA G as) es:=⟨sV d hr ha.h hg hdb he hpl⟩
theorem cg(d:Def X.prog X.w X.K X.mg X.base x k ps (scF G) fr)(hr:Room k X.A)(ha:JA X (e::es') as es)(hg:Gl X x:=by rfl)(hdb:(x == ("__debug__" : Str))=false:=by decide)(he:starEach (e::es') X.env=(false,eval e X.env)::starEach es' X.env:=by rfl)(hpl:(backTo pos (starEach es' X.env)).any (·.1)=false:=by rfl):JE X (.Call (.Name x p) (e::es') [] pos) (eA (scF G) as) []:=⟨sW d hr ha.h hg hdb he hpl⟩
end
section
variable {X:Cx} {a b:Expr} {fa fb:FE} {ea eb:List Es} {pos p2:Pos}
theorem lT(ha:JE X a fa ea)(hb:JE X b fb eb):JE X (.BinOp a .Add b pos) (e2 dR fa fb) (ea++eb):=⟨t0 ha.h hb.h⟩
theorem lU{lo hi:Option Expr}{flo fhi:FO}(ha:JB X a fa ea)(hl:JO X lo flo)(hh:JO X hi fhi):JE X (.Subscript a (.Slice lo hi none p2) pos) (dS fa flo fhi) ea:=⟨t3 ha.h hl.h hh.h⟩
end
section
variable {X:Cx} {tg a b:Expr} {elts:List Expr} {ek:Nat} {ep pn pr:Pos} {ta:TA}
end
section
variable {X:Cx} {tg a b:Expr} {elts:List Expr} {ek:Nat} {ep pn pr:Pos} {fa fb:FE} {ea eb:List Es}
theorem lV(mr:X.mg "enumerate" = none)(h:JB X a fa ea)(hg:Gl X "enumerate":=by rfl)(hst:starEach [a] X.env=[(false,eval a X.env)]:=by rfl):JI X (.Tuple elts ek ep) (.Call (.Name "enumerate" pn) [a] [] pr) (dU fa) ea:=⟨tu mr h.h hg hst⟩
theorem lW(mr:X.mg "zip" = none)(ha:JB X a fa ea)(hb:JB X b fb eb)(hg:Gl X "zip":=by rfl)(hst:starEach [a,b] X.env=[(false,eval a X.env),(false,eval b X.env)]:=by rfl)(hst2:starEach [b] X.env=[(false,eval b X.env)]:=by rfl):JI X (.Tuple elts ek ep) (.Call (.Name "zip" pn) [a,b] [] pr) (dW fa fb) (ea++eb):=⟨tz mr ha.h hb.h hg hst hst2⟩
end
section
variable {X:Cx} {F:Fr0} {O O2 OL:List Nat} {fr:Bool} {a b:Expr} {body:List Stmt} {fa fb:FE} {ea eb:List Es} {tb:FS} {p2 pos pn pr:Pos}
end
section
variable {prog:Program} {w:World} {A:Around} {s:Shared} {R:Result->Shared->Prop}
variable {I:Addr} {fp wr:List Addr} {G:Array GenState->Array GenState->Prop} {n:Nat} {P:Nat->Value->Prop} {St:Nat->Shared->Prop}
end
section
variable {prog:Program} {w:World} {A:Around} {E:Value->Shared->Prop} {s:Shared}
end
section
variable {X:Cx} {a b e ix:Expr} {fa fb fe fx:FE} {ea eb es ei:List Es} {pos pos2 p p2:Pos} {ta:TA}
end
section
variable {X:Cx} {F:Fr0} {O OL:List Nat} {fr:Bool} {e ix:Expr} {fe fx:FE} {es ei:List Es} {pos p2:Pos}
end
section
variable {X:Cx} {a b e:Expr} {te:TE} {fa fb:FE} {ea eb:List Es} {pos p p2:Pos} {lo hi:Option Expr} {ke:Expr} {tl th tk:TO} {flo fhi fst:FO}
end
section
variable {X:Cx} {tg:Expr}
end
section
variable {X:Cx} {F:Fr0} {O O2 OL:List Nat} {fr:Bool} {a b c:Expr} {body:List Stmt} {as:FEs} {ei:List Es} {tb:FS} {p2 pos pn pr:Pos}
end
section
variable {X:Cx} {a b:Expr} {fa fb:FE} {ea eb es:List Es} {as:FEs} {pos p kp cp:Pos}
theorem uC(ms:X.mg "sorted" = none)(ha:JB X a fa ea)(hg:Gl X "sorted":=by rfl)(he:starEach [a] X.env=(false,eval a X.env)::starEach [] X.env:=by rfl):JF X (.Call (.Name "sorted" p) [a] [] pos) (e1 (dX false) fa) []:=⟨tI ms ha.h hg he⟩
end
section
variable {X:Cx} {a b c:Expr} {as:FEs} {es:List Es} {pos p:Pos}
end
section
variable {X:Cx}
end
section
variable {X:Cx} {F:Fr0} {O OL:List Nat} {fr:Bool} {e:Expr} {fe:FE} {es:List Es} {pos p2:Pos}
end
section
variable {X:Cx} {F:Fr0} {i:Nat} {al al1 al2:Option Nat} {fr:Bool} {f g:FS} {st:Stmt} {ak:List Stmt} {pos p2 p3 p4:Pos} {e b1 b2:Expr} {fe f1 f2:FE} {es e1 e2:List Es}
end
section
variable {X:Cx} {elt tg iter:Expr} {ifs:List Expr} {scope:Scope} {own cn:List Str} {caps is:List Nat} {g:TG} {un:D->Option (List D)} {fi:FEs} {ei ee:List Es} {c:ab->Option Bool} {fe:FE} {pos spos p2:Pos}
end
section
variable {prog:Program} {w:World} {A:Around} {E:Value->Shared->Prop} {s:Shared}
end
section
variable {X:Cx} {tg a:Expr} {ta:TA} {p p2 pos pos2:Pos}
end
section
variable {X:Cx} {F:Fr0} {O O2 OL:List Nat} {fr:Bool} {a:Expr} {body:List Stmt} {as:FEs} {ei:List Es} {tb:FS} {p2 pos pn pr pm pq:Pos}
end
section
variable {X:Cx} {a b c:Expr} {fa fb fc:FE} {ea eb ec:List Es} {pos:Pos}
end
section
variable {K:PySem.W.Frag} {F:Fr0} {held:List Hd} {i r:Nat} {al:Option Nat} {a:Addr} {bs:List Addr} {dss:List (List D)} {σ:St} {ρ:ab} {H H':Hp}
end
section
variable {X:Cx} {F:Fr0} {i r:Nat} {al al1 al2:Option Nat} {fr:Bool} {f g:FS} {st:Stmt} {ak:List Stmt} {pos p2 p3 p4:Pos} {e b1 b2:Expr} {fe f1 f2:FE} {es e1 e2:List Es}
end
section
variable {K:PySem.W.Frag} {F:Fr0} {held:List Hd} {i:Nat} {a:Addr} {bs:List Addr} {dss:List (List D)} {σ:St} {ρ:ab} {H H':Hp}
end
section
variable {X:Cx} {F:Fr0} {O O1 O2 O' OL:List Nat} {i:Nat} {fr:Bool} {f g:FS} {st:Stmt} {ak:List Stmt} {pos p2 p3 p4:Pos} {e:Expr} {fe:FE} {es:List Es}
end
section
variable {P:Program} {w:World} {K:PySem.W.Frag} {mg:Str->Option Value} {base:Heap} {x:Str} {j k:Nat} {ps:List Str} {G:List D->Option D}
end
section
variable {X:Cx} {k:Nat} {ps:List Str} {G:List D->Option D} {F:Fr0} {O O' OL:List Nat} {fr:Bool} {x y:Str} {p p2 pos spos:Pos} {e:Expr} {es':List Expr} {as:FEs} {es:List Es} {ak:List Stmt} {fs:FS} {al':Option Nat}
end
section
variable {X:Cx} {elt tg iter:Expr} {ifs:List Expr} {scope:Scope} {own cn:List Str} {caps is:List Nat} {g:TG} {un:D->Option (List D)} {fi:FEs} {ei ee:List Es} {c:ab->Option Bool} {fe:FE} {pos spos p2:Pos} {F:Fr0} {i:Nat} {fr:Bool}
end
section
variable {X:Cx} {elt tg iter:Expr} {ifs:List Expr} {scope:Scope} {own cn:List Str} {n:Nat} {caps is:List Nat} {g:TG} {un:D->Option (List D)} {fi:FEs} {ei:List Es} {c:ab->Option Bool} {fe:FE} {pos:Pos}
end
section
variable {X:Cx} {F:Fr0} {n:Nat} {O O1 O2 O' OL:List Nat} {fr:Bool} {f g:FS} {st:Stmt} {ak:List Stmt} {pos:Pos} {e:Expr} {fe:FE}
end
section
variable {P:Program} {w:World} {K:PySem.W.Frag} {mg:Str->Option Value} {base:Heap} {x:Str} {j k n:Nat} {ps:List Str} {G:List D->Option D}
end
section
variable {X:Cx} {k n:Nat} {ps:List Str} {G:List D->Option D} {x:Str} {p pos:Pos} {e:Expr} {es':List Expr} {as:FEs} {es:List Es}
end
section
variable {K:PySem.W.Frag} {F:Fr0} {held:List Hd} {i n:Nat} {S:List Addr} {v0:V} {d0:D} {σ:St} {ρ:ab} {H H':Hp}
end
section
variable {X:Cx} {F:Fr0} {i n:Nat} {fr:Bool} {f g:FS} {st:Stmt} {ak:List Stmt} {pos p2 p3 p4:Pos} {e:Expr} {fe:FE} {es:List Es}
end
section
variable {X:Cx} {r:Nat} {y:Str} {e:Expr} {d:D} {es:List Es} {pos p2 ap cp:Pos}
end
section
variable {X:Cx} {r1 r2:Nat} {y1 y2:Str} {d:D} {body:List Stmt} {pos p1 p2:Pos}
end
section
variable {X:Cx} {F:Fr0} {i r1 r2:Nat} {x y1 y2:Str} {d:D} {e:Expr} {fe:FE} {es:List Es} {fr:Bool} {ak:List Stmt} {g:FS} {O' OL:List Nat} {pos px py1 py1' py2 pm pl pe2 ap cp:Pos}
end
section
variable {X:Cx} {k n:Nat} {ps:List Str} {G:List D->Option D} {F:Fr0} {O O' OL:List Nat} {fr:Bool} {x y:Str} {p p2 pos spos:Pos} {e:Expr} {es':List Expr} {as:FEs} {es:List Es} {ak:List Stmt} {fs:FS}
end
section
variable {X:Cx} {F:Fr0} {O O':List Nat} {elt tg iter e:Expr} {ifs:List Expr} {scope:Scope} {own cn:List Str} {n k:Nat} {caps is:List Nat} {g:TG} {un:D->Option (List D)} {fi:FEs} {ei es:List Es} {c:ab->Option Bool} {fe:FE} {pos p:Pos} {ps:List Str} {G:List D->Option D} {x:Str} {es':List Expr} {as:FEs}
end
section
variable {X:Cx} {a b c:Expr} {es ea eb ec:List Es} {fa fb fc:FE} {pos p2:Pos} {k:Nat}
end
section
variable {K:PySem.W.Frag} {F:Fr0} {held:List Hd} {O O':List Nat} {σ:St} {ρ:ab} {H H':Hp}
end
section
variable {X:Cx} {F:Fr0} {O O1 O2 O' OL:List Nat} {fr:Bool} {f g:FS} {st:Stmt} {pos p2 p3:Pos} {e b:Expr} {fe fb:FE} {es eb:List Es} {k:Nat}
end
section
variable {X:Cx} {a:Expr} {as:FEs} {es:List Es} {pos pos2 p p2:Pos} {ta:TA}
end
section
variable {prog:Program} {w:World} {A:Around} {E:Value->Shared->Prop} {s:Shared} {z:Array Keyed} {c:Cod} {kd:SortKind} {st:SortSt}
end
section
variable {prog:Program} {w:World} {A:Around} {E:Value->Shared->Prop} {s:Shared} {z:Array Keyed} {c:Cod}
end
section
variable {prog:Program} {w:World} {A:Around} {E:Value->Shared->Prop} {s:Shared} {c:Cod}
end
section
variable {X:Cx} {a:Expr} {p pos cp kp:Pos} {fa:FE} {ea:List Es}
theorem uD(ms:X.mg "sorted" = none)(ha:JB X a fa ea)(hg:Gl X "sorted":=by rfl)(he:starEach [a] X.env=(false,eval a X.env)::starEach [] X.env:=by rfl):JF X (.Call (.Name "sorted" p) [a] [] pos) (e1 fh fa) ea:=⟨ua ms ha.h hg he⟩
end
section
variable {X:Cx} {a b:Expr} {pos:Pos} {fa fb:FE} {ea eb:List Es}
theorem uE(ha:JE X a fa ea)(hb:JE X b fb eb):JE X (.BinOp a .Mult b pos) (e2 fj fa fb) ea:=⟨ui ha.h hb.h⟩
end
theorem uF{X:Cx}{e:Expr}{f:ab->Option Bool}(h:JT X e f):PTs X [e] (tvT X.K f):=sQ h.h
section
variable {P:Program} {w:World} {K:PySem.W.Frag} {mg:Str->Option Value} {base:Heap} {x:Str} {j k:Nat} {ps:List Str} {G:List D->Option D} {fr:Bool}
theorem ci{np n:Nat}{qual:Str}{st:Stmt}{f:Addr}{fd:FuncData}{N:List Str}{body:FS}(O' OL:List Nat)(h1:ps.length=np)(h2:N.length=n)(h3:G=mkF fr np n body)(Fn:Fun K x qual st f fd)(S:FnScope N ps (am st))(h:∀ (cdv:Value) (A:Around) (outer:List PySem.Env) (s:Shared) (H:Hp) (E:XK) (F:Fr0),F.n=n->Room k (A.deeper (envOfC qual (am st) s.heap.objs.size f cdv)) ->
      JSs (bP CX0 P w K mg base N qual (am st) f cdv A outer s H E).nox F [] (aL st) body O' OL fr):
    FnOk P w K mg base CX0 (k+1) f fd ps (spF K G fr):=sU O' OL h1 h2 h3 Fn S fun cdv A outer s H E F hn hr=>(h cdv A outer s H E F hn hr).h
end
end VL
namespace VL
open PySem (Str)
open L2 (atI ixN)
theorem gv{d:D}{ds:List D}(h:b5 d=some ds):br d=false/\items d=some ds:=by
  unfold b5 at h
  cases e:br d <;> rw[e] at h
  · exact⟨rfl,by simpa using h⟩
  · cases h
def WE(e:FE)(ρ:ab)(K:D->Prop):Prop:=∃ d,e ρ=some d/\K d
def WB(e:ab->Option Bool)(ρ:ab)(K:Bool->Prop):Prop:=∃ d,e ρ=some d/\K d
def WA(e:FEs)(ρ:ab)(K:List D->Prop):Prop:=∃ d,e ρ=some d/\K d
def WO(e:FO)(ρ:ab)(K:Option Int->Prop):Prop:=∃ d,e ρ=some d/\K d
def WS(e:FS)(ρ:ab)(K:Out->Prop):Prop:=∃ d,e ρ=some d/\K d
def W2(g:D->D->Option D)(x y:D)(K:D->Prop):Prop:=∃ d,g x y=some d/\K d
def W1(g:D->Option D)(x:D)(K:D->Prop):Prop:=∃ d,g x=some d/\K d
def WF(F:List D->Option D)(ds:List D)(K:D->Prop):Prop:=∃ d,F ds=some d/\K d
def kT(K:Bool->Prop):D->Prop
  | .bl b=>K b
  | _=>False
def iK(g:FS)(Q:Out->Prop):Out->Prop
  | .nx ρ=>WS g ρ Q
  | o=>Q o
def lX(K:D->Prop):Out->Prop
  | .rt d=>K d
  | _=>False
def kIf(b:Bool)(A B:Prop):Prop:=(b=true->A)/\(b=false->B)
section
variable {ρ:ab} {K:D->Prop} {KB:Bool->Prop} {KL:List D->Prop} {KO:Option Int->Prop} {Q:Out->Prop} {a b c:FE} {f g:FS} {t t':ab->Option Bool}
theorem uG{Q':Out->Prop}(h:WS f ρ Q)(i:∀ d,Q d->Q' d):WS f ρ Q':=let ⟨d,e,k⟩:=h;⟨d,e,i d k⟩
theorem fo{F:List D->Option D}{ds:List D}{K':D->Prop}(h:WF F ds K)(i:∀ d,K d->K' d):WF F ds K':=let ⟨d,e,k⟩:=h;⟨d,e,i d k⟩
theorem fq{F:List D->Option D}{ds:List D}{d:D}(h:F ds=some d)(k:K d):WF F ds K:=⟨d,h,k⟩
theorem ft{F:List D->Option D}{ds:List D}{d:D}(h:WF F ds (fun x=>x=d)):F ds=some d:=by obtain⟨_,e,rfl⟩:=h;exact e
theorem uH{i:Nat}{d:D}(h:aa i ρ=some d)(k:K d):WE (aa i) ρ K:=⟨d,h,k⟩
theorem uI{d:D}(k:K d):WE (eC d) ρ K:=⟨d,rfl,k⟩
theorem uJ{g:D->D->Option D}(h:WE a ρ fun x=>WE b ρ fun y=>W2 g x y K):WE (e2 g a b) ρ K:=by
  obtain⟨x,e1,y,e2,d,e3,k⟩:=h
  exact⟨d,by simp only[VL.e2,e1,e2,Option.bind_some,e3],k⟩
theorem uK{g:D->Option D}(h:WE a ρ fun x=>W1 g x K):WE (e1 g a) ρ K:=by
  obtain⟨x,e1,d,e3,k⟩:=h
  exact⟨d,by simp only[VL.e1,e1,Option.bind_some,e3],k⟩
theorem cj{C:Int->Int->Prop}[∀ i j,Decidable (C i j)]{k:Int->Int->D}{i j:Int}(hc:C i j)(h:K (k i j)):W2 (gI C k) (.int i) (.int j) K:=⟨_,by simp only[gI,if_pos hc],h⟩
theorem uL{i j:Int}(h:K (.int (i+j))):W2 aF (.int i) (.int j) K:=cj trivial h
theorem uM{i j:Int}(h:K (.int (i - j))):W2 cD (.int i) (.int j) K:=cj trivial h
theorem uN{i j:Int}(hc:okMul i j)(h:K (.int (i * j))):W2 bc (.int i) (.int j) K:=cj hc h
theorem uO{i j:Int}(hc:eO i j)(h:K (.int (i / j))):W2 bA (.int i) (.int j) K:=cj hc h
theorem uP{i j:Int}(hc:g0 i j)(h:K (.int (i % j))):W2 b3 (.int i) (.int j) K:=cj hc h
theorem uQ{i j:Int}(hc:d5 i j)(h:K (.int (i ^ j.toNat))):W2 cE (.int i) (.int j) K:=cj hc h
theorem uR{i j:Int}(hc:d5 i j)(h:∀ v,v=i ^ j.toNat->K (.int v)):W2 cE (.int i) (.int j) K:=cj hc (h _ rfl)
theorem uS{i j:Int}(h:K (.bl (decide (i < j)))):W2 ltI (.int i) (.int j) K:=cj trivial h
theorem uT{i j:Int}(h:K (.bl (decide (j < i)))):W2 gtI (.int i) (.int j) K:=cj trivial h
theorem uU{i j:Int}(h:K (.bl (decide (j<=i)))):W2 geI (.int i) (.int j) K:=cj trivial h
theorem uV{i:Int}(h:K (.int (-i))):W1 d6 (.int i) K:=⟨_,rfl,h⟩
theorem uW{i j:Int}(h:K (.bl (decide (i=j)))):W2 eqD (.int i) (.int j) K:=⟨_,rfl,h⟩
theorem uX{i j:Int}(h:K (.bl (!decide (i=j)))):W2 neD (.int i) (.int j) K:=⟨_,rfl,h⟩
theorem uY{x d:D}{i:Int}(e:ixD x (.int i)=some d)(h:K d):W2 ixD x (.int i) K:=⟨_,e,h⟩
theorem uZ(h:WE a ρ (kT KB)):WB (eT a) ρ KB:=by
  obtain⟨d,e,k⟩:=h
  cases d <;> first | exact k.elim | exact⟨_,by simp only[eT,e,Option.bind_some],k⟩
theorem v1(h:WE a ρ (kT KB)):WB (cF a) ρ KB:=by
  obtain⟨d,e,k⟩:=h
  cases d <;> first | exact k.elim | exact⟨_,by simp only[cF,e,Option.bind_some,tru],k⟩
theorem v3{b:Bool}(h:KB b):kT KB (.bl b):=h
theorem v4(h:WS g ρ Q):iK g Q (.nx ρ):=h
theorem v5{d:D}(h:Q (.rt d)):iK g Q (.rt d):=h
theorem v6{d:D}(h:K d):lX K (.rt d):=h
theorem v7(h:WB t ρ fun b=>kIf b (KB true) (WB t' ρ KB)):WB (bOr t t') ρ KB:=by
  obtain⟨b,e,k1,k2⟩:=h
  cases b with
  | true=>exact⟨true,by simp only[bOr,e,Option.bind_some,if_pos],k1 rfl⟩
  | false=>obtain⟨b',e',k'⟩:=k2 rfl;exact⟨b',by simp[bOr,e,e'],k'⟩
theorem v8(h:WB t ρ fun b=>KB (!b)):WB (dI t) ρ KB:=by
  obtain⟨b,e,k⟩:=h
  exact⟨!b,by simp only[dI,e,Option.map_some],k⟩
theorem fu{P:Prop}[Decidable P]{A B:Prop}(h1:P->A)(h2:¬ P->B):kIf (decide P) A B:=⟨fun e=>h1 (of_decide_eq_true e),fun e=>h2 (of_decide_eq_false e)⟩
theorem lY{P:Prop}[Decidable P]{A B:Prop}(h1:¬ P->A)(h2:P->B):kIf (!decide P) A B:=⟨fun e=>h1 (by simpa using e),fun e=>h2 (by simpa using e)⟩
theorem v9{A B:Prop}(h:A):kIf true A B:=⟨fun _=>h,fun e=>nomatch e⟩
theorem lZ{A B:Prop}(h:B):kIf false A B:=⟨fun e=>(nomatch e),fun _=>h⟩
theorem va{A B:Prop}(h:B):kIf (!true) A B:=lZ h
theorem vc(h:KL []):WA au ρ KL:=⟨[],rfl,h⟩
theorem vd{r:FEs}(h:WE a ρ fun d=>WA r ρ fun ds=>KL (d::ds)):WA (ah a r) ρ KL:=by
  obtain⟨d,e,ds,e',k⟩:=h
  exact⟨_,by simp only[ah,e,e',Option.bind_some],k⟩
theorem vf{r:FEs}(h:WA r ρ fun ds=>ds.length<=1000/\K (.lst ds)):WE (bE r) ρ K:=by
  obtain⟨ds,e,l,k⟩:=h
  exact⟨_,by simp only[bE,e,Option.bind_some,if_pos l],k⟩
theorem vg{r:FEs}(h:WA r ρ fun ds=>ds.length<=1000/\K (.tup ds)):WE (cG r) ρ K:=by
  obtain⟨ds,e,l,k⟩:=h
  exact⟨_,by simp only[cG,e,Option.bind_some,if_pos l],k⟩
theorem vh{F:List D->Option D}{r:FEs}(h:WA r ρ fun ds=>WF F ds K):WE (eA F r) ρ K:=by
  obtain⟨ds,e,d,e',k⟩:=h
  exact⟨d,by simp only[eA,e,Option.bind_some,e'],k⟩
theorem vi(h:Q (.nx ρ)):WS d9 ρ Q:=⟨_,rfl,h⟩
theorem vj(h:WS f ρ (iK g Q)):WS (aE f g) ρ Q:=by
  obtain⟨o,e,k⟩:=h
  cases o with
  | nx ρ'=>obtain⟨o',e',k'⟩:=k;exact⟨o',by simp only[aE,e,Option.bind_some,e'],k'⟩
  | rt d=>exact⟨_,by simp only[aE,e,Option.bind_some],k⟩
  | bk d=>exact⟨_,by simp only[aE,e,Option.bind_some],k⟩
  | ct d=>exact⟨_,by simp only[aE,e,Option.bind_some],k⟩
theorem vk(h:WB t ρ fun x=>kIf x (WS f ρ Q) (WS g ρ Q)):WS (sIf t f g) ρ Q:=by
  obtain⟨x,e,k1,k2⟩:=h
  cases x with
  | true=>obtain⟨d,e',k⟩:=k1 rfl;exact⟨d,by simp only[sIf,e,Option.bind_some,if_pos,e'],k⟩
  | false=>obtain⟨d,e',k⟩:=k2 rfl;exact⟨d,by simp[sIf,e,e'],k⟩
theorem vm(h:WE a ρ fun d=>Q (.rt d)):WS (aU a) ρ Q:=by
  obtain⟨d,e,k⟩:=h
  exact⟨_,by simp only[aU,e,Option.map_some],k⟩
theorem vn{i:Nat}(h:WE a ρ fun d=>Q (.nx (ρ.set i (some d)))):WS (aG i a) ρ Q:=by
  obtain⟨d,e,k⟩:=h
  exact⟨_,by simp only[aG,e,Option.map_some],k⟩
theorem iL{i:Nat}{ds:List D}(hv:aa i ρ=some (.lst ds))(hl:ds.length < 100000)(h:WE a ρ fun d=>Q (.nx (ρ.set i (some (.lst (ds++[d])))))):WS (dN i a) ρ Q:=by
  obtain⟨d,e,k⟩:=h
  exact⟨_,by simp only[dN,hv,e,Option.bind_some,if_pos hl],k⟩
theorem vo{i:Nat}{ix:FE}{ds:List D}{k:Int}{j:Nat}(hv:aa i ρ=some (.lst ds))(h:WE a ρ fun d=>WE ix ρ fun x=>∃ k j,x=.int k/\ixN ds.length k=some j/\Q (.nx (ρ.set i (some (.lst (ds.set j d)))))):WS (eW i ix a) ρ Q:=by
  obtain⟨d,e,x,e',k,j,rfl,hj,q⟩:=h
  exact⟨_,by simp only[eW,hv,e,e',hj,Option.bind_some],q⟩
theorem vp(h:KO none):WO eR ρ KO:=⟨_,rfl,h⟩
theorem vq(h:WE a ρ fun d=>∃ i,d=.int i/\KO (some i)):WO (dJ a) ρ KO:=by
  obtain⟨d,e,i,rfl,k⟩:=h
  exact⟨_,by simp only[dJ,e,Option.bind_some],k⟩
theorem vt{lo hi:FO}(h:WE a ρ fun x=>WO lo ρ fun l=>WO hi ρ fun u=>∃ ds,x=.tup ds/\¬ (HT.sIx ds.length 0 l=0/\HT.sIx ds.length ds.length u=ds.length)/\K (.tup (ca ds l u))):WE (dS a lo hi) ρ K:=by
  obtain⟨x,e,l,e1,u,e2,ds,rfl,hn,k⟩:=h
  exact⟨_,by simp only[dS,e,e1,e2,Option.bind_some,if_neg hn],k⟩
theorem ck{fr:Bool}{np n:Nat}{body:FS}{ds:List D}(hl:ds.length=np)(h:WS body (ds.map some++List.replicate (n - np) none) (lX K)):WF (mkF fr np n body) ds K:=by
  obtain⟨o,e,k⟩:=h
  cases o with
  | rt d=>exact⟨d,by simp only[mkF,if_pos hl,e,Option.bind_some],k⟩
  | _=>exact k.elim
theorem dh{F:List D->Option D}{ds:List D}(h:WF F ds fun d=>bb d=true/\K d):WF (scF F) ds K:=by
  obtain⟨d,e,s,k⟩:=h
  exact⟨d,by simp only[scF,e,Option.bind_some,if_pos s],k⟩
end
def gw(go:ab->Prop)(Q:Out->Prop):Out->Prop
  | .nx ρ=>go ρ
  | .ct ρ=>go ρ
  | .bk ρ=>Q (.nx ρ)
  | .rt d=>Q (.rt d)
theorem iM{body:D->FS}{Q:Out->Prop}(I:List D->ab->Prop)(he:∀ ρ,I [] ρ->Q (.nx ρ))(hs:∀ x r ρ,I (x::r) ρ->WS (body x) ρ (gw (I r) Q)):
    ∀ (ds:List D) (ρ:ab),I ds ρ->WS (aW body ds) ρ Q
  | [],ρ,h=>⟨_,rfl,he ρ h⟩
  | x::r,ρ,h=>by
    obtain⟨o,e,k⟩:=hs x r ρ h
    cases o with
    | nx ρ'=>obtain⟨o',e',k'⟩:=iM I he hs r ρ' k;exact⟨o',by simp only[aW,e,Option.bind_some,e'],k'⟩
    | ct ρ'=>obtain⟨o',e',k'⟩:=iM I he hs r ρ' k;exact⟨o',by simp only[aW,e,Option.bind_some,e'],k'⟩
    | bk ρ'=>exact⟨_,by simp only[aW,e,Option.bind_some],k⟩
    | rt d=>exact⟨_,by simp only[aW,e,Option.bind_some],k⟩
theorem vA{α:Type}{body:D->FS}{Q:Out->Prop}{ρ:ab}(enc:α->D)(xs:List α)(I:Nat->ab->Prop)(h0:I 0 ρ)(he:∀ ρ,I xs.length ρ->Q (.nx ρ))(hs:∀ (k:Nat) (h:k < xs.length) (ρ:ab),I k ρ->WS (body (enc xs[k])) ρ (gw (I (k+1)) Q)):WS (aW body (xs.map enc)) ρ Q:=by
  refine iM (fun r ρ=>∃ k,k<=xs.length/\r=(xs.drop k).map enc/\I k ρ) ?_ ?_ _ ρ ⟨0,Nat.zero_le _,by simp,h0⟩
  · rintro ρ ⟨k,hk,e,i⟩
    have:k=xs.length:=by
      have:=congrArg List.length e
      simp at this;omega
    subst this
    exact he ρ i
  · rintro x r ρ ⟨k,hk,e,i⟩
    have hk':k < xs.length:=by
      have:=congrArg List.length e
      simp at this;omega
    rw[List.drop_eq_getElem_cons hk',List.map_cons] at e
    injection e with e1 e2
    subst e1
    refine uG (hs k hk' ρ i) fun o=>?_
    cases o with
    | nx ρ'=>exact fun h=>⟨k+1,hk',e2,h⟩
    | ct ρ'=>exact fun h=>⟨k+1,hk',e2,h⟩
    | bk ρ'=>exact fun h=>h
    | rt d=>exact fun h=>h
theorem gx{α:Type}{t:Nat}{tb:FS}{Q:Out->Prop}{ρ:ab}(enc:α->D)(xs:List α)(I:Nat->ab->Prop)(h0:I 0 ρ)(he:∀ ρ,I xs.length ρ->Q (.nx ρ))(hs:∀ (k:Nat) (h:k < xs.length) (ρ:ab),I k ρ->WS tb (ρ.set t (some (enc xs[k]))) (gw (I (k+1)) Q)):WS (aW (fun x ρ=>tb (ρ.set t (some x))) (xs.map enc)) ρ Q :=
  vA enc xs I h0 he hs
theorem vB{go:ab->Prop}{Q:Out->Prop}{ρ:ab}(h:go ρ):gw go Q (.nx ρ):=h
theorem vC{t:Nat}{it:FE}{tb:FS}{ρ:ab}{Q:Out->Prop}(h:WE it ρ fun d=>∃ ds,b5 d=some ds/\WS (aW (fun x ρ=>tb (ρ.set t (some x))) ds) ρ Q):WS (dP t it tb) ρ Q:=by
  obtain⟨d,e,ds,h1,o,e',k⟩:=h
  obtain⟨h1,h2⟩:=gv h1
  exact⟨o,by simp[dP,e,h1,h2,e'],k⟩
def m6(n:Nat):List D:=(List.range n).map fun k=>.int (k:Nat)
theorem m7(n:Nat):bi 0 n=m6 n:=by
  unfold bi m6
  congr 1;funext k;rw[Int.zero_add]
theorem vD{t:Nat}{as:FEs}{tb:FS}{ρ:ab}{Q:Out->Prop}(h:WA as ρ fun ds=>∃ j,ds=[.int j]/\okR j/\WS (aW (fun x ρ=>tb (ρ.set t (some x))) ((List.range j.toNat).map fun k=>.int (k:Nat))) ρ Q):WS (dQ t as tb) ρ Q:=by
  obtain⟨ds,e,j,rfl,h1,o,e',k⟩:=h
  exact⟨o,by simp only[dQ,e,Option.bind_some,if_pos h1,m7];exact e',k⟩
def WI(f:FEs)(ρ:ab)(K:List D->Prop):Prop:=∃ d,f ρ=some d/\K d
theorem vE{a:FE}{ρ:ab}{K:List D->Prop}(h:WE a ρ fun d=>∃ ds,b5 d=some ds/\K ds):WI (da a) ρ K:=by
  obtain⟨d,e,ds,h1,k⟩:=h
  obtain⟨h1,h2⟩:=gv h1
  exact⟨ds,by simp[da,e,h1,h2],k⟩
theorem vF{as:FEs}{ρ:ab}{K:List D->Prop}(h:WA as ρ fun ds=>∃ j,ds=[.int j]/\okR j/\K ((List.range j.toNat).map fun k=>.int (k:Nat))):WI (iR1 as) ρ K:=by
  obtain⟨ds,e,j,rfl,h1,k⟩:=h
  exact⟨_,by simp only[iR1,e,Option.bind_some,if_pos h1,m7];rfl,k⟩
theorem vG{a:FE}{ρ:ab}{K:List D->Prop}(h:WE a ρ fun d=>∃ ds,b5 d=some ds/\K (cO ds)):WI (dU a) ρ K:=by
  obtain⟨d,e,ds,h1,k⟩:=h
  exact⟨_,by simp only[dU,e,h1,Option.bind_some],k⟩
theorem vH{a b:FE}{ρ:ab}{K:List D->Prop}(h:WE a ρ fun d=>WE b ρ fun e=>∃ ds,b5 d=some ds/\∃ es,b5 e=some es/\K (cP ds es)):WI (dW a b) ρ K:=by
  obtain⟨d,e,d',e',ds,h1,es,h2,k⟩:=h
  exact⟨_,by simp only[dW,e,e',h1,h2,Option.bind_some],k⟩
theorem m8{α:Type}{g:D->Option (Option D)}(enc:α->D)(p:α->Bool)(f:α->D):∀ (xs:List α),(∀ x ∈ xs,g (enc x)=some (if p x then some (f x) else none))->bN g (xs.map enc)=some ((xs.filter p).map f)
  | [],_=>rfl
  | x::r,h=>by
    have h1:=h x (List.mem_cons_self ..)
    have h2:=m8 enc p f r fun y hy=>h y (List.mem_cons_of_mem _ hy)
    simp only[List.map_cons,bN,h1,h2,Option.bind_some]
    cases e:p x <;> simp[e]
theorem m9{α:Type}{g:D->Option (Option D)}(enc:α->D)(f:α->D):∀ (xs:List α),(∀ x ∈ xs,g (enc x)=some (some (f x)))->bN g (xs.map enc)=some (xs.map f)
  | [],_=>rfl
  | x::r,h=>by
    have h1:=h x (List.mem_cons_self ..)
    have h2:=m9 enc f r fun y hy=>h y (List.mem_cons_of_mem _ hy)
    simp only[List.map_cons,bN,h1,h2,Option.bind_some]
theorem e7{α:Type}{nown:Nat}{caps is:List Nat}{un:D->Option (List D)}{fi:FEs}{fe:FE}{ρ:ab}{K:D->Prop}(h:WI fi ρ fun ds=>∃ (enc:α->D) (f:α->D) (xs:List α),ds=xs.map enc/\xs.length < 100000/\(∀ x ∈ xs,∃ us,un (enc x)=some us/\WE fe (aA (aN nown caps ρ) is us) fun d=>d=f x)/\K (.lst (xs.map f))):
    WE (aV nown caps is un fi bt fe) ρ K:=by
  obtain⟨ds,e,enc,f,xs,rfl,hl,ht,k⟩:=h
  refine⟨_,?_,k⟩
  have:bN (cc is un bt fe (aN nown caps ρ)) (xs.map enc)=some (xs.map f):=m9 enc f xs fun x hx=>by
    obtain⟨us,h1,d,h2,rfl⟩:=ht x hx
    simp[cc,h1,bt,h2]
  simp only[aV,e,Option.bind_some,List.length_map,if_pos hl,this,Option.map_some]
theorem vI{α:Type}{nown:Nat}{caps is:List Nat}{un:D->Option (List D)}{fi:FEs}{c:ab->Option Bool}{fe:FE}{ρ:ab}{K:D->Prop}(h:WI fi ρ fun ds=>∃ (enc:α->D) (p:α->Bool) (f:α->D) (xs:List α),ds=xs.map enc/\xs.length < 100000/\(∀ x ∈ xs,∃ us,un (enc x)=some us/\WB c (aA (aN nown caps ρ) is us) fun b=>b=p x/\(b=true->WE fe (aA (aN nown caps ρ) is us) fun d=>d=f x))/\K (.lst ((xs.filter p).map f))):
    WE (aV nown caps is un fi c fe) ρ K:=by
  obtain⟨ds,e,enc,p,f,xs,rfl,hl,ht,k⟩:=h
  refine⟨_,?_,k⟩
  have:bN (cc is un c fe (aN nown caps ρ)) (xs.map enc)=some ((xs.filter p).map f):=m8 enc p f xs fun x hx=>by
    obtain⟨us,h1,b,h2,rfl,h3⟩:=ht x hx
    cases e:p x with
    | true=>rw[e] at h2;obtain⟨d,h4,rfl⟩:=h3 e;simp[cc,h1,h2,h4]
    | false=>rw[e] at h2;simp[cc,h1,h2]
  simp only[aV,e,Option.bind_some,List.length_map,if_pos hl,this,Option.map_some]
theorem ma{α:Type}{g:D->Option (Option D)}(enc:α->D)(R:Int->Prop):∀ (xs:List α),(∀ x ∈ xs,∃ i,g (enc x)=some (some (.int i))/\R i)->∃ zs:List Int,bN g (xs.map enc)=some (zs.map .int)/\zs.length=xs.length/\∀ z ∈ zs,R z
  | [],_=>⟨[],rfl,rfl,fun _ h=>nomatch h⟩
  | x::r,h=>by
    obtain⟨i,h1,h3⟩:=h x (List.mem_cons_self ..)
    obtain⟨zs,h2,hl,hz⟩:=ma enc R r fun y hy=>h y (List.mem_cons_of_mem _ hy)
    refine⟨i::zs,by simp only[List.map_cons,bN,h1,h2,Option.bind_some],by simp[hl],fun z hz'=>?_⟩
    rcases List.mem_cons.mp hz' with rfl | q
    · exact h3
    · exact hz z q
theorem vJ{α:Type}(R:Int->Prop){nown:Nat}{caps is:List Nat}{un:D->Option (List D)}{fi:FEs}{fe:FE}{ρ:ab}{K:D->Prop}(h:WI fi ρ fun ds=>∃ (enc:α->D) (xs:List α),ds=xs.map enc/\xs.length < 100000/\(∀ x ∈ xs,∃ us,un (enc x)=some us/\WE fe (aA (aN nown caps ρ) is us) fun d=>∃ i,d=.int i/\R i)/\∀ zs:List Int,zs.length=xs.length->(∀ z ∈ zs,R z)->K (.lst (zs.map .int))):
    WE (aV nown caps is un fi bt fe) ρ K:=by
  obtain⟨ds,e,enc,xs,rfl,hl,ht,k⟩:=h
  obtain⟨zs,h1,h2,h3⟩:=ma (g:=cc is un bt fe (aN nown caps ρ)) enc R xs fun x hx=>by
    obtain⟨us,h1,d,h2,i,rfl,h3⟩:=ht x hx
    exact⟨i,by simp[cc,h1,bt,h2],h3⟩
  exact⟨_,by simp only[aV,e,Option.bind_some,List.length_map,if_pos hl,h1,Option.map_some],k zs h2 h3⟩
theorem iN{i:Int}(h1:-(2 ^ 1000:Int) < i)(h2:i < 2 ^ 1000):mid i:=by
  unfold mid
  have:i.natAbs < 2 ^ 1000:=by omega
  by_cases z:i.natAbs=0
  · rw[z];decide
  · exact Nat.lt_trans ((Nat.log2_lt z).mpr this) (by decide)
theorem vK{i j:Int}(h1:-18446744073709551616 < i)(h2:i < 18446744073709551616):okMul i j:=.inl ⟨h1,h2⟩
theorem vL{i j:Int}(h1:-18446744073709551616 < j)(h2:j < 18446744073709551616):okMul i j:=.inr (.inl ⟨h1,h2⟩)
theorem vM{i j:Int}(h1:0 < j)(h2:mid j):eO i j:=⟨h1,h2⟩
theorem vN{i j:Int}(h1:0 < j):g0 i j:=h1
theorem md{i j:Int}(h1:0<=j)(h2:j<=1000000)(h3:-18446744073709551616 < i)(h4:i < 18446744073709551616):d5 i j:=⟨⟨h1,h2⟩,h3,h4⟩
section
variable {ρ:ab} {K:D->Prop} {Q:Out->Prop}
theorem me{xs:List D}{i:Int}(h0:0<=i)(h1:i < xs.length):ixD (.lst xs) (.int i)=some (xs[i.toNat]'(by omega)):=by
  simp only[ixD,items,Option.bind_some,atI,ixN,if_pos h0,if_pos h1]
  exact List.getElem?_eq_getElem (by omega)
theorem vO{xs:List D}{i:Int}{P:D->Prop}(h0:0<=i)(h1:i < xs.length)(hP:∀ v ∈ xs,P v)(h:∀ v,P v->K v):W2 ixD (.lst xs) (.int i) K :=
  ⟨_,me h0 h1,h _ (hP _ (List.getElem_mem _))⟩
def AllI(lo hi:Int):List D->Prop
  | []=>True
  | .int i::r=>(lo<=i/\i<=hi)/\AllI lo hi r
  | _::_=>False
theorem AllI.mem{lo hi:Int}:∀ {xs:List D},AllI lo hi xs->∀ v ∈ xs,∃ i,v=.int i/\lo<=i/\i<=hi
  | [],_,_,h=>nomatch h
  | x::r,h,v,hv=>by
    cases x <;> first | exact h.elim | skip
    rename_i i
    rcases List.mem_cons.mp hv with rfl | hv
    · exact⟨i,rfl,h.1⟩
    · exact AllI.mem h.2 v hv
theorem mf(lo hi:Int){xs:List D}{i:Int}(h0:0<=i)(h1:i < xs.length)(hP:AllI lo hi xs)(h:∀ v:Int,lo<=v->v<=hi->K (.int v)):W2 ixD (.lst xs) (.int i) K :=
  vO (P:=fun v=>∃ i,v=.int i/\lo<=i/\i<=hi) h0 h1 hP.mem fun v ⟨i,e,a,b⟩=>e ▸ h i a b
def AllZ:List D->Prop
  | []=>True
  | .int _::r=>AllZ r
  | _::_=>False
theorem AllZ.mem:∀ {xs:List D},AllZ xs->∀ v ∈ xs,∃ i,v=.int i
  | [],_,_,h=>nomatch h
  | x::r,h,v,hv=>by
    cases x <;> first | exact h.elim | skip
    rename_i i
    rcases List.mem_cons.mp hv with rfl | hv
    · exact⟨i,rfl⟩
    · exact AllZ.mem (show AllZ r from h) v hv
theorem vP{xs ys:List D}(hl:xs.length+ys.length<=100000)(h:K (.lst (xs++ys))):W2 dL (.lst xs) (.lst ys) K:=⟨_,by simp only[dL,if_pos hl],h⟩
theorem mh{xs ys:List D}(hl:xs.length+ys.length<=1000)(h:K (.tup (xs++ys))):W2 dR (.tup xs) (.tup ys) K:=⟨_,by simp only[dR,if_pos hl],h⟩
theorem vQ{i:Int}(h:K (.bl true)):W1 (cN "int") (.int i) K:=⟨_,rfl,h⟩
theorem vR{i:Int}(h:K (.bl false)):W1 (cN "bool") (.int i) K:=⟨_,rfl,h⟩
theorem mj(n d k:Nat):HT.sIx n d (some (k:Int))=min k n:=by
  show (if (k:Int) < 0 then ((k:Int)+(n:Int)).toNat else min ((k:Int)).toNat n)=_
  rw[if_neg (by omega)];rfl
theorem mk(n d:Nat):HT.sIx n d none=d:=rfl
theorem vS{α:Type}(xs:List α)(n:Nat):ca xs none (some (n:Int))=xs.take n:=by
  unfold ca
  rw[mj,mk,List.drop_zero,Nat.sub_zero,List.take_eq_take_iff];omega
theorem vT{α:Type}(xs:List α)(n:Nat):ca xs (some (n:Int)) none=xs.drop n:=by
  unfold ca
  rw[mj,mk]
  by_cases h:n<=xs.length
  · rw[Nat.min_eq_left h,List.take_of_length_le];simp
  · rw[Nat.min_eq_right (by omega),List.drop_eq_nil_of_le (Nat.le_refl _),List.drop_eq_nil_of_le (by omega)];simp
theorem e8{α:Type}(xs:List α)(n:Nat)(d:α)(h:n < xs.length):xs.getD n d=xs[n]:=by
  rw[List.getD_eq_getElem?_getD,List.getElem?_eq_getElem h];rfl
abbrev DI(xs:List Int):D:=.lst (xs.map .int)
abbrev DII(xs:List (List Int)):D:=.lst (xs.map DI)
theorem mm(ns:List Int):cI (ns.map D.int)=some ns:=by
  induction ns with
  | nil=>rfl
  | cons n r ih=>simp only[List.map_cons,cI,ih,Option.map_some]
theorem vU{xs:List Int}(h:K (.int xs.sum)):WF (be cb) [DI xs] K:=⟨_,by simp[be,cb,br,items,mm],h⟩
theorem vV{xs:List D}(h:K (.int (xs.length:Nat))):WF (be cH) [.lst xs] K:=⟨_,rfl,h⟩
theorem vW{xs:List Int}(h:K (.int (xs.length:Nat))):WF (be cH) [.scr xs] K:=⟨_,by simp[be,cH,items],h⟩
theorem vX{i j:Int}(h:K (.int (min i j))):WF (d7 d8) [.int i,.int j] K:=by
  refine⟨_,rfl,?_⟩
  have:(if j < i then j else i)=min i j:=by omega
  rw[this];exact h
theorem vY{xs:List D}(h:K (.lst xs)):W1 eU (.lst xs) K:=⟨_,rfl,h⟩
theorem iO{xs:List Int}{i:Int}(h0:0<=i)(h1:i < xs.length)(h:K (.int (xs.getD i.toNat 0))):W2 ixD (DI xs) (.int i) K:=by
  refine⟨_,me h0 (by simpa using h1),?_⟩
  rw[e8 _ _ _ (by omega)] at h
  simpa using h
theorem vZ{xs:List Int}{i:Int}(h0:0<=i)(h1:i < xs.length)(h:K (.int (xs[i.toNat]'(by omega)))):W2 ixD (.scr xs) (.int i) K:=by
  refine⟨_,?_,h⟩
  simp only[ixD,items,Option.bind_some,atI,ixN,if_pos h0,List.length_map,if_pos h1]
  rw[List.getElem?_map,List.getElem?_eq_getElem (by omega)];rfl
theorem mn(k:Nat)(xs:List Int):aB (k+1) (DI xs)=true:=by
  simp only[aB,List.all_map,List.all_eq_true]
  intro x _
  cases k <;> rfl
theorem w5(k:Nat)(xs:List (List Int)):aB (k+2) (DII xs)=true:=by
  simp only[aB,List.all_map,List.all_eq_true]
  intro x _
  exact mn k x
theorem w6{α:Type}(f:α->D)(xs:List α)(n:Nat):ca (xs.map f) none (some (n:Int))=(xs.take n).map f:=by rw[vS,List.map_take]
theorem w8{α:Type}(f:α->D)(xs:List α)(n:Nat):ca (xs.map f) (some (n:Int)) none=(xs.drop n).map f:=by rw[vT,List.map_drop]
end
theorem gy:∀ {l:List Int},(∀ x ∈ l,0<=x)->0<=l.sum
  | [],_=>by simp
  | x::l,h=>by
    have h1:=h x (List.mem_cons_self ..)
    have h2:=gy fun y hy=>h y (List.mem_cons_of_mem x hy)
    rw[List.sum_cons];omega
theorem mq:∀ {l:List Int} {y:Int},(∀ x ∈ l,0<=x)->y ∈ l->0 < y->0 < l.sum
  | x::l,y,h,hy,hp=>by
    have h1:=h x (List.mem_cons_self ..)
    rw[List.sum_cons]
    rcases List.mem_cons.mp hy with rfl | hy
    · have h2:=gy fun z hz=>h z (List.mem_cons_of_mem _ hz);omega
    · have h2:=mq (fun z hz=>h z (List.mem_cons_of_mem _ hz)) hy hp;omega
theorem mv{b:Int}:∀ {l:List Int},(∀ x ∈ l,x<=b)->l.sum<=l.length * b
  | [],_=>by simp
  | x::l,h=>by
    have h1:=h x (List.mem_cons_self ..)
    have h2:=mv fun y hy=>h y (List.mem_cons_of_mem x hy)
    rw[List.sum_cons,List.length_cons]
    have:((l.length+1:Nat):Int) * b=l.length * b+b:=by rw[Int.natCast_add,Int.add_mul];omega
    omega
theorem w9{n:Nat}(h:0 < n):ixN n (-1)=some (n - 1):=by
  unfold ixN
  rw[if_neg (by omega),if_pos (by omega)]
  congr 1;omega
theorem wa(xs:List Int)(x:Int):D.lst (xs.map .int++[.int x])=DI (xs++[x]):=by simp[DI]
theorem mw(xs:List (List Int))(x:List Int):D.lst (xs.map DI++[DI x])=DII (xs++[x]):=by simp[DII]
theorem mz{α:Type}(enc:α->D)(xs:List α):cO (xs.map enc)=xs.zipIdx.map fun p=>.tup [.int (p.2:Nat),enc p.1]:=by
  unfold cO
  rw[List.zipIdx_map,List.map_map]
  rfl
theorem mB{α β:Type}(enc:α->D)(enc':β->D)(xs:List α)(ys:List β):cP (xs.map enc) (ys.map enc')=(xs.zip ys).map fun p=>.tup [enc p.1,enc' p.2]:=by
  unfold cP
  rw[List.zip_map,List.map_map]
  rfl
theorem iP{α:Type}{xs:List α}{k:Nat}(h:k < xs.length):xs.take (k+1)=xs.take k++[xs[k]]:=List.take_succ_eq_append_getElem h
theorem wb{α:Type}{nown:Nat}{caps is:List Nat}{un:D->Option (List D)}{fi:FEs}{fe:FE}{ρ:ab}{K:D->Prop}(h:WI fi ρ fun ds=>∃ (enc:α->D) (f:α->Int) (xs:List α),ds=xs.map enc/\xs.length < 100000/\(∀ x ∈ xs,∃ us,un (enc x)=some us/\WE fe (aA (aN nown caps ρ) is us) fun d=>d=.int (f x))/\K (DI (xs.map f))):
    WE (aV nown caps is un fi bt fe) ρ K:=by
  obtain⟨ds,e,enc,f,xs,h1,h2,h3,k⟩:=h
  refine e7 (α:=α) ⟨ds,e,enc,fun x=>.int (f x),xs,h1,h2,h3,?_⟩
  rwa [DI,List.map_map] at k
theorem wc{α:Type}{nown:Nat}{caps is:List Nat}{un:D->Option (List D)}{fi:FEs}{fe:FE}{ρ:ab}{K:D->Prop}(h:WI fi ρ fun ds=>∃ (enc:α->D) (f:α->List Int) (xs:List α),ds=xs.map enc/\xs.length < 100000/\(∀ x ∈ xs,∃ us,un (enc x)=some us/\WE fe (aA (aN nown caps ρ) is us) fun d=>d=DI (f x))/\K (DII (xs.map f))):
    WE (aV nown caps is un fi bt fe) ρ K:=by
  obtain⟨ds,e,enc,f,xs,h1,h2,h3,k⟩:=h
  refine e7 (α:=α) ⟨ds,e,enc,fun x=>DI (f x),xs,h1,h2,h3,?_⟩
  rwa [DII,List.map_map] at k
section
variable {ρ:ab} {K:D->Prop} {a:FE}
end
theorem wd{rev:Bool}{xs:List Int}{K:D->Prop}(hl:xs.length < 64)(h:K (DI (bF rev xs))):W1 (dX rev) (DI xs) K:=⟨_,by simp[dX,b5,br,items,mm,hl],h⟩
theorem iQ(k:Nat):∀ xs:List D,(∀ x ∈ xs,az k x x=true)->((xs.zip xs).all fun p=>az k p.1 p.2)=true
  | [],_=>rfl
  | x::xs,h=>by
    rw[List.zip_cons_cons,List.all_cons,h x List.mem_cons_self,iQ k xs fun y hy=>h y (List.mem_cons_of_mem _ hy)];rfl
theorem iR:∀ (k:Nat) (d:D),aB k d=true->az k d d=true
  | k,.non,_=>by cases k <;> rfl
  | k,.bl b,_=>by cases k <;> cases b <;> rfl
  | k,.int i,_=>by cases k <;> simp[az,db]
  | k,.str x,_=>by cases k <;> simp[az,db]
  | 0,.lst _,h=>by simp[aB] at h
  | 0,.tup _,h=>by simp[aB] at h
  | k,.scr _,h=>by cases k <;> simp[aB] at h
  | k,.dct _ _,h=>by cases k <;> simp[aB] at h
  | k,.ptr _,h=>by cases k <;> simp[aB] at h
  | k+1,.lst xs,h=>by
    rw[aB,List.all_eq_true] at h
    rw[az,iQ k xs fun x hx=>iR k x (h x hx)];simp
  | k+1,.tup xs,h=>by
    rw[aB,List.all_eq_true] at h
    rw[az,iQ k xs fun x hx=>iR k x (h x hx)];simp
theorem we{d:D}{K:D->Prop}(hf:aB 4 d=true)(h:K (.bl true)):W2 eqD d d K:=⟨_,by rw[eqD,if_pos ⟨hf,hf⟩,iR 4 d hf],h⟩
section
variable {ρ:ab} {K:D->Prop} {KL:List D->Prop} {Q:Out->Prop} {a b c:FE}
theorem wf{ds:List D}(h:a ρ=some (.lst ds))(k:K (.lst ds)):WE (eL a) ρ K:=⟨_,by simp only[eL,h,Option.bind_some],k⟩
theorem wg{i:Nat}{ds:List D}(h:aa i ρ=some (.lst ds))(k:K (.lst ds)):WE (eL (aa i)) ρ K:=wf h k
end
end VL
namespace VL
open PySem (Str)
open L2 (atI ixN)
inductive Cell where
  | lst (ds:List D)
  | dic (ns:List Str) (ds:List D)
  | ins (C:Nat) (ns:List Str) (ds:List D)
  | dcT (fz:Bool) (ps:List ((Int × Int) × Int))
  | dcL (fz:Bool) (ps:List (List Int × Int))
abbrev Sto:=Nat->Option Cell
def b6(M:Sto)(a:Nat)(c:Cell):Sto:=fun b=>if b=a then some c else M b
theorem e9{M:Sto}{a:Nat}{c:Cell}:b6 M a c a=some c:=by simp[b6]
theorem cR{M:Sto}{a b:Nat}{c:Cell}(h:b ≠ a):b6 M a c b=M b:=by simp[b6,h]
abbrev QE:=D->Sto->Prop
abbrev NTE:=ab->Sto->QE->Prop
abbrev NTB:=ab->Sto->(Bool->Sto->Prop)->Prop
abbrev NTA:=ab->Sto->(List D->Sto->Prop)->Prop
abbrev NTF:=List D->Sto->QE->Prop
structure EndN where
  nx:ab->Sto->Prop
  rt:D->Sto->Prop
  bk:ab->Sto->Prop:=fun _ _=>False
  ct:ab->Sto->Prop:=fun _ _=>False
abbrev NTS:=EndN->ab->Sto->Prop
def nP(f:FE):NTE:=fun ρ M Q=>WE f ρ fun d=>Q d M
def nPB(f:ab->Option Bool):NTB:=fun ρ M Q=>WB f ρ fun b=>Q b M
def n2(g:D->D->Option D)(ta tb:NTE):NTE:=fun ρ M Q=>ta ρ M fun x M1=>tb ρ M1 fun y M2=>W2 g x y fun d=>Q d M2
def eg:NTA:=fun _ M Q=>Q [] M
def cz(ta:NTE)(tr:NTA):NTA:=fun ρ M Q=>ta ρ M fun x M1=>tr ρ M1 fun xs M2=>Q (x::xs) M2
def fw(T:NTF)(ta:NTA):NTE:=fun ρ M Q=>ta ρ M fun ds M1=>T ds M1 Q
def sN:NTS:=fun E ρ M=>E.nx ρ M
def aP(t u:NTS):NTS:=fun E ρ M=>t { E with nx:=fun ρ M=>u E ρ M } ρ M
def eh(tc:NTB)(t u:NTS):NTS:=fun E ρ M=>tc ρ M fun b M1=>kIf b (t E ρ M1) (u E ρ M1)
def di(ta:NTE):NTS:=fun E ρ M=>ta ρ M E.rt
def bg(i:Nat)(ta:NTE):NTS:=fun E ρ M=>ta ρ M fun d M1=>E.nx (ρ.set i (some d)) M1
def gz(is:List Nat)(ta:NTE):NTS:=fun E ρ M=>ta ρ M fun d M1=>∃ ds,d=.tup ds/\ds.length=is.length/\E.nx ((is.zip ds).foldl (fun r p=>r.set p.1 (some p.2)) ρ) M1
def bn(body:D->NTS):List D->NTS
  | [],E,ρ,M=>E.nx ρ M
  | x::r,E,ρ,M=>body x { E with nx:=fun ρ M=>bn body r E ρ M,ct:=fun ρ M=>bn body r E ρ M,bk:=E.nx } ρ M
def gA(t:Nat)(it:NTE)(tb:NTS):NTS:=fun E ρ M=>it ρ M fun d M1=>∃ ds,b5 d=some ds/\bn (fun x E ρ M=>tb E (ρ.set t (some x)) M) ds E ρ M1
def gB(t:Nat)(ta:NTA)(tb:NTS):NTS:=fun E ρ M=>ta ρ M fun ds M1=>∃ j,ds=[.int j]/\okR j/\bn (fun x E ρ M=>tb E (ρ.set t (some x)) M) ((List.range j.toNat).map fun k=>.int (k:Nat)) E ρ M1
def mkN(np n:Nat)(t:NTS):NTF:=fun ds M Q=>ds.length=np/\t { nx:=fun _ M'=>Q .non M',rt:=Q } (ds.map some++List.replicate (n - np) none) M
def fy(t u:Nat)(tb:NTS):D->NTS
  | .tup [p,q],E,ρ,M=>tb E ((ρ.set t (some p)).set u (some q)) M
  | _,_,_,_=>False
def bo(ps:List (List Int × Int))(k:List Int):Option Int:=(ps.find? fun p=>decide (p.1=k)).map (·.2)
def bB(ps:List (List Int × Int))(k:List Int)(v:Int):List (List Int × Int):=if (ps.any fun p=>decide (p.1=k))=true then ps.map (fun p=>if p.1=k then (p.1,v) else p) else ps++[(k,v)]
def aQ(ks:List Int):D:=.tup (ks.map .int)
def gC(fa fb:FE):NTE:=fun ρ M Q=>WE fa ρ fun x=>WE fb ρ fun y=>∃ ks n,x=aQ ks/\y=.int n/\∀ a,M a=none->Q (.ptr a) (b6 M a (.dcL true [(ks,n)]))
def gD:NTE:=fun _ M Q=>∀ a,M a=none->Q (.ptr a) (b6 M a (.dcL false []))
def fA(ta tk:NTE):NTE:=fun ρ M Q=>ta ρ M fun x M1=>tk ρ M1 fun y M2=>∃ a fz ps ks w,x=.ptr a/\y=aQ ks/\M2 a=some (.dcL fz ps)/\bo ps ks=some w/\Q (.int w) M2
def gE(ta tk tv:NTE):NTE:=fun ρ M Q=>ta ρ M fun x M1=>∃ a fz ps,x=.ptr a/\M1 a=some (.dcL fz ps)/\tk ρ M1 fun y M2=>tv ρ M2 fun z M3=>∃ fz ps ks w,y=aQ ks/\z=.int w/\M3 a=some (.dcL fz ps)/\Q (.int ((bo ps ks).getD w)) M3
def gF(ta tk tv:NTE):NTS:=fun E ρ M=>tv ρ M fun z M1=>ta ρ M1 fun x M2=>tk ρ M2 fun y M3=>∃ a ps ks w,x=.ptr a/\y=aQ ks/\z=.int w/\M3 a=some (.dcL false ps)/\ps.length < 10000000/\E.nx ρ (b6 M3 a (.dcL false (bB ps ks w)))
def gG(i:Nat):NTS:=fun E ρ M=>∃ a ps,aa i ρ=some (.ptr a)/\M a=some (.dcL false ps)/\E.nx ρ (b6 M a (.dcL true ps))
def bV(body:List Int->NTS)(a:Nat)(all:List (List Int × Int)):List (List Int)->NTS
  | [],E,ρ,M=>M a=some (.dcL true all)/\E.nx ρ M
  | x::r,E,ρ,M=>M a=some (.dcL true all)/\body x { E with nx:=fun ρ M=>bV body a all r E ρ M,ct:=fun ρ M=>bV body a all r E ρ M,bk:=E.nx } ρ M
def fB(t:Nat)(ta:NTE)(tb:NTS):NTS:=fun E ρ M=>ta ρ M fun x M1=>∃ a ps,x=.ptr a/\bV (fun k E ρ M=>tb E (ρ.set t (some (aQ k))) M) a ps (ps.map (·.1)) E ρ M1
def gH(t u:Nat)(ta:NTE)(tb:NTS):NTS:=fun E ρ M=>ta ρ M fun d M1=>∃ ds,b5 d=some ds/\(∀ x ∈ ds,∃ p q,x=.tup [p,q])/\bn (fy t u tb) ds E ρ M1
end VL
namespace VL
open PySem PySem.Spec PyProof.Rows L2
def iS:Option Cell->Bool
  | some (.dcT true _)=>true
  | some (.dcL true _)=>true
  | _=>false
def inM(M:Sto):Addr->Prop:=fun a=>M a ≠ none/\iS (M a)=false
theorem iT{M M':Sto}{b:Addr}(e:M' b=M b):inM M' b ↔ inM M b:=by unfold inM;rw[e]
noncomputable abbrev PH(H:Hp)(M:Sto):Hp:=ae H (inM M)
def wj(ns:List Str)(vs:List V):List (Key × V):=(ns.zip vs).map fun p=>(Sum.inr p.1,p.2)
def mC(ps:List ((Int × Int) × Int)):List (List Key × V):=ps.map fun p=>([Sum.inl p.1.1,Sum.inl p.1.2],V.int p.2)
def aI(ps:List (List Int × Int)):List (List Key × V):=ps.map fun p=>(p.1.map Sum.inl,V.int p.2)
def CellOk(K:PySem.W.Frag)(H:Hp):HO->Cell->Prop
  | .lst xs,.lst ds=>Reps K H xs ds
  | .dK kvs,.dic ns ds=>∃ vs,kvs=wj ns vs/\vs.length=ns.length/\Reps K H vs ds
  | .ins C dx fs,.ins C' ns ds=>C=C'/\∃ vs,fs=ns.zip vs/\vs.length=ns.length/\Reps K H vs ds
  | o,.dcT fz ps=>(fz=false/\o=.dT (mC ps))\/(fz=true/\∃ ob,o=.frz ob (.dT (mC ps)))
  | o,.dcL fz ps=>(fz=false/\o=.dT (aI ps))\/(fz=true/\∃ ob,o=.frz ob (.dT (aI ps)))
  | _,_=>False
theorem CellOk.mono{K:PySem.W.Frag}{H H':Hp}(e:Same H H'):∀ {o:HO} {c:Cell},CellOk K H o c->CellOk K H' o c:=fun {o c} h=>by
  unfold CellOk at h ⊢
  split at h
  · exact aC e h
  · obtain⟨vs,h1,h2,h3⟩:=h;exact⟨vs,h1,h2,aC e h3⟩
  · obtain⟨h0,vs,h1,h2,h3⟩:=h;exact⟨h0,vs,h1,h2,aC e h3⟩
  · exact h
  · exact h
  · exact h.elim
def MOk(K:PySem.W.Frag)(H:Hp)(M:Sto):Prop:=∀ a c,M a=some c->∃ o,H a=some o/\CellOk K (PH H M) o c
theorem MOk.dom{K:PySem.W.Frag}{H:Hp}{M:Sto}(h:MOk K H M):Dom H (inM M):=fun b hb n=>by
  cases e:M b with
  | none=>exact hb.1 e
  | some c=>obtain⟨o,h1,_⟩:=h b c e;rw[n] at h1;cases h1
theorem MOk.fresh{K:PySem.W.Frag}{H:Hp}{M:Sto}(h:MOk K H M){p:Addr}(hp:H p=none):M p=none:=by
  cases e:M p with
  | none=>rfl
  | some c=>obtain⟨o,h1,_⟩:=h p c e;rw[hp] at h1;cases h1
theorem PH.up{H H':Hp}{M:Sto}(e:Same H H'):Same (PH H M) (PH H' M):=aM e
theorem MOk.up{K:PySem.W.Frag}{H H':Hp}{M:Sto}(h:MOk K H M)(e:Same H H'):MOk K H' M:=fun a c hc=>by
  obtain⟨o,h1,h2⟩:=h a c hc
  exact⟨o,e _ _ h1,h2.mono (PH.up e)⟩
theorem PH.at{H:Hp}{M:Sto}{b:Addr}{o:HO}(h:PH H M b=some o):¬ inM M b/\H b=some o:=bL h
theorem PH.of{H:Hp}{M:Sto}{b:Addr}(h:M b=none):PH H M b=H b:=aH fun n=>n.1 h
theorem PH.ofF{H:Hp}{M:Sto}{b:Addr}(h:iS (M b)=true):PH H M b=H b:=aH fun n=>by have z:=n.2;rw[h] at z;cases z
theorem PH.out{H:Hp}{M:Sto}{b:Addr}(h:¬ inM M b):PH H M b=H b:=aH h
theorem mD{K:PySem.W.Frag}{H H':Hp}{M:Sto}{p:Addr}{o:HO}{c:Cell}(h:MOk K H M)(hp:H p=none)(hs:Same H H')(ho:H' p=some o)(hc:CellOk K (ae H' fun b=>inM M b\/b=p) o c):
    Same (PH H M) (PH H' (b6 M p c))/\MOk K H' (b6 M p c):=by
  have e:Same (PH H M) (PH H' (b6 M p c)):=fun b u q=>by
    obtain⟨h1,h2⟩:=PH.at q
    have ne:b ≠ p:=b8 h2 hp
    rw[PH.out (mt (iT (cR ne)).mp h1)]
    exact hs _ _ h2
  refine⟨e,fun a c' hc'=>?_⟩
  by_cases q:a=p
  · subst q
    rw[e9] at hc';cases hc'
    refine⟨o,ho,hc.mono (bD (fun _ _ z=>z) fun b z=>?_)⟩
    by_cases hb:b=a
    · exact .inr hb
    · exact .inl ((iT (cR hb)).mp z)
  · rw[cR q] at hc'
    obtain⟨o',h1,h2⟩:=h a c' hc'
    exact⟨o',hs _ _ h1,h2.mono e⟩
theorem mE{K:PySem.W.Frag}{H:Hp}{M:Sto}{a:Addr}{o:HO}{c c0:Cell}(h:MOk K H M)(ha:M a=some c0)(hc:CellOk K (PH H M) o c)(hf:iS (some c0)=false:=by rfl):
    Same (PH H M) (PH (upd H a o) (b6 M a c))/\MOk K (upd H a o) (b6 M a c):=by
  have e:Same (PH H M) (PH (upd H a o) (b6 M a c)):=fun b u q=>by
    obtain⟨h1,h2⟩:=PH.at q
    have ne:b ≠ a:=fun z=>h1 (by subst z;refine⟨fun n=>?_,?_⟩ <;> rw[ha] at *;cases n;exact hf)
    rw[PH.out (mt (iT (cR ne)).mp h1),ai ne]
    exact h2
  refine⟨e,fun b c' hc'=>?_⟩
  by_cases q:b=a
  · subst q
    rw[e9] at hc';cases hc'
    exact⟨o,aK,hc.mono e⟩
  · rw[cR q] at hc'
    obtain⟨o',h1,h2⟩:=h b c' hc'
    exact⟨o',by rw[ai q];exact h1,h2.mono e⟩
structure EnvQ (K:PySem.W.Frag) (σ:St) (ρ:ab) (H:Hp) (M:Sto):Prop where
  env:EnvR K (PH H M) σ ρ
  ok:MOk K H M
structure PostT (K:PySem.W.Frag) (H:Hp) (M:Sto) (H':Hp) (M':Sto):Prop where
  same:Same (PH H M) (PH H' M')
  ok:MOk K H' M'
structure PostW (K:PySem.W.Frag) (H:Hp) (M:Sto) (d:D) (v:V) (H':Hp) (M':Sto):Prop extends PostT K H M H' M' where
  rep:Rep K (PH H' M') v d
structure PostWs (K:PySem.W.Frag) (H:Hp) (M:Sto) (ds:List D) (vs:List V) (H':Hp) (M':Sto):Prop extends PostT K H M H' M' where
  rep:Reps K (PH H' M') vs ds
theorem EnvQ.next{K:PySem.W.Frag}{σ:St}{ρ:ab}{H H':Hp}{M M':Sto}(h:EnvQ K σ ρ H M)(p:PostT K H M H' M'):EnvQ K σ ρ H' M':=⟨h.env.mono p.same,p.ok⟩
theorem PostT.refl{K:PySem.W.Frag}{H:Hp}{M:Sto}(h:MOk K H M):PostT K H M H M:=⟨Same.refl _,h⟩
theorem PostT.trans{K:PySem.W.Frag}{H H1 H2:Hp}{M M1 M2:Sto}(a:PostT K H M H1 M1)(b:PostT K H1 M1 H2 M2):PostT K H M H2 M2:=⟨a.same.trans b.same,b.ok⟩
theorem PostT.of{K:PySem.W.Frag}{H H':Hp}{M:Sto}(h:MOk K H M)(e:Same H H'):PostT K H M H' M:=⟨PH.up e,h.up e⟩
def tw(K:PySem.W.Frag)(t:NTE):TE:=fun σ H Q=>∃ ρ M QW,EnvQ K σ ρ H M/\t ρ M QW/\∀ d M',QW d M'->∀ v H',PostW K H M d v H' M'->Q v H'
def twT(K:PySem.W.Frag)(t:NTB):TT:=fun σ H Q=>∃ ρ M QW,EnvQ K σ ρ H M/\t ρ M QW/\∀ b M',QW b M'->∀ H',PostT K H M H' M'->Q b H'
def twA(K:PySem.W.Frag)(t:NTA):TA:=fun σ H Q=>∃ ρ M QW,EnvQ K σ ρ H M/\t ρ M QW/\∀ ds M',QW ds M'->∀ vs H',PostWs K H M ds vs H' M'->Q vs H'
abbrev NE(X:Cx)(e:Expr)(t:NTE):Prop:=PE X e (tw X.K t)
abbrev NT(X:Cx)(e:Expr)(t:NTB):Prop:=PT X e (twT X.K t)
abbrev NW(X:Cx)(e:Expr)(t:NTB):Prop:=PW X e (twT X.K t)
abbrev NA(X:Cx)(es:List Expr)(t:NTA):Prop:=PA X es (twA X.K t)
section
variable {X:Cx} {a b c:Expr} {ta tb tc:NTE} {pos p2:Pos} {es:List Es} {fa fb:FE}
theorem wk{K:PySem.W.Frag}{σ:St}{ρ:ab}{H:Hp}{M:Sto}(h:EnvQ K σ ρ H M)(e:Es):Av K H σ ρ (inM M) e:=by
  have full:∀ (j:Nat) (v:V) (d:D),σ[j]?=some (some v)->ρ[j]?=some (some d)->Rep K (ae H (inM M)) v d:=fun j v d h1 h2=>by
    obtain⟨v',h3,h4⟩:=h.env j d h2
    rw[h1] at h3;cases h3
    exact h4
  cases e with
  | full j=>exact full j
  | el j=>exact fun v d h1 h2=>(full j v d h1 h2).el
theorem EnvQ.envR{K:PySem.W.Frag}{σ:St}{ρ:ab}{H:Hp}{M:Sto}(h:EnvQ K σ ρ H M):EnvR K H σ ρ:=h.env.mono (aJ _ _)
theorem wl(h:VE X a fa es):NE X a (nP fa):=aD h fun σ H Q ⟨ρ,M,QW,hE,⟨d,hf,hq⟩,hQ⟩ =>
  ⟨ρ,d,hE.envR,hf,fun v H' p=>hQ d M hq v H' ⟨PostT.of hE.ok p.same,p.av (inM M) hE.ok.dom fun e _=>wk hE e⟩⟩
theorem wm{f:ab->Option Bool}(h:VT X a f):NT X a (nPB f):=fV h fun σ H Q ⟨ρ,M,QW,hE,⟨d,hf,hq⟩,hQ⟩ =>
  ⟨ρ,d,hE.envR,hf,fun H' e=>hQ d M hq H' (PostT.of hE.ok e)⟩
theorem mF{K:PySem.W.Frag}{r:R2}{g:D->D->Option D}(hr:OpV K r g){σ:St}{H:Hp}{Q:VK}(h:tw K (n2 g ta tb) σ H Q):tOp r (tw K ta) (tw K tb) σ H Q:=by
  obtain⟨ρ,M,QW,hE,ht,hQ⟩:=h
  refine⟨ρ,M,_,hE,ht,fun x M1 h1 vx H1 p1=>⟨ρ,M1,_,hE.next p1.toPostT,h1,fun y M2 h2 vy H2 p2=>?_⟩⟩
  obtain⟨d,hg,hq⟩:=h2
  have rx:=ao p2.same p1.rep
  refine hr vx vy H2 x y d Q (ao (aJ _ _) rx) (ao (aJ _ _) p2.rep) hg fun v H' e r' av=>hQ d M2 hq v H' ⟨(p1.toPostT.trans p2.toPostT).trans (PostT.of p2.ok e),av _ p2.ok.dom rx p2.rep⟩
theorem mG{op:Operator}{r:R2}{g:D->D->Option D}(ho:OpR X (binaryOp op) r)(hr:OpV X.K r g)(ha:NE X a ta)(hb:NE X b tb):NE X (.BinOp a op b pos) (n2 g ta tb):=aD (eF ho ha hb) fun _ _ _ h=>mF hr h
theorem wn(ha:NE X a ta)(hb:NE X b tb):NE X (.BinOp a .Add b pos) (n2 aF ta tb):=mG jS (fY X.K fun _ _ _=>.int _) ha hb
theorem wo(ha:NE X a ta)(hb:NE X b tb):NE X (.BinOp a .Mult b pos) (n2 bc ta tb):=mG kA (eM X.K (fun _ _ h=>h) fun _ _ _=>.int _) ha hb
theorem wp{op:CmpOp}{r:R2}{g:D->D->Option D}(ho:OpR X (compareOp op) r)(hr:OpV X.K r g)(ha:NE X a ta)(hb:NE X b tb)(hm:behindInMarks op b=false):NE X (.Compare a [op] [b] pos) (n2 g ta tb) :=
  aD (jT ho ha hb hm) fun _ _ _ h=>mF hr h
theorem ne_eq{k:Nat}(hr:Room k X.A)(ha:NE X a ta)(hb:NE X b tb):NE X (.Compare a [.Eq] [b] pos) (n2 eqD ta tb):=wp (iz hr) (iA X.K) ha hb (cZ _)
variable {ka kb:NTB} {ak:List Expr}
variable {xs:List Expr} {tas:NTA}
theorem wq:NA X [] eg:=fW cv fun σ H Q ⟨ρ,M,QW,hE,ht,hQ⟩=>hQ [] M ht [] H ⟨PostT.refl hE.ok,.nil⟩
theorem wu(ha:NE X a ta)(hr:NA X xs tas)(hs:starEach (a::xs) X.env=(false,eval a X.env)::starEach xs X.env:=by rfl):NA X (a::xs) (cz ta tas) :=
  fW (bO ha hr hs) fun σ H Q ⟨ρ,M,QW,hE,ht,hQ⟩=>⟨ρ,M,_,hE,ht,fun d M1 h1 v H1 p1=>⟨ρ,M1,_,hE.next p1.toPostT,h1,fun ds M2 h2 vs H2 p2=>hQ _ M2 h2 _ H2 ⟨p1.toPostT.trans p2.toPostT,.cons (ao p2.same p1.rep) p2.rep⟩⟩⟩
end
end VL
namespace VL
open PySem PySem.Spec PyProof.Rows L2
def spN(K:PySem.W.Frag)(T:NTF):Sp:=fun vs H Q _=>∃ ds M QW,Reps K (PH H M) vs ds/\MOk K H M/\T ds M QW/\∀ d M',QW d M'->∀ v H',PostW K H M d v H' M'->Q v H'
def DefN(P:Program)(w:World)(K:PySem.W.Frag)(mg:Str->Option Value)(base:Heap)(x:Str)(k:Nat)(ps:List Str)(T:NTF):Prop :=
  ∃ f fd,FnOk P w K mg base CX0 k f fd ps (spN K T)/\mg x=some (.ref f)/\PySem.W.keepIn K (.ref f)=true/\Binds K fd ps []
theorem DefN.mono{P:Program}{w:World}{K:PySem.W.Frag}{mg:Str->Option Value}{base:Heap}{x:Str}{j k:Nat}{ps:List Str}{T:NTF}(h:DefN P w K mg base x j ps T)(hk:j<=k:=by decide):DefN P w K mg base x k ps T :=
  let ⟨f,fd,F,m,kp,b⟩:=h
  ⟨f,fd,F.mono hk,m,kp,b⟩
def MetN(P:Program)(w:World)(K:PySem.W.Frag)(mg:Str->Option Value)(base:Heap)(C:Addr)(m:Str)(k:Nat)(ps:List Str)(T:NTF):Prop :=
  ∃ f fd,FnOk P w K mg base CX0 k f fd ps (spN K T)/\Meth K C m f/\Binds K fd ps []
theorem MetN.mono{P:Program}{w:World}{K:PySem.W.Frag}{mg:Str->Option Value}{base:Heap}{C:Addr}{x:Str}{j k:Nat}{ps:List Str}{T:NTF}(h:MetN P w K mg base C x j ps T)(hk:j<=k:=by decide):MetN P w K mg base C x k ps T :=
  let ⟨f,fd,F,m,b⟩:=h
  ⟨f,fd,F.mono hk,m,b⟩
def MakN(P:Program)(w:World)(K:PySem.W.Frag)(mg:Str->Option Value)(base:Heap)(x:Str)(C:Addr)(k:Nat)(ps:List Str)(T:NTF):Prop :=
  ∃ f fd,FnOk P w K mg base CX0 k f fd ps (spN K T)/\Mk K C f/\mg x=some (.ref C)/\Binds K fd ps []
theorem MakN.mono{P:Program}{w:World}{K:PySem.W.Frag}{mg:Str->Option Value}{base:Heap}{C:Addr}{x:Str}{j k:Nat}{ps:List Str}{T:NTF}(h:MakN P w K mg base x C j ps T)(hk:j<=k:=by decide):MakN P w K mg base x C k ps T :=
  let ⟨f,fd,F,m,g,b⟩:=h
  ⟨f,fd,F.mono hk,m,g,b⟩
section
variable {X:Cx} {a b c:Expr} {ta tb tc:NTE} {tas:NTA} {pos p p2 ap:Pos} {k:Nat} {ps:List Str} {x m:Str} {es:List Expr} {T:NTF} {G:List D->Option D} {fr:Bool} {C:Addr} {ns:List Str}
theorem wv(d:DefN X.prog X.w X.K X.mg X.base x k ps T)(hr:Room k X.A)(ha:NA X (a::es) tas)(hg:Gl X x:=by rfl)(hdb:(x == ("__debug__" : Str))=false:=by decide)(he:starEach (a::es) X.env=(false,eval a X.env)::starEach es X.env:=by rfl)(hpl:(backTo pos (starEach es X.env)).any (·.1)=false:=by rfl):
    NE X (.Call (.Name x p) (a::es) [] pos) (fw T tas) :=
  let ⟨_,_,F,hm,hk,hb⟩:=d
  aD (hG F hr hg hm hk hb .nil hW ha hdb he hpl) fun σ H Q ⟨ρ,M,QW,hE,ht,hQ⟩=>⟨ρ,M,_,hE,ht,fun ds M1 h1 vs H1 p=>by
    show spN X.K T (vs++[]) H1 Q E0
    rw[List.append_nil]
    exact⟨ds,M1,QW,p.rep,p.ok,h1,fun d M' hd v H' p'=>hQ d M' hd v H' ⟨p.toPostT.trans p'.toPostT,p'.rep⟩⟩⟩
end
structure EnvN (K:PySem.W.Frag) (P:Hp) (n:Nat) (σ:St) (ρ:ab) (H:Hp) (M:Sto):Prop where
  q:EnvQ K σ ρ H M
  same:Same P (PH H M)
  lσ:σ.length=n
  lρ:ρ.length=n
def et(K:PySem.W.Frag)(P:Hp)(n:Nat)(De:Ends):EndN where
  nx:=fun ρ M=>∀ σ H,EnvN K P n σ ρ H M->De.nx σ H
  bk:=fun ρ M=>∀ σ H,EnvN K P n σ ρ H M->De.bk σ H
  ct:=fun ρ M=>∀ σ H,EnvN K P n σ ρ H M->De.ct σ H
  rt:=fun d M=>∀ v H,Same P (PH H M)->MOk K H M->Rep K (PH H M) v d->De.rt v H
structure LeE (A B:EndN):Prop where
  nx:∀ ρ M,A.nx ρ M->B.nx ρ M
  bk:∀ ρ M,A.bk ρ M->B.bk ρ M
  ct:∀ ρ M,A.ct ρ M->B.ct ρ M
  rt:∀ d M,A.rt d M->B.rt d M
def twS(K:PySem.W.Frag)(P:Hp)(n:Nat)(t:NTS):TS:=fun De σ H=>∃ ρ M Ew,EnvN K P n σ ρ H M/\t Ew ρ M/\LeE Ew (et K P n De)
abbrev NS(X:Cx)(st:Stmt)(t:NTS):Prop:=∀ P n,PS X st (twS X.K P n t)
abbrev NSs(X:Cx)(st:List Stmt)(t:NTS):Prop:=∀ P n,PSs X st (twS X.K P n t)
theorem EnvN.next{K:PySem.W.Frag}{P:Hp}{n:Nat}{σ:St}{ρ:ab}{H H':Hp}{M M':Sto}(h:EnvN K P n σ ρ H M)(p:PostT K H M H' M'):EnvN K P n σ ρ H' M':=⟨h.q.next p,h.same.trans p.same,h.lσ,h.lρ⟩
theorem EnvN.set{K:PySem.W.Frag}{P:Hp}{n:Nat}{σ:St}{ρ:ab}{H:Hp}{M:Sto}(h:EnvN K P n σ ρ H M){i:Nat}{v:V}{d:D}(r:Rep K (PH H M) v d):EnvN K P n (σ.set i (some v)) (ρ.set i (some d)) H M :=
  ⟨⟨fun j e q=>by
    by_cases e1:j=i
    · subst e1
      have hl:j < ρ.length:=by have:=(List.getElem?_eq_some_iff.mp q).1;simpa using this
      rw[List.getElem?_set_self hl] at q
      cases q
      exact⟨v,List.getElem?_set_self (by rw[h.lσ,<- h.lρ];exact hl),r⟩
    · rw[List.getElem?_set_ne (Ne.symm e1)] at q
      obtain⟨v',h1,h2⟩:=h.q.env j e q
      exact⟨v',by rw[List.getElem?_set_ne (Ne.symm e1)];exact h1,h2⟩,h.q.ok⟩,h.same,by rw[List.length_set];exact h.lσ,by rw[List.length_set];exact h.lρ⟩
section
variable {X:Cx} {a b c:Expr} {ta tb tc tv:NTE} {tas:NTA} {ka:NTB} {pos p p2 p3 ap cp:Pos} {k:Nat} {st:Stmt} {ak body bs:List Stmt} {t u:NTS} {C:Addr} {ns:List Str} {x f:Str} {i:Nat}
theorem ww:NSs X [] sN:=fun P n=>cL jH fun De σ H ⟨ρ,M,Ew,hE,ht,hl⟩=>hl.nx ρ M ht σ H hE
theorem wx(h1:NS X st t)(h2:NSs X ak u):NSs X (st::ak) (aP t u):=fun P n=>cL (jI (h1 P n) (h2 P n)) fun De σ H ⟨ρ,M,Ew,hE,ht,hl⟩ =>
  ⟨ρ,M,_,hE,ht,fun ρ' M' h' σ' H' hE'=>⟨ρ',M',Ew,hE',h',hl⟩,hl.bk,hl.ct,hl.rt⟩
theorem wy(h1:NS X st t):NSs X [st] t:=fun P n=>cL (jJ (h1 P n)) fun De σ H h=>h
theorem wz(hc:NT X c ka)(ha:NSs X body t)(hb:NSs X bs u):NS X (.If c body bs pos) (eh ka t u):=fun P n=>b4 (jK hc (ha P n) (hb P n)) fun De σ H ⟨ρ,M,Ew,hE,ht,hl⟩=>⟨ρ,M,_,hE.q,ht,fun k M1 hk H1 p1=>by
  cases k with
  | true=>exact fQ ⟨ρ,M1,Ew,hE.next p1,hk.1 rfl,hl⟩
  | false=>exact fP ⟨ρ,M1,Ew,hE.next p1,hk.2 rfl,hl⟩⟩
theorem wA(he:NE X a ta):NS X (.Return (some a) pos) (di ta):=fun P n=>b4 (fL he) fun De σ H ⟨ρ,M,Ew,hE,ht,hl⟩=>⟨ρ,M,_,hE.q,ht,fun d M1 h1 v H1 p1=>hl.rt d M1 h1 v H1 (hE.same.trans p1.same) p1.ok p1.rep⟩
theorem wB(i:Nat)(hN:X.N.Nodup)(he:NE X a ta)(hi:X.N[i]?=some x:=by rfl)(hx:Loc X.env.scope x:=by first | exact Or.inl rfl | exact Or.inr rfl)(hs:swapsWith a (some (.Name x p2)) pos.line X.env=pure false:=by rfl)(hfn:X.fn x=true\/X.env.scope.names.lookup x=some .local:=by first | exact .inl rfl | exact .inr rfl):NS X (.Assign [.Name x p2] a pos) (bg i ta):=fun P n =>
  b4 (gS hN hi hx he hs hfn) fun De σ H ⟨ρ,M,Ew,hE,ht,hl⟩=>⟨ρ,M,_,hE.q,ht,fun d M1 h1 v H1 p1=>hl.nx _ M1 h1 _ H1 ((hE.next p1.toPostT).set p1.rep)⟩
theorem iU{K:PySem.W.Frag}{P:Hp}{n:Nat}{Q:St->Hp->Prop}{H:Hp}{M:Sto}:∀ {is:List Nat} {ds:List D} {xs:List V} {σ:St} {ρ:ab},EnvN K P n σ ρ H M->is.length=ds.length->Reps K (PH H M) xs ds ->
    (∀ σ',EnvN K P n σ' ((is.zip ds).foldl (fun r p=>r.set p.1 (some p.2)) ρ) H M->Q σ' H)->dO is xs σ H Q
  | [],[],_,σ,ρ,hE,_,r,hQ=>by cases r;exact⟨rfl,hQ σ hE⟩
  | [],_::_,_,_,_,_,h,_,_=>by cases h
  | _::_,[],_,_,_,_,h,_,_=>by cases h
  | i::is,d::ds,_,σ,ρ,hE,h,r,hQ=>by
    cases r with
    | cons r1 r2=>exact⟨_,_,rfl,iU (hE.set r1) (by simpa using h) r2 hQ⟩
theorem wC(is:List Nat){ts:List Expr}{k:Nat}(hc:X.calm=true)(hN:X.N.Nodup)(he:NE X a ta)(ht:Tgs X ts is)(hn:(assignEach ts X.env).length=is.length:=by rfl)(hst:(assignEach ts X.env).findIdx? (·.1)=none:=by rfl)(hs:swapsWithSole [.Tuple ts k p2] a pos.line X.env=pure false:=by rfl)(hw:swappedStores [.Tuple ts k p2] a X.env=pure none:=by rfl)(h1:(assignEach [.Tuple ts k p2] X.env).map (·.2)=[assign (.Tuple ts k p2) X.env]:=by rfl):NS X (.Assign [.Tuple ts k p2] a pos) (gz is ta):=fun P n =>
  b4 (jO he (dC hc (Tgs.ok hN ht) hn hst) hs hw h1) fun De σ H ⟨ρ,M,Ew,hE,hw',hl⟩=>⟨ρ,M,_,hE.q,hw',fun d M1 ⟨ds,e1,e2,h2⟩ v H1 p1=>by
    subst e1
    obtain⟨q,xs,rfl,hq,hx⟩:=kH p1.rep
    have hE1:=hE.next p1.toPostT
    exact⟨q,xs,rfl,.inl (bJ (aJ _ _) hq),by rw[hx.length];exact e2,iU hE1 e2.symm hx fun σ' hE'=>hl.nx _ M1 h2 σ' H1 hE'⟩⟩
end
end VL
namespace VL
open PySem PySem.Spec PyProof.Rows L2
section
variable {X:Cx} {a b c e:Expr} {ta tb tc tv ti:NTE} {tas:NTA} {ka:NTB} {pos p p2 p3 ap cp pr pn:Pos} {k:Nat} {st:Stmt} {ak body bs:List Stmt} {t u tbd:NTS} {C:Addr} {ns:List Str} {x f:Str} {i:Nat}
theorem iV{K:PySem.W.Frag}{P P1:Hp}{n:Nat}{De:Ends}{Ew:EndN}{N:St->Hp->Prop}{body:D->NTS}{r:List D}(hs:Same P P1)(hl:LeE Ew (et K P n De))(hN:∀ ρ M σ H,EnvN K P1 n σ ρ H M->bn body r Ew ρ M->N σ H):
    LeE { Ew with nx:=fun ρ M=>bn body r Ew ρ M,ct:=fun ρ M=>bn body r Ew ρ M,bk:=Ew.nx } (et K P1 n { De with nx:=N,ct:=N,bk:=De.nx }) where
  nx:=fun ρ M h σ H hE=>hN ρ M σ H hE h
  ct:=fun ρ M h σ H hE=>hN ρ M σ H hE h
  bk:=fun ρ M h σ H hE=>hl.nx ρ M h σ H ⟨hE.q,hs.trans hE.same,hE.lσ,hE.lρ⟩
  rt:=fun d M h v H h1 h2 h3=>hl.rt d M h v H (hs.trans h1) h2 h3
theorem wD(t:Nat)(hN:X.N.Nodup)(hc:X.calm=true)(hi:NE X a ta)(hb:NSs X body tbd)(hp:PassesOwn (model X.prog X.w) X.A X.env X.xe:=by exact PassesOwn.never)(hxN:X.N[t]?=some x:=by rfl)(hx:Loc X.env.scope x:=by first | exact Or.inl rfl | exact Or.inr rfl)(hfn:X.fn x=true\/X.env.scope.names.lookup x=some .local:=by first | exact .inl rfl | exact .inr rfl)(hs:∀ x,foldedSetIterable a X.env x=pure x:=by intro _;rfl):NS X (.For (.Name x p2) a body [] pos) (gA t ta tbd):=fun P n=>by
  have hb':PSs X body (fun De σ H=>∃ P1,twS X.K P1 n tbd De σ H):=fun pins s σ H De I ⟨P1,h⟩=>hb P1 n pins s σ H De I h
  refine b4 (dD hp hc (fM hi) (bZ hN hxN hx hfn) hb' hs) fun De σ H ⟨ρ,M,Ew,hE,ht,hl⟩=>⟨ρ,M,_,hE.q,ht,fun d M1 ⟨ds,hds,h1⟩ v H1 p1=>?_⟩
  have hE1:=hE.next p1.toPostT
  have hsd:=gv hds
  obtain⟨q,xs,rfl,hq,hx',hA⟩:=cw p1.rep hsd.2 hsd.1
  have len:=hx'.length
  refine⟨q,rfl,⟨xs,(aJ _ _).seq hq⟩,?_⟩
  refine gU (K:=X.K) (a:=q) (xs:=xs) (g:=bI t) (tb:=fun De σ H=>∃ P1,twS X.K P1 n tbd De σ H) (D:=De) (fun i σ' H'=>∃ ρ' M',EnvN X.K (PH H1 M1) n σ' ρ' H' M'/\bn (fun x E ρ M=>tbd E (ρ.set t (some x)) M) (ds.drop i) Ew ρ' M')
    ⟨ρ,M1,⟨hE1.q,Same.refl _,hE1.lσ,hE1.lρ⟩,by simpa using h1⟩ ?_ ?_ ?_
  · rintro i σ' H' _ ⟨ρ',M',hE',_⟩
    exact (aJ _ _).seq (hE'.same.seq hq)
  · rintro i y σ' H' hy ⟨ρ',M',hE',hf'⟩
    obtain⟨dy,h4,h5⟩:=hx'.getV hy
    have hi':i < ds.length:=(List.getElem?_eq_some_iff.mp h4).1
    have ed:ds.drop i=dy::ds.drop (i+1):=by
      rw[List.drop_eq_getElem_cons hi']
      have e2:ds[i]=dy:=(List.getElem?_eq_some_iff.mp h4).2
      rw[e2]
    rw[ed] at hf'
    exact⟨PH H1 M1,_,M',_,hE'.set (ao hE'.same h5),hf',iV hE1.same hl fun ρ M σ H hE h=>⟨ρ,M,hE,h⟩⟩
  · rintro σ' H' ⟨ρ',M',hE',hf'⟩
    rw[len,List.drop_length] at hf'
    exact hl.nx _ _ hf' σ' H' ⟨hE'.q,hE1.same.trans hE'.same,hE'.lσ,hE'.lρ⟩
theorem wE{K:PySem.W.Frag}{P:Hp}{n m t:Nat}{lo:Int}{De:Ends}{Ew:EndN}{σ:St}{ρ:ab}{H:Hp}{M:Sto}(hE:EnvN K P n σ ρ H M)(hl:LeE Ew (et K P n De))(h:bn (fun x E ρ M=>tbd E (ρ.set t (some x)) M) ((List.range m).map fun k=>.int (lo+(k:Nat))) Ew ρ M):
    ∃ W:Nat->Nat->St->Hp->Prop,(∃ m,W 0 m σ H)/\∀ i m' σ H,W i m' σ H ->
      ((Itr lo m).stop i H/\De.nx σ H)\/((Itr lo m).go i H/\∃ N:St->Hp->Prop,(∀ σ' H',N σ' H'->∃ m'',m'' < m'/\W (i+1) m'' σ' H')/\∀ x H',(Itr lo m).yld i H x H'->bI t x σ H' fun σ2 H2=>twS K P n tbd { De with nx:=N,ct:=N,bk:=De.nx } σ2 H2):=by
  refine jQ (lo:=lo) (n:=m) (g:=bI t) (tb:=twS K P n tbd) (D:=De) (fun i σ' H'=>∃ ρ' M',EnvN K P n σ' ρ' H' M'/\bn (fun x E ρ M=>tbd E (ρ.set t (some x)) M) (((List.range m).map fun k=>D.int (lo+(k:Nat))).drop i) Ew ρ' M') ⟨ρ,M,hE,by simpa using h⟩ ?_ ?_
  · rintro i σ' H' hi ⟨ρ',M',hE',hf'⟩
    have ed:((List.range m).map fun k=>D.int (lo+(k:Nat))).drop i=.int (lo+i)::((List.range m).map fun k=>D.int (lo+(k:Nat))).drop (i+1):=by
      rw[List.drop_eq_getElem_cons (by simpa using hi)]
      simp
    rw[ed] at hf'
    exact⟨_,M',_,hE'.set (.int _),hf',iV (Same.refl _) hl fun ρ M σ H hE h=>⟨ρ,M,hE,h⟩⟩
  · rintro σ' H' ⟨ρ',M',hE',hf'⟩
    rw[List.drop_eq_nil_of_le (by simp)] at hf'
    exact hl.nx _ _ hf' σ' H' hE'
theorem wF(t:Nat)(hN:X.N.Nodup)(hc:X.calm=true)(mr:X.mg "range" = none)(hi:NA X [a] tas)(hb:NSs X body tbd)(hp:PassesOwn (model X.prog X.w) X.A X.env X.xe:=by exact PassesOwn.never)(hg:Gl X "range":=by rfl)(hst:starEach [a] X.env=[(false,eval a X.env)]:=by rfl)(hxN:X.N[t]?=some x:=by rfl)(hx:Loc X.env.scope x:=by first | exact Or.inl rfl | exact Or.inr rfl)(hfn:X.fn x=true\/X.env.scope.names.lookup x=some .local:=by first | exact .inl rfl | exact .inr rfl)(hs:∀ x,foldedSetIterable (.Call (.Name "range" pn) [a] [] pr) X.env x=pure x:=by intro _;rfl):NS X (.For (.Name x p2) (.Call (.Name "range" pn) [a] [] pr) body [] pos) (gB t tas tbd):=fun P n =>
  b4 (dD hp hc (gT hg mr hi hst) (bZ hN hxN hx hfn) (hb P n) hs) fun De σ H ⟨ρ,M,Ew,hE,ht,hl⟩=>⟨ρ,M,_,hE.q,ht,fun ds M1 ⟨j,e1,hj,h1⟩ vs H1 p1=>by
    subst e1
    obtain⟨v,rfl,r⟩:=eS p1.rep
    cases r
    exact⟨j,rfl,hj.1,hj.2,wE (hE.next p1.toPostT) hl (by simpa using h1)⟩⟩
end
theorem wG{P:Program}{w:World}{K:PySem.W.Frag}{mg:Str->Option Value}{base:Heap}{x qual:Str}{st:Stmt}{f:Addr}{fd:FuncData}{N ps:List Str}{k np n:Nat}{body:NTS}{T:NTF}(h1:ps.length=np)(h2:N.length=n)(h3:T=mkN np n body)(Fn:Fun K x qual st f fd)(S:FnScope N ps (am st))(h:∀ (cdv:Value) (A:Around) (outer:List PySem.Env) (s:Shared) (H:Hp) (E:XK),Room k (A.deeper (envOfC qual (am st) s.heap.objs.size f cdv)) ->
      NSs (bP CX0 P w K mg base N qual (am st) f cdv A outer s H E).nox (aL st) body):
    FnOk P w K mg base CX0 (k+1) f fd ps (spN K T):=by
  subst h1 h2 h3
  have hpl:ps.length<=N.length:=by have:=congrArg List.length S.pre;rw[List.length_take] at this;omega
  refine Fn.ok S (fun vs H Q E h=>?_) (fun cdv A outer s H vs Q E hr h'=>?_)
  · obtain⟨ds,M,QW,r,_,hg,_⟩:=h
    rw[r.length,hg.1]
  · obtain⟨ds,M,QW,r,hok,⟨hl,ht⟩,hQ⟩:=h'
    have lv:=r.length
    refine⟨_,h cdv A outer s H E hr (PH H M) N.length,ds.map some++List.replicate (N.length - ps.length) none,M,_,⟨⟨fun i d q=>?_,hok⟩,Same.refl _,?_,?_⟩,ht,fun ρ M' hn σ' H' hE=>?_,fun ρ M' hn=>hn.elim,fun ρ M' hn=>hn.elim,fun d M' hd v H' e1 e2 e3=>?_⟩
    · have get:ds[i]?=some d:=by
        by_cases hi:i < ds.length
        · rw[List.getElem?_append_left (by simpa using hi),List.getElem?_map] at q
          cases e:ds[i]? with
          | none=>rw[e] at q;cases q
          | some z=>rw[e] at q;simpa using q
        · rw[List.getElem?_append_right (by simpa using hi),List.getElem?_replicate] at q
          split at q <;> cases q
      obtain⟨v,h2,h3⟩:=r.get get
      refine⟨v,?_,h3⟩
      unfold L2.start
      have hi:i < vs.length:=(List.getElem?_eq_some_iff.mp h2).1
      rw[List.getElem?_append_left (by simpa using hi),List.getElem?_map,h2]
      rfl
    · show (L2.start N vs).length=N.length
      unfold L2.start
      rw[List.length_append,List.length_map,List.length_replicate]
      omega
    · rw[List.length_append,List.length_map,List.length_replicate]
      omega
    · exact hQ _ M' hn _ H' ⟨⟨hE.same,hE.q.ok⟩,.non⟩
    · exact hQ d M' hd v H' ⟨⟨e1,e2⟩,e3⟩
theorem wH{K:PySem.W.Frag}{T:NTF}{H:Hp}{a:Addr}{ns:List Int}{E:XK}(hS:SqL K H a (ns.map V.int))(h:T [.scr ns] (fun _=>none) fun d _=>d=.bl true):spN K T [.ref a] H (fun v _=>v=.bl true) E:=by
  have e:Same H (PH H fun _=>none):=kt (fun _ _ q=>q) fun b hb=>absurd rfl hb.1
  have ok:MOk K H (fun _=>none):=fun a c hc=>by cases hc
  refine⟨[.scr ns],fun _=>none,_,.cons (.scr (e.seq hS)) .nil,ok,h,fun d M' hd v H' p=>?_⟩
  subst hd
  cases p.rep
  rfl
def PPV(X:Cx)(pos:Pos)(keys:List (Option Expr))(vals:List Expr)(ns:List Str)(as:FEs)(es:List Es):Prop :=
  ∃ trs,PPs X pos keys vals trs/\keys.length=ns.length/\∀ σ H Q,(∃ ρ ds,EnvR X.K H σ ρ/\as ρ=some ds/\∀ vs H',Posts X.K σ ρ H es ds vs H'->Q ((ns.zip vs).map fun p=>(V.str p.1,p.2)) H')->i7 trs σ H Q
section
variable {X:Cx} {a:Expr} {pos p2:Pos} {keys:List (Option Expr)} {vals:List Expr} {ns:List Str} {as:FEs} {ea eb:List Es} {fa:FE} {x:Str}
end
end VL
namespace VL
open PySem PySem.Spec PyProof.Rows L2
section
variable {X:Cx} {elt tg iter a:Expr} {ifs:List Expr} {scope:Scope} {own cn:List Str} {caps:List Nat} {wi:TI} {g:TG} {tt:TT} {te:TE} {pos spos p2 pr pn:Pos} {tas:NTA} {tel:NTE} {x y:Str}
end
section
variable {X:Cx} {a b:Expr} {tas:NTA} {pos p:Pos}
end
end VL
namespace VL
open PySem PySem.Spec PyProof.Rows L2
section
variable {X:Cx} {a b c:Expr} {ta tb tc:NTE} {tas:NTA} {pos p p2 ap cp:Pos} {k:Nat} {ps:List Str} {x m:Str} {es:List Expr} {T:NTF} {G:List D->Option D} {fr:Bool} {C:Addr} {ns:List Str} {fa:FE} {ea:List Es}
end
section
variable {X:Cx} {elt tg iter a:Expr} {scope:Scope} {cn:List Str} {caps:List Nat} {pos spos p2 pr pn:Pos} {tit tel:NTE} {x y:Str}
end
section
variable {X:Cx} {a b c e:Expr} {ta tb tc tv ti:NTE} {tas:NTA} {pos p p2 p3 ap cp pr pn:Pos} {st:Stmt} {ak body bs:List Stmt} {t u tbd:NTS} {x f:Str} {i:Nat}
end
section
variable {X:Cx} {a b c e:Expr} {ta tb tit tel:NTE} {pos p p2 p3 spos:Pos} {x y:Str} {i k:Nat} {scope:Scope} {cn:List Str} {caps:List Nat} {elt tg iter:Expr}
end
end VL
namespace VL
open PySem PySem.Spec PyProof.Rows L2
def RawD(h:Heap)(d:Addr)(es:Array DictEntry)(ep:Nat):Prop:=∃ o,h.get? d=some o/\o.ExactDict/\o.data=.dict es ep
section
variable {prog:Program} {w:World} {A:Around} {E:Value->Shared->Prop} {s:Shared} {d it:Addr} {es:Array DictEntry} {ep i:Nat}
theorem RawD.ty(h:RawD s.heap d es ep):s.TypeIs (.ref d) "dict":=let ⟨o,h1,h2,_⟩:=h;⟨o,h1,h2.1⟩
theorem wI{Q:Value->Shared->Prop}(hd:(d == sysModules)=false)(hm:RawD s.heap d es ep)(hQ:Q (.ref s.heap.objs.size) { s with heap:=s.heap.push { cls:=.type "dict_keyiterator",data:=.fields #[.ref d,.int 0 0,.int es.size 0,.int ep 0] } }):wpAny (model prog w) A (pyIter (.ref d)) Q E s:=by
  have T:=hm.ty
  obtain⟨o,h1,h2,h3⟩:=hm
  refine wpAny_pyIter_slot T F.slot_dict_iter (wpAny_call_entry F.slot_dict_iter T F.entry_dict_iter ?_ (F.args_dict_iter_1 _))
  unfold Builtin.«dict.__iter__» Builtin.Dict.dictSlotNone
  refine wpAny_bind (wpAny_bind (wpAny_notOrdered_dict T (wpAny_pure ?_)))
  have e:Builtin.Dict.showsAll d=pure ():=by unfold Builtin.Dict.showsAll;rw[hd];rfl
  show wpAny (model prog w) A.in1 (do Builtin.Dict.showsAll d;_) _ _ s
  rw[e];refine wpAny_bind (wpAny_pure (wpAny_bind (wpAny_dictEntries h1 h3 (wpAny_bind (wpAny_dictEpoch h1 h3 ?_)))))
  refine wpAny_bind (wpAny_newObj_type (wpAny_pure ⟨_,rfl,"dict_keyiterator",_,⟨_,Heap.get?_push_size _ rfl,rfl⟩,F.slot_dict_keyiterator_next.lookup,?_⟩));simpa [rawInt] using hQ
theorem wJ{Q:Option Value->Shared->Prop}(hit:s.heap.IsKeyIter it d i es.size ep)(hm:RawD s.heap d es ep)(hi:i < es.size)(hQ:∀ h',h'.IsKeyIter it d (i+1) es.size ep->Heap.SameBut it s.heap h'->Q (some es[i].key) { s with heap:=h' }):wpAny (model prog w) A (pyNext (.ref it)) Q E s:=by
  have T:=hit.typeIs
  obtain⟨o,i1,i2,i3⟩:=id hit
  obtain⟨od,h1,h2,h3⟩:=hm
  have own:Builtin.Dict_items.ownsTuple "dict_keyiterator" = false:=by decide
  unfold pyNext
  refine wpAny_bind (wpAny_attempt (wpAny_callSpecial?_slot (name:=Str.ofString "__next__") T F.slot_dict_keyiterator_next (wpAny_call_entry F.slot_dict_keyiterator_next T F.entry_dict_keyiterator_next ?_ (F.args_dict_keyiterator_next_1 _))))
  refine wpAny_bind (wpAny_pure (wpAny_bind (wpAny_bind ?_)))
  refine wpAny_bind (wpAny_typeNameOfWhole_keyiter T (wpAny_pure ?_));refine wpAny_bind (wpAny_fieldsOf i1 i3 ?_);simp only[own,Bool.false_eq_true,if_false]
  show wpAny _ _ (if (Value.ref d == Value.none)=true then _ else _) _ _ s;rw[if_neg (fun z:(Value.ref d == Value.none)=true=>Bool.false_ne_true z)]
  refine wpAny_bind (wpAny_pure (wpAny_bind (wpAny_dictEntries h1 h3 ?_)));rw[if_neg (by simp)]
  refine wpAny_bind (wpAny_pure (wpAny_bind (wpAny_dictEpoch h1 h3 ?_)));rw[if_neg (by simp)];refine wpAny_pure ?_
  simp only[show ¬ ((i:Int) < 0) by omega,if_false,Int.toNat_natCast,Array.getElem?_eq_getElem hi];refine wpAny_bind (wpAny_bind (wpAny_typeNameOfWhole_keyiter T (wpAny_pure (wpAny_bind (wpAny_isOneOf_keyiter T ?_)))))
  show wpAny _ _ (setField (.ref it) 1 (rawInt ((i:Int)+1)) >>= _) _ _ s;refine wpAny_bind (wpAny_setField i1 i3 (by simp) ?_)
  have st:(s.heap.update it (Obj.mapFields (·.setIfInBounds 1 (rawInt ((i:Int)+1))))).IsKeyIter it d (i+1) es.size ep:=⟨_,Heap.get?_update_self _ i1 (Obj.isFreed_of_fields (Obj.data_mapFields i3 _)),(Obj.cls_mapFields ..).trans i2,by rw[Obj.data_mapFields i3];simp[rawInt]⟩
  refine wpAny_bind (wpAny_holding (wpAny_bind (wpAny_isOneOf_keyiter (s:={ s with heap:=s.heap.update it (Obj.mapFields (·.setIfInBounds 1 (rawInt ((i:Int)+1)))) }) st.typeIs ?_)))
  show wpAny _ _ (pure es[i].key) _ _ _;exact wpAny_pure (wpAny_pure ⟨_,rfl,wpAny_pure (hQ _ st (Heap.SameBut.update ..))⟩)
theorem wK{Q:Option Value->Shared->Prop}(hh:A.handled=none)(hit:s.heap.IsKeyIter it d i es.size ep)(hm:RawD s.heap d es ep)(hi:es.size<=i)(hQ:∀ h',Heap.ExtBut it s.heap h'->Q none { s with heap:=h' }):wpAny (model prog w) A (pyNext (.ref it)) Q E s:=by
  have T:=hit.typeIs
  obtain⟨o,i1,i2,i3⟩:=id hit
  obtain⟨od,h1,h2,h3⟩:=hm
  have own:Builtin.Dict_items.ownsTuple "dict_keyiterator" = false:=by decide
  unfold pyNext
  refine wpAny_bind (wpAny_attempt (wpAny_callSpecial?_slot (name:=Str.ofString "__next__") T F.slot_dict_keyiterator_next (wpAny_call_entry F.slot_dict_keyiterator_next T F.entry_dict_keyiterator_next ?_ (F.args_dict_keyiterator_next_1 _))))
  refine wpAny_bind (wpAny_pure (wpAny_bind (wpAny_bind ?_)))
  refine wpAny_bind (wpAny_typeNameOfWhole_keyiter T (wpAny_pure ?_));refine wpAny_bind (wpAny_fieldsOf i1 i3 ?_);simp only[own,Bool.false_eq_true,if_false]
  show wpAny _ _ (if (Value.ref d == Value.none)=true then _ else _) _ _ s;rw[if_neg (fun z:(Value.ref d == Value.none)=true=>Bool.false_ne_true z)]
  refine wpAny_bind (wpAny_pure (wpAny_bind (wpAny_dictEntries h1 h3 ?_)));rw[if_neg (by simp)]
  refine wpAny_bind (wpAny_pure (wpAny_bind (wpAny_dictEpoch h1 h3 ?_)));rw[if_neg (by simp)];refine wpAny_pure ?_
  simp only[show ¬ ((i:Int) < 0) by omega,if_false,Int.toNat_natCast,Array.getElem?_eq_none hi];refine wpAny_bind (wpAny_bind (wpAny_typeNameOfWhole_keyiter T (wpAny_pure ?_)))
  show wpAny _ _ (setField (.ref it) 0 .none >>= _) _ _ s;refine wpAny_bind (wpAny_setField i1 i3 (by simp) ?_)
  show wpAny _ _ (newExc (.type "StopIteration") [] >>= _) _ _ _;refine wpAny_bind ?_;simp only[newExc,newTuple]
  refine wpAny_bind (wpAny_newObj_type (wpAny_bind (m:=firstArgMember _ _) (wpAny_of_eq (a:=Value.none) (by first | rfl | (simp only[firstArgMember];rfl)) (wpAny_newObj_type ?_ (by size_fits)))) (by size_fits))
  simp only[raiseNew];refine wpAny_bind (wpAny_handled ?_);rw[show A.in1.handled=none from hh]
  refine wpAny_bind (wpAny_pure (wpAny_throw ?_));refine wpAny_bind (wpAny_isInstance (T:="StopIteration") (b:=true) ⟨_,Heap.get?_push_size _ rfl,rfl⟩ isSubtype_stop ?_);exact wpAny_pure (hQ _ (((Heap.SameBut.update ..).extBut.push _).push _))
end
theorem mH{X:Cx}{pins:List (Addr × Obj)}{σ:St}{H:Hp}{s:Shared}{a:Addr}{kvs:List (List Key × V)}(I:L2.Inv X pins σ H s)(e:H a=some (.dT kvs)):∃ o,L2.Inv X pins σ (upd H a (.frz o (.dT kvs))) s:=by
  obtain⟨o,ho⟩:∃ o,s.heap.get? a=some o:=by
    obtain⟨_,_,xs,_,o,es,ep,h1,_⟩:=i5 I.hok e
    exact⟨o,h1⟩
  have ne:∀ {b:Addr} {u:Option HO},H b=u->u ≠ some (.dT kvs)->b ≠ a:=fun h n z=>by subst z;exact n (h.symm.trans e)
  refine⟨o,I.ok,I.os,I.bare,⟨I.base.keep,I.base.slot,fun b ob q n hx=>?_,I.base.there,fun b xs q=>?_,fun b ob u q=>?_,fun b ps q=>?_⟩,I.loc,I.cell,?_,fun x c q=>?_,fun p hp=>?_,fun b u q=>?_,I.len⟩
  · have z:=I.base.free b ob q n hx
    rw[ai (ne z (by simp))];exact z
  · have z:=I.base.tups b xs q
    rw[ai (ne z (by simp))];exact z
  · have z:=I.base.frzs b ob u q
    rw[ai (ne z (by simp))];exact z
  · obtain⟨more,z⟩:=I.base.tbls b ps q
    exact⟨more,by rw[ai (ne z (by simp))];exact z⟩
  · rw[ai (ne I.free (by simp))];exact I.free
  · rw[ai (ne (I.freeC x c q) (by simp))];exact I.freeC x c q
  · obtain⟨h1,h2,h3⟩:=I.pin p hp
    exact⟨h1,by rw[ai (ne h2 (by simp))];exact h2,h3⟩
  · have st:∀ {c:Addr} {v:HO},L2.ObjOk X.prog X.w H s.heap c v->L2.ObjOk X.prog X.w (upd H a (.frz o (.dT kvs))) s.heap c v:=fun {c v} x =>
      x.stay (fun _ _ _ q=>q) (fun d q=>by rw[ai (ne q (by simp))];exact q) fun d xs q=>by rw[ai (ne q (by simp))];exact q
    by_cases hb:b=a
    · subst hb
      rw[aK] at q;cases q
      exact⟨ho,st (I.hok _ _ e)⟩
    · rw[ai hb] at q
      exact st (I.hok _ _ q)
theorem wL{X:Cx}{st:List Stmt}{t:TS}(h:PSs X st t):PSs X st (fun De σ H=>∃ a kvs,H a=some (.dT kvs)/\∀ o,t De σ (upd H a (.frz o (.dT kvs)))):=fun pins s σ H De I ⟨a,kvs,e,q⟩=>by
  obtain⟨o,I'⟩:=mH I e
  exact h pins s σ _ De I' (q o)
def Itq(d:Addr)(o:Obj)(kvs:List (List Key × V)):It :=
  ⟨fun i H=>H d=some (.frz o (.dT kvs))/\i < kvs.length,fun i H x H'=>H'=H/\∃ p b,kvs[i]?=some p/\x=.ref b/\H b=some (.tup (p.1.map kV)),fun i H=>H d=some (.frz o (.dT kvs))/\kvs.length<=i⟩
theorem mI{α β:Type}{R:α->β->Prop}:∀ {xs:List α} {ys:List β} {i:Nat} {x:α},Paired R xs ys->xs[i]?=some x->∃ y,ys[i]?=some y/\R x y
  | _,_,_,_,.nil,e=>by simp at e
  | _,_,0,_,.cons r _,e=>by simp at e;subst e;exact⟨_,rfl,r⟩
  | _,_,i+1,x,.cons _ t,e=>by
    obtain⟨y,h1,h2⟩:=mI (i:=i) (x:=x) t (by simpa using e)
    exact⟨y,by simpa using h1,h2⟩
theorem iW{P:Program}{w:World}{H:Hp}{h:Heap}{d:Addr}{o:Obj}{kvs:List (List Key × V)}(ok:HOk P w H h)(e:H d=some (.frz o (.dT kvs))):
    ∃ es ep,o.ExactDict/\o.data=.dict es ep/\es.size=kvs.length/\∀ i p,kvs[i]?=some p->∃ b,(∃ hi:i < es.size,es[i].key=.ref b)/\H b=some (.tup (p.1.map kV)):=by
  obtain⟨ho,z,hd,xs,rel,o',es,ep,h1,h2,h3,h4,h5⟩:=(show h.get? d=some o/\L2.ObjOk P w H h d (.dT kvs) from ok d _ e)
  rw[ho] at h1;cases h1
  have hl:es.size=kvs.length:=by rw[<- Array.length_toList,h4,List.length_map,Paired.length rel]
  refine⟨es,ep,h2,h3,hl,fun i p hp=>?_⟩
  obtain⟨y,hy,r1,r2,r3⟩:=mI rel hp
  have hi:i < es.size:=by rw[hl];exact (List.getElem?_eq_some_iff.mp hp).1
  refine⟨y.2.1,⟨hi,?_⟩,r2⟩
  have e1:es.toList[i]?=some (entryOfKey (tupleKind (b7 P w)) y):=by rw[h4,List.getElem?_map,hy];rfl
  have e2:es[i]=entryOfKey (tupleKind (b7 P w)) y:=by
    have:=(List.getElem?_eq_some_iff.mp e1).2
    simpa using this
  rw[e2];rfl
theorem wM{P:Program}{w:World}{K:PySem.W.Frag}{tg:Expr}(d it:Addr)(o:Obj){kvs:List (List Key × V)}{es:Array DictEntry}{ep:Nat}(hc:o.ExactDict)(hdt:o.data=.dict es ep):
    Turn P w K tg (Itq d o kvs) [it] it (fun i h=>h.IsKeyIter it d i es.size ep) where
  mem:=by simp
  obj:=fun i h st b hb=>by
    have e:b=it:=by simpa using hb
    subst e
    obtain⟨o,e,c,d⟩:=st
    exact⟨o,e,fun v z=>by rw[d] at z;cases z⟩
  keep:=fun i h h' st k=>st.at fun o e=>k it (by simp) o e
  item:=by
    intro X hP hw hK hcm i pins s σ H E I hf st hg
    subst hP hw hK
    obtain⟨hd,hi⟩:=hg
    obtain⟨es',ep',k1,k2,k3,k4⟩:=iW I.hok hd
    rw[hdt] at k2;cases k2
    have R:RawD s.heap d es ep:=⟨o,(I.hok d _ hd).1,hc,hdt⟩
    obtain⟨b,⟨hi',hk⟩,hb⟩:=k4 i _ (List.getElem?_eq_getElem hi)
    obtain⟨f0,f1,f2,f3,f4,f5⟩:=hf it (by simp)
    refine wJ st R hi' fun h' st' sb=>?_
    have I1:L2.Inv X pins σ H { s with heap:=h' }:=I.turned (t':=s.toks) (fun b o hb e=>(sb.2 b hb).trans e) f0 f1 f3 f4 f5
    rw[hk]
    exact⟨.ref b,rfl,letGo_keyiter (s':={ s with heap:=h' }) st' ⟨.ref b,H,I1,rfl,⟨rfl,_,b,List.getElem?_eq_getElem hi,rfl,hb⟩,st',fun b hb=>(hf b hb).1⟩⟩
  done:=by
    intro X hP hw hK hcm i pins s σ H E I hf st hg
    subst hP hw hK
    obtain⟨hd,hi⟩:=hg
    obtain⟨es',ep',k1,k2,k3,k4⟩:=iW I.hok hd
    rw[hdt] at k2;cases k2
    have R:RawD s.heap d es ep:=⟨o,(I.hok d _ hd).1,hc,hdt⟩
    obtain⟨f0,f1,f2,f3,f4,f5⟩:=hf it (by simp)
    exact wK (I.ok.hd hcm) st R (by omega) fun h' eb=>⟨rfl,I.turned (t':=s.toks) (fun b o hb e=>eb b o hb e) f0 f1 f3 f4 f5⟩
  self:=fun _ _ _ _ _ st h=>wpAny_pyIter_keyiter st h
def wN(tl:TE):TI:=fun σ H R=>tl σ H fun x H1=>∃ a o kvs,x=.ref a/\H1 a=some (.frz o (.dT kvs))/\R (Itq a o kvs) H1
theorem wO{X:Cx}{tg l:Expr}{tl:TE}(hl:PE X l tl):PI X tg l (wN tl):=by
  intro pins s σ H R I h
  refine thn (hl pins s σ H _ I h) fun v s1 ⟨x,H1,I1,r1,q1⟩=>?_
  obtain⟨a,o,kvs,e,ha,q⟩:=q1
  subst e
  cases r1
  obtain⟨es,ep,k1,k2,k3,k4⟩:=iW I1.hok ha
  obtain⟨ho,z,hd,_⟩:=(show s1.heap.get? a=some o/\L2.ObjOk X.prog X.w H1 s1.heap a (.dT kvs) from I1.hok a _ ha)
  refine wI hd ⟨o,ho,k1,k2⟩ ?_
  refine⟨s1.heap.objs.size,[s1.heap.objs.size],_,_,H1,rfl,I1.kept (t':=s1.toks) fun b o e=>Heap.get?_push_of_some _ e,wM a _ o k1 k2,⟨_,Heap.get?_push_size _ rfl,rfl,rfl⟩,fun b hb=>?_,q⟩
  have e:b=s1.heap.objs.size:=by simpa using hb
  subst e
  exact I1.fpOk (Nat.le_refl _) (I1.hok.fresh (Nat.le_refl _))
theorem wP{d:Addr}{o:Obj}{kvs:List (List Key × V)}{g:TG}{tb:TS}{D:Ends}{σ:St}{H:Hp}(Pv:Nat->St->Hp->Prop)(h0:Pv 0 σ H)(hh:∀ i σ H,Pv i σ H->H d=some (.frz o (.dT kvs)))(hs:∀ i p b σ H,kvs[i]?=some p->H b=some (.tup (p.1.map kV))->Pv i σ H->g (.ref b) σ H fun σ2 H2=>tb { D with nx:=Pv (i+1),ct:=Pv (i+1),bk:=D.nx } σ2 H2)(hd:∀ σ H,Pv kvs.length σ H->D.nx σ H):
    ∃ W:Nat->Nat->St->Hp->Prop,(∃ m,W 0 m σ H)/\∀ i m σ H,W i m σ H ->
      ((Itq d o kvs).stop i H/\D.nx σ H)\/((Itq d o kvs).go i H/\∃ N:St->Hp->Prop,(∀ σ' H',N σ' H'->∃ m',m' < m/\W (i+1) m' σ' H')/\∀ x H',(Itq d o kvs).yld i H x H'->g x σ H' fun σ2 H2=>tb { D with nx:=N,ct:=N,bk:=D.nx } σ2 H2):=by
  refine⟨fun i m σ H=>m=kvs.length - i/\i<=kvs.length/\Pv i σ H,⟨kvs.length,by simp,Nat.zero_le _,h0⟩,?_⟩
  rintro i m σ H ⟨rfl,hi,p⟩
  by_cases hlt:i < kvs.length
  · refine .inr ⟨⟨hh i σ H p,hlt⟩,Pv (i+1),fun σ' H' p'=>⟨kvs.length - (i+1),by omega,rfl,hlt,p'⟩,fun x H' y=>?_⟩
    obtain⟨e,p',b,hp,y,hb⟩:=y
    subst e y
    exact hs i p' b σ _ hp hb p
  · have e:i=kvs.length:=by omega
    subst e
    exact .inl ⟨⟨hh _ σ H p,Nat.le_refl _⟩,hd σ H p⟩
section
variable {prog:Program} {w:World} {K:Type} [DecidableEq K] {knd:HeapKind prog w K} {A:Around} {E:Value->Shared->Prop} {s:Shared} {d a:Addr} {k:K} {xs:List (K × Addr × Value)} {v:Value}
end
section
variable {X:Cx} {pins:List (Addr × Obj)} {σ:St} {H:Hp} {s:Shared} {a b:Addr} {y d:V} {u r:Value} {v:V} {A:Around} {E:Value->Shared->Prop} {kvs:List (List Key × V)} {k:List Key}
end
end VL
namespace VL
open PySem PySem.Spec PyProof.Rows L2
section
variable {X:Cx} {o e f a:Expr} {apos cpos pos tp p2:Pos} {td ty tx:TE} {ta tv:NTE} {tas:NTA} {x1:Nat} {es:List Expr} {k:Nat} {ak:List Stmt} {t:NTS} {body:List Stmt} {tbd:NTS}
end
end VL
namespace VL
open PySem PySem.Spec PyProof.Rows L2
theorem cell_L{K:PySem.W.Frag}{H:Hp}{o:HO}{fz:Bool}{ps:List (List Int × Int)}:CellOk K H o (.dcL fz ps) ↔ ((fz=false/\o=.dT (aI ps))\/(fz=true/\∃ ob,o=.frz ob (.dT (aI ps)))):=by cases o <;> exact Iff.rfl
theorem iX{K:PySem.W.Frag}{H:Hp}{M:Sto}{a:Addr}{ps:List (List Int × Int)}(h:MOk K H M)(ha:M a=some (.dcL false ps)):H a=some (.dT (aI ps)):=by
  obtain⟨o,h1,h2⟩:=h a _ ha
  rcases cell_L.mp h2 with⟨_,rfl⟩ | ⟨e,_⟩
  · exact h1
  · cases e
theorem mJ{K:PySem.W.Frag}{H:Hp}{M:Sto}{a:Addr}{ps:List (List Int × Int)}(h:MOk K H M)(ha:M a=some (.dcL true ps)):∃ ob,H a=some (.frz ob (.dT (aI ps))):=by
  obtain⟨o,h1,h2⟩:=h a _ ha
  rcases cell_L.mp h2 with⟨e,_⟩ | ⟨_,ob,rfl⟩
  · cases e
  · exact⟨ob,h1⟩
theorem iY{K:PySem.W.Frag}{H:Hp}{M:Sto}{a:Addr}{fz:Bool}{ps:List (List Int × Int)}(h:MOk K H M)(ha:M a=some (.dcL fz ps)):Rd H a (.dT (aI ps)):=by
  cases fz with
  | false=>exact .inl (iX h ha)
  | true=>obtain⟨ob,z⟩:=mJ h ha;exact .inr ⟨ob,z⟩
theorem iZ:∀ {a b:List Int},(a.map Sum.inl:List Key)=b.map Sum.inl->a=b
  | [],[],_=>rfl
  | [],_::_,h=>by simp at h
  | _::_,[],h=>by simp at h
  | x::a,y::b,h=>by
    rw[List.map_cons,List.map_cons] at h
    have h1:=List.cons.inj h
    rw[Sum.inl.inj h1.1,iZ h1.2]
theorem mK(a b:List Int):decide ((a.map Sum.inl:List Key)=b.map Sum.inl)=decide (a=b):=decide_eq_decide.mpr ⟨iZ,fun e=>by rw[e]⟩
theorem j3:∀ (ps:List (List Int × Int)) (k:List Int),bw (aI ps) (k.map Sum.inl)=(bo ps k).map V.int
  | [],_=>rfl
  | x::r,k=>by
    have ih:=j3 r k
    unfold bw bo at ih ⊢
    show Option.map _ (List.find? _ ((x.1.map Sum.inl,V.int x.2)::aI r))=_
    rw[List.find?_cons,List.find?_cons]
    simp only[mK]
    by_cases e:x.1=k
    · rw[decide_eq_true e];rfl
    · rw[decide_eq_false e];exact ih
theorem wQ(ps:List (List Int × Int))(k:List Int)(v:Int):bx (aI ps) (k.map Sum.inl) (V.int v)=aI (bB ps k v):=by
  have ea:((aI ps).any fun kv=>decide (kv.1=(k.map Sum.inl:List Key)))=ps.any fun p=>decide (p.1=k):=by
    unfold aI
    rw[List.any_map]
    congr 1
    funext p
    exact mK p.1 k
  unfold bx bB
  rw[ea]
  by_cases h:(ps.any fun p=>decide (p.1=k))=true
  · rw[if_pos h,if_pos h]
    unfold aI
    rw[List.map_map,List.map_map]
    congr 1
    funext p
    by_cases e:p.1=k
    · simp[e]
    · have:¬ ((p.1.map Sum.inl:List Key)=k.map Sum.inl):=fun q=>e (iZ q)
      simp[e,this]
  · rw[if_neg h,if_neg h]
    unfold aI
    rw[List.map_append]
    rfl
theorem gJ{K:PySem.W.Frag}{H:Hp}{v:V}{ks:List Int}(r:Rep K H v (aQ ks)):∃ b,v=.ref b/\H b=some (.tup ((ks.map Sum.inl:List Key).map kV)):=by
  obtain⟨p,xs,rfl,h1,h2⟩:=sX r
  have e:=g8 h2
  subst e
  refine⟨p,rfl,?_⟩
  rw[h1,List.map_map]
  rfl
theorem wR{K:PySem.W.Frag}{H:Hp}{b:Addr}{ks:List Int}(h:H b=some (.tup ((ks.map Sum.inl:List Key).map kV))):Rep K H (.ref b) (aQ ks):=by
  have e:((ks.map Sum.inl:List Key).map kV)=ks.map V.int:=by rw[List.map_map];rfl
  rw[e] at h
  exact .tup h (Reps.ints ks)
def wS(tk tv:TE):TE:=fun σ H Q=>∀ p,H p=none->tk σ (upd H p (.dT [])) fun x H1=>tv σ H1 fun y H2=>∃ b k,x=.ref b/\H2 b=some (.tup (k.map kV))/\H2 p=some (.dT [])/\Q (.ref p) (upd H2 p (.dT [(k,y)]))
theorem wT{X:Cx}{pos:Pos}{k v:Expr}{tk tv:TE}(hu:X.A.units < cLine)(hk:PE X k tk)(hv:PE X v tv):PE X (.Dict [some k] [v] pos) (wS tk tv):=by
  intro pins s σ H Q I q
  have hn:=I.hok.fresh (Nat.le_refl s.heap.objs.size)
  have I1:=I.laid (a:=s.heap.objs.size) (o:=.dT []) (h':=s.heap.push { cls:=.type "dict",data:=.dict #[] }) (t':=s.toks) (fun _ _ q=>Heap.get?_push_of_some _ q) (Nat.le_refl _) (kq s.heap I.big)
  refine wpAny_Dict_any rfl rfl (by simp) (by simp) (pairTrees_cons_walk (thn (hk pins _ σ _ _ I1 (q _ hn)) fun u s1 ⟨x,H1,J1,rx,q1⟩=>thn (hv pins s1 σ H1 _ J1 q1) fun r s2 ⟨y,H2,J2,ry,b,kk,ex,eb,ep,q2⟩=>pairTrees_nil_walk ?_))
  subst ex
  cases (show u=Value.ref b from rx)
  obtain⟨z,hd,xs,rel,dd⟩:=i5 J2.hok ep
  cases rel
  unfold storeAll
  rw[List.forIn_cons]
  refine wpAny_bind (wpAny_bind (wpAny_dictSet_heap (hsz:=Nat.zero_le _) (knd:=tupleKind (b7 X.prog X.w)) hu (eI J2.hok eb) dd fun h' dd' hs=>wpAny_pure ?_))
  show wpAny _ _ (forIn ([]:List (Value × Value)) PUnit.unit _) _ _ _
  rw[List.forIn_nil]
  refine wpAny_pure ⟨.ref s.heap.objs.size,_,?_,rfl,q2⟩
  obtain⟨q',es,ep',hq,h2,h3,h4,_,h5⟩:=dd'
  have hl:(bx ([]:List (List Key × V)) kk y).length<=sizeLine:=by have:=i4 ([]:List (List Key × V)) kk y;rw[sizeLine_eq];simp at this;omega
  refine i6 J2 (by rw[ep];exact True.intro) hs ⟨q',hq⟩ ⟨hl,hd,_,((show KT H2 [] [] from .nil).put kk eb ry).keeps fun c ys ec=>?_,q',es,ep',hq,h2,h3,h4,h5⟩
  rw[ai (jD ec ep (fun z=>nomatch z))]
  exact ec
theorem wU{X:Cx}{e:Expr}{t:TE}(h:PE X e t):PE X e (fun σ H Q=>t σ H fun v H1=>∃ a kvs,v=.ref a/\H1 a=some (.dT kvs)/\∀ o,Q v (upd H1 a (.frz o (.dT kvs)))):=fun pins s σ H Q I q =>
  thn (h pins s σ H _ I q) fun u s1 ⟨v,H1,I1,r,a,kvs,e,ha,q⟩=>by
    obtain⟨o,I2⟩:=mH I1 ha
    exact⟨v,_,I2,r,q o⟩
section
variable {X:Cx} {o e f a b kx:Expr} {apos cpos pos tp p2 p3:Pos} {td ty tx:TE} {ta tk tv:NTE} {fa fb:FE} {ea eb:List Es} {tas:NTA} {x1:Nat} {es:List Expr} {k:Nat} {ak:List Stmt} {t:NTS} {body:List Stmt} {tbd:NTS} {x:Str}
theorem wV(hr:Room k X.A)(ha:VE X a fa ea)(hb:VE X b fb eb):NE X (.Dict [some a] [b] pos) (gC fa fb) :=
  aD (wU (wT (by have:=hr.un;omega) ha hb)) fun σ H Q ⟨ρ,M,QW,hE,⟨x,hx,y,hy,ks,n,ex,ey,ht⟩,hQ⟩ p hp=>by
    subst ex ey
    have s0:=bM hp (.dT [])
    refine⟨ρ,_,hE.envR.mono s0,hx,fun v H1 p1=>⟨ρ,_,hE.envR.mono (s0.trans p1.same),hy,fun w H2 p2=>?_⟩⟩
    cases p2.rep
    obtain⟨b',rfl,hb'⟩:=gJ (p1.up p2.same).rep
    have s2:=p1.same.trans p2.same
    refine⟨b',_,rfl,hb',s2 _ _ aK,p,_,rfl,aK,fun ob=>?_⟩
    rw[og]
    have sm:Same H (upd H2 p (.frz ob (.dT [(ks.map Sum.inl,V.int n)]))):=fun c u q=>by
      rw[ai (b8 q hp)]
      exact s2 _ _ (s0 _ _ q)
    obtain⟨e1,e2⟩:=mD (c:=.dcL true [(ks,n)]) hE.ok hp sm aK (cell_L.mpr (.inr ⟨rfl,ob,rfl⟩))
    exact hQ _ _ (ht p (hE.ok.fresh hp)) _ _ ⟨⟨e1,e2⟩,.ptr p⟩
theorem wW:NE X (.Dict [] [] pos) gD:=aD qu fun σ H Q ⟨ρ,M,QW,hE,ht,hQ⟩ p hp=>by
  obtain⟨e1,e2⟩:=mD (c:=.dcL false []) hE.ok hp (bM hp (.dT [])) aK (cell_L.mpr (.inl ⟨rfl,rfl⟩))
  exact hQ _ _ (ht p (hE.ok.fresh hp)) _ _ ⟨⟨e1,e2⟩,.ptr p⟩
theorem wX(hr:Room k X.A)(ha:NE X a ta)(hk:NE X kx tk)(hs:fS kx):NE X (.Subscript a kx pos) (fA ta tk) :=
  aD (qq (by have:=hr.un;omega) ha hk hs) fun σ H Q ⟨ρ,M,QW,hE,ht,hQ⟩=>⟨ρ,M,_,hE,ht,fun x M1 h1 vx H1 p1=>⟨ρ,M1,_,hE.next p1.toPostT,h1,fun y M2 ⟨q,fz,ps,ks,w,ex,ey,hm,hw,h2⟩ vy H2 p2=>by
    subst ex ey
    cases p1.rep
    obtain⟨b',rfl,hb'⟩:=gJ p2.rep
    refine⟨q,.int w,rfl,.inr ⟨aI ps,ks.map Sum.inl,b',iY p2.ok hm,rfl,(PH.at hb').2,by rw[j3,hw];rfl⟩,hQ _ M2 h2 _ _ ⟨p1.toPostT.trans p2.toPostT,.int _⟩⟩⟩⟩
theorem wY(hr:Room k X.A)(ha:NE X a ta)(hk:NE X kx tk)(hf:NE X f tv)(m:M2 X a "get" apos kx f cpos):NE X (.Call (.Attribute a "get" apos) [kx,f] [] cpos) (gE ta tk tv) :=
  aD (qA (by have:=hr.un;omega) ha hk hf m) fun σ H Q ⟨ρ,M,QW,hE,ht,hQ⟩=>⟨ρ,M,_,hE,ht,fun x M1 ⟨q,fz0,ps0,ex,hm0,h1⟩ vx H1 p1=>by
    subst ex
    cases p1.rep
    refine⟨q,rfl,.inr ⟨_,iY p1.ok hm0⟩,ρ,M1,_,hE.next p1.toPostT,h1,fun y M2 h2 vy H2 p2=>⟨ρ,M2,_,(hE.next p1.toPostT).next p2.toPostT,h2,fun z M3 ⟨fz,ps,ks,w,ey,ez,hm,h3⟩ vz H3 p3=>?_⟩⟩
    subst ey ez
    cases p3.rep
    obtain⟨b',rfl,hb'⟩:=gJ (ao p3.same p2.rep)
    refine⟨_,.inr ⟨aI ps,ks.map Sum.inl,b',iY p3.ok hm,rfl,(PH.at hb').2,rfl⟩,?_⟩
    have ev:(bw (aI ps) (ks.map Sum.inl)).getD (V.int w)=V.int ((bo ps ks).getD w):=by
      rw[j3];cases bo ps ks <;> rfl
    rw[ev]
    exact hQ _ M3 h3 _ _ ⟨(p1.toPostT.trans p2.toPostT).trans p3.toPostT,.int _⟩⟩
theorem wZ(hr:Room k X.A)(ha:NE X a ta)(hk:NE X kx tk)(hv:NE X b tv)(hs:swapsWith b (some (.Subscript a kx p2)) pos.line X.env=pure false:=by rfl):NS X (.Assign [.Subscript a kx p2] b pos) (gF ta tk tv):=fun P n =>
  b4 (qr (by have:=hr.un;omega) ha hk hv hs) fun De σ H ⟨ρ,M,Ew,hE,ht,hl⟩=>⟨ρ,M,_,hE.q,ht,fun z M1 h1 vz H1 p1=>⟨ρ,M1,_,hE.q.next p1.toPostT,h1,fun x M2 h2 vx H2 p2=>⟨ρ,M2,_,(hE.q.next p1.toPostT).next p2.toPostT,h2,fun y M3 ⟨q,ps,ks,w,ex,ey,ez,hm,hz,h3⟩ vy H3 p3=>by
    subst ex ey ez
    cases p1.rep
    cases p2.rep
    obtain⟨b',rfl,hb'⟩:=gJ p3.rep
    have g1:=iX p3.ok hm
    refine⟨q,_,rfl,.inr ⟨_,ks.map Sum.inl,b',g1,rfl,(PH.at hb').2,Nat.lt_of_lt_of_le (show (aI ps).length < 10000000 by simpa [aI] using hz) (by decide),rfl⟩,?_⟩
    rw[wQ]
    obtain⟨e1,e2⟩:=mE (o:=.dT (aI (bB ps ks w))) (c:=.dcL false (bB ps ks w)) p3.ok hm (cell_L.mpr (.inl ⟨rfl,rfl⟩))
    exact hl.nx _ _ h3 σ _ ((hE.next ((p1.toPostT.trans p2.toPostT).trans p3.toPostT)).next ⟨e1,e2⟩)⟩⟩⟩
theorem xa(i:Nat)(h:NSs X ak t):NSs X ak (aP (gG i) t):=fun P n=>cL (wL (h P n)) fun De σ H ⟨ρ,M,Ew,hE,⟨q,ps,h1,h2,h3⟩,hl⟩=>by
  refine⟨q,_,iX hE.q.ok h2,fun ob=>?_⟩
  obtain⟨e1,e2⟩:=mE (o:=.frz ob (.dT (aI ps))) (c:=.dcL true ps) hE.q.ok h2 (cell_L.mpr (.inr ⟨rfl,ob,rfl⟩))
  exact⟨_,_,Ew,hE.next ⟨e1,e2⟩,h3,hl⟩
theorem xb{K:PySem.W.Frag}{P P1:Hp}{n:Nat}{De:Ends}{Ew:EndN}{N:St->Hp->Prop}{body:List Int->NTS}{r:List (List Int)}{all:List (List Int × Int)}{q:Nat}(hs:Same P P1)(hl:LeE Ew (et K P n De))(hN:∀ ρ M σ H,EnvN K P1 n σ ρ H M->bV body q all r Ew ρ M->N σ H):
    LeE { Ew with nx:=fun ρ M=>bV body q all r Ew ρ M,ct:=fun ρ M=>bV body q all r Ew ρ M,bk:=Ew.nx } (et K P1 n { De with nx:=N,ct:=N,bk:=De.nx }) where
  nx:=fun ρ M h σ H hE=>hN ρ M σ H hE h
  ct:=fun ρ M h σ H hE=>hN ρ M σ H hE h
  bk:=fun ρ M h σ H hE=>hl.nx ρ M h σ H ⟨hE.q,hs.trans hE.same,hE.lσ,hE.lρ⟩
  rt:=fun d M h v H h1 h2 h3=>hl.rt d M h v H (hs.trans h1) h2 h3
theorem xc{body:List Int->NTS}{q:Nat}{all:List (List Int × Int)}:∀ {r:List (List Int)} {E:EndN} {ρ:ab} {M:Sto},bV body q all r E ρ M->M q=some (.dcL true all)
  | [],_,_,_,h=>h.1
  | _::_,_,_,_,h=>h.1
theorem xf{K:PySem.W.Frag}{H:Hp}{M:Sto}{b:Addr}{xs:List V}(h:MOk K H M)(hb:H b=some (.tup xs)):PH H M b=some (.tup xs):=by
  rw[PH.of,hb]
  cases e:M b with
  | none=>rfl
  | some c =>
    obtain⟨o,h1,h2⟩:=h b c e
    rw[hb] at h1;cases h1
    unfold CellOk at h2
    split at h2
    · rename_i z;cases z
    · rename_i z;cases z
    · rename_i z;cases z
    · rcases h2 with⟨_,z⟩ | ⟨_,_,z⟩ <;> cases z
    · rcases h2 with⟨_,z⟩ | ⟨_,_,z⟩ <;> cases z
    · exact h2.elim
theorem xg(t:Nat)(hN:X.N.Nodup)(hc:X.calm=true)(hi:NE X a ta)(hb:NSs X body tbd)(hp:PassesOwn (model X.prog X.w) X.A X.env X.xe:=by exact PassesOwn.never)(hxN:X.N[t]?=some x:=by rfl)(hx:Loc X.env.scope x:=by first | exact Or.inl rfl | exact Or.inr rfl)(hfn:X.fn x=true\/X.env.scope.names.lookup x=some .local:=by first | exact .inl rfl | exact .inr rfl)(hs:∀ x,foldedSetIterable a X.env x=pure x:=by intro _;rfl):NS X (.For (.Name x p2) a body [] pos) (fB t ta tbd):=fun P n=>by
  have hb':PSs X body (fun De σ H=>∃ P1,twS X.K P1 n tbd De σ H):=fun pins s σ H De I ⟨P1,h⟩=>hb P1 n pins s σ H De I h
  refine b4 (dD hp hc (wO hi) (bZ hN hxN hx hfn) hb' hs) fun De σ H ⟨ρ,M,Ew,hE,ht,hl⟩=>⟨ρ,M,_,hE.q,ht,fun d M1 ⟨q,ps,ex,h1⟩ v H1 p1=>?_⟩
  subst ex
  have hE1:=hE.next p1.toPostT
  cases p1.rep
  have hm1:=xc h1
  obtain⟨ob,hob⟩:=mJ p1.ok hm1
  have hP:PH H1 M1 q=some (.frz ob (.dT (aI ps))):=by rw[PH.ofF (by rw[hm1];rfl)];exact hob
  refine⟨q,ob,_,rfl,hob,?_⟩
  refine wP (d:=q) (o:=ob) (kvs:=aI ps) (g:=bI t) (tb:=fun De σ H=>∃ P1,twS X.K P1 n tbd De σ H) (D:=De) (fun i σ' H'=>∃ ρ' M',EnvN X.K (PH H1 M1) n σ' ρ' H' M'/\bV (fun k E ρ M=>tbd E (ρ.set t (some (aQ k))) M) q ps ((ps.map (·.1)).drop i) Ew ρ' M')
    ⟨ρ,M1,⟨hE1.q,Same.refl _,hE1.lσ,hE1.lρ⟩,by simpa using h1⟩ ?_ ?_ ?_
  · rintro i σ' H' ⟨ρ',M',hE',_⟩
    exact (PH.at (hE'.same _ _ hP)).2
  · rintro i p b σ' H' hp' hb2 ⟨ρ',M',hE',hf'⟩
    have hi':i < ps.length:=by have:=(List.getElem?_eq_some_iff.mp hp').1;simpa [aI] using this
    have ep:p=(ps[i].1.map Sum.inl,V.int ps[i].2):=by
      have:=(List.getElem?_eq_some_iff.mp hp').2
      simpa [aI] using this.symm
    subst ep
    have ed:(ps.map (·.1)).drop i=ps[i].1::(ps.map (·.1)).drop (i+1):=by
      rw[List.drop_eq_getElem_cons (by simpa using hi')]
      simp
    rw[ed] at hf'
    exact⟨PH H1 M1,_,M',_,hE'.set (wR (xf hE'.q.ok hb2)),hf'.2,xb hE1.same hl fun ρ M σ H hE h=>⟨ρ,M,hE,h⟩⟩
  · rintro σ' H' ⟨ρ',M',hE',hf'⟩
    rw[List.drop_eq_nil_of_le (by simp[aI])] at hf'
    exact hl.nx _ _ hf'.2 σ' H' ⟨hE'.q,hE1.same.trans hE'.same,hE'.lσ,hE'.lρ⟩
theorem xh(t u:Nat){tes:List Expr}{k:Nat}(hN:X.N.Nodup)(hc:X.calm=true)(hi:NE X a ta)(hb:NSs X body tbd)(htg:Tgs X tes [t,u])(hp:PassesOwn (model X.prog X.w) X.A X.env X.xe:=by exact PassesOwn.never)(hn:(assignEach tes X.env).length=2:=by rfl)(hsx:(assignEach tes X.env).findIdx? (·.1)=none:=by rfl)(hs:∀ x,foldedSetIterable a X.env x=pure x:=by intro _;rfl):NS X (.For (.Tuple tes k p2) a body [] pos) (gH t u ta tbd):=fun P n=>by
  have hb':PSs X body (fun De σ H=>∃ P1,twS X.K P1 n tbd De σ H):=fun pins s σ H De I ⟨P1,h⟩=>hb P1 n pins s σ H De I h
  refine b4 (dD hp hc (fM hi) (dC hc (Tgs.ok hN htg) hn hsx) hb' hs) fun De σ H ⟨ρ,M,Ew,hE,ht,hl⟩=>⟨ρ,M,_,hE.q,ht,fun d M1 ⟨ds,hds,hpr,h1⟩ v H1 p1=>?_⟩
  have hE1:=hE.next p1.toPostT
  have hsd:=gv hds
  obtain⟨q,xs,rfl,hq,hx',hA⟩:=cw p1.rep hsd.2 hsd.1
  have len:=hx'.length
  refine⟨q,rfl,⟨xs,(aJ _ _).seq hq⟩,?_⟩
  refine gU (K:=X.K) (a:=q) (xs:=xs) (g:=gQ X.K 2 (dO [t,u])) (tb:=fun De σ H=>∃ P1,twS X.K P1 n tbd De σ H) (D:=De) (fun i σ' H'=>∃ ρ' M',EnvN X.K (PH H1 M1) n σ' ρ' H' M'/\bn (fy t u tbd) (ds.drop i) Ew ρ' M')
    ⟨ρ,M1,⟨hE1.q,Same.refl _,hE1.lσ,hE1.lρ⟩,by simpa using h1⟩ ?_ ?_ ?_
  · rintro i σ' H' _ ⟨ρ',M',hE',_⟩
    exact (aJ _ _).seq (hE'.same.seq hq)
  · rintro i y σ' H' hy ⟨ρ',M',hE',hf'⟩
    obtain⟨dy,h4,h5⟩:=hx'.getV hy
    have hi':i < ds.length:=(List.getElem?_eq_some_iff.mp h4).1
    have ed:ds.drop i=dy::ds.drop (i+1):=by
      rw[List.drop_eq_getElem_cons hi']
      have e2:ds[i]=dy:=(List.getElem?_eq_some_iff.mp h4).2
      rw[e2]
    rw[ed] at hf'
    obtain⟨d1,d2,ey⟩:=hpr dy (List.mem_of_getElem? h4)
    subst ey
    obtain⟨T,zs,rfl,hT,hz⟩:=de (ao hE'.same h5)
    refine⟨T,zs,rfl,.inl (bJ (aJ _ _) hT),by rw[hz.length];rfl,iU (ds:=[d1,d2]) hE' rfl hz fun σ2 hE3=>?_⟩
    exact⟨PH H1 M1,_,M',_,hE3,hf',iV hE1.same hl fun ρ M σ H hE h=>⟨ρ,M,hE,h⟩⟩
  · rintro σ' H' ⟨ρ',M',hE',hf'⟩
    rw[len,List.drop_length] at hf'
    exact hl.nx _ _ hf' σ' H' ⟨hE'.q,hE1.same.trans hE'.same,hE'.lσ,hE'.lρ⟩
end
end VL
namespace VL
open PySem PySem.Spec PyProof.Rows L2
structure YE (X:Cx) (e:Expr) (t:NTE):Prop where
  h:NE X e t
structure YT (X:Cx) (e:Expr) (t:NTB):Prop where
  h:NT X e t
structure YW (X:Cx) (e:Expr) (t:NTB):Prop where
  h:NW X e t
structure YA (X:Cx) (e:List Expr) (t:NTA):Prop where
  h:NA X e t
structure YS (X:Cx) (st:Stmt) (t:NTS):Prop where
  h:NS X st t
structure YSs (X:Cx) (st:List Stmt) (t:NTS):Prop where
  h:NSs X st t
structure YP (X:Cx) (pos:Pos) (keys:List (Option Expr)) (vals:List Expr) (ns:List Str) (as:FEs) (es:List Es):Prop where
  h:PPV X pos keys vals ns as es
section
variable {X:Cx} {a b c:Expr} {ta tb tc:NTE} {pos p2:Pos} {es:List Es} {fa fb:FE}
theorem ay(h:JE X a fa es):YE X a (nP fa):=⟨wl h.h⟩
theorem j4{f:ab->Option Bool}(h:JT X a f):YT X a (nPB f):=⟨wm h.h⟩
theorem mL(ha:YE X a ta)(hb:YE X b tb):YE X (.BinOp a .Add b pos) (n2 aF ta tb):=⟨wn ha.h hb.h⟩
theorem mM(ha:YE X a ta)(hb:YE X b tb):YE X (.BinOp a .Mult b pos) (n2 bc ta tb):=⟨wo ha.h hb.h⟩
variable {ka kb:NTB} {ak:List Expr}
variable {xs:List Expr} {tas:NTA}
theorem j5: YA X [] eg:=⟨wq ⟩
theorem eu(ha:YE X a ta)(hr:YA X xs tas)(hs:starEach (a::xs) X.env=(false,eval a X.env)::starEach xs X.env:=by rfl):YA X (a::xs) (cz ta tas):=⟨wu ha.h hr.h hs⟩
end
section
variable {X:Cx} {a b c:Expr} {ta tb tc:NTE} {tas:NTA} {pos p p2 ap:Pos} {k:Nat} {ps:List Str} {x m:Str} {es:List Expr} {T:NTF} {G:List D->Option D} {fr:Bool} {C:Addr} {ns:List Str}
theorem mN(d:DefN X.prog X.w X.K X.mg X.base x k ps T)(hr:Room k X.A)(ha:YA X (a::es) tas)(hg:Gl X x:=by rfl)(hdb:(x == ("__debug__" : Str))=false:=by decide)(he:starEach (a::es) X.env=(false,eval a X.env)::starEach es X.env:=by rfl)(hpl:(backTo pos (starEach es X.env)).any (·.1)=false:=by rfl):YE X (.Call (.Name x p) (a::es) [] pos) (fw T tas):=⟨wv d hr ha.h hg hdb he hpl⟩
end
section
variable {X:Cx} {a b c:Expr} {ta tb tc tv:NTE} {tas:NTA} {ka:NTB} {pos p p2 p3 ap cp:Pos} {k:Nat} {st:Stmt} {ak body bs:List Stmt} {t u:NTS} {C:Addr} {ns:List Str} {x f:Str} {i:Nat}
theorem j6: YSs X [] sN:=⟨ww ⟩
theorem bh(h1:YS X st t)(h2:YSs X ak u):YSs X (st::ak) (aP t u):=⟨wx h1.h h2.h⟩
theorem bW(h1:YS X st t):YSs X [st] t:=⟨wy h1.h⟩
theorem j7(hc:YT X c ka)(ha:YSs X body t)(hb:YSs X bs u):YS X (.If c body bs pos) (eh ka t u):=⟨wz hc.h ha.h hb.h⟩
theorem gK(he:YE X a ta):YS X (.Return (some a) pos) (di ta):=⟨wA he.h⟩
theorem bz(i:Nat)(hN:X.N.Nodup)(he:YE X a ta)(hi:X.N[i]?=some x:=by rfl)(hx:Loc X.env.scope x:=by first | exact Or.inl rfl | exact Or.inr rfl)(hs:swapsWith a (some (.Name x p2)) pos.line X.env=pure false:=by rfl)(hfn:X.fn x=true\/X.env.scope.names.lookup x=some .local:=by first | exact .inl rfl | exact .inr rfl):YS X (.Assign [.Name x p2] a pos) (bg i ta):=⟨wB i hN he.h hi hx hs hfn⟩
theorem xi(is:List Nat){ts:List Expr}{k:Nat}(hc:X.calm=true)(hN:X.N.Nodup)(he:YE X a ta)(ht:Tgs X ts is)(hn:(assignEach ts X.env).length=is.length:=by rfl)(hst:(assignEach ts X.env).findIdx? (·.1)=none:=by rfl)(hs:swapsWithSole [.Tuple ts k p2] a pos.line X.env=pure false:=by rfl)(hw:swappedStores [.Tuple ts k p2] a X.env=pure none:=by rfl)(h1:(assignEach [.Tuple ts k p2] X.env).map (·.2)=[assign (.Tuple ts k p2) X.env]:=by rfl):YS X (.Assign [.Tuple ts k p2] a pos) (gz is ta):=⟨wC is hc hN he.h ht hn hst hs hw h1⟩
end
section
variable {X:Cx} {a b c e:Expr} {ta tb tc tv ti:NTE} {tas:NTA} {ka:NTB} {pos p p2 p3 ap cp pr pn:Pos} {k:Nat} {st:Stmt} {ak body bs:List Stmt} {t u tbd:NTS} {C:Addr} {ns:List Str} {x f:Str} {i:Nat}
theorem xj(t:Nat)(hN:X.N.Nodup)(hc:X.calm=true)(hi:YE X a ta)(hb:YSs X body tbd)(hp:PassesOwn (model X.prog X.w) X.A X.env X.xe:=by exact PassesOwn.never)(hxN:X.N[t]?=some x:=by rfl)(hx:Loc X.env.scope x:=by first | exact Or.inl rfl | exact Or.inr rfl)(hfn:X.fn x=true\/X.env.scope.names.lookup x=some .local:=by first | exact .inl rfl | exact .inr rfl)(hs:∀ x,foldedSetIterable a X.env x=pure x:=by intro _;rfl):YS X (.For (.Name x p2) a body [] pos) (gA t ta tbd):=⟨wD t hN hc hi.h hb.h hp hxN hx hfn hs⟩
theorem xk(t:Nat)(hN:X.N.Nodup)(hc:X.calm=true)(mr:X.mg "range" = none)(hi:YA X [a] tas)(hb:YSs X body tbd)(hp:PassesOwn (model X.prog X.w) X.A X.env X.xe:=by exact PassesOwn.never)(hg:Gl X "range":=by rfl)(hst:starEach [a] X.env=[(false,eval a X.env)]:=by rfl)(hxN:X.N[t]?=some x:=by rfl)(hx:Loc X.env.scope x:=by first | exact Or.inl rfl | exact Or.inr rfl)(hfn:X.fn x=true\/X.env.scope.names.lookup x=some .local:=by first | exact .inl rfl | exact .inr rfl)(hs:∀ x,foldedSetIterable (.Call (.Name "range" pn) [a] [] pr) X.env x=pure x:=by intro _;rfl):YS X (.For (.Name x p2) (.Call (.Name "range" pn) [a] [] pr) body [] pos) (gB t tas tbd):=⟨wF t hN hc mr hi.h hb.h hp hg hst hxN hx hfn hs⟩
end
section
variable {X:Cx} {a:Expr} {pos p2:Pos} {keys:List (Option Expr)} {vals:List Expr} {ns:List Str} {as:FEs} {ea eb:List Es} {fa:FE} {x:Str}
end
section
variable {X:Cx} {elt tg iter a:Expr} {ifs:List Expr} {scope:Scope} {own cn:List Str} {caps:List Nat} {wi:TI} {g:TG} {tt:TT} {te:TE} {pos spos p2 pr pn:Pos} {tas:NTA} {tel:NTE} {x y:Str}
end
section
variable {X:Cx} {a b:Expr} {tas:NTA} {pos p:Pos}
end
section
variable {X:Cx} {a b c:Expr} {ta tb tc:NTE} {tas:NTA} {pos p p2 ap cp:Pos} {k:Nat} {ps:List Str} {x m:Str} {es:List Expr} {T:NTF} {G:List D->Option D} {fr:Bool} {C:Addr} {ns:List Str} {fa:FE} {ea:List Es}
end
section
variable {X:Cx} {elt tg iter a:Expr} {scope:Scope} {cn:List Str} {caps:List Nat} {pos spos p2 pr pn:Pos} {tit tel:NTE} {x y:Str}
end
section
variable {X:Cx} {a b c e:Expr} {ta tb tc tv ti:NTE} {tas:NTA} {pos p p2 p3 ap cp pr pn:Pos} {st:Stmt} {ak body bs:List Stmt} {t u tbd:NTS} {x f:Str} {i:Nat}
end
section
variable {X:Cx} {a b c e:Expr} {ta tb tit tel:NTE} {pos p p2 p3 spos:Pos} {x y:Str} {i k:Nat} {scope:Scope} {cn:List Str} {caps:List Nat} {elt tg iter:Expr}
end
section
variable {X:Cx} {o e f a:Expr} {apos cpos pos tp p2:Pos} {td ty tx:TE} {ta tv:NTE} {tas:NTA} {x1:Nat} {es:List Expr} {k:Nat} {ak:List Stmt} {t:NTS} {body:List Stmt} {tbd:NTS}
end
section
variable {X:Cx} {o e f a b kx:Expr} {apos cpos pos tp p2 p3:Pos} {td ty tx:TE} {ta tk tv:NTE} {fa fb:FE} {ea eb:List Es} {tas:NTA} {x1:Nat} {es:List Expr} {k:Nat} {ak:List Stmt} {t:NTS} {body:List Stmt} {tbd:NTS} {x:Str}
theorem xl(hr:Room k X.A)(ha:JE X a fa ea)(hb:JE X b fb eb):YE X (.Dict [some a] [b] pos) (gC fa fb):=⟨wV hr ha.h hb.h⟩
theorem xm: YE X (.Dict [] [] pos) gD:=⟨wW ⟩
theorem mO(hr:Room k X.A)(ha:YE X a ta)(hk:YE X kx tk)(hs:fS kx):YE X (.Subscript a kx pos) (fA ta tk):=⟨wX hr ha.h hk.h hs⟩
theorem xn(hr:Room k X.A)(ha:YE X a ta)(hk:YE X kx tk)(hf:YE X f tv)(m:M2 X a "get" apos kx f cpos):YE X (.Call (.Attribute a "get" apos) [kx,f] [] cpos) (gE ta tk tv):=⟨wY hr ha.h hk.h hf.h m⟩
theorem xo(hr:Room k X.A)(ha:YE X a ta)(hk:YE X kx tk)(hv:YE X b tv)(hs:swapsWith b (some (.Subscript a kx p2)) pos.line X.env=pure false:=by rfl):YS X (.Assign [.Subscript a kx p2] b pos) (gF ta tk tv):=⟨wZ hr ha.h hk.h hv.h hs⟩
theorem xp(i:Nat)(h:YSs X ak t):YSs X ak (aP (gG i) t):=⟨xa i h.h⟩
theorem mP(t:Nat)(hN:X.N.Nodup)(hc:X.calm=true)(hi:YE X a ta)(hb:YSs X body tbd)(hp:PassesOwn (model X.prog X.w) X.A X.env X.xe:=by exact PassesOwn.never)(hxN:X.N[t]?=some x:=by rfl)(hx:Loc X.env.scope x:=by first | exact Or.inl rfl | exact Or.inr rfl)(hfn:X.fn x=true\/X.env.scope.names.lookup x=some .local:=by first | exact .inl rfl | exact .inr rfl)(hs:∀ x,foldedSetIterable a X.env x=pure x:=by intro _;rfl):YS X (.For (.Name x p2) a body [] pos) (fB t ta tbd):=⟨xg t hN hc hi.h hb.h hp hxN hx hfn hs⟩
theorem xq(t u:Nat){tes:List Expr}{k:Nat}(hN:X.N.Nodup)(hc:X.calm=true)(hi:YE X a ta)(hb:YSs X body tbd)(htg:Tgs X tes [t,u])(hp:PassesOwn (model X.prog X.w) X.A X.env X.xe:=by exact PassesOwn.never)(hn:(assignEach tes X.env).length=2:=by rfl)(hsx:(assignEach tes X.env).findIdx? (·.1)=none:=by rfl)(hs:∀ x,foldedSetIterable a X.env x=pure x:=by intro _;rfl):YS X (.For (.Tuple tes k p2) a body [] pos) (gH t u ta tbd):=⟨xh t u hN hc hi.h hb.h htg hp hn hsx hs⟩
end
section
variable {P:Program} {w:World} {K:PySem.W.Frag} {mg:Str->Option Value} {base:Heap} {x:Str} {k:Nat} {ps:List Str}
theorem j8{qual:Str}{st:Stmt}{f:Addr}{fd:FuncData}{N:List Str}{np n:Nat}{body:NTS}{T:NTF}(h1:ps.length=np)(h2:N.length=n)(h3:T=mkN np n body)(Fn:Fun K x qual st f fd)(S:FnScope N ps (am st))(h:∀ (cdv:Value) (A:Around) (outer:List PySem.Env) (s:Shared) (H:Hp) (E:XK),Room k (A.deeper (envOfC qual (am st) s.heap.objs.size f cdv)) ->
      YSs (bP CX0 P w K mg base N qual (am st) f cdv A outer s H E).nox (aL st) body):
    FnOk P w K mg base CX0 (k+1) f fd ps (spN K T):=wG h1 h2 h3 Fn S fun cdv A outer s H E hr=>(h cdv A outer s H E hr).h
end
end VL
namespace VL
open PySem (Str)
open L2 (atI ixN)
section
variable {ρ:ab} {M:Sto} {Q:QE} {QB:Bool->Sto->Prop} {QL:List D->Sto->Prop} {ta tb tv ti:NTE} {tas:NTA} {ka kb:NTB} {f:FE} {fb:ab->Option Bool} {as:FEs} {g:D->D->Option D} {g1:D->Option D} {G:List D->Option D} {T:NTF} {C i t:Nat} {ns:List Str} {E:EndN} {u v w:NTS} {is caps:List Nat}
theorem xr(h:WE f ρ fun d=>Q d M):nP f ρ M Q:=h
theorem xt(h:WB fb ρ fun b=>QB b M):nPB fb ρ M QB:=h
theorem xu(h:ta ρ M fun x M1=>tb ρ M1 fun y M2=>W2 g x y fun d=>Q d M2):n2 g ta tb ρ M Q:=h
theorem xv(h:QL [] M):eg ρ M QL:=h
theorem xw(h:ta ρ M fun x M1=>tas ρ M1 fun xs M2=>QL (x::xs) M2):cz ta tas ρ M QL:=h
theorem xx(h:tas ρ M fun ds M1=>T ds M1 Q):fw T tas ρ M Q:=h
theorem j9{np n:Nat}{ds:List D}(hl:ds.length=np)(h:u { nx:=fun _ M'=>Q .non M',rt:=Q } (ds.map some++List.replicate (n - np) none) M):mkN np n u ds M Q:=⟨hl,h⟩
theorem xy(h:E.nx ρ M):sN E ρ M:=h
theorem xz(h:u { E with nx:=fun ρ M=>v E ρ M } ρ M):aP u v E ρ M:=h
theorem xA(h:ka ρ M fun b M1=>kIf b (u E ρ M1) (v E ρ M1)):eh ka u v E ρ M:=h
theorem xB(h:ta ρ M E.rt):di ta E ρ M:=h
theorem xC(h:ta ρ M fun d M1=>E.nx (ρ.set i (some d)) M1):bg i ta E ρ M:=h
theorem xD(h:ta ρ M fun d M1=>∃ ds,d=.tup ds/\ds.length=is.length/\E.nx ((is.zip ds).foldl (fun r p=>r.set p.1 (some p.2)) ρ) M1):gz is ta E ρ M:=h
theorem xE(h:tas ρ M fun ds M1=>∃ j,ds=[.int j]/\okR j/\bn (fun x E ρ M=>u E (ρ.set t (some x)) M) ((List.range j.toNat).map fun k=>.int (k:Nat)) E ρ M1):gB t tas u E ρ M:=h
theorem xF(h:ta ρ M fun d M1=>∃ ds,b5 d=some ds/\bn (fun x E ρ M=>u E (ρ.set t (some x)) M) ds E ρ M1):gA t ta u E ρ M:=h
theorem xG{fk fv:FE}(h:WE fk ρ fun x=>WE fv ρ fun y=>∃ ks n,x=aQ ks/\y=.int n/\∀ a,M a=none->Q (.ptr a) (b6 M a (.dcL true [(ks,n)]))):gC fk fv ρ M Q:=h
theorem xH(h:∀ a,M a=none->Q (.ptr a) (b6 M a (.dcL false []))):gD ρ M Q:=h
theorem xI(h:ta ρ M fun x M1=>ti ρ M1 fun y M2=>∃ a fz ps ks w,x=.ptr a/\y=aQ ks/\M2 a=some (.dcL fz ps)/\bo ps ks=some w/\Q (.int w) M2):fA ta ti ρ M Q:=h
theorem xJ(h:ta ρ M fun x M1=>∃ a fz ps,x=.ptr a/\M1 a=some (.dcL fz ps)/\ti ρ M1 fun y M2=>tv ρ M2 fun z M3=>∃ fz ps ks w,y=aQ ks/\z=.int w/\M3 a=some (.dcL fz ps)/\Q (.int ((bo ps ks).getD w)) M3):gE ta ti tv ρ M Q:=h
theorem xK(h:tv ρ M fun z M1=>ta ρ M1 fun x M2=>ti ρ M2 fun y M3=>∃ a ps ks w,x=.ptr a/\y=aQ ks/\z=.int w/\M3 a=some (.dcL false ps)/\ps.length < 10000000/\E.nx ρ (b6 M3 a (.dcL false (bB ps ks w)))):gF ta ti tv E ρ M:=h
theorem xL{a:Nat}{ps:List (List Int × Int)}(hv:aa i ρ=some (.ptr a))(hm:M a=some (.dcL false ps))(h:E.nx ρ (b6 M a (.dcL true ps))):gG i E ρ M:=⟨a,ps,hv,hm,h⟩
theorem xM(h:ta ρ M fun x M1=>∃ a ps,x=.ptr a/\bV (fun k E ρ M=>u E (ρ.set t (some (aQ k))) M) a ps (ps.map (·.1)) E ρ M1):fB t ta u E ρ M:=h
theorem xN{t':Nat}(h:ta ρ M fun d M1=>∃ ds,b5 d=some ds/\(∀ x ∈ ds,∃ p q,x=.tup [p,q])/\bn (fy t t' u) ds E ρ M1):gH t t' ta u E ρ M:=h
theorem xO{a b c:ab->Sto->Prop}{d:D->Sto->Prop}(h:a ρ M):EndN.nx ⟨a,d,b,c⟩ ρ M:=h
theorem xP{a b c:ab->Sto->Prop}{d:D->Sto->Prop}{x:D}(h:d x M):EndN.rt ⟨a,d,b,c⟩ x M:=h
theorem ja{α:Type}{body:D->NTS}(enc:α->D)(xs:List α)(I:Nat->ab->Sto->Prop)(h0:I 0 ρ M)(he:∀ ρ M,I xs.length ρ M->E.nx ρ M)(hs:∀ k (hk:k < xs.length) ρ M,I k ρ M->∀ N:ab->Sto->Prop,(∀ ρ M,I (k+1) ρ M->N ρ M)->body (enc xs[k]) { E with nx:=N,ct:=N,bk:=E.nx } ρ M):bn body (xs.map enc) E ρ M:=by
  have gen:∀ (m k:Nat),m=xs.length - k->k<=xs.length->∀ ρ M,I k ρ M->bn body ((xs.drop k).map enc) E ρ M:=by
    intro m
    induction m with
    | zero =>
      intro k hm hk ρ M h
      have:k=xs.length:=by omega
      subst this
      rw[List.drop_length]
      exact he ρ M h
    | succ m ih =>
      intro k hm hk ρ M h
      have hlt:k < xs.length:=by omega
      rw[List.drop_eq_getElem_cons hlt,List.map_cons]
      exact hs k hlt ρ M h _ fun ρ M z=>ih (k+1) (by omega) hlt ρ M z
  simpa using gen xs.length 0 (by simp) (Nat.zero_le _) ρ M h0
theorem mQ{body:List Int->NTS}{a:Nat}(ps:List (List Int × Int))(I:Nat->ab->Sto->Prop)(hI:∀ k ρ M,I k ρ M->M a=some (.dcL true ps))(h0:I 0 ρ M)(he:∀ ρ M,I ps.length ρ M->E.nx ρ M)(hs:∀ k (hk:k < ps.length) ρ M,I k ρ M->∀ N:ab->Sto->Prop,(∀ ρ M,I (k+1) ρ M->N ρ M)->body ps[k].1 { E with nx:=N,ct:=N,bk:=E.nx } ρ M):bV body a ps (ps.map (·.1)) E ρ M:=by
  have gen:∀ (m k:Nat),m=ps.length - k->k<=ps.length->∀ ρ M,I k ρ M->bV body a ps ((ps.drop k).map (·.1)) E ρ M:=by
    intro m
    induction m with
    | zero =>
      intro k hm hk ρ M h
      have:k=ps.length:=by omega
      subst this
      rw[List.drop_length]
      exact⟨hI _ ρ M h,he ρ M h⟩
    | succ m ih =>
      intro k hm hk ρ M h
      have hlt:k < ps.length:=by omega
      rw[List.drop_eq_getElem_cons hlt,List.map_cons]
      exact⟨hI _ ρ M h,hs k hlt ρ M h _ fun ρ M z=>ih (k+1) (by omega) hlt ρ M z⟩
  simpa using gen ps.length 0 (by simp) (Nat.zero_le _) ρ M h0
end
def Kp(S:Nat->Prop)(M M':Sto):Prop:=∀ b c,M b=some c->¬ S b->M' b=some c
theorem Kp.refl{S:Nat->Prop}{M:Sto}:Kp S M M:=fun _ _ h _=>h
theorem Kp.trans{S S':Nat->Prop}{M M1 M2:Sto}(a:Kp S M M1)(b:Kp S' M1 M2)(h:∀ x,S' x->M x ≠ none->S x):Kp S M M2:=fun x c e n=>b x c (a x c e n) fun z=>n (h x z (by rw[e];exact fun q=>nomatch q))
theorem Kp.upd{S:Nat->Prop}{M:Sto}{a:Nat}{c:Cell}(h:S a\/M a=none):Kp S M (b6 M a c):=fun b d e n=>by
  by_cases q:b=a
  · subst q;rcases h with h | h
    · exact absurd h n
    · rw[h] at e;cases e
  · rw[cR q];exact e
end VL
namespace VL
namespace My
open PySem (Str)
open L2 (atI ixN)
local macro_rules | `(tactic| walk_at "env")=>`(tactic| (simp only[List.set_cons_zero,List.set_cons_succ,List.map_cons,List.map_nil,List.cons_append,List.nil_append,List.replicate_succ,List.replicate_zero,Nat.reduceSub,Nat.reduceAdd,List.zip_cons_cons,List.zip_nil_left,List.zip_nil_right,List.foldl_cons,List.foldl_nil,aA,aN,List.getElem?_cons_zero,List.getElem?_cons_succ,Option.getD_some,Option.getD_none]))
local macro_rules | `(tactic| walk_at "side")=>`(tactic| first | assumption | exact vK (by omega) (by omega) | exact vL (by omega) (by omega) | exact okMul_m (iN (by omega) (by omega)) (iN (by omega) (by omega)) | exact vN (by omega) | exact vM (by omega) (iN (by omega) (by omega)) | exact md (by omega) (by omega) (by omega) (by omega) | omega)
local macro_rules | `(tactic| walk_at "run1")=>`(tactic| first
  | (with_reducible refine uJ ?_) | (with_reducible refine uI ?_) | (with_reducible refine v3 ?_) | ((with_reducible refine' uH ?h ?_);(case h=>exact rfl)) | (with_reducible refine uL ?_) | (with_reducible refine uM ?_)
  | ((with_reducible refine uN ?h ?_);(case h=>walk_at "side")) | ((with_reducible refine uO ?h ?_);(case h=>walk_at "side")) | ((with_reducible refine uP ?h ?_);(case h=>walk_at "side")) | ((with_reducible refine uR ?h (fun v hv=>?_));(case h=>walk_at "side");(simp only[Int.reduceToNat,Int.reducePow] at hv);(subst hv))
  | (with_reducible exact rfl) | (with_reducible refine uS ?_) | (with_reducible refine uT ?_) | (with_reducible refine uU ?_) | (with_reducible refine uW ?_) | (with_reducible refine uX ?_) | (with_reducible refine uK ?_) | (with_reducible refine uV ?_)
  | (with_reducible refine uZ ?_) | (with_reducible refine v1 ?_) | (with_reducible refine v7 ?_) | (with_reducible refine v8 ?_)
  | (with_reducible refine vc ?_) | (with_reducible refine vd ?_) | (with_reducible refine vf ?_) | (with_reducible refine vg ?_) | (with_reducible refine vh ?_)
  | (with_reducible refine vj ?_) | (with_reducible refine vi ?_) | (with_reducible refine vk ?_) | (with_reducible refine vm ?_) | (with_reducible refine vn ?_) | ((with_reducible refine v4 ?_);(try walk_at "env")) | (with_reducible refine v5 ?_) | (with_reducible refine v6 ?_) | (with_reducible refine vB ?_)
  | (with_reducible refine vp ?_) | (with_reducible refine vq ?_) | (with_reducible refine v9 ?_) | (with_reducible refine lZ ?_) | (with_reducible refine va ?_) | (with_reducible refine vt ?_)
  | (with_reducible refine vQ ?_) | (with_reducible refine vR ?_)
  | ((with_reducible refine vP ?h ?_);(case h=>first | exact Nat.le_of_ble_eq_true rfl | decide | (simp;done) | (simp;omega))) | ((with_reducible refine mh ?h ?_);(case h=>first | exact Nat.le_of_ble_eq_true rfl | decide | (simp;done) | (simp;omega)))
  | ((with_reducible refine And.intro ?h ?_);(case h=>first | exact Nat.le_of_ble_eq_true rfl | exact rfl | (with_reducible show ¬ (HT.sIx _ _ _=_/\_);simp[HT.sIx];done))) | ((with_reducible refine Exists.intro _ (And.intro rfl ?_))) | ((with_reducible refine Exists.intro _ (And.intro (seqD_lst _) ?_))) | ((with_reducible refine Exists.intro _ (And.intro (seqD_scr _) ?_))) | (with_reducible refine vC ?_) | (with_reducible refine vD ?_) | (with_reducible refine vE ?_) | ((with_reducible refine' wg ?h ?_);(case h=>exact rfl)) | (with_reducible refine vF ?_) | (with_reducible refine vG ?_) | (with_reducible refine vH ?_) | (with_reducible refine vV ?_) | (with_reducible refine vW ?_) | (with_reducible refine vX ?_) | (with_reducible refine vU ?_) | (with_reducible refine vY ?_)
  | ((with_reducible refine' uY ?h ?_);(case h=>exact rfl)))
local macro_rules | `(tactic| walk_at "run")=>`(tactic| repeat (first | walk_at "run1" | walk_at "call"))
local macro_rules | `(tactic| walk_at "all")=>`(tactic| (walk_at "run";try ((with_reducible first | refine fu (fun h=>?_) (fun h=>?_) | refine lY (fun h=>?_) (fun h=>?_)) <;> walk_at "all")))
local macro_rules | `(tactic| walk_at "leaf")=>`(tactic| first | omega | exact congrArg D.bl (decide_eq_decide.mpr (by omega)) | exact congrArg D.bl (decide_eq_false (by omega)).symm | exact congrArg D.bl (decide_eq_true (by omega)).symm)
local macro_rules | `(tactic| walk_at "n1")=>`(tactic| first
  | (with_reducible refine xr ?_) | (with_reducible refine xt ?_) | (with_reducible refine xu ?_)
  | fail
  | (with_reducible refine xv ?_) | (with_reducible refine xw ?_) | (with_reducible refine xx ?_)
  | (with_reducible refine xy ?_) | (with_reducible refine xz ?_) | (with_reducible refine xA ?_) | (with_reducible refine xB ?_) | (with_reducible refine xC ?_)
  | (with_reducible refine xD ?_)
  | (with_reducible refine xE ?_) | (with_reducible refine xF ?_) | (with_reducible refine xG ?_) | (with_reducible refine xH ?_) | (with_reducible refine xI ?_) | (with_reducible refine xJ ?_) | (with_reducible refine xK ?_) | (with_reducible refine xM ?_) | (with_reducible refine xN ?_)
  | fail
  | ((with_reducible refine xO ?_);(try walk_at "env")) | (with_reducible refine xP ?_))
local macro_rules | `(tactic| walk_at "call")=>`(tactic| walk_at "n1")
local macro_rules | `(tactic| walk_at "call")=>`(tactic| first
  | fail
  | fail
  | fail)
def jb:FS:=aU (eA (be cb) (ah (aa 0) (au)))
def mR:List D->Option D:=mkF false 1 1 jb
abbrev fC:List D->Option D:=scF mR
def jc:FS:=aE (aG 3 (e2 dL (aV 1 [2] [0] un1 (da (aa 0)) bt (e2 bc (aa 0) (aa 1))) (bE (ah (eC (.int 0)) (au))))) (aE (aG 4 (e2 dL (bE (ah (eC (.int 0)) (au))) (aV 1 [1] [0] un1 (da (aa 0)) bt (e2 bc (aa 0) (aa 1))))) (aU (aV 2 [] [0,1] (unT 2) (dW (aa 3) (aa 4)) bt (e2 aF (aa 0) (aa 1)))))
def mS:List D->Option D:=mkF true 3 5 jc
abbrev fD:List D->Option D:=mS
def jd:FS:=aE (aG 3 (bE (ah (eC (.int 1)) (au)))) (aE (dP 4 (aa 1) (aE (aG 5 (eA (be cb) (ah (aV 2 [2] [0,1] (unT 2) (dW (aa 0) (aa 4)) (eT (e2 geI (aa 0) (aa 2))) (aa 1)) (au)))) (aG 3 (eA fD (ah (aa 3) (ah (aa 5) (ah (e2 cD (eA fC (ah (aa 4) (au))) (aa 5)) (au)))))))) (aU (eL (aa 3))))
def mT:List D->Option D:=mkF true 3 6 jd
abbrev fE:List D->Option D:=mT
def je:FS:=aU (eA (be cb) (ah (aV 2 [0] [0,1] (unT 2) (dU (aa 1)) bt (e2 bc (aa 1) (eA (d7 d8) (ah (aa 0) (ah (aa 2) (au)))))) (au)))
def mU:List D->Option D:=mkF false 2 2 je
abbrev fF:List D->Option D:=scF mU
def jf:FS:=aE (aG 3 (eC (.int 0))) (aE (aG 4 (eC (.int 0))) (aE (dP 5 (e1 (dX false) (aa 1)) (aE (aG 3 (e2 aF (aa 3) (e2 bc (e2 cD (aa 5) (aa 4)) (eA fF (ah (aa 0) (ah (eA fE (ah (aa 1) (ah (aa 2) (ah (aa 5) (au))))) (au))))))) (aG 4 (aa 5)))) (aU (aa 3))))
def mV:List D->Option D:=mkF false 3 6 jf
abbrev gL:List D->Option D:=scF mV
def jh:FS:=aE (sIf (eT (e2 ltI (aa 1) (eA (be cH) (ah (aa 0) (au))))) (aU (e2 ixD (aa 0) (aa 1))) (d9)) (aU (eC (.int 0)))
def mW:List D->Option D:=mkF false 2 2 jh
abbrev dj:List D->Option D:=scF mW
def ji:FS:=aE (aG 2 (e2 aF (e2 bc (e2 aF (e2 b3 (aa 0) (eC (.int 9999999929))) (eC (.int 313))) (e2 aF (e2 bc (eC (.int 6)) (aa 1)) (eC (.int 13)))) (e2 bc (e2 bc (eC (.int 2003)) (aa 1)) (aa 1)))) (aU (e2 bA (e2 b3 (e2 cE (aa 2) (eC (.int 3))) (eC (.int 99999999947))) (eC (.int 47))))
def mX:List D->Option D:=mkF false 2 3 ji
abbrev cS:List D->Option D:=scF mX
def jj:FS:=aE (aG 3 (eA cS (ah (aa 0) (ah (aa 1) (au))))) (aE (sIf (cF (aa 2)) (aU (e2 aF (eC (.int 1)) (e2 b3 (aa 0) (e2 cE (eC (.int 10)) (eC (.int 6)))))) (d9)) (aU (e2 ixD (bE (ah (e2 aF (eC (.int 1)) (e2 b3 (e2 bA (aa 3) (eC (.int 8))) (eC (.int 10)))) (ah (e2 aF (eC (.int 1)) (e2 b3 (e2 bA (aa 3) (eC (.int 8))) (eC (.int 10)))) (ah (e2 cE (eC (.int 10)) (eC (.int 6))) (ah (e2 aF (eC (.int 1)) (e2 b3 (e2 bA (aa 3) (eC (.int 8))) (e2 cE (eC (.int 10)) (eC (.int 6))))) (au)))))) (e2 b3 (aa 3) (eC (.int 4))))))
def mY:List D->Option D:=mkF false 3 4 jj
abbrev fG:List D->Option D:=scF mY
def jk:FS:=aE (aG 3 (eA cS (ah (aa 0) (ah (aa 1) (au))))) (aE (sIf (cF (aa 2)) (aU (e2 b3 (aa 0) (eC (.int 1001)))) (d9)) (aU (e2 ixD (bE (ah (eC (.int 0)) (ah (e2 b3 (e2 bA (aa 3) (eC (.int 8))) (eC (.int 4))) (ah (e2 b3 (e2 bA (aa 3) (eC (.int 8))) (eC (.int 4))) (ah (e2 b3 (e2 bA (aa 3) (eC (.int 8))) (eC (.int 10))) (ah (e2 b3 (e2 bA (aa 3) (eC (.int 8))) (eC (.int 1001))) (ah (eC (.int 1000)) (ah (eC (.int 1)) (ah (eC (.int 0)) (au)))))))))) (e2 b3 (aa 3) (eC (.int 8))))))
def mZ:List D->Option D:=mkF false 3 4 jk
abbrev fH:List D->Option D:=scF mZ
def jl:FS:=aE (aG 1 (eA dj (ah (aa 0) (ah (eC (.int 0)) (au))))) (aE (aG 2 (e2 aF (eC (.int 1)) (e2 b3 (e2 bA (aa 1) (eC (.int 99))) (eC (.int 6))))) (aE (aG 3 (e2 eqD (e2 b3 (e2 bA (aa 1) (eC (.int 594))) (eC (.int 2))) (eC (.int 1)))) (aE (aG 4 (aV 1 [0,3] [0] un1 (iR1 (ah (aa 2) (au))) bt (eA fG (ah (eA dj (ah (aa 1) (ah (e2 aF (eC (.int 1)) (aa 0)) (au)))) (ah (aa 0) (ah (aa 2) (au))))))) (aE (aG 5 (bE (au))) (aE (dQ 6 (ah (e2 b3 (e2 bA (aa 1) (eC (.int 11))) (eC (.int 9))) (au)) (aE (aG 7 (bE (au))) (aE (dQ 8 (ah (e2 aF (aa 2) (eC (.int 1))) (au)) (dN 7 (eA fH (ah (eA dj (ah (aa 0) (ah (e2 aF (e2 aF (eC (.int 7)) (e2 bc (aa 6) (e2 aF (aa 2) (eC (.int 1))))) (aa 8)) (au)))) (ah (e2 aF (e2 aF (eC (.int 10)) (e2 bc (eC (.int 7)) (aa 6))) (aa 8)) (ah (aa 3) (au))))))) (aE (sIf (eT (e2 eqD (eA (be cb) (ah (aa 7) (au))) (eC (.int 0)))) (eW 7 (e1 d6 (eC (.int 1))) (e2 aF (eC (.int 1)) (aa 6))) (d9)) (dN 5 (aa 7)))))) (aU (cG (ah (e2 b3 (aa 1) (eC (.int 11))) (ah (aa 4) (ah (aa 5) (au)))))))))))
def n0:List D->Option D:=mkF false 1 9 jl
abbrev gM:List D->Option D:=n0
def jm:NTS:=aP (bg 3 (nP (eC (.int 0)))) (aP (bg 4 (nP (aa 2))) (aP (gH 5 6 (nP (e1 fh (aV 2 [] [0,1] (unT 2) (dU (aa 0)) bt (cG (ah (e2 cD (eC (.int 0)) (aa 1)) (ah (aa 0) (au))))))) (aP (bg 7 (nP (eA (d7 d8) (ah (aa 4) (ah (e2 ixD (aa 1) (aa 6)) (au)))))) (aP (bg 3 (nP (e2 cD (aa 3) (e2 bc (aa 5) (aa 7))))) (bg 4 (nP (e2 cD (aa 4) (aa 7))))))) (di (nP (aa 3)))))
def fI:NTF:=mkN 3 8 (jm)
def jn:NTS:=aP (bg 2 (gC (e2 fj (cG (ah (eC (.int 0)) (au))) (aa 1)) (eC (.int 1)))) (aP (gA 3 (nP (aa 0)) (aP (bg 4 (gD)) (aP (fB 5 (nP (aa 2)) (gB 6 (cz (nP (e2 aF (aa 1) (eC (.int 1)))) (eg)) (eh (nPB (eT (e2 gtI (e2 ixD (aa 3) (aa 6)) (eC (.int 0))))) (aP (bg 7 (nP (aa 5))) (aP (eh (nPB (eT (e2 ltI (aa 6) (aa 1)))) (bg 7 (nP (e2 dR (e2 dR (dS (aa 5) (eR) (dJ (aa 6))) (cG (ah (e2 aF (e2 ixD (aa 5) (aa 6)) (eC (.int 1))) (au)))) (dS (aa 5) (dJ (e2 aF (aa 6) (eC (.int 1)))) (eR))))) (sN)) (gF (nP (aa 4)) (nP (aa 7)) (n2 aF (gE (nP (aa 4)) (nP (aa 7)) (nP (eC (.int 0)))) (n2 bc (fA (nP (aa 2)) (nP (aa 5))) (nP (e2 ixD (aa 3) (aa 6)))))))) (sN)))) (aP (gG 4) (bg 2 (nP (aa 4))))))) (di (nP (aa 2))))
def fJ:NTF:=mkN 2 8 (jn)
def jo:NTS:=aP (gz [1,2,3] (nP (eA gM (ah (aa 0) (au))))) (aP (bg 4 (nP (eC (.int 0)))) (aP (bg 5 (fw (fJ) (cz (nP (aa 3)) (cz (nP (eA (be cH) (ah (aa 2) (au)))) (eg))))) (aP (fB 6 (nP (aa 5)) (bg 4 (n2 aF (nP (aa 4)) (n2 bc (fA (nP (aa 5)) (nP (aa 6))) (fw (fI) (cz (nP (aa 2)) (cz (nP (aa 6)) (cz (nP (aa 1)) (eg))))))))) (aP (bg 7 (nP (bE (ah (e1 eU (aa 2)) (ah (aV 1 [] [0] un1 (da (aa 3)) bt (e1 eU (aa 0))) (au)))))) (aP (bg 8 (nP (eA gL (ah (aa 1) (ah (e2 ixD (aa 7) (eC (.int 0))) (ah (e2 ixD (aa 7) (eC (.int 1))) (au))))))) (aP (eh (nPB (bOr (dI (cF (e1 (cN "int") (aa 8)))) (bOr (cF (e1 (cN "bool") (aa 8))) (eT (e2 neD (aa 8) (aa 4)))))) (di (nP (eC (.bl false)))) (sN)) (di (nP (e2 eqD (aa 7) (bE (ah (aa 2) (ah (aa 3) (au)))))))))))))
def jp:NTF:=mkN 1 9 (jo)
theorem xQ{ns:List Int}{k:Int}(h0:0<=k):WF dj [.scr ns,.int k] fun d=>∃ x,d=.int x:=by
  refine dh (ck rfl ?_)
  unfold jh
  walk_at "env"
  walk_at "run"
  refine fu (fun h=>?_) (fun h=>?_)
  · walk_at "run"
    refine vZ h0 h ?_
    walk_at "run"
    exact⟨_,rfl⟩
  · walk_at "run"
    exact⟨_,rfl⟩
local macro_rules | `(tactic| walk_at "call")=>`(tactic| (with_reducible refine fo (xQ (by omega)) ?_);rintro _ ⟨x,e⟩;subst e)
theorem xR{c k:Int}(h0:0<=k)(h1:k<=1000):d5 ((c % 9999999929+313) * (6 * k+13)+2003 * k * k) 3:=by
  have a1:(c % 9999999929+313) * (6 * k+13)<=10000000242 * 6013:=Int.mul_le_mul (by omega) (by omega) (by omega) (by omega)
  have a2:0<=(c % 9999999929+313) * (6 * k+13):=Int.mul_nonneg (by omega) (by omega)
  have b1:2003 * k * k<=2003000 * 1000:=Int.mul_le_mul (by omega) (by omega) (by omega) (by omega)
  have b2:0<=2003 * k * k:=Int.mul_nonneg (by omega) (by omega)
  exact md (by omega) (by omega) (by omega) (by omega)
theorem xS{c k:Int}(h0:0<=k)(h1:k<=1000):WF cS [.int c,.int k] fun d=>∃ x,d=.int x/\0<=x/\x < 2127659575:=by
  refine dh (ck rfl ?_)
  unfold ji
  walk_at "env"
  walk_at "run"
  refine uQ (xR h0 h1) ?_
  generalize ((c % 9999999929+313) * (6 * k+13)+2003 * k * k) ^ (3:Int).toNat=z
  walk_at "run"
  omega
local macro_rules | `(tactic| walk_at "call")=>`(tactic| (with_reducible refine fo (xS (by omega) (by omega)) ?_);rintro _ ⟨x,e,hx0,hx1⟩;subst e)
theorem xT{c k:Int}{j:Bool}(h0:0<=k)(h1:k<=1000):WF fG [.int c,.int k,.bl j] fun d=>∃ x,d=.int x/\1<=x/\x<=1000000:=by
  refine dh (ck rfl ?_)
  unfold jj
  walk_at "env"
  walk_at "run"
  cases j
  · walk_at "run"
    refine mf 1 1000000 (by omega) (by show _ < (4:Int);omega) (by simp only[AllI,and_true];omega) fun v h1 h2=>?_
    walk_at "run"
    exact⟨h1,h2⟩
  · walk_at "run"
    omega
theorem xU{c k:Int}{j:Bool}(h0:0<=k)(h1:k<=1000):WF fH [.int c,.int k,.bl j] fun d=>∃ x,d=.int x/\0<=x/\x<=1000:=by
  refine dh (ck rfl ?_)
  unfold jk
  walk_at "env"
  walk_at "run"
  cases j
  · walk_at "run"
    refine mf 0 1000 (by omega) (by show _ < (8:Int);omega) (by simp only[AllI,and_true];omega) fun v h1 h2=>?_
    walk_at "run"
    exact⟨h1,h2⟩
  · walk_at "run"
    omega
structure SaleOk (seats:Int) (fares:List Int) (turns:List (List Int)):Prop where
  s0:0<=seats
  s1:seats<=10
  f0:1<=fares.length
  f1:fares.length<=6
  f:∀ x ∈ fares,1<=x/\x<=1000000
  t:turns.length<=8
  r:∀ r ∈ turns,r.length=fares.length+1/\(∀ x ∈ r,0<=x/\x<=1000)/\0 < r.sum
theorem xV(ns:List Int):WF gM [.scr ns] fun d=>∃ seats fares turns,d=.tup [.int seats,DI fares,DII turns]/\SaleOk seats fares turns:=by
  refine ck rfl ?_
  unfold jl
  walk_at "env"
  walk_at "run"
  refine vJ (α:=Nat) (fun x=>1<=x/\x<=1000000) ?_
  walk_at "run"
  refine⟨⟨by omega,by omega⟩,_,_,rfl,by simp;omega,fun x hx=>⟨_,rfl,?_⟩,fun fares hl hf=>?_⟩
  · have hx:=List.mem_range.mp hx
    walk_at "env"
    walk_at "run"
    refine fo (xT (by omega) (by omega)) ?_
    rintro _ ⟨x,rfl,h1,h2⟩
    exact⟨x,rfl,h1,h2⟩
  walk_at "run"
  rename_i first
  rw[List.length_range] at hl
  refine⟨⟨by omega,by omega⟩,?_⟩
  refine gx _ _ (fun k ρ=>∃ turns o6 o7 o8,ρ=[some (.scr ns),some (.int first),some (.int (1+first / 99 % 6)),some (.bl (decide (first / 594 % 2=1))),some (DI fares),some (DII turns),o6,o7,o8]/\turns.length=k /\
    ∀ r ∈ turns,r.length=fares.length+1/\(∀ x ∈ r,0<=x/\x<=1000)/\0 < r.sum) ⟨[],_,_,_,rfl,rfl,fun _ h=>nomatch h⟩ ?_ ?_
  · rintro ρ ⟨turns,o6,o7,o8,rfl,ht,hr⟩
    walk_at "run"
    rw[List.length_range] at ht
    exact⟨_,fares,turns,rfl,by omega,by omega,by omega,by omega,hf,by omega,hr⟩
  · rintro k hk ρ ⟨turns,o6,o7,o8,rfl,ht,hr⟩
    rw[List.length_range] at hk
    simp only[List.getElem_range]
    walk_at "env"
    walk_at "run"
    refine⟨⟨by omega,by omega⟩,?_⟩
    refine gx _ _ (fun j ρ=>∃ row o8,ρ=[some (.scr ns),some (.int first),some (.int (1+first / 99 % 6)),some (.bl (decide (first / 594 % 2=1))),some (DI fares),some (DII turns),some (.int (k:Nat)),some (DI row),o8]/\row.length=j /\
      ∀ x ∈ row,0<=x/\x<=1000) ⟨[],_,rfl,rfl,fun _ h=>nomatch h⟩ ?_ ?_
    · rintro ρ ⟨row,o8,rfl,hlr,hx⟩
      rw[List.length_range] at hlr
      walk_at "run"
      have hlr':row.length=fares.length+1:=by omega
      refine fu (fun h=>?_) (fun h=>?_)
      · refine vo (ds:=row.map .int) (k:=-1) (j:=0) rfl ?_
        walk_at "run"
        refine⟨-1,row.length - 1,rfl,?_,?_⟩
        · rw[List.length_map];exact w9 (by omega)
        · rw[<- List.map_set (f:=D.int)]
          walk_at "run"
          refine iL rfl (by simp;omega) ?_
          walk_at "run"
          walk_at "env"
          rw[mw]
          refine⟨turns++[row.set (row.length - 1) (1+(k:Int))],_,_,_,rfl,by simp[ht],fun r hr'=>?_⟩
          rcases List.mem_append.mp hr' with hr' | hr'
          · exact hr r hr'
          · rw[List.mem_singleton] at hr'
            subst hr'
            have hb:∀ x ∈ row.set (row.length - 1) (1+(k:Int)),0<=x/\x<=1000:=fun x hx'=>by
              rcases List.mem_or_eq_of_mem_set hx' with q | q
              · exact hx x q
              · omega
            refine⟨by simp[hlr'],hb,mq (y:=1+(k:Int)) (fun x hx=>(hb x hx).1) (List.mem_set (by omega) _) (by omega)⟩
      · walk_at "run"
        refine iL rfl (by simp;omega) ?_
        walk_at "run"
        walk_at "env"
        rw[mw]
        refine⟨turns++[row],_,_,_,rfl,by simp[ht],fun r hr'=>?_⟩
        rcases List.mem_append.mp hr' with hr' | hr'
        · exact hr r hr'
        · rw[List.mem_singleton] at hr'
          subst hr'
          have:=gy fun x h=>(hx x h).1
          exact⟨hlr',hx,by omega⟩
    · rintro j hj ρ ⟨row,o8,rfl,hlr,hx⟩
      rw[List.length_range] at hj
      simp only[List.getElem_range]
      walk_at "env"
      refine iL rfl (by simp;omega) ?_
      walk_at "run"
      have hm:0<=(k:Int) * (1+first / 99 % 6+1):=Int.mul_nonneg (by omega) (by omega)
      generalize (k:Int) * (1+first / 99 % 6+1)=z at hm ⊢
      walk_at "run"
      refine fo (xU (by omega) (by omega)) ?_
      rintro _ ⟨x,rfl,h1,h2⟩
      walk_at "run"
      walk_at "env"
      rw[wa]
      refine⟨row++[x],_,rfl,by simp[hlr],fun y hy=>?_⟩
      rcases List.mem_append.mp hy with hy | hy
      · exact hx y hy
      · rw[List.mem_singleton] at hy;subst hy;exact⟨h1,h2⟩
theorem xW{row:List Int}:fC [DI row]=some (.int row.sum):=by
  refine ft (dh (ck rfl ?_))
  unfold jb
  walk_at "env"
  walk_at "run"
def more(xs:List Int)(c s:Int):List Int:=List.zipWith (fun a b=>a+b) (xs.map (fun x=>x * s)++[0]) (0::xs.map fun x=>x * c)
theorem xX(xs:List Int)(c s:Int):(more xs c s).length=xs.length+1:=by simp[more]
theorem xY{xs:List Int}{c s:Int}(hl:xs.length<=1000)(hc:0<=c/\c<=1000000)(hs:0<=s/\s<=1000000):fD [DI xs,.int c,.int s]=some (DI (more xs c s)):=by
  refine ft (ck rfl ?_)
  unfold jc
  walk_at "env"
  walk_at "run"
  refine e7 (α:=Int) ?_
  walk_at "run"
  refine⟨.int,fun x=>.int (x * s),xs,rfl,by omega,fun x hx=>⟨_,rfl,?_⟩,?_⟩
  · walk_at "env"
    walk_at "run"
  walk_at "run"
  refine e7 (α:=Int) ?_
  walk_at "run"
  refine⟨.int,fun x=>.int (x * c),xs,rfl,by omega,fun x hx=>⟨_,rfl,?_⟩,?_⟩
  · walk_at "env"
    walk_at "run"
  walk_at "run"
  refine e7 (α:=Int × Int) ?_
  walk_at "run"
  refine⟨fun p=>.tup [.int p.1,.int p.2],fun p=>.int (p.1+p.2),(xs.map (fun x=>x * s)++[0]).zip (0::xs.map fun x=>x * c),?_,by simp;omega,fun x hx=>⟨_,rfl,?_⟩,?_⟩
  · rw[<- mB];simp;rfl
  · walk_at "env"
    walk_at "run"
  · walk_at "run"
    congr 1
    rw[more,<- List.map_uncurry_zip_eq_zipWith,List.map_map]
    rfl
def wt(f:Nat->Int):Nat->List Int->Int
  | _,[]=>0
  | k,x::r=>x * f k+wt f (k+1) r
theorem xZ(f:Nat->Int)(xs:List Int)(k:Nat):wt f (k+1) xs=wt (fun j=>f (j+1)) k xs:=by
  induction xs generalizing k with
  | nil=>rfl
  | cons x r ih=>simp only[wt];rw[ih]
theorem n1(f:Nat->Int):∀ (xs ys:List Int) (k:Nat),xs.length=ys.length->wt f k (List.zipWith (fun a b=>a+b) xs ys)=wt f k xs+wt f k ys
  | [],[],_,_=>by simp[wt]
  | x::xs,y::ys,k,h=>by
    have:=n1 f xs ys (k+1) (by simpa using h)
    rw[List.zipWith_cons_cons];simp only[wt];rw[this,Int.add_mul];omega
theorem n3(f:Nat->Int)(xs:List Int)(c:Int)(k:Nat):wt f k (xs.map fun x=>x * c)=wt f k xs * c:=by
  induction xs generalizing k with
  | nil=>simp[wt]
  | cons x r ih=>rw[List.map_cons];simp only[wt];rw[ih,Int.add_mul,Int.mul_right_comm]
theorem ya(f:Nat->Int)(xs:List Int)(k:Nat):wt f k (xs++[0])=wt f k xs:=by
  induction xs generalizing k with
  | nil=>simp[wt]
  | cons x r ih=>rw[List.cons_append];simp only[wt];rw[ih]
theorem yb(f g:Nat->Int)(a b:Int)(xs:List Int)(k:Nat):wt (fun j=>a * f j+b * g j) k xs=a * wt f k xs+b * wt g k xs:=by
  induction xs generalizing k with
  | nil=>simp[wt]
  | cons x r ih=>simp only[wt];rw[ih];grind
theorem yc(f:Nat->Int)(xs:List Int)(c s:Int)(k:Nat):wt f k (more xs c s)=s * wt f k xs+c * wt (fun j=>f (j+1)) k xs:=by
  rw[more,n1 f _ _ k (by simp),ya,n3]
  simp only[wt]
  rw[n3,xZ];grind
def ar(n:Nat)(f:Nat->Int):Int:=((List.range n).map f).sum
theorem bX(n:Nat)(f:Nat->Int):ar (n+1) f=ar n f+f n:=by
  unfold ar;rw[List.range_succ,List.map_append,List.sum_append];simp
theorem bC{n:Nat}{f g:Nat->Int}(h:∀ k,k < n->f k=g k):ar n f=ar n g:=by
  unfold ar
  rw[List.map_congr_left fun k hk=>h k (List.mem_range.mp hk)]
theorem jq(n:Nat)(f g:Nat->Int):ar n (fun k=>f k+g k)=ar n f+ar n g:=by
  induction n with
  | zero=>rfl
  | succ n ih=>rw[bX,bX,bX,ih];omega
theorem fK(n:Nat)(f:Nat->Int)(x:Int):ar n (fun k=>x * f k)=x * ar n f:=by
  induction n with
  | zero=>simp[ar]
  | succ n ih=>rw[bX,bX,ih,Int.mul_add]
theorem n4(n:Nat)(f:Nat->Int):ar (n+1) f=f 0+ar n fun k=>f (k+1):=by
  unfold ar;rw[List.range_succ_eq_map,List.map_cons,List.sum_cons,List.map_map];rfl
theorem n5(n m:Nat)(f:Nat->Int):ar (n+m) f=ar n f+ar m fun k=>f (n+k):=by
  induction m with
  | zero=>simp[ar]
  | succ m ih=>rw[<- Nat.add_assoc,bX,ih,bX];omega
theorem eB(n:Nat)(c:Int):ar n (fun _=>c)=n * c:=by
  induction n with
  | zero=>simp[ar]
  | succ n ih=>rw[bX,ih,Int.natCast_succ,Int.add_mul];omega
def aq(fares:List Int)(x:Int)(r:List Int):Int:=(((fares.zip r).filter fun p=>decide (x<=p.1)).map fun p=>p.2).sum
theorem jr(x:Int)(r:List Int):aq [] x r=0:=rfl
theorem bY(f:Int)(fares:List Int)(x w:Int)(r:List Int):aq (f::fares) x (w::r)=(if x<=f then w else 0)+aq fares x r:=by
  unfold aq
  rw[List.zip_cons_cons,List.filter_cons]
  by_cases h:x<=f
  · rw[if_pos (decide_eq_true h),if_pos h,List.map_cons,List.sum_cons]
  · rw[if_neg (by simpa using h),if_neg h];omega
theorem gN(x:Int):∀ (fares r:List Int),fares.length<=r.length->(∀ y ∈ r,0<=y)->0<=aq fares x r/\aq fares x r<=r.sum
  | [],r,_,h=>by rw[jr];exact⟨by omega,gy h⟩
  | f::fares,[],h,_=>by simp at h
  | f::fares,w::r,hl,h=>by
    have ih:=gN x fares r (by simpa using hl) fun y hy=>h y (List.mem_cons_of_mem _ hy)
    have h0:=h w List.mem_cons_self
    rw[bY,List.sum_cons]
    split <;> omega
theorem n6{x y:Int}:∀ (fares r:List Int),(∀ g ∈ fares,(x<=g ↔ y<=g))->aq fares x r=aq fares y r
  | [],r,_=>rfl
  | f::fares,[],_=>by simp[aq]
  | f::fares,w::r,h=>by
    rw[bY,bY,n6 fares r fun g hg=>h g (List.mem_cons_of_mem _ hg)]
    have:=h f List.mem_cons_self
    by_cases q:x<=f
    · rw[if_pos q,if_pos (this.mp q)]
    · rw[if_neg q,if_neg fun z=>q (this.mpr z)]
theorem n8{x:Int}:∀ (fares r:List Int),(∀ g ∈ fares,¬ x<=g)->aq fares x r=0
  | [],r,_=>rfl
  | f::fares,[],_=>by simp[aq]
  | f::fares,w::r,h=>by
    rw[bY,n8 fares r fun g hg=>h g (List.mem_cons_of_mem _ hg),if_neg (h f List.mem_cons_self)];rfl
abbrev cA(fares:List Int)(x:Int)(r:List Int):Int × Int:=(aq fares x r,r.sum - aq fares x r)
def TT:List (Int × Int)->(Nat->Int)->Nat->Int
  | [],g,m=>g m
  | p::r,g,m=>p.2 * TT r g m+p.1 * TT r g (m+1)
def cm(fares:List Int)(x:Int)(w:List Int)(rs:List (List Int)):List Int:=rs.foldl (fun w r=>more w (aq fares x r) (r.sum - aq fares x r)) w
theorem n9(fares:List Int)(x:Int)(g:Nat->Int):∀ (rs:List (List Int)) (w:List Int),wt g 0 (cm fares x w rs)=wt (TT (rs.map (cA fares x)) g) 0 w
  | [],_=>rfl
  | r::rs,w=>by
    unfold cm
    rw[List.foldl_cons]
    have:=n9 fares x g rs (more w (aq fares x r) (r.sum - aq fares x r))
    unfold cm at this
    rw[this,yc,<- yb]
    rfl
theorem js(fares:List Int)(x:Int):∀ (rs:List (List Int)) (w:List Int),(cm fares x w rs).length=w.length+rs.length
  | [],_=>rfl
  | r::rs,w=>by
    have:=js fares x rs (more w (aq fares x r) (r.sum - aq fares x r))
    rw[xX] at this
    unfold cm at this ⊢
    rw[List.foldl_cons,this,List.length_cons];omega
def cT(seats:Int)(m:Nat):Int:=min (m:Int) seats
def psi(seats:Int)(fares:List Int)(rs:List (List Int))(x:Int):Int:=TT (rs.map (cA fares x)) (cT seats) 0
def lev:Int->List Int->(Int->Int)->Int
  | _,[],_=>0
  | b,f::fs,P=>(f - b) * P f+lev f fs P
def aZ(P:Int->Int)(b:Int)(n:Nat):Int:=ar n fun i=>P (b+1+(i:Nat))
theorem na{fares:List Int}{P:Int->Int}{M:Int}(hP:∀ x y,(∀ g ∈ fares,(x<=g ↔ y<=g))->P x=P y)(hZ:∀ x,(∀ g ∈ fares,¬ x<=g)->P x=0):
    ∀ (fs:List Int) (b:Int),b<=M->(∀ f ∈ fs,b<=f/\f<=M)->fs.Pairwise (·<=·)->(∀ f ∈ fs,f ∈ fares)->(∀ g ∈ fares,g<=b\/g ∈ fs)->lev b fs P=aZ P b (M - b).toNat
  | [],b,_,_,_,_,h=>by
    have:∀ i,i < (M - b).toNat->P (b+1+(i:Nat))=0:=fun i _=>hZ _ fun g hg=>by
      rcases h g hg with q | q
      · omega
      · exact nomatch q
    rw[lev,aZ,bC this,eB];simp
  | f :: fs,b,hb,h1,h2,h3,h4=>by
    obtain⟨q1,q2⟩:=h1 f List.mem_cons_self
    rw[List.pairwise_cons] at h2
    have ih:=na (M:=M) hP hZ fs f q2 (fun g hg=>⟨h2.1 g hg,(h1 g (List.mem_cons_of_mem _ hg)).2⟩) h2.2 (fun g hg=>h3 g (List.mem_cons_of_mem _ hg)) fun g hg=>by
      rcases h4 g hg with q | q
      · left;omega
      · rcases List.mem_cons.mp q with q | q
        · left;omega
        · right;exact q
    have e:(M - b).toNat=(f - b).toNat+(M - f).toNat:=by omega
    rw[lev,ih,e]
    unfold aZ
    rw[n5]
    have c1:∀ i,i < (f - b).toNat->P (b+1+(i:Nat))=P f:=fun i hi=>hP _ _ fun g hg=>by
      rcases h4 g hg with q | q
      · constructor <;> intro _ <;> omega
      · rcases List.mem_cons.mp q with q | q
        · subst q;constructor <;> intro _ <;> omega
        · have:=h2.1 g q
          constructor <;> intro _ <;> omega
    rw[bC c1,eB,show ((f - b).toNat:Int)=f - b by omega]
    congr 1
    refine bC fun i _=>?_
    congr 1
    omega
theorem yd{seats:Int}{fares:List Int}{rs:List (List Int)}(x y:Int)(h:∀ g ∈ fares,(x<=g ↔ y<=g)):psi seats fares rs x=psi seats fares rs y:=by
  unfold psi
  rw[List.map_congr_left fun r _=>show cA fares x r=cA fares y r by unfold cA;rw[n6 fares r h]]
theorem nc{g:Nat->Int}{m:Nat}(h:g m=0):∀ (ps:List (Int × Int)),(∀ p ∈ ps,p.1=0)->TT ps g m=0
  | [],_=>h
  | p::ps,hp=>by rw[TT,nc h ps fun q hq=>hp q (List.mem_cons_of_mem _ hq),hp p List.mem_cons_self];simp
theorem ye{seats:Int}{fares:List Int}{rs:List (List Int)}(hs:0<=seats)(x:Int)(h:∀ g ∈ fares,¬ x<=g):psi seats fares rs x=0:=by
  refine nc (by simp[cT];omega) _ fun p hp=>?_
  obtain⟨r,_,rfl⟩:=List.mem_map.mp hp
  exact n8 fares r h
def fsW(seats:Int)(fares:List Int)(rs:List (List Int)):Int:=lev 0 (bF false fares) (psi seats fares rs)
theorem yf{fares:List Int}{P:Int->Int}{M:Int}(hM:0<=M)(hf:∀ f ∈ fares,0<=f/\f<=M)(hP:∀ x y,(∀ g ∈ fares,(x<=g ↔ y<=g))->P x=P y)(hZ:∀ x,(∀ g ∈ fares,¬ x<=g)->P x=0):lev 0 (bF false fares) P=aZ P 0 M.toNat:=by
  have hp:=gi false fares
  have:=na (M:=M) hP hZ (bF false fares) 0 hM (fun f hf'=>hf f (hp.mem_iff.mp hf')) (lh fares) (fun f h=>hp.mem_iff.mp h) fun g hg=>.inr (hp.mem_iff.mpr hg)
  rw[this,Int.sub_zero]
theorem yg{seats:Int}{fares:List Int}{rs:List (List Int)}{M:Int}(hs:0<=seats)(hM:0<=M)(hf:∀ f ∈ fares,0<=f/\f<=M):fsW seats fares rs=aZ (psi seats fares rs) 0 M.toNat :=
  yf hM hf (fun x y h=>yd x y h) fun x h=>ye hs x h
theorem ng(f:Nat->Int):∀ (xs:List Int) (k:Nat),((xs.zipIdx k).map fun p=>p.1 * f p.2).sum=wt f k xs
  | [],_=>rfl
  | x::xs,k=>by rw[List.zipIdx_cons,List.map_cons,List.sum_cons,ng f xs (k+1)];rfl
theorem yh{seats:Int}{w:List Int}(h0:-1000<=seats)(h1:seats<=1000)(hl:w.length<=1000):fF [.int seats,DI w]=some (.int (wt (cT seats) 0 w)):=by
  refine ft (dh (ck rfl ?_))
  unfold je
  walk_at "env"
  walk_at "run"
  refine wb (α:=Int × Nat) ?_
  walk_at "run"
  refine⟨_,fun p=>p.1 * cT seats p.2,_,mz _ _,by simp;omega,fun p hp=>⟨_,rfl,?_⟩,?_⟩
  · have:=List.snd_lt_of_mem_zipIdx hp
    walk_at "env"
    walk_at "run"
    rfl
  walk_at "run"
  rw[ng]
theorem yi{fares:List Int}{turns:List (List Int)}{x:Int}(hf:fares.length<=10)(ht:turns.length<=100)(hr:∀ r ∈ turns,fares.length<=r.length/\r.length<=20/\∀ y ∈ r,0<=y/\y<=1000):fE [DI fares,DII turns,.int x]=some (DI (cm fares x [1] turns)):=by
  refine ft (ck rfl ?_)
  unfold jd
  walk_at "env"
  walk_at "run"
  refine gx _ _ (fun k ρ=>∃ a b,ρ=[some (DI fares),some (DII turns),some (.int x),some (DI (cm fares x [1] (turns.take k))),a,b]) ⟨_,_,rfl⟩ ?_ ?_
  · rintro ρ ⟨a,b,rfl⟩
    rw[List.take_length]
    walk_at "run"
  · rintro k hk ρ ⟨a,b,rfl⟩
    obtain⟨q1,q2,q3⟩:=hr _ (List.getElem_mem hk)
    have enum:cm fares x [1] (turns.take (k+1))=more (cm fares x [1] (turns.take k)) (aq fares x turns[k]) (turns[k].sum - aq fares x turns[k]):=by
      unfold cm
      rw[iP hk,List.foldl_append];rfl
    rw[enum]
    generalize turns[k]=row at q1 q2 q3 ⊢
    walk_at "env"
    walk_at "run"
    refine vI (α:=Int × Int) ?_
    walk_at "run"
    refine⟨_,fun p=>decide (x<=p.1),fun p=>.int p.2,_,mB _ _ _ _,by simp;omega,fun p hp=>⟨_,rfl,?_⟩,?_⟩
    · walk_at "env"
      walk_at "run"
      intro _
      walk_at "run"
    walk_at "run"
    rw[show D.lst (((fares.zip row).filter fun p=>decide (x<=p.1)).map fun p=>D.int p.2)=DI (((fares.zip row).filter fun p=>decide (x<=p.1)).map fun p=>p.2) by simp[DI]]
    walk_at "run"
    rw[show (((fares.zip row).filter fun p=>decide (x<=p.1)).map fun p=>p.2).sum=aq fares x row from rfl]
    have hd:=gN x fares row q1 fun y hy=>(q3 y hy).1
    have hsl:=mv (b:=1000) fun y hy=>(q3 y hy).2
    refine fq xW ?_
    walk_at "run"
    refine fq (xY (by rw[js,List.length_take];simp;omega) (by omega) (by omega)) ?_
    walk_at "run"
    exact⟨_,_,rfl⟩
theorem yj{seats:Int}{fares:List Int}{turns:List (List Int)}(h0:0<=seats)(h1:seats<=1000)(hf:fares.length<=10)(hfb:∀ f ∈ fares,0<=f/\f<=100000000)(ht:turns.length<=100)(hr:∀ r ∈ turns,fares.length<=r.length/\r.length<=20/\∀ y ∈ r,0<=y/\y<=1000):gL [.int seats,DI fares,DII turns]=some (.int (fsW seats fares turns)):=by
  refine ft (dh (ck rfl ?_))
  unfold jf fsW
  walk_at "env"
  walk_at "run"
  refine wd (by omega) ?_
  walk_at "run"
  have hp:=gi false fares
  have hso:∀ f ∈ bF false fares,0<=f/\f<=100000000:=fun f h=>hfb f (hp.mem_iff.mp h)
  generalize bF false fares=so at hso ⊢
  obtain⟨P,hP⟩:∃ P,P=psi seats fares turns:=⟨_,rfl⟩
  rw[<- hP]
  refine gx _ _ (fun k ρ=>∃ tg b c,ρ=[some (.int seats),some (DI fares),some (DII turns),some (.int tg),some (.int b),c]/\(0<=b/\b<=100000000)/\tg+lev b (so.drop k) P=lev 0 so P) ⟨0,0,none,rfl,by omega,by rw[List.drop_zero];omega⟩ ?_ ?_
  · rintro ρ ⟨tg,b,c,rfl,hb,h2⟩
    rw[List.drop_length,lev] at h2
    walk_at "run"
    rw[<- h2,Int.add_zero]
  · rintro k hk ρ ⟨tg,b,c,rfl,hb,h2⟩
    have hfk:=hso _ (List.getElem_mem hk)
    rw[List.drop_eq_getElem_cons hk,lev] at h2
    generalize so[k]=f at hfk h2 ⊢
    walk_at "env"
    walk_at "run"
    refine fq (yi hf ht hr) ?_
    walk_at "run"
    refine fq (yh (by omega) (by omega) (by rw[js];simp;omega)) ?_
    rw[n9,show wt (TT (turns.map (cA fares f)) (cT seats)) 0 [1]=P f by rw[hP];simp[wt,psi]]
    walk_at "run"
    exact⟨_,_,_,rfl,by omega,by omega⟩
theorem yk(P Q:Int->Int)(a b:Int)(c:Int)(n:Nat):aZ (fun x=>a * P x+b * Q x) c n=a * aZ P c n+b * aZ Q c n:=by
  unfold aZ
  rw[jq,fK,fK]
theorem jt{P Q:Int->Int}{c:Int}{n:Nat}(h:∀ x,P x=Q x):aZ P c n=aZ Q c n:=by
  unfold aZ;exact bC fun i _=>h _
theorem yl{P:Int->Int}{c:Int}{n:Nat}(h:∀ x,P x=0):aZ P c n=0:=by
  rw[jt (Q:=fun _=>0) h];unfold aZ;rw[eB];simp
theorem ym{f:Int}{n:Nat}(h0:0<=f)(h1:f<=n)(w:Int):aZ (fun x=>if x<=f then w else 0) 0 n=w * f:=by
  have e:n=f.toNat+(n - f.toNat):=by omega
  unfold aZ
  rw[e,n5]
  rw[bC (g:=fun _=>w) fun i hi=>(if_pos (by omega):(if (0+1+(i:Int))<=f then w else 0)=w),eB,bC (g:=fun _=>0) (n:=n - f.toNat) fun i hi=>(if_neg (by omega):(if (0+1+((f.toNat+i:Nat):Int))<=f then w else 0)=0),eB]
  rw[show (f.toNat:Int)=f by omega,Int.mul_comm];omega
def gre:List (Int × Int)->Int->Int
  | [],_=>0
  | (f,c)::r,left=>f * min left c+gre r (left - min left c)
def bp(x:Int):List (Int × Int)->Int
  | []=>0
  | (f,c)::r=>(if x<=f then c else 0)+bp x r
theorem ju(x f c:Int)(r:List (Int × Int)):bp x ((f,c)::r)=(if x<=f then c else 0)+bp x r:=rfl
theorem nh{x:Int}:∀ {P:List (Int × Int)},(∀ p ∈ P,0<=p.2)->0<=bp x P
  | [],_=>Int.le_refl _
  | (f,c)::r,h=>by
    have h1:=nh (x:=x) fun p hp=>h p (List.mem_cons_of_mem _ hp)
    have h2:=h (f,c) List.mem_cons_self
    rw[ju]
    simp only at h2
    split <;> omega
theorem ni{x:Int}:∀ {P:List (Int × Int)},(∀ p ∈ P,¬ x<=p.1)->bp x P=0
  | [],_=>rfl
  | (f,c)::r,h=>by
    rw[ju,if_neg (h (f,c) List.mem_cons_self),ni fun p hp=>h p (List.mem_cons_of_mem _ hp)];rfl
theorem nj{n:Nat}:∀ (P:List (Int × Int)) (left:Int),0<=left->(∀ p ∈ P,0<=p.1/\p.1<=n)->(∀ p ∈ P,0<=p.2)->P.Pairwise (fun a b=>b.1<=a.1)->gre P left=aZ (fun x=>min left (bp x P)) 0 n
  | [],left,h0,_,_,_=>by
    rw[yl (fun x=>by show min left 0=0;omega)];rfl
  | (f, c)::r,left,h0,hf,hc,hp=>by
    obtain⟨hp1,hp2⟩:=List.pairwise_cons.mp hp
    have hc0:=hc (f,c) List.mem_cons_self
    have hf0:=hf (f,c) List.mem_cons_self
    have ih:=nj r (left - min left c) (by omega) (fun p q=>hf p (List.mem_cons_of_mem _ q)) (fun p q=>hc p (List.mem_cons_of_mem _ q)) hp2
    rw[gre,ih]
    have e:∀ x,min left (bp x ((f,c)::r))=1 * (if x<=f then min left c else 0)+1 * min (left - min left c) (bp x r):=fun x=>by
      have hn:=nh (x:=x) (P:=r) fun p q=>hc p (List.mem_cons_of_mem _ q)
      rw[ju]
      by_cases hx:x<=f
      · rw[if_pos hx,if_pos hx];omega
      · have z:bp x r=0:=ni fun p q=>by have:=hp1 p q;simp at this;omega
        rw[if_neg hx,if_neg hx,z]
        have:min left c<=left:=Int.min_le_left ..
        rw[Int.add_zero,Int.min_eq_right h0,Int.min_eq_right (by omega)];rfl
    have hi:=ym (f:=f) (n:=n) hf0.1 hf0.2 (min left c)
    rw[jt e,yk,hi,Int.mul_comm f];omega
theorem yn{x:Int}{P P':List (Int × Int)}(h:P.Perm P'):bp x P=bp x P':=by
  induction h with
  | nil=>rfl
  | cons a _ ih=>obtain⟨f,c⟩:=a;simp only[bp];rw[ih]
  | swap a b l=>obtain⟨f,c⟩:=a;obtain⟨g,d⟩:=b;simp only[bp];omega
  | trans _ _ h1 h2=>rw[h1,h2]
theorem nk(x:Int):∀ (fares v:List Int),bp x (fares.zip v)=aq fares x v
  | [],v=>by simp[bp,jr]
  | f::fares,[]=>by simp[bp,aq]
  | f::fares,w::v=>by rw[List.zip_cons_cons,bp,bY,nk x fares v]
theorem yo{fares v:List Int}{P:List (Int × Int)}{n:Nat}{seats:Int}(h0:0<=seats)(hP:P.Perm (fares.zip v))(hs:P.Pairwise (fun a b=>b.1<=a.1))(hf:∀ f ∈ fares,0<=f/\f<=n)(hv:∀ c ∈ v,0<=c):
    gre P seats=aZ (fun x=>min seats (aq fares x v)) 0 n:=by
  rw[nj P seats h0 (fun p hp=>hf _ (List.of_mem_zip (hP.mem_iff.mp hp)).1) (fun p hp=>hv _ (List.of_mem_zip (hP.mem_iff.mp hp)).2) hs]
  exact jt fun x=>by rw[yn hP,nk]
def b0(ps:List (List Int × Int))(f:List Int->Int):Int:=(ps.map fun p=>p.2 * f p.1).sum
theorem gO(p:List Int × Int)(ps:List (List Int × Int))(f:List Int->Int):b0 (p::ps) f=p.2 * f p.1+b0 ps f:=rfl
abbrev jv(ps:List (List Int × Int))(k:List Int)(x:Int):List (List Int × Int):=bB ps k ((bo ps k).getD 0+x)
def bH(ps:List (List Int × Int)):Prop:=(ps.map (·.1)).Nodup
theorem yp{ps:List (List Int × Int)}{k:List Int}(h:k ∉ ps.map (·.1)):bo ps k=none:=by
  unfold bo
  rw[List.find?_eq_none.mpr fun p hp=>by
    simp only[decide_eq_true_eq]
    exact fun e=>h (e ▸ List.mem_map_of_mem hp)]
  rfl
theorem any_key{ps:List (List Int × Int)}{k:List Int}:(ps.any fun p=>decide (p.1=k))=true ↔ k ∈ ps.map (·.1):=by
  simp[List.any_eq_true]
theorem jw(p:List Int × Int)(ps:List (List Int × Int))(k:List Int):bo (p::ps) k=if p.1=k then some p.2 else bo ps k:=by
  unfold bo
  rw[List.find?_cons]
  by_cases e:p.1=k
  · rw[decide_eq_true e,if_pos e];rfl
  · rw[decide_eq_false e,if_neg e]
theorem yq{ps:List (List Int × Int)}{k:List Int}{v:Int}(h:k ∉ ps.map (·.1)):ps.map (fun p=>if p.1=k then (p.1,v) else p)=ps:=by
  have:ps.map (fun p=>if p.1=k then (p.1,v) else p)=ps.map id:=List.map_congr_left fun p hp=>by
    rw[if_neg (show ¬ p.1=k from fun e=>h (by rw[<- e];exact List.mem_map_of_mem hp))];rfl
  rw[this,List.map_id]
theorem no(f:List Int->Int)(k:List Int)(x:Int):∀ (ps:List (List Int × Int)),bH ps->k ∈ ps.map (·.1)->b0 (ps.map fun p=>if p.1=k then (p.1,(bo ps k).getD 0+x) else p) f=b0 ps f+x * f k
  | [],_,h=>by simp at h
  | p :: ps,hk,h=>by
    unfold bH at hk
    rw[List.map_cons,List.nodup_cons] at hk
    rw[List.map_cons,jw]
    by_cases e:p.1=k
    · rw[if_pos e,if_pos e,yq (fun q=>hk.1 (e ▸ q)),gO,gO,<- e]
      simp only[Option.getD_some]
      rw[Int.add_mul];omega
    · rw[if_neg e,if_neg e,gO,gO,no f k x ps hk.2 (by
        rw[List.map_cons] at h
        exact (List.mem_cons.mp h).resolve_left (Ne.symm e))]
      omega
theorem yr{ps:List (List Int × Int)}(hk:bH ps)(f:List Int->Int)(k:List Int)(x:Int):b0 (jv ps k x) f=b0 ps f+x * f k:=by
  unfold jv bB
  by_cases h:(ps.any fun p=>decide (p.1=k))=true
  · rw[if_pos h,no f k x ps hk (any_key.mp h)]
  · rw[if_neg h,yp (fun q=>h (any_key.mpr q))]
    unfold b0
    rw[List.map_append,List.sum_append]
    simp
theorem jx(ps:List (List Int × Int))(k:List Int)(v:Int):(bB ps k v).map (·.1)=if k ∈ ps.map (·.1) then ps.map (·.1) else ps.map (·.1)++[k]:=by
  unfold bB
  by_cases h:(ps.any fun p=>decide (p.1=k))=true
  · rw[if_pos h,if_pos (any_key.mp h),List.map_map]
    exact List.map_congr_left fun p _=>by simp only[Function.comp];split <;> rfl
  · rw[if_neg h,if_neg fun q=>h (any_key.mpr q),List.map_append];rfl
theorem yt{ps:List (List Int × Int)}(hk:bH ps)(k:List Int)(v:Int):bH (bB ps k v):=by
  unfold bH
  rw[jx]
  split
  · exact hk
  · rename_i h
    rw[List.nodup_append]
    exact⟨hk,by simp,fun a ha b hb=>by
      have:b=k:=by simpa using hb
      subst this
      exact fun e=>h (e ▸ ha)⟩
theorem yu{ps:List (List Int × Int)}{k:List Int}{v:Int}{P:List Int->Prop}(h:∀ p ∈ ps,P p.1)(hk:P k):∀ p ∈ bB ps k v,P p.1:=fun p hp=>by
  have m:p.1 ∈ (bB ps k v).map (·.1):=List.mem_map_of_mem hp
  rw[jx] at m
  split at m
  · obtain⟨q,h1,h2⟩:=List.mem_map.mp m
    rw[<- h2];exact h q h1
  · rcases List.mem_append.mp m with m | m
    · obtain⟨q,h1,h2⟩:=List.mem_map.mp m
      rw[<- h2];exact h q h1
    · have:p.1=k:=by simpa using m
      rw[this];exact hk
theorem yv(ps:List (List Int × Int))(k:List Int)(v:Int):(bB ps k v).length<=ps.length+1:=by
  have:=congrArg List.length (jx ps k v)
  rw[List.length_map] at this
  rw[this]
  split <;> simp
theorem nq{ps:List (List Int × Int)}(hk:bH ps):∀ (i:Nat) (hi:i < ps.length),bo ps ps[i].1=some ps[i].2:=by
  induction ps with
  | nil=>intro i hi;simp at hi
  | cons p ps ih =>
    intro i hi
    unfold bH at hk
    rw[List.map_cons,List.nodup_cons] at hk
    cases i with
    | zero=>rw[jw];simp
    | succ i =>
      have hi':i < ps.length:=by simpa using hi
      simp only[List.getElem_cons_succ]
      rw[jw,if_neg (show ¬ p.1=ps[i].1 from fun e=>hk.1 (by rw[e];exact List.mem_map_of_mem (List.getElem_mem hi'))),ih hk.2 i hi']
def aR(c:Nat)(m:List Int)(j:Nat):List Int:=if j < c then m.set j (m.getD j 0+1) else m
def aS(c:Nat)(row:List Int)(f:List Int->Int)(m:List Int):Int:=ar (c+1) fun j=>row.getD j 0 * f (aR c m j)
theorem nr{c:Nat}{row m:List Int}{f g:List Int->Int}(h:∀ j,f (aR c m j)=g (aR c m j)):aS c row f m=aS c row g m:=by
  unfold aS
  exact bC fun j _=>by rw[h j]
def cU(c:Nat)(turns:List (List Int))(f:List Int->Int):Int:=turns.foldr (aS c) f (List.replicate c 0)
theorem yw(c:Nat)(turns:List (List Int))(row:List Int)(f:List Int->Int):cU c (turns++[row]) f=cU c turns (aS c row f):=by
  unfold cU;rw[List.foldr_append];rfl
theorem nt{ps:List (List Int × Int)}{g:List Int->Int}{i:Nat}(hi:i < ps.length):b0 (ps.take (i+1)) g=b0 (ps.take i) g+ps[i].2 * g ps[i].1:=by
  unfold b0
  rw[iP hi,List.map_append,List.sum_append]
  simp
theorem nu(c:Nat)(row:List Int)(f:List Int->Int)(m:List Int)(j:Nat):(ar (j+1) fun j=>row.getD j 0 * f (aR c m j))=(ar j fun j=>row.getD j 0 * f (aR c m j))+row.getD j 0 * f (aR c m j):=bX ..
theorem nv(x:Int):∀ (fares m:List Int) (j:Nat),j < fares.length->fares.length=m.length->aq fares x (m.set j (m.getD j 0+1))=aq fares x m+(if x<=fares.getD j 0 then 1 else 0)
  | [],_,j,h,_=>by simp at h
  | f::fares,[],j,_,h=>by simp at h
  | f::fares,w::m,0,_,_=>by
    rw[List.set_cons_zero,bY,bY]
    simp only[List.getD_cons_zero]
    split <;> omega
  | f::fares,w::m,j+1,h1,h2=>by
    rw[List.set_cons_succ,bY,bY]
    simp only[List.getD_cons_succ]
    rw[nv x fares m j (by simpa using h1) (by simpa using h2)]
    omega
theorem nw:∀ (r:List Int),ar r.length (fun j=>r.getD j 0)=r.sum
  | []=>rfl
  | w::r=>by
    rw[List.length_cons,n4,List.sum_cons,<- nw r];rfl
theorem ny(x:Int):∀ (fares r:List Int),r.length=fares.length+1->ar (fares.length+1) (fun j=>r.getD j 0 * (if j < fares.length/\x<=fares.getD j 0 then 1 else 0))=aq fares x r
  | [],r,h=>by
    rw[jr];simp[ar]
  | f::fares,[],h=>by simp at h
  | f :: fares,w::r,h=>by
    rw[List.length_cons,n4,bY,<- ny x fares r (by simpa using h)]
    have e1:(w::r).getD 0 0 * (if 0 < fares.length+1/\x<=(f::fares).getD 0 0 then 1 else 0)=(if x<=f then w else 0):=by
      simp only[List.getD_cons_zero]
      by_cases q:x<=f
      · rw[if_pos ⟨by omega,q⟩,if_pos q];omega
      · rw[if_neg fun z=>q z.2,if_neg q];omega
    rw[e1]
    congr 1
    refine bC fun j _=>?_
    simp only[List.getD_cons_succ]
    by_cases q:j < fares.length/\x<=fares.getD j 0
    · rw[if_pos ⟨by omega,q.2⟩,if_pos q]
    · rw[if_neg fun z=>q ⟨by omega,z.2⟩,if_neg q]
theorem yx{fares row m:List Int}{x:Int}(T:Int->Int)(hr:row.length=fares.length+1)(hm:fares.length=m.length):
    aS fares.length row (fun m=>T (aq fares x m)) m=(row.sum - aq fares x row) * T (aq fares x m)+aq fares x row * T (aq fares x m+1):=by
  unfold aS
  have e:∀ j,j < fares.length+1->row.getD j 0 * T (aq fares x (aR fares.length m j))=T (aq fares x m) * row.getD j 0+(T (aq fares x m+1) - T (aq fares x m)) * (row.getD j 0 * (if j < fares.length/\x<=fares.getD j 0 then 1 else 0)):=fun j hj=>by
    unfold aR
    by_cases h1:j < fares.length
    · rw[if_pos h1,nv x fares m j h1 hm]
      by_cases h2:x<=fares.getD j 0
      · rw[if_pos h2,if_pos ⟨h1,h2⟩];grind
      · rw[if_neg h2,if_neg fun z=>h2 z.2];grind
    · rw[if_neg h1,if_neg fun z=>h1 z.1];grind
  rw[bC e,jq,fK,fK,ny x fares row hr]
  have e2:ar (fares.length+1) (fun j=>row.getD j 0)=row.sum:=by rw[<- hr,nw]
  rw[e2];grind
def Cnt(c:Nat)(m:List Int):Prop:=m.length=c/\∀ y ∈ m,0<=y
theorem Cnt.bump{c:Nat}{m:List Int}(h:Cnt c m)(j:Nat):Cnt c (aR c m j):=by
  unfold aR
  split
  · rename_i hj
    refine⟨by rw[List.length_set];exact h.1,fun y hy=>?_⟩
    rcases List.mem_or_eq_of_mem_set hy with q | q
    · exact h.2 y q
    · have hj':j < m.length:=by rw[h.1];exact hj
      have:=h.2 (m.getD j 0) (by rw[e8 _ _ _ hj'];exact List.getElem_mem _)
      omega
  · exact h
theorem nz{fares:List Int}{x:Int}(g:Nat->Int):∀ (turns:List (List Int)),(∀ r ∈ turns,r.length=fares.length+1)->∀ m,Cnt fares.length m->turns.foldr (aS fares.length) (fun m=>g (aq fares x m).toNat) m=TT (turns.map (cA fares x)) g (aq fares x m).toNat
  | [],_,m,_=>rfl
  | r::rs,hr,m,hm=>by
    have ih:=nz (x:=x) g rs fun q hq=>hr q (List.mem_cons_of_mem _ hq)
    rw[List.foldr_cons,List.map_cons,TT]
    have e:aS fares.length r (rs.foldr (aS fares.length) fun m=>g (aq fares x m).toNat) m=aS fares.length r (fun m=>TT (rs.map (cA fares x)) g (aq fares x m).toNat) m:=nr fun j=>ih _ (hm.bump j)
    rw[e,yx (fun d=>TT (rs.map (cA fares x)) g d.toNat) (hr r List.mem_cons_self) hm.1.symm]
    have hd:=(gN x fares m (by rw[hm.1];exact Nat.le_refl _) hm.2).1
    rw[show (aq fares x m+1).toNat=(aq fares x m).toNat+1 by omega]
theorem nA(x:Int):∀ (fares:List Int) (n:Nat),aq fares x (List.replicate n 0)=0
  | [],_=>rfl
  | f::fares,0=>by simp[aq]
  | f::fares,n+1=>by rw[List.replicate_succ,bY,nA x fares n];split <;> rfl
theorem jz(c:Nat):Cnt c (List.replicate c 0):=⟨by simp,fun y hy=>by rw[(List.mem_replicate.mp hy).2];exact Int.le_refl 0⟩
theorem yy(n m:Nat)(f:Nat->Nat->Int):ar n (fun i=>ar m fun j=>f i j)=ar m fun j=>ar n fun i=>f i j:=by
  induction n with
  | zero =>
    have:∀ j,j < m->(ar 0 fun i=>f i j)=0:=fun j _=>rfl
    rw[bC this,eB];simp[ar]
  | succ n ih =>
    rw[bX,ih,<- jq]
    exact bC fun j _=>by rw[bX]
theorem nB{c n:Nat}(h:Nat->List Int->Int):∀ (turns:List (List Int)) (m:List Int),turns.foldr (aS c) (fun m=>ar n fun i=>h i m) m=ar n fun i=>turns.foldr (aS c) (h i) m
  | [],_=>rfl
  | r :: rs,m=>by
    rw[List.foldr_cons]
    have e:aS c r (rs.foldr (aS c) fun m=>ar n fun i=>h i m) m=ar (c+1) fun j=>ar n fun i=>r.getD j 0 * rs.foldr (aS c) (h i) (aR c m j):=by
      show (ar (c+1) fun j=>r.getD j 0 * rs.foldr (aS c) (fun m=>ar n fun i=>h i m) (aR c m j))=_
      exact bC fun j _=>by rw[nB h rs,<- fK]
    rw[e,yy]
    rfl
theorem nC{c:Nat}{f g:List Int->Int}(h:∀ m,Cnt c m->f m=g m):∀ (turns:List (List Int)) (m:List Int),Cnt c m->turns.foldr (aS c) f m=turns.foldr (aS c) g m
  | [],m,hm=>h m hm
  | r::rs,m,hm=>by
    rw[List.foldr_cons,List.foldr_cons]
    exact nr fun j=>nC h rs _ (hm.bump j)
theorem yz{seats:Int}{fares:List Int}{turns:List (List Int)}{f:List Int->Int}{M:Int}(h0:0<=seats)(hM:0<=M)(hf:∀ g ∈ fares,0<=g/\g<=M)(hr:∀ r ∈ turns,r.length=fares.length+1)(hF:∀ m,Cnt fares.length m->f m=aZ (fun x=>min seats (aq fares x m)) 0 M.toNat):cU fares.length turns f=fsW seats fares turns:=by
  rw[yg h0 hM hf]
  unfold cU aZ
  have e:∀ m,Cnt fares.length m->f m=(fun m=>ar M.toNat fun i=>cT seats (aq fares (0+1+(i:Nat)) m).toNat) m:=fun m hm=>by
    rw[hF m hm]
    unfold aZ
    refine bC fun i _=>?_
    have hd:=(gN (0+1+(i:Nat):Int) fares m (by rw[hm.1];exact Nat.le_refl _) hm.2).1
    unfold cT
    simp only
    omega
  rw[nC e turns _ (jz _),nB]
  refine bC fun i _=>?_
  rw[nz (cT seats) turns hr _ (jz _),nA]
  rfl
theorem nD:∀ (ps:List (Int × Int)),(∀ p ∈ ps,0<=p.2/\p.2 < 64)->fg (ps.map prD)=some ps
  | [],_=>rfl
  | p::ps,h=>by
    have h0:=h p List.mem_cons_self
    rw[List.map_cons,fg,nD ps fun q hq=>h q (List.mem_cons_of_mem _ hq)]
    simp only[prD,prI,if_pos h0]
    rfl
theorem yA{ps:List (Int × Int)}{K:D->Prop}(hb:∀ p ∈ ps,0<=p.2/\p.2 < 64)(hl:ps.length < 64)(h:K (.lst ((ce ps).map prD))):W1 fh (.lst (ps.map prD)) K:=⟨_,by
  simp only[fh,b5,br,items,Bool.false_eq_true,if_false,Option.bind_some,nD ps hb,if_pos hl],h⟩
theorem nE{xs:List Int}{i:Int}{K:D->Prop}(h0:0<=i)(h1:i < xs.length)(h:K (.int (xs.getD i.toNat 0))):W2 ixD (aQ xs) (.int i) K:=by
  refine⟨_,?_,h⟩
  simp only[aQ,ixD,items,Option.bind_some,atI,ixN,if_pos h0,List.length_map,if_pos h1]
  rw[List.getElem?_map,e8 _ _ _ (by omega),List.getElem?_eq_getElem (by omega)];rfl
theorem yB{d:D}{k:Nat}{K:D->Prop}(h1:1<=k)(h2:k<=1000)(h:K (.tup (List.replicate k d))):W2 fj (.tup [d]) (.int (k:Nat)) K:=⟨_,by simp only[fj,if_pos (show (1:Int)<=(k:Nat)/\((k:Nat):Int)<=1000 by omega),Int.toNat_natCast],h⟩
def cB(fares m:List Int):List (Int × Int):=(ce (fares.zipIdx.map fun p=>(0 - p.1,((p.2:Nat):Int)))).map fun p=>(0 - p.1,m.getD p.2.toNat 0)
theorem jA{fares m:List Int}(h:m.length=fares.length):(cB fares m).Perm (fares.zip m):=by
  unfold cB
  refine ((dY _).map _).trans (List.Perm.of_eq ?_)
  apply List.ext_getElem
  · simp[h]
  · intro i h1 h2
    simp only[List.length_map,List.length_zipIdx] at h1
    simp only[List.getElem_map,List.getElem_zipIdx,List.getElem_zip,Int.toNat_natCast,Nat.zero_add]
    rw[e8 _ _ _ (by omega)]
    congr 1
    omega
theorem jB{fares:List Int}(hf:fares.length < 64):∀ p ∈ fares.zipIdx.map (fun p=>(0 - p.1,((p.2:Nat):Int))),0<=p.2/\p.2 < 64:=fun p hp=>by
  obtain⟨q,hq,rfl⟩:=List.mem_map.mp hp
  have:=List.snd_lt_of_mem_zipIdx hq
  simp only
  omega
theorem yC{fares m:List Int}(hf:fares.length < 64):(cB fares m).Pairwise fun a b=>b.1<=a.1:=by
  unfold cB
  rw[List.pairwise_map]
  refine List.Pairwise.imp_of_mem ?_ (lz _)
  intro a b ha hb h
  have h1:=jB hf a ((dY _).mem_iff.mp ha)
  have h2:=jB hf b ((dY _).mem_iff.mp hb)
  unfold bu at h
  simp only
  omega
theorem nF{F:Int}(hF:0<=F):∀ (P:List (Int × Int)) (left:Int),0<=left->(∀ p ∈ P,0<=p.1/\p.1<=F)->(∀ p ∈ P,0<=p.2)->0<=gre P left/\gre P left<=left * F
  | [],left,h0,_,_=>⟨Int.le_refl 0,Int.mul_nonneg h0 hF⟩
  | (f,c)::r,left,h0,hf,hc=>by
    have hc0:=hc (f,c) List.mem_cons_self
    have hf0:=hf (f,c) List.mem_cons_self
    simp only at hc0 hf0
    have ih:=nF hF r (left - min left c) (by omega) (fun p q=>hf p (List.mem_cons_of_mem _ q)) (fun p q=>hc p (List.mem_cons_of_mem _ q))
    have h1:0<=f * min left c:=Int.mul_nonneg hf0.1 (by omega)
    have h2:f * min left c<=F * min left c:=Int.mul_le_mul_of_nonneg_right hf0.2 (by omega)
    have h3:(left - min left c) * F=left * F - F * min left c:=by rw[Int.sub_mul,Int.mul_comm (min left c)]
    rw[gre]
    omega
theorem yD{fares m:List Int}{seats:Int}{M:Sto}{Q:QE}(hf:fares.length<=10)(hfb:∀ f ∈ fares,0<=f/\f<=1000000)(hm:Cnt fares.length m)(h0:0<=seats)(h1:seats<=10)(hQ:Q (.int (gre (cB fares m) seats)) M):
    fI [DI fares,aQ m,.int seats] M Q:=by
  refine j9 rfl ?_
  unfold jm
  walk_at "env"
  walk_at "run"
  refine e7 (α:=Int × Nat) ?_
  walk_at "run"
  refine⟨_,fun p=>prD (0 - p.1,((p.2:Nat):Int)),_,mz _ _,by simp;omega,fun p hp=>⟨_,rfl,?_⟩,?_⟩
  · walk_at "env"
    walk_at "run"
    rfl
  walk_at "run"
  rw[show (fares.zipIdx.map fun p=>prD (0 - p.1,((p.2:Nat):Int)))=(fares.zipIdx.map fun p=>(0 - p.1,((p.2:Nat):Int))).map prD by rw[List.map_map];rfl]
  have hb:=jB (fares:=fares) (by omega)
  refine yA hb (by simp;omega) ?_
  have hp:=dY (fares.zipIdx.map fun p=>(0 - p.1,((p.2:Nat):Int)))
  have hso:∀ p ∈ ce (fares.zipIdx.map fun p=>(0 - p.1,((p.2:Nat):Int))),-1000000<=p.1/\p.1<=0/\0<=p.2/\p.2 < fares.length:=fun p hq=>by
    obtain⟨q,hq',rfl⟩:=List.mem_map.mp (hp.mem_iff.mp hq)
    have h2:=List.snd_lt_of_mem_zipIdx hq'
    have h3:=hfb q.1 (List.fst_mem_of_mem_zipIdx hq')
    simp only
    omega
  unfold cB at hQ
  generalize ce (fares.zipIdx.map fun p=>(0 - p.1,((p.2:Nat):Int)))=so at hso hQ ⊢
  walk_at "run"
  refine⟨fun x hx=>?_,?_⟩
  · obtain⟨p,_,rfl⟩:=List.mem_map.mp hx
    exact⟨_,_,rfl⟩
  refine ja prD so (fun k ρ M'=>M'=M/\∃ told left a b c,ρ=[some (DI fares),some (aQ m),some (.int seats),some (.int told),some (.int left),a,b,c]/\0<=left/\left<=seats/\told+gre ((so.drop k).map fun p=>(0 - p.1,m.getD p.2.toNat 0)) left=gre (so.map fun p=>(0 - p.1,m.getD p.2.toNat 0)) seats) ⟨rfl,0,seats,none,none,none,rfl,h0,Int.le_refl _,by rw[List.drop_zero];omega⟩ ?_ ?_
  · rintro ρ M' ⟨rfl,told,left,a,b,c,rfl,h2,h3,h4⟩
    rw[List.drop_length] at h4
    have h4:told+0=_:=h4
    walk_at "run"
    rw[<- h4,Int.add_zero] at hQ
    exact hQ
  · rintro k hk ρ M' ⟨rfl,told,left,a,b,c,rfl,h2,h3,h4⟩ N hN
    have hs:=hso _ (List.getElem_mem hk)
    rw[List.drop_eq_getElem_cons hk,List.map_cons,gre] at h4
    generalize so[k]=p at hs h4 ⊢
    obtain⟨p1,p2⟩:=p
    simp only at hs h4
    refine (show fy 5 6 _ (.tup [.int p1,.int p2]) _ _ _ from ?_)
    unfold fy
    walk_at "env"
    walk_at "run"
    refine nE hs.2.2.1 (by rw[hm.1];exact hs.2.2.2) ?_
    walk_at "run"
    have hn:=hm.2 (m.getD p2.toNat 0) (by rw[e8 _ _ _ (by rw[hm.1];omega)];exact List.getElem_mem _)
    have e:(0 - p1) * min left (m.getD p2.toNat 0)=0 - p1 * min left (m.getD p2.toNat 0):=by rw[Int.sub_mul,Int.zero_mul]
    rw[e] at h4
    exact hN _ _ ⟨rfl,_,_,_,_,_,rfl,by omega,by omega,by omega⟩
theorem nG{c:Nat}{m:List Int}{j:Nat}(hj:j < c)(hm:m.length=c):D.tup ((m.take j).map D.int++[D.int (m.getD j 0+1)]++(m.drop (j+1)).map D.int)=aQ (aR c m j):=by
  unfold aQ aR
  rw[if_pos hj,List.set_eq_take_append_cons_drop,if_pos (by omega)]
  simp
theorem nH{c:Nat}{m:List Int}{j:Nat}(hj:¬ j < c):aQ m=aQ (aR c m j):=by unfold aR;rw[if_neg hj]
theorem yE{turns:List (List Int)}{c:Nat}{M:Sto}{Q:QE}(hc:1<=c)(hc6:c<=6)(ht:turns.length<=8)(hr:∀ r ∈ turns,r.length=c+1/\∀ y ∈ r,0<=y/\y<=1000)(hQ:∀ a ps M',M' a=some (.dcL true ps)->bH ps->(∀ p ∈ ps,Cnt c p.1)->(∀ f,b0 ps f=cU c turns f)->Q (.ptr a) M'):fJ [DII turns,.int (c:Nat)] M Q:=by
  refine j9 rfl ?_
  unfold jn
  walk_at "env"
  walk_at "run"
  refine yB hc (by omega) ?_
  walk_at "run"
  refine⟨List.replicate c 0,1,by simp[aQ],rfl,fun a ha=>?_⟩
  walk_at "env"
  walk_at "run"
  refine ja DI turns (fun k ρ M'=>∃ a ps o3 o4 o5 o6 o7,ρ=[some (DII turns),some (.int (c:Nat)),some (.ptr a),o3,o4,o5,o6,o7]/\M' a=some (.dcL true ps)/\bH ps/\(∀ p ∈ ps,Cnt c p.1)/\(∀ f,b0 ps f=cU c (turns.take k) f)/\ps.length<=7 ^ k)
    ⟨a,_,_,_,_,_,_,rfl,e9,by simp[bH],fun p hp=>by rw[List.mem_singleton.mp hp];exact jz c,fun f=>by simp[b0,cU],by simp⟩ ?_ ?_
  · rintro ρ M' ⟨a,ps,o3,o4,o5,o6,o7,rfl,h1,h2,h3,h4,_⟩
    rw[List.take_length] at h4
    walk_at "run"
    exact hQ a ps M' h1 h2 h3 h4
  · rintro k hk ρ M' ⟨a,ps,o3,o4,o5,o6,o7,rfl,h1,h2,h3,h4,h5⟩ N hN
    obtain⟨q1,q2⟩:=hr _ (List.getElem_mem hk)
    rw[iP hk] at hN
    generalize turns[k]=row at q1 q2 hN ⊢
    have h7:ps.length * (c+1)<=7 ^ (k+1):=Nat.mul_le_mul h5 (by omega)
    have h8:7 ^ (k+1)<=7 ^ 8:=Nat.pow_le_pow_right (by omega) (by omega)
    walk_at "env"
    walk_at "run"
    intro b hb
    have hab:a ≠ b:=fun e=>by subst e;rw[h1] at hb;cases hb
    walk_at "env"
    walk_at "run"
    refine⟨a,ps,rfl,?_⟩
    refine mQ ps (fun i ρ M'=>∃ qs o5 o6 o7,ρ=[some (DII turns),some (.int (c:Nat)),some (.ptr a),some (DI row),some (.ptr b),o5,o6,o7]/\M' a=some (.dcL true ps)/\M' b=some (.dcL false qs)/\bH qs/\(∀ p ∈ qs,Cnt c p.1)/\(∀ f,b0 qs f=b0 (ps.take i) (aS c row f))/\qs.length<=i * (c+1))
      (fun i ρ M' h=>by obtain⟨_,_,_,_,_,h,_⟩:=h;exact h) ⟨[],_,_,_,rfl,by rw[cR hab];exact h1,e9,List.nodup_nil,fun _ h=>(nomatch h),fun f=>rfl,Nat.zero_le _⟩ ?_ ?_
    · rintro ρ M' ⟨qs,o5,o6,o7,rfl,g1,g2,g3,g4,g5,g6⟩
      walk_at "run"
      refine xL rfl g2 ?_
      walk_at "env"
      walk_at "run"
      refine hN _ _ ⟨b,qs,_,_,_,_,_,rfl,e9,g3,g4,fun f=>?_,by omega⟩
      rw[g5,List.take_length,h4,yw]
    · rintro i hi ρ M' ⟨qs,o5,o6,o7,rfl,g1,g2,g3,g4,g5,g6⟩ N' hN'
      have hcm:=h3 _ (List.getElem_mem hi)
      have hlk:=nq h2 i hi
      have est:∀ f:List Int->Int,b0 (ps.take (i+1)) (aS c row f)=b0 (ps.take i) (aS c row f)+ps[i].2 * aS c row f ps[i].1:=fun f=>nt hi
      generalize ps[i]=pi at hcm hlk est ⊢
      obtain⟨m,n⟩:=pi
      simp only at hcm hlk est ⊢
      walk_at "env"
      walk_at "run"
      refine⟨⟨by omega,by omega⟩,?_⟩
      rw[show (((c:Nat):Int)+1).toNat=c+1 by omega]
      refine ja (fun k:Nat=>D.int (k:Nat)) (List.range (c+1)) (fun j ρ M'=>∃ qs o6 o7,ρ=[some (DII turns),some (.int (c:Nat)),some (.ptr a),some (DI row),some (.ptr b),some (aQ m),o6,o7]/\M' a=some (.dcL true ps)/\M' b=some (.dcL false qs)/\bH qs/\(∀ p ∈ qs,Cnt c p.1)/\(∀ f,b0 qs f=b0 (ps.take i) (aS c row f)+n * ar j fun j=>row.getD j 0 * f (aR c m j))/\qs.length<=i * (c+1)+j)
        ⟨qs,_,_,rfl,g1,g2,g3,g4,fun f=>by rw[g5];simp[ar],by omega⟩ ?_ ?_
      · rintro ρ M' ⟨qs,o6,o7,rfl,g1,g2,g3,g4,g5,g6⟩
        rw[List.length_range] at g5 g6
        refine hN' _ _ ⟨qs,_,_,_,rfl,g1,g2,g3,g4,fun f=>?_,by rw[Nat.succ_mul];exact g6⟩
        rw[g5,est];rfl
      · rintro j hj ρ M' ⟨qs,o6,o7,rfl,g1,g2,g3,g4,g5,g6⟩ N2 hN2
        rw[List.length_range] at hj
        simp only[List.getElem_range]
        have hrj:=q2 (row.getD j 0) (by rw[e8 _ _ _ (by omega)];exact List.getElem_mem _)
        have hil:i * (c+1)+(c+1)<=ps.length * (c+1):=by
          have:=Nat.mul_le_mul_right (c+1) (show i+1<=ps.length by omega)
          rw[Nat.succ_mul] at this;exact this
        have hsz:qs.length < 10000000:=by
          have:7 ^ 8=5764801:=by decide
          omega
        walk_at "env"
        walk_at "run"
        refine iO (by omega) (by omega) ?_
        rw[Int.toNat_natCast]
        walk_at "run"
        have fin:∀ o7,0 < row.getD j 0->N2 [some (DII turns),some (.int (c:Nat)),some (.ptr a),some (DI row),some (.ptr b),some (aQ m),some (.int (j:Nat)),o7] (b6 M' b (.dcL false (jv qs (aR c m j) (n * row.getD j 0)))):=fun o7 _=>by
          refine hN2 _ _ ⟨_,_,_,rfl,by rw[cR hab];exact g1,e9,yt g3 _ _,yu g4 (hcm.bump j),fun f=>?_,?_⟩
          · rw[yr g3,g5,nu,Int.mul_add,Int.mul_assoc];omega
          · exact Nat.le_trans (yv qs (aR c m j) ((bo qs (aR c m j)).getD 0+n * row.getD j 0)) (by omega)
        refine fu (fun hp=>?_) fun hp=>?_
        · walk_at "run"
          refine fu (fun hj2=>?_) fun hj2=>?_
          · have hj3:j < c:=by omega
            walk_at "run"
            refine⟨fun z=>?_,?_⟩
            · have z2:=z.2
              simp only[HT.sIx,List.length_map,hcm.1] at z2
              rw[if_neg (by omega),Int.toNat_natCast] at z2
              omega
            rw[w6]
            walk_at "run"
            refine nE (by omega) (by rw[hcm.1];omega) ?_
            rw[Int.toNat_natCast]
            walk_at "run"
            refine⟨fun z=>?_,?_⟩
            · have z1:=z.1
              simp only[HT.sIx,List.length_map,hcm.1] at z1
              rw[if_neg (by omega)] at z1
              omega
            rw[show ((j:Nat):Int)+1=((j+1:Nat):Int) by omega,w8]
            refine mh ?_ ?_
            · simp[hcm.1];omega
            walk_at "run"
            walk_at "env"
            refine⟨b,false,qs,rfl,g2,?_⟩
            walk_at "run"
            refine⟨false,qs,aR c m j,0,nG hj3 hcm.1,rfl,g2,?_⟩
            walk_at "run"
            refine⟨a,true,ps,m,n,rfl,rfl,g1,hlk,?_⟩
            walk_at "run"
            refine iO (by omega) (by omega) ?_
            rw[Int.toNat_natCast]
            walk_at "run"
            refine⟨b,qs,aR c m j,_,rfl,nG hj3 hcm.1,rfl,g2,hsz,?_⟩
            exact fin _ hp
          · have hj3:¬ j < c:=by omega
            walk_at "run"
            walk_at "env"
            refine⟨b,false,qs,rfl,g2,?_⟩
            walk_at "run"
            refine⟨false,qs,aR c m j,0,nH hj3,rfl,g2,?_⟩
            walk_at "run"
            refine⟨a,true,ps,m,n,rfl,rfl,g1,hlk,?_⟩
            walk_at "run"
            refine iO (by omega) (by omega) ?_
            rw[Int.toNat_natCast]
            walk_at "run"
            refine⟨b,qs,aR c m j,_,rfl,nH hj3,rfl,g2,hsz,?_⟩
            exact fin _ hp
        · walk_at "run"
          have e0:row.getD j 0=0:=by omega
          refine hN2 _ _ ⟨qs,_,_,rfl,g1,g2,g3,g4,fun f=>?_,by omega⟩
          rw[g5,nu,e0];simp
theorem yF(ns:List Int)(hl:ns.length<=63):jp [.scr ns] (fun _=>none) fun d _=>d=.bl true:=by
  refine j9 rfl ?_
  unfold jo
  walk_at "env"
  walk_at "run"
  refine fo (xV ns) ?_
  rintro _ ⟨seats,fares,turns,rfl,ok⟩
  obtain⟨s0,s1,f0,f1,f2,t1,t2⟩:=ok
  refine⟨_,rfl,rfl,?_⟩
  walk_at "env"
  walk_at "run"
  have hfb:∀ f ∈ fares,0<=f/\f<=1000000:=fun f h=>by have:=f2 f h;omega
  have hfb2:∀ f ∈ fares,0<=f/\f<=100000000:=fun f h=>by have:=f2 f h;omega
  have hr2:∀ r ∈ turns,fares.length<=r.length/\r.length<=20/\∀ y ∈ r,0<=y/\y<=1000:=fun r hr=>by
    obtain⟨q1,q2,q3⟩:=t2 r hr
    exact⟨by omega,by omega,q2⟩
  rw[List.length_map]
  refine yE f0 f1 t1 (fun r hr=>⟨(t2 r hr).1,(t2 r hr).2.1⟩) fun a ps M' h1 h2 h3 h4=>?_
  walk_at "env"
  walk_at "run"
  have hall:b0 ps (fun m=>gre (cB fares m) seats)=fsW seats fares turns:=by
    rw[h4]
    refine yz (M:=1000000) s0 (by omega) hfb (fun r hr=>(t2 r hr).1) fun m hm=>?_
    exact yo s0 (jA hm.1) (yC (by omega)) (fun f h=>hfb f h) hm.2
  refine⟨a,ps,rfl,?_⟩
  refine mQ ps (fun i ρ M=>M=M'/\∃ o6 o7 o8,ρ=[some (.scr ns),some (.int seats),some (DI fares),some (DII turns),some (.int (b0 (ps.take i) fun m=>gre (cB fares m) seats)),some (.ptr a),o6,o7,o8]) (fun i ρ M h=>by rw[h.1];exact h1) ⟨rfl,_,_,_,rfl⟩ ?_ ?_
  · rintro ρ M ⟨rfl,o6,o7,o8,rfl⟩
    rw[List.take_length,hall]
    walk_at "run"
    refine wc (α:=List Int) ?_
    walk_at "run"
    refine⟨_,fun r=>r,_,rfl,by omega,fun r _=>⟨_,rfl,?_⟩,?_⟩
    · walk_at "env"
      walk_at "run"
    rw[List.map_id']
    walk_at "run"
    refine fq (yj s0 (by omega) (by omega) hfb2 (by omega) hr2) ?_
    walk_at "run"
    refine lY (fun h=>absurd rfl h) fun _=>?_
    walk_at "run"
    refine we ?_ rfl
    simp[aB,mn,w5]
  · rintro i hi ρ M ⟨rfl,o6,o7,o8,rfl⟩ N hN
    have hc:=h3 _ (List.getElem_mem hi)
    have hlk:=nq h2 i hi
    rw[nt hi] at hN
    generalize ps[i]=pi at hc hlk hN ⊢
    obtain⟨m,n⟩:=pi
    simp only at hc hlk hN ⊢
    walk_at "env"
    walk_at "run"
    refine⟨a,true,ps,m,n,rfl,rfl,h1,hlk,?_⟩
    walk_at "run"
    refine yD (by omega) hfb hc s0 s1 ?_
    have hb:=nF (F:=1000000) (by omega) (cB fares m) seats s0 (fun p hp=>hfb _ (List.of_mem_zip ((jA hc.1).mem_iff.mp hp)).1) (fun p hp=>hc.2 _ (List.of_mem_zip ((jA hc.1).mem_iff.mp hp)).2)
    walk_at "run"
    exact hN _ _ ⟨rfl,_,_,_,rfl⟩
end My
end VL
namespace VL
namespace My
open PySem PySem.Spec PyProof.Rows L2
def top(i:Nat):Stmt:=PySem.Challenge.pw_latefare_k34_foresight_by_all.main.body.getD i (.Pass ⟨0,0,0,0⟩)
section
variable {P:Program} {w:World} {K:PySem.W.Frag} {mg:Str->Option Value} {base:Heap}
abbrev dk:Stmt:=top 1
theorem nI:FnScope ["row"] ["row"] (am dk):=⟨rfl,rfl,rfl,by decide +kernel,rfl,by decide +kernel,by decide +kernel⟩
theorem yG{a:Addr}{fd:FuncData}(Fn:Fun K "total_of" "total_of" dk a fd)(b_sum:mg "sum" = none):FnOk P w K mg base CX0 1 a fd ["row"] (spF K mR false):=by
  refine ci (np:=1) (n:=1) (body:=jb) [] [] rfl rfl rfl Fn nI (fun cdv A outer s H E F hn hr=>?_)
  have sc:=nI
  exact (bf (bT (O':=[]) (gs rfl b_sum (aj (ad 0) aw))))
theorem yH{a:Addr}{fd:FuncData}(Fn:Fun K "total_of" "total_of" dk a fd)(m:mg "total_of" = some (.ref a))(b_sum:mg "sum" = none):Def P w K mg base "total_of" 1 ["row"] fC false :=
  Def.sc ⟨a,fd,yG Fn b_sum,m,Fn.kp,Fn.binds fun _ _ _ _ _ _ us hl=>match us,hl with | [_],_=>rfl⟩
abbrev cq:Stmt:=top 3
theorem nJ:FnScope ["shows","came","stayed","without","along"] ["shows","came","stayed"] (am cq):=⟨rfl,rfl,rfl,by decide +kernel,rfl,by decide +kernel,by decide +kernel⟩
theorem yI{a:Addr}{fd:FuncData}(Fn:Fun K "with_one_more" "with_one_more" cq a fd)(b_zip:mg "zip" = none):FnOk P w K mg base CX0 1 a fd ["shows","came","stayed"] (spF K mS true):=by
  refine ci (np:=3) (n:=5) (body:=jc) [] [] rfl rfl rfl Fn nJ (fun cdv A outer s H E F hn hr=>?_)
  have sc:=nJ
  exact (aO (dZ 3 sc.nd (lJ (df (bj (dg (own:=["weight"]) (caps:=[2]) (cn:=["stayed"]) ⟨rfl,by decide +kernel,by decide +kernel,cQ (am cq) rfl (by decide +kernel),by first | rfl | decide +kernel,by decide +kernel,by decide +kernel⟩ rfl (iJ (aY 0)) (fun _ _ _ _=>bZ (i:=0) (show (["weight","stayed"]:List Str).Nodup from by decide +kernel) rfl (Or.inl rfl) (.inr rfl)) (gc 0) (by decide) (fun _ _ _ _=>dc) (fun _ _ _ _=>(bR (ad 0) (ad 1)))))) (df (bj (cx (aj ag aw))))) (by rw[hn];decide)) (aO (dZ 4 sc.nd (lJ (df (bj (cx (aj ag aw)))) (df (bj (dg (own:=["weight"]) (caps:=[1]) (cn:=["came"]) ⟨rfl,by decide +kernel,by decide +kernel,cQ (am cq) rfl (by decide +kernel),by first | rfl | decide +kernel,by decide +kernel,by decide +kernel⟩ rfl (iJ (aY 0)) (fun _ _ _ _=>bZ (i:=0) (show (["weight","came"]:List Str).Nodup from by decide +kernel) rfl (Or.inl rfl) (.inr rfl)) (gc 0) (by decide) (fun _ _ _ _=>dc) (fun _ _ _ _=>(bR (ad 0) (ad 1))))))) (by rw[hn];decide)) (bf (ut (O':=[]) (dg (own:=["one","other"]) (caps:=[]) (cn:=[]) ⟨rfl,by decide +kernel,by decide +kernel,cQ (am cq) rfl (by decide +kernel),by first | rfl | decide +kernel,by decide +kernel,by decide +kernel⟩ rfl (lW b_zip (aY 3) (aY 4)) (fun _ _ _ _=>dC rfl (Tgs.ok (is:=[0,1]) (show (["one","other"]:List Str).Nodup from by decide +kernel) (.cons (i:=0) rfl (Or.inl rfl) (.inr rfl) (.cons (i:=1) rfl (Or.inl rfl) (.inr rfl) Tgs.nil rfl) rfl))) (gd [0,1]) (by decide) (fun _ _ _ _=>dc) (fun _ _ _ _=>(aX (ad 0) (ad 1))))))))
theorem yJ{a:Addr}{fd:FuncData}(Fn:Fun K "with_one_more" "with_one_more" cq a fd)(m:mg "with_one_more" = some (.ref a))(b_zip:mg "zip" = none):Def P w K mg base "with_one_more" 1 ["shows","came","stayed"] fD true :=
  ⟨a,fd,yI Fn b_zip,m,Fn.kp,Fn.binds fun _ _ _ _ _ _ us hl=>match us,hl with | [_,_,_],_=>rfl⟩
abbrev cV:Stmt:=top 6
theorem nK:FnScope ["fares","turns","least","weights","row","dear"] ["fares","turns","least"] (am cV):=⟨rfl,rfl,rfl,by decide +kernel,rfl,by decide +kernel,by decide +kernel⟩
theorem yK{a:Addr}{fd:FuncData}(Fn:Fun K "numbers_of_dear" "numbers_of_dear" cV a fd)(b_sum:mg "sum" = none)(b_zip:mg "zip" = none)(d_total_of:Def P w K mg base "total_of" 1 ["row"] fC false)(d_with_one_more:Def P w K mg base "with_one_more" 1 ["shows","came","stayed"] fD true):FnOk P w K mg base CX0 2 a fd ["fares","turns","least"] (spF K mT true):=by
  refine ci (np:=3) (n:=6) (body:=jd) [] [] rfl rfl rfl Fn nK (fun cdv A outer s H E F hn hr=>?_)
  have sc:=nK
  exact (aO (dZ 3 sc.nd (cx (aj ag aw)) (by rw[hn];decide)) (aO (lO 4 [3] sc.nd rfl (ad 1) (aO (bU 5 sc.nd (gs rfl b_sum (aj (bj (dg (own:=["fare","weight"]) (caps:=[2]) (cn:=["least"]) ⟨rfl,by decide +kernel,by decide +kernel,cQ (am cV) rfl (by decide +kernel),by first | rfl | decide +kernel,by decide +kernel,by decide +kernel⟩ rfl (lW b_zip (aY 0) (aY 4)) (fun _ _ _ _=>dC rfl (Tgs.ok (is:=[0,1]) (show (["fare","weight","least"]:List Str).Nodup from by decide +kernel) (.cons (i:=0) rfl (Or.inl rfl) (.inr rfl) (.cons (i:=1) rfl (Or.inl rfl) (.inr rfl) Tgs.nil rfl) rfl))) (gd [0,1]) (by decide) (fun _ _ _ _=>uF (um (ad 0) (ad 2))) (fun _ _ _ _=>(ad 1)))) aw))) (bf (dZ 3 sc.nd (lS d_with_one_more hr (aj (ad 3) (aj (ad 5) (aj (fm (cg d_total_of hr (aj (ad 4) aw)) (ad 5)) aw)))) (by rw[hn];decide))))) (bf (uv (O':=[]) 3))))
theorem yL{a:Addr}{fd:FuncData}(Fn:Fun K "numbers_of_dear" "numbers_of_dear" cV a fd)(m:mg "numbers_of_dear" = some (.ref a))(b_sum:mg "sum" = none)(b_zip:mg "zip" = none)(d_total_of:Def P w K mg base "total_of" 1 ["row"] fC false)(d_with_one_more:Def P w K mg base "with_one_more" 1 ["shows","came","stayed"] fD true):Def P w K mg base "numbers_of_dear" 2 ["fares","turns","least"] fE true :=
  ⟨a,fd,yK Fn b_sum b_zip d_total_of d_with_one_more,m,Fn.kp,Fn.binds fun _ _ _ _ _ _ us hl=>match us,hl with | [_,_,_],_=>rfl⟩
abbrev cW:Stmt:=top 7
theorem nL:FnScope ["seats","weights"] ["seats","weights"] (am cW):=⟨rfl,rfl,rfl,by decide +kernel,rfl,by decide +kernel,by decide +kernel⟩
theorem yM{a:Addr}{fd:FuncData}(Fn:Fun K "seated" "seated" cW a fd)(b_enumerate:mg "enumerate" = none)(b_min:mg "min" = none)(b_sum:mg "sum" = none):FnOk P w K mg base CX0 1 a fd ["seats","weights"] (spF K mU false):=by
  refine ci (np:=2) (n:=2) (body:=je) [] [] rfl rfl rfl Fn nL (fun cdv A outer s H E F hn hr=>?_)
  have sc:=nL
  exact (bf (bT (O':=[]) (gs rfl b_sum (aj (bj (dg (own:=["many","weight"]) (caps:=[0]) (cn:=["seats"]) ⟨rfl,by decide +kernel,by decide +kernel,cQ (am cW) rfl (by decide +kernel),by first | rfl | decide +kernel,by decide +kernel,by decide +kernel⟩ rfl (lV b_enumerate (aY 1)) (fun _ _ _ _=>dC rfl (Tgs.ok (is:=[0,1]) (show (["many","weight","seats"]:List Str).Nodup from by decide +kernel) (.cons (i:=0) rfl (Or.inl rfl) (.inr rfl) (.cons (i:=1) rfl (Or.inl rfl) (.inr rfl) Tgs.nil rfl) rfl))) (gd [0,1]) (by decide) (fun _ _ _ _=>dc) (fun _ _ _ _=>(bR (ad 1) (lM rfl b_min (aj (ad 0) (aj (ad 2) aw))))))) aw))))
theorem yN{a:Addr}{fd:FuncData}(Fn:Fun K "seated" "seated" cW a fd)(m:mg "seated" = some (.ref a))(b_enumerate:mg "enumerate" = none)(b_min:mg "min" = none)(b_sum:mg "sum" = none):Def P w K mg base "seated" 1 ["seats","weights"] fF false :=
  Def.sc ⟨a,fd,yM Fn b_enumerate b_min b_sum,m,Fn.kp,Fn.binds fun _ _ _ _ _ _ us hl=>match us,hl with | [_,_],_=>rfl⟩
abbrev dm:Stmt:=top 5
theorem nM:FnScope ["seats","fares","turns","together","below","fare"] ["seats","fares","turns"] (am dm):=⟨rfl,rfl,rfl,by decide +kernel,rfl,by decide +kernel,by decide +kernel⟩
theorem yO{a:Addr}{fd:FuncData}(Fn:Fun K "foresight_of" "foresight_of" dm a fd)(b_sorted:mg "sorted" = none)(d_numbers_of_dear:Def P w K mg base "numbers_of_dear" 2 ["fares","turns","least"] fE true)(d_seated:Def P w K mg base "seated" 2 ["seats","weights"] fF false):FnOk P w K mg base CX0 3 a fd ["seats","fares","turns"] (spF K mV false):=by
  refine ci (np:=3) (n:=6) (body:=jf) [] [] rfl rfl rfl Fn nM (fun cdv A outer s H E F hn hr=>?_)
  have sc:=nM
  exact (aO (bU 3 sc.nd ag) (aO (bU 4 sc.nd ag) (aO (lO 5 [] sc.nd rfl (bj (uC b_sorted (aY 1))) (aO (bU 3 sc.nd (aX (ad 3) (bR (fm (ad 5) (ad 4)) (cg d_seated hr (aj (ad 0) (aj (bj (lS d_numbers_of_dear hr (aj (ad 1) (aj (ad 2) (aj (ad 5) aw))))) aw)))))) (bf (bU 4 sc.nd (ad 5))))) (bf (bT (O':=[]) (ad 3))))))
theorem yP{a:Addr}{fd:FuncData}(Fn:Fun K "foresight_of" "foresight_of" dm a fd)(m:mg "foresight_of" = some (.ref a))(b_sorted:mg "sorted" = none)(d_numbers_of_dear:Def P w K mg base "numbers_of_dear" 2 ["fares","turns","least"] fE true)(d_seated:Def P w K mg base "seated" 2 ["seats","weights"] fF false):Def P w K mg base "foresight_of" 3 ["seats","fares","turns"] gL false :=
  Def.sc ⟨a,fd,yO Fn b_sorted d_numbers_of_dear d_seated,m,Fn.kp,Fn.binds fun _ _ _ _ _ _ us hl=>match us,hl with | [_,_,_],_=>rfl⟩
abbrev dn:Stmt:=top 9
theorem nN:FnScope ["script","k"] ["script","k"] (am dn):=⟨rfl,rfl,rfl,by decide +kernel,rfl,by decide +kernel,by decide +kernel⟩
theorem yQ{a:Addr}{fd:FuncData}(Fn:Fun K "_law_cell_at" "_law_cell_at" dn a fd)(b_len:mg "len" = none):FnOk P w K mg base CX0 1 a fd ["script","k"] (spF K mW false):=by
  refine ci (np:=2) (n:=2) (body:=jh) [] [] rfl rfl rfl Fn nN (fun cdv A outer s H E F hn hr=>?_)
  have sc:=nN
  exact (aO (gu (O':=[]) (lF (ad 1) (lK b_len (aj (ad 0) aw))) (bf (bT (O':=[]) (cy (aY 0) (ad 1) (fun _ _=>rfl)))) gt) (bf (bT (O':=[]) ag)))
theorem yR{a:Addr}{fd:FuncData}(Fn:Fun K "_law_cell_at" "_law_cell_at" dn a fd)(m:mg "_law_cell_at" = some (.ref a))(b_len:mg "len" = none):Def P w K mg base "_law_cell_at" 1 ["script","k"] dj false :=
  Def.sc ⟨a,fd,yQ Fn b_len,m,Fn.kp,Fn.binds fun _ _ _ _ _ _ us hl=>match us,hl with | [_,_],_=>rfl⟩
abbrev dq:Stmt:=top 10
theorem nO:FnScope ["cell","k","mark"] ["cell","k"] (am dq):=⟨rfl,rfl,rfl,by decide +kernel,rfl,by decide +kernel,by decide +kernel⟩
theorem yS{a:Addr}{fd:FuncData}(Fn:Fun K "_law_blend" "_law_blend" dq a fd):FnOk P w K mg base CX0 1 a fd ["cell","k"] (spF K mX false):=by
  refine ci (np:=2) (n:=3) (body:=ji) [] [] rfl rfl rfl Fn nO (fun cdv A outer s H E F hn hr=>?_)
  have sc:=nO
  exact (aO (bU 2 sc.nd (aX (bR (aX (bm (ad 0) ag) ag) (aX (bR ag (ad 1)) ag)) (bR (bR ag (ad 1)) (ad 1)))) (bf (bT (O':=[]) (bS (bm (gp (ad 2) ag) ag) ag))))
theorem yT{a:Addr}{fd:FuncData}(Fn:Fun K "_law_blend" "_law_blend" dq a fd)(m:mg "_law_blend" = some (.ref a)):Def P w K mg base "_law_blend" 1 ["cell","k"] cS false :=
  Def.sc ⟨a,fd,yS Fn , m,Fn.kp,Fn.binds fun _ _ _ _ _ _ us hl=>match us,hl with | [_,_],_=>rfl⟩
abbrev dt:Stmt:=top 11
theorem nQ:FnScope ["cell","k","just","x"] ["cell","k","just"] (am dt):=⟨rfl,rfl,rfl,by decide +kernel,rfl,by decide +kernel,by decide +kernel⟩
theorem yU{a:Addr}{fd:FuncData}(Fn:Fun K "_law_fare" "_law_fare" dt a fd)(d_law_blend:Def P w K mg base "_law_blend" 1 ["cell","k"] cS false):FnOk P w K mg base CX0 2 a fd ["cell","k","just"] (spF K mY false):=by
  refine ci (np:=3) (n:=4) (body:=jj) [] [] rfl rfl rfl Fn nQ (fun cdv A outer s H E F hn hr=>?_)
  have sc:=nQ
  exact (aO (bU 3 sc.nd (cg d_law_blend hr (aj (ad 0) (aj (ad 1) aw)))) (aO (gu (O':=[]) (gq (ad 2)) (bf (bT (O':=[]) (aX ag (bm (ad 0) (gp ag ag))))) gt) (bf (bT (O':=[]) (cy (df (bj (cx (aj (aX ag (bm (bS (ad 3) ag) ag)) (aj (aX ag (bm (bS (ad 3) ag) ag)) (aj (gp ag ag) (aj (aX ag (bm (bS (ad 3) ag) (gp ag ag))) aw))))))) (bm (ad 3) ag) (fun _ _=>rfl))))))
theorem yV{a:Addr}{fd:FuncData}(Fn:Fun K "_law_fare" "_law_fare" dt a fd)(m:mg "_law_fare" = some (.ref a))(d_law_blend:Def P w K mg base "_law_blend" 1 ["cell","k"] cS false):Def P w K mg base "_law_fare" 2 ["cell","k","just"] fG false :=
  Def.sc ⟨a,fd,yU Fn d_law_blend,m,Fn.kp,Fn.binds fun _ _ _ _ _ _ us hl=>match us,hl with | [_,_,_],_=>rfl⟩
abbrev du:Stmt:=top 12
theorem nR:FnScope ["cell","k","just","x"] ["cell","k","just"] (am du):=⟨rfl,rfl,rfl,by decide +kernel,rfl,by decide +kernel,by decide +kernel⟩
theorem yW{a:Addr}{fd:FuncData}(Fn:Fun K "_law_weight" "_law_weight" du a fd)(d_law_blend:Def P w K mg base "_law_blend" 1 ["cell","k"] cS false):FnOk P w K mg base CX0 2 a fd ["cell","k","just"] (spF K mZ false):=by
  refine ci (np:=3) (n:=4) (body:=jk) [] [] rfl rfl rfl Fn nR (fun cdv A outer s H E F hn hr=>?_)
  have sc:=nR
  exact (aO (bU 3 sc.nd (cg d_law_blend hr (aj (ad 0) (aj (ad 1) aw)))) (aO (gu (O':=[]) (gq (ad 2)) (bf (bT (O':=[]) (bm (ad 0) ag))) gt) (bf (bT (O':=[]) (cy (df (bj (cx (aj ag (aj (bm (bS (ad 3) ag) ag) (aj (bm (bS (ad 3) ag) ag) (aj (bm (bS (ad 3) ag) ag) (aj (bm (bS (ad 3) ag) ag) (aj ag (aj ag (aj ag aw))))))))))) (bm (ad 3) ag) (fun _ _=>rfl))))))
theorem yX{a:Addr}{fd:FuncData}(Fn:Fun K "_law_weight" "_law_weight" du a fd)(m:mg "_law_weight" = some (.ref a))(d_law_blend:Def P w K mg base "_law_blend" 1 ["cell","k"] cS false):Def P w K mg base "_law_weight" 2 ["cell","k","just"] fH false :=
  Def.sc ⟨a,fd,yW Fn d_law_blend,m,Fn.kp,Fn.binds fun _ _ _ _ _ _ us hl=>match us,hl with | [_,_,_],_=>rfl⟩
abbrev cX:Stmt:=top 13
theorem nS:FnScope ["script","first","classes","just","fares","turns","t","row","k"] ["script"] (am cX):=⟨rfl,rfl,rfl,by decide +kernel,rfl,by decide +kernel,by decide +kernel⟩
theorem yY{a:Addr}{fd:FuncData}(Fn:Fun K "_law_sale" "_law_sale" cX a fd)(b_range:mg "range" = none)(b_sum:mg "sum" = none)(d_law_cell_at:Def P w K mg base "_law_cell_at" 2 ["script","k"] dj false)(d_law_fare:Def P w K mg base "_law_fare" 2 ["cell","k","just"] fG false)(d_law_weight:Def P w K mg base "_law_weight" 2 ["cell","k","just"] fH false):FnOk P w K mg base CX0 3 a fd ["script"] (spF K n0 false):=by
  refine ci (np:=1) (n:=9) (body:=jl) [] [] rfl rfl rfl Fn nS (fun cdv A outer s H E F hn hr=>?_)
  have sc:=nS
  exact (aO (bU 1 sc.nd (cg d_law_cell_at hr (aj (ad 0) (aj ag aw)))) (aO (bU 2 sc.nd (aX ag (bm (bS (ad 1) ag) ag))) (aO (bU 3 sc.nd (lQ hr (bm (bS (ad 1) ag) ag) ag)) (aO (uA 4 sc.nd (own:=["k"]) (caps:=[0,3]) (cn:=["script","just"]) ⟨rfl,by decide +kernel,by decide +kernel,cQ (am cX) rfl (by decide +kernel),by first | rfl | decide +kernel,by decide +kernel,by decide +kernel⟩ rfl (ux b_range (aj (ad 2) aw)) (fun _ _ _ _=>bZ (i:=0) (show (["k","script","just"]:List Str).Nodup from by decide +kernel) rfl (Or.inl rfl) (.inr rfl)) (gc 0) (by decide) (fun _ _ _ _=>dc) (fun _ _ _ _=>(cg d_law_fare hr (aj (cg d_law_cell_at hr (aj (ad 1) (aj (aX ag (ad 0)) aw))) (aj (ad 0) (aj (ad 2) aw))))) (by rw[hn];decide)) (aO (dZ 5 sc.nd (cx aw) (by rw[hn];decide)) (aO (lP 6 [5,4] sc.nd rfl b_range (aj (bm (bS (ad 1) ag) ag) aw) (aO (dZ 7 sc.nd (cx aw) (by rw[hn];decide)) (aO (lP 8 [7,5,4] sc.nd rfl b_range (aj (aX (ad 2) ag) aw) (bf (lN 7 (cg d_law_weight hr (aj (cg d_law_cell_at hr (aj (ad 0) (aj (aX (aX ag (bR (ad 6) (aX (ad 2) ag))) (ad 8)) aw))) (aj (aX (aX ag (bR ag (ad 6))) (ad 8)) (aj (ad 3) aw))))))) (aO (gu (O':=[7,5,4]) (uy hr (gs rfl b_sum (aj (ad 7) aw)) ag) (bf (uw 7 (aX ag (ad 6)) (uk ag))) gt) (bf (lN 5 (ad 7))))))) (bf (bT (O':=[]) (gr (aj (bm (ad 1) ag) (aj (ad 4) (aj (ad 5) aw))))))))))))
theorem yZ{a:Addr}{fd:FuncData}(Fn:Fun K "_law_sale" "_law_sale" cX a fd)(m:mg "_law_sale" = some (.ref a))(b_range:mg "range" = none)(b_sum:mg "sum" = none)(d_law_cell_at:Def P w K mg base "_law_cell_at" 2 ["script","k"] dj false)(d_law_fare:Def P w K mg base "_law_fare" 2 ["cell","k","just"] fG false)(d_law_weight:Def P w K mg base "_law_weight" 2 ["cell","k","just"] fH false):Def P w K mg base "_law_sale" 3 ["script"] gM false :=
  ⟨a,fd,yY Fn b_range b_sum d_law_cell_at d_law_fare d_law_weight,m,Fn.kp,Fn.binds fun _ _ _ _ _ _ us hl=>match us,hl with | [_],_=>rfl⟩
abbrev cY:Stmt:=top 16
theorem nT:FnScope ["fares","many","seats","told","left","fare","one","some"] ["fares","many","seats"] (am cY):=⟨rfl,rfl,rfl,by decide +kernel,rfl,by decide +kernel,by decide +kernel⟩
theorem za{a:Addr}{fd:FuncData}(Fn:Fun K "_law_dearest" "_law_dearest" cY a fd)(b_enumerate:mg "enumerate" = none)(b_min:mg "min" = none)(b_sorted:mg "sorted" = none):FnOk P w K mg base CX0 1 a fd ["fares","many","seats"] (spN K (fI)):=by
  refine j8 (np:=3) (n:=8) (body:=jm) rfl rfl rfl Fn nT (fun cdv A outer s H E hr=>?_)
  have sc:=nT
  exact (bh (bz 3 sc.nd (ay ag)) (bh (bz 4 sc.nd (ay (ad 2))) (bh (xq 5 6 sc.nd rfl (ay (bj (uD b_sorted (df (bj (dg (own:=["one","fare"]) (caps:=[]) (cn:=[]) ⟨rfl,by decide +kernel,by decide +kernel,cQ (am cY) rfl (by decide +kernel),by first | rfl | decide +kernel,by decide +kernel,by decide +kernel⟩ rfl (lV b_enumerate (aY 0)) (fun _ _ _ _=>dC rfl (Tgs.ok (is:=[0,1]) (show (["one","fare"]:List Str).Nodup from by decide +kernel) (.cons (i:=0) rfl (Or.inl rfl) (.inr rfl) (.cons (i:=1) rfl (Or.inl rfl) (.inr rfl) Tgs.nil rfl) rfl))) (gd [0,1]) (by decide) (fun _ _ _ _=>dc) (fun _ _ _ _=>(gr (aj (fm ag (ad 1)) (aj (ad 0) aw)))))))))) (bh (bz 7 sc.nd (ay (lM rfl b_min (aj (ad 4) (aj (cy (aY 1) (ad 6) (fun _ _=>rfl)) aw))))) (bh (bz 3 sc.nd (ay (fm (ad 3) (bR (ad 5) (ad 7))))) (bW (bz 4 sc.nd (ay (fm (ad 4) (ad 7))))))) (.cons (i:=5) rfl (by first | exact Or.inl rfl | exact Or.inr rfl) (.inl rfl) (.cons (i:=6) rfl (by first | exact Or.inl rfl | exact Or.inr rfl) (.inl rfl) Tgs.nil rfl) rfl)) (bW (gK (ay (ad 3)))))))
abbrev dw:Stmt:=top 15
theorem nU:FnScope ["turns","classes","found","row","later","many","one","more"] ["turns","classes"] (am dw):=⟨rfl,rfl,rfl,by decide +kernel,rfl,by decide +kernel,by decide +kernel⟩
theorem zb{a:Addr}{fd:FuncData}(Fn:Fun K "_law_gathered" "_law_gathered" dw a fd)(b_range:mg "range" = none):FnOk P w K mg base CX0 1 a fd ["turns","classes"] (spN K (fJ)):=by
  refine j8 (np:=2) (n:=8) (body:=jn) rfl rfl rfl Fn nU (fun cdv A outer s H E hr=>?_)
  have sc:=nU
  exact (bh (bz 2 sc.nd (xl hr (uE (gr (aj ag aw)) (ad 1)) ag)) (bh (xj 3 sc.nd rfl (ay (ad 0)) (bh (bz 4 sc.nd xm) (bh (mP 5 sc.nd rfl (ay (ad 2)) (bW (xk 6 sc.nd rfl b_range (eu (ay (aX (ad 1) ag)) j5) (bW (j7 (j4 (ul (cy (aY 3) (ad 6) (fun _ _=>rfl)) ag)) (bh (bz 7 sc.nd (ay (ad 5))) (bh (j7 (j4 (lF (ad 6) (ad 1))) (bW (bz 7 sc.nd (ay (lT (lT (lU (aY 5) lH (lI (ad 6))) (gr (aj (aX (cy (aY 5) (ad 6) (fun _ _=>rfl)) ag) aw))) (lU (aY 5) (lI (aX (ad 6) ag)) lH))))) j6) (bW (xo hr (ay (ad 4)) (ay (ad 7)) (mL (xn hr (ay (ad 4)) (ay (ad 7)) (ay ag) ⟨rfl,rfl,rfl,rfl⟩) (mM (mO hr (ay (ad 2)) (ay (ad 5)) (fun _ _=>rfl)) (ay (cy (aY 3) (ad 6) (fun _ _=>rfl))))))))) j6))))) (xp 4 (bW (bz 2 sc.nd (ay (ad 4)))))))) (bW (gK (ay (ad 2))))))
abbrev cr:Stmt:=top 17
theorem nV:FnScope ["script","seats","fares","turns","due","gathered","many","handed","found"] ["script"] (am cr):=⟨rfl,rfl,rfl,by decide +kernel,rfl,by decide +kernel,by decide +kernel⟩
theorem zc{a:Addr}{fd:FuncData}(Fn:Fun K "law" "law" cr a fd)(b_bool:mg "bool" = none)(b_int:mg "int" = none)(b_isinstance:mg "isinstance" = none)(b_len:mg "len" = none)(b_list:mg "list" = none)(d_foresight_of:Def P w K mg base "foresight_of" 3 ["seats","fares","turns"] gL false)(d_law_sale:Def P w K mg base "_law_sale" 3 ["script"] gM false)(d_law_gathered:DefN P w K mg base "_law_gathered" 3 ["turns","classes"] (fJ))(d_law_dearest:DefN P w K mg base "_law_dearest" 3 ["fares","many","seats"] (fI)):FnOk P w K mg base CX0 4 a fd ["script"] (spN K (jp)):=by
  refine j8 (np:=1) (n:=9) (body:=jo) rfl rfl rfl Fn nV (fun cdv A outer s H E hr=>?_)
  have sc:=nV
  exact (bh (xi [1,2,3] rfl sc.nd (ay (uB d_law_sale hr (aj (ad 0) aw))) (.cons (i:=1) rfl (by first | exact Or.inl rfl | exact Or.inr rfl) (.inl rfl) (.cons (i:=2) rfl (by first | exact Or.inl rfl | exact Or.inr rfl) (.inl rfl) (.cons (i:=3) rfl (by first | exact Or.inl rfl | exact Or.inr rfl) (.inl rfl) Tgs.nil rfl) rfl) rfl)) (bh (bz 4 sc.nd (ay ag)) (bh (bz 5 sc.nd (mN d_law_gathered hr (eu (ay (ad 3)) (eu (ay (lK b_len (aj (ad 2) aw))) j5)))) (bh (mP 6 sc.nd rfl (ay (ad 5)) (bW (bz 4 sc.nd (mL (ay (ad 4)) (mM (mO hr (ay (ad 5)) (ay (ad 6)) (fun _ _=>rfl)) (mN d_law_dearest hr (eu (ay (ad 2)) (eu (ay (ad 6)) (eu (ay (ad 1)) j5))))))))) (bh (bz 7 sc.nd (ay (bj (cx (aj (bj (lL b_list (aY 2))) (aj (bj (dg (own:=["row"]) (caps:=[]) (cn:=[]) ⟨rfl,by decide +kernel,by decide +kernel,cQ (am cr) rfl (by decide +kernel),by first | rfl | decide +kernel,by decide +kernel,by decide +kernel⟩ rfl (iJ (aY 3)) (fun _ _ _ _=>bZ (i:=0) (show (["row"]:List Str).Nodup from by decide +kernel) rfl (Or.inl rfl) (.inr rfl)) (gc 0) (by decide) (fun _ _ _ _=>dc) (fun _ _ _ _=>(bj (lL b_list (aY 0)))))) aw)))))) (bh (bz 8 sc.nd (ay (cg d_foresight_of hr (aj (ad 1) (aj (cy (aY 7) ag (fun _ _=>rfl)) (aj (cy (aY 7) ag (fun _ _=>rfl)) aw)))))) (bh (j7 (j4 (uq (lG (ur (gq (lR sL (by decide +kernel) b_isinstance b_int (ad 8)))) (lG (gq (lR sM (by decide +kernel) b_isinstance b_bool (ad 8))) (uo (uz hr (ad 8) (ad 4))))))) (bW (gK (ay uj))) j6) (bW (gK (ay (lQ hr (ad 7) (bj (cx (aj (ad 2) (aj (ad 3) aw)))))))))))))))
end
def jC(K:PySem.W.Frag):Sp:=fun vs H Q E=>spN K (jp) vs H Q E
theorem all_mk{l:PySem.W.OpenLaw}{w:World}{K:PySem.W.Frag}{h:Heap}{mg:Str->Option Value}{fa f1 f2 f3 f4 f5 f6 f7 f8 f9 f10 f11 f12 f13:Addr}(X:K.In h)(G:h.Ns mainGlobals mg)(hfa:mg "law" = some (.ref fa)){od1 an1 od2 an2 od3 an3 od4 an4 od5 an5 od6 an6 od7 an7 od8 an8 od9 an9 od10 an10 od11 an11 od12 an12 od13 an13:Option Addr}{sl1 sl2 sl3 sl4 sl5 sl6 sl7 sl8 sl9 sl10 sl11 sl12 sl13:Array (Option Value)}{oc1 kV1 dc1 pm1 cd1 ct1 oc2 kV2 dc2 pm2 cd2 ct2 oc3 kV3 dc3 pm3 cd3 ct3 oc4 kV4 dc4 pm4 cd4 ct4 oc5 kV5 dc5 pm5 cd5 ct5 oc6 kV6 dc6 pm6 cd6 ct6 oc7 kV7 dc7 pm7 cd7 ct7 oc8 kV8 dc8 pm8 cd8 ct8 oc9 kV9 dc9 pm9 cd9 ct9 oc10 kV10 dc10 pm10 cd10 ct10 oc11 kV11 dc11 pm11 cd11 ct11 oc12 kV12 dc12 pm12 cd12 ct12 oc13 kV13 dc13 pm13 cd13 ct13:Value}(a1:PySem.W.nsIn K mainGlobals "total_of" = some (some (.ref f1)))(l1:K.lookup f1=some ⟨oc1,od1,.func (PySem.W.fnOf "total_of" "total_of" (ba dk) (aL dk) (am dk) .none kV1 dc1 pm1 an1 cd1 ct1),sl1⟩)(c1:PySem.W.codeIn K cd1 "total_of" = true)(k1:PySem.W.keepIn K (.ref f1)=true)(a2:PySem.W.nsIn K mainGlobals "with_one_more" = some (some (.ref f2)))(l2:K.lookup f2=some ⟨oc2,od2,.func (PySem.W.fnOf "with_one_more" "with_one_more" (ba cq) (aL cq) (am cq) .none kV2 dc2 pm2 an2 cd2 ct2),sl2⟩)(c2:PySem.W.codeIn K cd2 "with_one_more" = true)(k2:PySem.W.keepIn K (.ref f2)=true)(a3:PySem.W.nsIn K mainGlobals "numbers_of_dear" = some (some (.ref f3)))(l3:K.lookup f3=some ⟨oc3,od3,.func (PySem.W.fnOf "numbers_of_dear" "numbers_of_dear" (ba cV) (aL cV) (am cV) .none kV3 dc3 pm3 an3 cd3 ct3),sl3⟩)(c3:PySem.W.codeIn K cd3 "numbers_of_dear" = true)(k3:PySem.W.keepIn K (.ref f3)=true)(a4:PySem.W.nsIn K mainGlobals "seated" = some (some (.ref f4)))(l4:K.lookup f4=some ⟨oc4,od4,.func (PySem.W.fnOf "seated" "seated" (ba cW) (aL cW) (am cW) .none kV4 dc4 pm4 an4 cd4 ct4),sl4⟩)(c4:PySem.W.codeIn K cd4 "seated" = true)(k4:PySem.W.keepIn K (.ref f4)=true)(a5:PySem.W.nsIn K mainGlobals "foresight_of" = some (some (.ref f5)))(l5:K.lookup f5=some ⟨oc5,od5,.func (PySem.W.fnOf "foresight_of" "foresight_of" (ba dm) (aL dm) (am dm) .none kV5 dc5 pm5 an5 cd5 ct5),sl5⟩)(c5:PySem.W.codeIn K cd5 "foresight_of" = true)(k5:PySem.W.keepIn K (.ref f5)=true)(a6:PySem.W.nsIn K mainGlobals "_law_cell_at" = some (some (.ref f6)))(l6:K.lookup f6=some ⟨oc6,od6,.func (PySem.W.fnOf "_law_cell_at" "_law_cell_at" (ba dn) (aL dn) (am dn) .none kV6 dc6 pm6 an6 cd6 ct6),sl6⟩)(c6:PySem.W.codeIn K cd6 "_law_cell_at" = true)(k6:PySem.W.keepIn K (.ref f6)=true)(a7:PySem.W.nsIn K mainGlobals "_law_blend" = some (some (.ref f7)))(l7:K.lookup f7=some ⟨oc7,od7,.func (PySem.W.fnOf "_law_blend" "_law_blend" (ba dq) (aL dq) (am dq) .none kV7 dc7 pm7 an7 cd7 ct7),sl7⟩)(c7:PySem.W.codeIn K cd7 "_law_blend" = true)(k7:PySem.W.keepIn K (.ref f7)=true)(a8:PySem.W.nsIn K mainGlobals "_law_fare" = some (some (.ref f8)))(l8:K.lookup f8=some ⟨oc8,od8,.func (PySem.W.fnOf "_law_fare" "_law_fare" (ba dt) (aL dt) (am dt) .none kV8 dc8 pm8 an8 cd8 ct8),sl8⟩)(c8:PySem.W.codeIn K cd8 "_law_fare" = true)(k8:PySem.W.keepIn K (.ref f8)=true)(a9:PySem.W.nsIn K mainGlobals "_law_weight" = some (some (.ref f9)))(l9:K.lookup f9=some ⟨oc9,od9,.func (PySem.W.fnOf "_law_weight" "_law_weight" (ba du) (aL du) (am du) .none kV9 dc9 pm9 an9 cd9 ct9),sl9⟩)(c9:PySem.W.codeIn K cd9 "_law_weight" = true)(k9:PySem.W.keepIn K (.ref f9)=true)(a10:PySem.W.nsIn K mainGlobals "_law_sale" = some (some (.ref f10)))(l10:K.lookup f10=some ⟨oc10,od10,.func (PySem.W.fnOf "_law_sale" "_law_sale" (ba cX) (aL cX) (am cX) .none kV10 dc10 pm10 an10 cd10 ct10),sl10⟩)(c10:PySem.W.codeIn K cd10 "_law_sale" = true)(k10:PySem.W.keepIn K (.ref f10)=true)(a11:PySem.W.nsIn K mainGlobals "_law_dearest" = some (some (.ref f11)))(l11:K.lookup f11=some ⟨oc11,od11,.func (PySem.W.fnOf "_law_dearest" "_law_dearest" (ba cY) (aL cY) (am cY) .none kV11 dc11 pm11 an11 cd11 ct11),sl11⟩)(c11:PySem.W.codeIn K cd11 "_law_dearest" = true)(k11:PySem.W.keepIn K (.ref f11)=true)(a12:PySem.W.nsIn K mainGlobals "_law_gathered" = some (some (.ref f12)))(l12:K.lookup f12=some ⟨oc12,od12,.func (PySem.W.fnOf "_law_gathered" "_law_gathered" (ba dw) (aL dw) (am dw) .none kV12 dc12 pm12 an12 cd12 ct12),sl12⟩)(c12:PySem.W.codeIn K cd12 "_law_gathered" = true)(k12:PySem.W.keepIn K (.ref f12)=true)(a13:PySem.W.nsIn K mainGlobals "law" = some (some (.ref f13)))(l13:K.lookup f13=some ⟨oc13,od13,.func (PySem.W.fnOf "law" "law" (ba cr) (aL cr) (am cr) .none kV13 dc13 pm13 an13 cd13 ct13),sl13⟩)(c13:PySem.W.codeIn K cd13 "law" = true)(k13:PySem.W.keepIn K (.ref f13)=true)(z_bool:PySem.W.nsIn K mainGlobals "bool" = some none)(z_enumerate:PySem.W.nsIn K mainGlobals "enumerate" = some none)(z_int:PySem.W.nsIn K mainGlobals "int" = some none)(z_isinstance:PySem.W.nsIn K mainGlobals "isinstance" = some none)(z_len:PySem.W.nsIn K mainGlobals "len" = some none)(z_list:PySem.W.nsIn K mainGlobals "list" = some none)(z_min:PySem.W.nsIn K mainGlobals "min" = some none)(z_range:PySem.W.nsIn K mainGlobals "range" = some none)(z_sorted:PySem.W.nsIn K mainGlobals "sorted" = some none)(z_sum:PySem.W.nsIn K mainGlobals "sum" = some none)(z_zip:PySem.W.nsIn K mainGlobals "zip" = some none):
    ∃ fd:FuncData,(∀ (s:Shared) (v:Value),BindsTo s fd ⟨[v],[]⟩ [("script",v)])/\∀ base:Heap,K.In base->base.Ns mainGlobals mg->FnOk l.prog w K mg base CX0 4 fa fd ["script"] (jC K):=by
  have e:=hfa.symm.trans (PySem.W.mg_of X G a13)
  cases e
  have b_bool:=PySem.W.mg_none_of X G z_bool
  have b_enumerate:=PySem.W.mg_none_of X G z_enumerate
  have b_int:=PySem.W.mg_none_of X G z_int
  have b_isinstance:=PySem.W.mg_none_of X G z_isinstance
  have b_len:=PySem.W.mg_none_of X G z_len
  have b_list:=PySem.W.mg_none_of X G z_list
  have b_min:=PySem.W.mg_none_of X G z_min
  have b_range:=PySem.W.mg_none_of X G z_range
  have b_sorted:=PySem.W.mg_none_of X G z_sorted
  have b_sum:=PySem.W.mg_none_of X G z_sum
  have b_zip:=PySem.W.mg_none_of X G z_zip
  refine⟨PySem.W.fnOf "law" "law" (ba cr) (aL cr) (am cr) .none kV13 dc13 pm13 an13 cd13 ct13,fun s v=>.of_eq rfl,fun base _ _=>?_⟩
  have d_total_of:=yH (P:=l.prog) (w:=w) (base:=base) (bv (st:=dk) l1 c1 k1) (PySem.W.mg_of X G a1) b_sum
  have d_with_one_more:=yJ (P:=l.prog) (w:=w) (base:=base) (bv (st:=cq) l2 c2 k2) (PySem.W.mg_of X G a2) b_zip
  have d_numbers_of_dear:=yL (P:=l.prog) (w:=w) (base:=base) (bv (st:=cV) l3 c3 k3) (PySem.W.mg_of X G a3) b_sum b_zip (d_total_of.mono (k:=1)) (d_with_one_more.mono (k:=1))
  have d_seated:=yN (P:=l.prog) (w:=w) (base:=base) (bv (st:=cW) l4 c4 k4) (PySem.W.mg_of X G a4) b_enumerate b_min b_sum
  have d_foresight_of:=yP (P:=l.prog) (w:=w) (base:=base) (bv (st:=dm) l5 c5 k5) (PySem.W.mg_of X G a5) b_sorted (d_numbers_of_dear.mono (k:=2)) (d_seated.mono (k:=2))
  have d_law_cell_at:=yR (P:=l.prog) (w:=w) (base:=base) (bv (st:=dn) l6 c6 k6) (PySem.W.mg_of X G a6) b_len
  have d_law_blend:=yT (P:=l.prog) (w:=w) (base:=base) (bv (st:=dq) l7 c7 k7) (PySem.W.mg_of X G a7)
  have d_law_fare:=yV (P:=l.prog) (w:=w) (base:=base) (bv (st:=dt) l8 c8 k8) (PySem.W.mg_of X G a8) (d_law_blend.mono (k:=1))
  have d_law_weight:=yX (P:=l.prog) (w:=w) (base:=base) (bv (st:=du) l9 c9 k9) (PySem.W.mg_of X G a9) (d_law_blend.mono (k:=1))
  have d_law_sale:=yZ (P:=l.prog) (w:=w) (base:=base) (bv (st:=cX) l10 c10 k10) (PySem.W.mg_of X G a10) b_range b_sum (d_law_cell_at.mono (k:=2)) (d_law_fare.mono (k:=2)) (d_law_weight.mono (k:=2))
  have d_law_dearest:DefN l.prog w K mg base "_law_dearest" 1 ["fares","many","seats"] (fI):=⟨_,_,za (P:=l.prog) (w:=w) (base:=base) (bv (st:=cY) l11 c11 k11) b_enumerate b_min b_sorted,PySem.W.mg_of X G a11,k11,(bv (st:=cY) l11 c11 k11).binds (ps:=["fares","many","seats"]) fun _ _ _ _ _ _ us hl=>match us,hl with | [_,_,_],_=>rfl⟩
  have d_law_gathered:DefN l.prog w K mg base "_law_gathered" 1 ["turns","classes"] (fJ):=⟨_,_,zb (P:=l.prog) (w:=w) (base:=base) (bv (st:=dw) l12 c12 k12) b_range,PySem.W.mg_of X G a12,k12,(bv (st:=dw) l12 c12 k12).binds (ps:=["turns","classes"]) fun _ _ _ _ _ _ us hl=>match us,hl with | [_,_],_=>rfl⟩
  have T:=zc (P:=l.prog) (w:=w) (base:=base) (bv (st:=cr) l13 c13 k13) b_bool b_int b_isinstance b_len b_list (d_foresight_of.mono (k:=3)) (d_law_sale.mono (k:=3)) (d_law_gathered.mono (k:=3)) (d_law_dearest.mono (k:=3))
  exact T.imp fun vs H Q E h=>h
theorem walk{l:PySem.W.OpenLaw}{q:Program}{loose:List Str}{XP:(Str->Option Value)->Heap->Prop}{YP:World->Heap->Prop}{d:DefRec}{K:Params->PySem.W.Frag}(hn:l.most=some 63)(hdf:d.params.defaults=[])(hY:∀ (w:World) (h:Heap),YP w h->(K w.params).In h)(Fm:∀ (w:World) (mg:Str->Option Value) (fa:Addr) (h:Heap),(K w.params).In h->h.Ns mainGlobals mg->mg d.name=some (.ref fa) ->
      ∃ fd:FuncData,(∀ (s:Shared) (u:Value),BindsTo s fd ⟨[u],[]⟩ [("script",u)])/\∀ base:Heap,(K w.params).In base->base.Ns mainGlobals mg->FnOk l.prog w (K w.params) mg base CX0 4 fa fd ["script"] (jC (K w.params))):
    PySem.W.WalkO q loose XP YP l.row.toRowW d [] (fun f vs=>PySem.call f vs) :=
  L2.walk_of (n:=63) (k:=4) (x:="script") (CX:=fun _=>CX0) (sp:=fun w=>jC (K w.params)) hn (by decide) hdf ⟨rfl,by decide,by decide⟩ hY Fm (fun _ _ a ns hl _ hS  => wH hS (yF ns hl )) fun _ _ _ _ _ z=>z
end My
end VL
namespace PySem.W.Fast
def tw1183525903254739498:=0
def tw18371643225163493009:=0
def tw14168962049955464367:=0
def tw15031291779452354835:=0
def tw10199235547167049798:=0
def tw15704479385411974020:=0
def tw12187549290801396712:=0
def tw8120094819336811333:=0
def tw14750669282287596312:=0
def tw7478657774483311697:=0
def tw14046148904455718047:=0
def tw14983668111841972406:=0
def tw14525075673157713063:=0
def tw1991525382631449751:=0
def tw12797803750943510905:=0
def tw14596011517016438524:=0
def tw15233311525503039901:=0
def tw2455447461000360782:=0
def tw3927509359207704247:=0
def tw6880848369249164829:=0
def tw5936111314904001416:=0
def tw9467687166402892073:=0
def tw11680678116254443404:=0
def tw14297911437835976158:=0
def tw6950853832785167225:=0
end PySem.W.Fast
open PySem PySem.W PyProof.Rows
theorem PySem.Challenge.cw_latefare_k34_foresight_by_all_holds : PySem.Challenge.rw_latefare_k34_foresight_by_all.Holds := by
  w_on;o_law;k_head;(case hw=>w_witness2)
  k_fill
  refine VL.My.walk (l:=PySem.Challenge.rw_latefare_k34_foresight_by_all) rfl rfl (fun w h Y=>PySem.W.kIn_of Y) ?F
  case F =>
    intro w mg fa h KX G hmg
    refine' VL.My.all_mk KX G hmg ?a1 ?l1 ?c1 ?k1 ?a2 ?l2 ?c2 ?k2 ?a3 ?l3 ?c3 ?k3 ?a4 ?l4 ?c4 ?k4 ?a5 ?l5 ?c5 ?k5 ?a6 ?l6 ?c6 ?k6 ?a7 ?l7 ?c7 ?k7 ?a8 ?l8 ?c8 ?k8 ?a9 ?l9 ?c9 ?k9 ?a10 ?l10 ?c10 ?k10 ?a11 ?l11 ?c11 ?k11 ?a12 ?l12 ?c12 ?k12 ?a13 ?l13 ?c13 ?k13 ?z_bool ?z_enumerate ?z_int ?z_isinstance ?z_len ?z_list ?z_min ?z_range ?z_sorted ?z_sum ?z_zip
    (case a1=>k_is);(case l1=>k_is);(case c1=>k_is);(case k1=>k_is);(case a2=>k_is);(case l2=>k_is)
    (case c2=>k_is);(case k2=>k_is);(case a3=>k_is);(case l3=>k_is);(case c3=>k_is);(case k3=>k_is)
    (case a4=>k_is);(case l4=>k_is);(case c4=>k_is);(case k4=>k_is);(case a5=>k_is);(case l5=>k_is)
    (case c5=>k_is);(case k5=>k_is);(case a6=>k_is);(case l6=>k_is);(case c6=>k_is);(case k6=>k_is)
    (case a7=>k_is);(case l7=>k_is);(case c7=>k_is);(case k7=>k_is);(case a8=>k_is);(case l8=>k_is)
    (case c8=>k_is);(case k8=>k_is);(case a9=>k_is);(case l9=>k_is);(case c9=>k_is);(case k9=>k_is)
    (case a10=>k_is);(case l10=>k_is);(case c10=>k_is);(case k10=>k_is);(case a11=>k_is);(case l11=>k_is)
    (case c11=>k_is);(case k11=>k_is);(case a12=>k_is);(case l12=>k_is);(case c12=>k_is);(case k12=>k_is)
    (case a13=>k_is);(case l13=>k_is);(case c13=>k_is);(case k13=>k_is);(case z_bool=>k_is);(case z_enumerate=>k_is)
    (case z_int=>k_is);(case z_isinstance=>k_is);(case z_len=>k_is);(case z_list=>k_is);(case z_min=>k_is);(case z_range=>k_is)
    (case z_sorted=>k_is);(case z_sum=>k_is);(case z_zip=>k_is)
