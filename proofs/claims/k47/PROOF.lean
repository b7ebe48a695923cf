import PyProof.Rows.All
import Wide.All
import OpenK.AllK
import Wide.FinOn
import Lean
import PyProof.EqAt
import PyProof.EqKinds
import PyProof.TupleCall
import PySem.Challenge.RW_latefare_k47_words_numbers_names
set_option Elab.async false
set_option linter.all false
set_option maxRecDepth 100000
set_option maxHeartbeats 8000000
namespace L2
open PySem PySem.Spec PyProof.Rows
abbrev Key:=Sum Int Str
def eo:Key->Value->Bool
  | .inl k,v=>Value.isInt k v
  | .inr x,v=>Value.isStrOf x v
def pX(w:World):Key->Int
  | .inl k=>hashInt k
  | .inr x=>hashStr w x
theorem cM:∀ {k:Key} {v:Value},eo k v=true->(∃ i t,k=Sum.inl i/\v=Value.int i t)\/(∃ x t,k=Sum.inr x/\v=Value.str x t)
  | .inl i,v,h=>by
    obtain⟨t,e⟩:=Value.isInt_shape (k:=i) (v:=v) h
    exact .inl ⟨i,t,rfl,e⟩
  | .inr x,v,h=>by
    obtain⟨t,e⟩:=Value.isStrOf_shape (x:=x) (v:=v) h
    exact .inr ⟨x,t,rfl,e⟩
theorem pY(i:Int)(t:Tok):eo (.inl i) (.int i t)=true:=by simp[eo,Value.isInt]
theorem pZ(x:Str)(t:Tok):eo (.inr x) (.str x t)=true:=by simp[eo,Value.isStrOf]
theorem q9(a b:Int):decide ((Sum.inl a:Key)=Sum.inl b)=(a == b):=by
  by_cases e:a=b
  · subst e;simp
  · have h:¬ (Sum.inl a:Key)=Sum.inl b:=fun q=>e (Sum.inl.inj q)
    rw[decide_eq_false h]
    exact (beq_eq_false_iff_ne.mpr e).symm
theorem qa(a b:Str):decide ((Sum.inr a:Key)=Sum.inr b)=decide (a=b):=by
  by_cases e:a=b
  · subst e;simp
  · have h:¬ (Sum.inr a:Key)=Sum.inr b:=fun q=>e (Sum.inr.inj q)
    rw[decide_eq_false h,decide_eq_false e]
theorem qb(a:Int)(b:Str):decide ((Sum.inl a:Key)=Sum.inr b)=false:=decide_eq_false (fun q=>nomatch q)
theorem qc(a:Str)(b:Int):decide ((Sum.inr a:Key)=Sum.inl b)=false:=decide_eq_false (fun q=>nomatch q)
def bz(prog:Program)(w:World):PySem.KeyKind prog w Key where
  is:=eo
  hash:=pX w
  inj := fun v a b ha hb=>by
    rcases cM ha with⟨i,t,rfl,rfl⟩ | ⟨x,t,rfl,rfl⟩
    · rcases cM hb with⟨j,u,rfl,e⟩ | ⟨y,u,rfl,e⟩
      · injection e with e1 _;rw[e1]
      · exact nomatch e
    · rcases cM hb with⟨j,u,rfl,e⟩ | ⟨y,u,rfl,e⟩
      · exact nomatch e
      · injection e with e1 _;rw[e1]
  byValue:=fun k v h=>by
    rcases cM h with⟨i,t,rfl,rfl⟩ | ⟨x,t,rfl,rfl⟩ <;> rfl
  pyHash:=fun hv h=>by
    rcases cM hv with⟨i,t,rfl,rfl⟩ | ⟨x,t,rfl,rfl⟩
    · exact wpAny_pyHash_int h
    · exact wpAny_pyHash_str h
  eqBool:=fun hu hv h=>by
    rcases cM hu with⟨i,t,rfl,rfl⟩ | ⟨x,t,rfl,rfl⟩
    · rcases cM hv with⟨j,u,rfl,rfl⟩ | ⟨y,u,rfl,rfl⟩
      · rw[q9] at h;exact wpAny_eqBool_int h
      · rw[qb] at h;exact SeqAt.EqAt.int_str i t y u _ _ _ _ h
    · rcases cM hv with⟨j,u,rfl,rfl⟩ | ⟨y,u,rfl,rfl⟩
      · rw[qc] at h;exact SeqAt.EqAt.str_int x t j u _ _ _ _ h
      · rw[qa] at h;exact wpAny_eqBool_str h
  «strs» := fun k x t v h=>by
    rcases cM h with⟨i,u,rfl,e⟩ | ⟨y,u,rfl,e⟩
    · exact nomatch e
    · injection e with e1 _
      subst e1
      cases v <;> rfl
theorem qd(prog:Program)(w:World)(i:Int)(t:Tok):(bz prog w).is (.inl i) (.int i t)=true:=pY i t
theorem qe(prog:Program)(w:World)(x:Str)(t:Tok):(bz prog w).is (.inr x) (.str x t)=true:=pZ x t
end L2
namespace L2
open PySem PySem.Spec PyProof.Rows
inductive V where
  | non | bl (b:Bool) | int (i:Int) | str (x:Str) | byt (b:Array UInt8) | flt (b:UInt64) | ref (a:Addr) | ty (n:String)
  deriving DecidableEq
def RelV:V->Value->Prop
  | .non,u=>u=Value.none
  | .bl b,u=>u=Value.bool b
  | .int i,u=>∃ t,u=Value.int i t
  | .str x,u=>∃ t,u=Value.str x t
  | .byt b,u=>∃ t,u=Value.bytes b t
  | .flt b,u=>∃ t,u=Value.float b t
  | .ref a,u=>u=Value.ref a
  | .ty n,u=>u=Value.type n
abbrev Vals:List V->List Value->Prop:=Paired RelV
theorem Vals.length{xs:List V}{us:List Value}(r:Vals xs us):xs.length=us.length:=Paired.length r
theorem Vals.get:∀ {xs:List V} {us:List Value} {i:Nat} {x:V},Vals xs us->xs[i]?=some x->∃ u,us[i]?=some u/\RelV x u
  | _,_,_,_,.nil,e=>by simp at e
  | _,_,0,_,.cons r _,e=>by simp at e;subst e;exact⟨_,rfl,r⟩
  | _,_,i+1,x,.cons _ t,e=>by
    obtain⟨u,h1,h2⟩:=Vals.get (i:=i) (x:=x) t (by simpa using e)
    exact⟨u,by simpa using h1,h2⟩
theorem Vals.set{x:V}{u:Value}(r:RelV x u):∀ {xs:List V} {us:List Value} (i:Nat),Vals xs us->Vals (xs.set i x) (us.set i u)
  | _,_,_,.nil=>.nil
  | _,_,0,.cons _ t=>.cons r t
  | _,_,i+1,.cons q t=>.cons q (Vals.set r i t)
theorem Vals.append:∀ {xs ys:List V} {us ws:List Value},Vals xs us->Vals ys ws->Vals (xs++ys) (us++ws)
  | _,_,_,_,.nil,s=>s
  | _,_,_,_,.cons r t,s=>.cons r (Vals.append t s)
theorem Vals.take:∀ {xs:List V} {us:List Value} (n:Nat),Vals xs us->Vals (xs.take n) (us.take n)
  | _,_,0,_=>.nil
  | _,_,_+1,.nil=>.nil
  | _,_,n+1,.cons r t=>.cons r (Vals.take n t)
theorem Vals.drop:∀ {xs:List V} {us:List Value} (n:Nat),Vals xs us->Vals (xs.drop n) (us.drop n)
  | _,_,0,r=>r
  | _,_,_+1,.nil=>.nil
  | _,_,n+1,.cons _ t=>Vals.drop n t
def RelO:Option V->Option Value->Prop
  | some v,some u=>RelV v u
  | none,none=>True
  | _,_=>False
def KV{κ:Type}:List (κ × V)->List (κ × Value)->Prop:=Paired fun (p:κ × V) (q:κ × Value)=>p.1=q.1/\RelV p.2 q.2
def kV:Key->V
  | .inl i=>.int i
  | .inr x=>.str x
inductive HO where
  | lst (xs:List V)
  | tup (xs:List V)
  | dK (kvs:List (Key × V)) | dT (kvs:List (List Key × V))
  | set (S:Int->Bool) (n:Nat)
  | ins (C dx:Addr) (fs:List (Str × V))
  | own (x:Addr)
  | xd (fs:List (Str × V))
  | met (f x:Addr)
  | rng (lo hi:Int)
  | frz (o:Obj) (u:HO)
  | tbl (ps:Array Value)
  | ext (φ:Heap->Prop)
abbrev Hp:=Addr->Option HO
def upd(H:Hp)(a:Addr)(o:HO):Hp:=fun b=>if b=a then some o else H b
theorem ba{H:Hp}{a:Addr}{o:HO}:upd H a o a=some o:=by unfold upd;rw[if_pos rfl]
theorem au{H:Hp}{a b:Addr}{o:HO}(h:b ≠ a):upd H a o b=H b:=by unfold upd;rw[if_neg h]
theorem qf{H:Hp}{a b:Addr}{o u:HO}(h:H a=some o)(h':H b=some u)(d:o ≠ u):a ≠ b:=by
  intro e;subst e;rw[h] at h';exact d (Option.some.inj h')
theorem bt{H:Hp}{a b:Addr}{o:HO}(h:H a=some o)(h':H b=none):a ≠ b:=by
  intro e;subst e;rw[h] at h';cases h'
section
variable (P:Program) (w:World)
def ObjOk(H:Hp)(h:Heap)(a:Addr):HO->Prop
  | .lst xs=>xs.length<=sizeLine/\∃ (its:List Value) (n:Nat),Vals xs its/\h.get? a=some { cls:=.type "list",data:=.seq its.toArray n }
  | .tup xs=>xs.length<=sizeLine/\∃ its:List Value,Vals xs its/\IsTup h a its.toArray
  | .dK kvs=>kvs.length<=sizeLine/\(a == sysModules)=false/\∃ vs,KV kvs vs/\h.DictOf (bz P w) a vs
  | .dT kvs=>kvs.length<=sizeLine/\(a == sysModules)=false/\∃ xs:List (List Key × Addr × Value),
      Paired (fun (p:List Key × V) (q:List Key × Addr × Value)=>p.1=q.1/\H q.2.1=some (.tup (p.1.map kV))/\RelV p.2 q.2.2) kvs xs /\
      ∃ o es ep,h.get? a=some o/\o.ExactDict/\o.data=.dict es ep/\es.toList=xs.map (entryOfKey (tupleKind (bz P w)))/\(xs.map (·.1)).Nodup
  | .set S n=>h.SetOf (intKind P w) a S n
  | .ins C dx fs=>H dx=some (.own a)/\fs.length<=1000/\dx ≠ a/\h.get? a=some (PySem.W.instObj C dx) /\
      ∃ mA,h.Ns1 dx mA/\(∀ f,RelO (fs.lookup f) (mA f))/\PySem.Within mA (fs.map (·.1))
  | .own _=>∃ o,h.get? a=some o
  | .xd fs=>∃ mA,h.Ns1 a mA/\∀ f,RelO (fs.lookup f) (mA f)
  | .rng lo hi=>∃ t u v,h.get? a=some { cls:=.type "range",data:=.fields #[.int lo t,.int hi u,.int 1 v] }
  | .frz o u=>h.get? a=some o/\ObjOk H h a u
  | .tbl ps=>h.get? a=some { cls:=.none,data:=.fields ps }
  | .met f x=>h.get? a=some (PySem.W.methodObj (.ref f) (.ref x))
  | .ext φ=>φ h/\(∃ o,h.get? a=some o)/\∀ h1 h2:Heap,φ h1->(∀ o,h1.get? a=some o->h2.get? a=some o)->φ h2
def HOk(H:Hp)(h:Heap):Prop:=∀ a o,H a=some o->ObjOk P w H h a o
end
section
variable {P:Program} {w:World} {H H':Hp} {h h':Heap} {a:Addr} {o:HO}
theorem ObjOk.lt(x:ObjOk P w H h a o):a < h.objs.size:=by
  cases o with
  | lst xs=>obtain⟨_,_,_,_,e⟩:=x;exact Heap.lt_size e
  | tup xs=>obtain⟨_,_,_,p⟩:=x;exact p.lt
  | dK kvs=>obtain⟨_,_,_,_,o,_,_,e,_⟩:=x;exact Heap.lt_size e
  | dT kvs=>obtain⟨_,_,_,_,o,_,_,e,_⟩:=x;exact Heap.lt_size e
  | set S n=>obtain⟨o,_,_,_,e,_⟩:=x;exact Heap.lt_size e
  | ins C dx fs=>obtain⟨_,_,_,e,_⟩:=x;exact Heap.lt_size e
  | own y=>obtain⟨_,e⟩:=x;exact Heap.lt_size e
  | xd fs=>obtain⟨_,⟨_,_,_,e,_⟩,_⟩:=x;exact Heap.lt_size e
  | rng lo hi=>obtain⟨_,_,_,e⟩:=x;exact Heap.lt_size e
  | frz ob u=>obtain⟨e,_⟩:=x;exact Heap.lt_size e
  | tbl ps=>exact Heap.lt_size (show h.get? a=some _ from x)
  | met f y=>exact Heap.lt_size (show h.get? a=some _ from x)
  | ext φ=>obtain⟨_,⟨_,e⟩,_⟩:=x;exact Heap.lt_size e
theorem Paired.mapP{α β:Type}{F G:α->β->Prop}:∀ {l₁:List α} {l₂:List β},Paired F l₁ l₂->(∀ a b,F a b->G a b)->Paired G l₁ l₂
  | _,_,.nil,_=>.nil
  | _,_,.cons r t,f=>.cons (f _ _ r) (Paired.mapP t f)
theorem ObjOk.stay(x:ObjOk P w H h a o)(k:∀ b u,(b=a\/H b=some (.own a))->h.get? b=some u->h'.get? b=some u)(ho:∀ b,H b=some (.own a)->H' b=some (.own a))(ht:∀ b xs,H b=some (.tup xs)->H' b=some (.tup xs)):ObjOk P w H' h' a o:=by
  induction o with
  | lst xs=>obtain⟨z,its,n,r,e⟩:=x;exact⟨z,its,n,r,k _ _ (.inl rfl) e⟩
  | tup xs=>obtain⟨z,its,r,ob,e,c⟩:=x;exact⟨z,its,r,ob,k _ _ (.inl rfl) e,c⟩
  | dK kvs=>obtain⟨z,y,vs,r,ob,es,ep,e,c⟩:=x;exact⟨z,y,vs,r,ob,es,ep,k _ _ (.inl rfl) e,c⟩
  | dT kvs =>
    obtain⟨z,y,xs,r,ob,es,ep,e,c⟩:=x
    exact⟨z,y,xs,Paired.mapP r fun p q z=>⟨z.1,ht _ _ z.2.1,z.2.2⟩,ob,es,ep,k _ _ (.inl rfl) e,c⟩
  | set S n=>obtain⟨ob,es,ep,t,e,c⟩:=x;exact⟨ob,es,ep,t,k _ _ (.inl rfl) e,c⟩
  | ins C dx fs =>
    obtain⟨d,z,ne,e,mA,⟨od,es,ep,e2,c⟩,r⟩:=x
    exact⟨ho _ d,z,ne,k _ _ (.inl rfl) e,mA,⟨od,es,ep,k _ _ (.inr d) e2,c⟩,r⟩
  | own y=>obtain⟨ob,e⟩:=x;exact⟨ob,k _ _ (.inl rfl) e⟩
  | xd fs=>obtain⟨mA,⟨od,es,ep,e,c⟩,r⟩:=x;exact⟨mA,⟨od,es,ep,k _ _ (.inl rfl) e,c⟩,r⟩
  | rng lo hi=>obtain⟨t,u,v,e⟩:=x;exact⟨t,u,v,k _ _ (.inl rfl) e⟩
  | frz ob u ih=>obtain⟨e,q⟩:=x;exact⟨k _ _ (.inl rfl) e,ih q⟩
  | tbl ps =>
    have e:h.get? a=some { cls:=.none,data:=.fields ps }:=x
    show h'.get? a=some { cls:=.none,data:=.fields ps }
    exact k a _ (.inl rfl) e
  | met f y =>
    have e:h.get? a=some (PySem.W.methodObj (.ref f) (.ref y)):=x
    show h'.get? a=some (PySem.W.methodObj (.ref f) (.ref y))
    exact k a _ (.inl rfl) e
  | ext φ=>obtain⟨p,⟨o,e⟩,st⟩:=x;exact⟨st _ _ p fun o q=>k _ _ (.inl rfl) q,⟨o,k _ _ (.inl rfl) e⟩,st⟩
theorem HOk.lt(x:HOk P w H h)(e:H a=some o):a < h.objs.size:=(x a o e).lt
theorem HOk.fresh(x:HOk P w H h)(e:h.objs.size<=a):H a=none:=by
  cases q:H a with
  | none=>rfl
  | some u=>exact absurd (Nat.lt_of_lt_of_le (x.lt q) e) (Nat.lt_irrefl _)
theorem HOk.kept(x:HOk P w H h)(k:∀ b u,h.get? b=some u->h'.get? b=some u):HOk P w H h':=fun a o e =>
  (x a o e).stay (fun b u _ q=>k b u q) (fun _ q=>q) fun _ _ q=>q
theorem HOk.laid(x:HOk P w H h)(k:∀ b u,h.get? b=some u->h'.get? b=some u)(hp:h.objs.size<=a)(new:ObjOk P w (upd H a o) h' a o):HOk P w (upd H a o) h':=fun b u e=>by
  have hn:=x.fresh hp
  by_cases hb:b=a
  · subst hb;rw[ba] at e;cases e;exact new
  · rw[au hb] at e
    exact (x b u e).stay (fun c v _ q=>k c v q) (fun c q=>by rw[au (bt q hn)];exact q) fun c xs q=>by rw[au (bt q hn)];exact q
end
def Rd(H:Hp)(a:Addr)(u:HO):Prop:=H a=some u\/∃ o,H a=some (.frz o u)
theorem Rd.of{H:Hp}{a:Addr}{u:HO}(h:H a=some u):Rd H a u:=.inl h
theorem Rd.ok{P:Program}{w:World}{H:Hp}{h:Heap}{a:Addr}{u:HO}(r:Rd H a u)(x:HOk P w H h):ObjOk P w H h a u:=by
  rcases r with r | ⟨o,r⟩
  · exact x a u r
  · obtain⟨_,q⟩:=x a _ r
    exact q
def Mut:Option HO->Prop
  | some (.lst _)=>True
  | some (.dK _)=>True
  | some (.dT _)=>True
  | some (.set _ _)=>True
  | some (.ins _ _ _)=>True
  | some (.ext _)=>True
  | _=>False
section
variable {P:Program} {w:World} {H:Hp} {h h':Heap} {x e:Addr} {o':HO}
theorem HOk.write(ok:HOk P w H h)(mu:Mut (H x))(he:e=x\/H e=some (.own x))(k:∀ b u,b ≠ e->h.get? b=some u->h'.get? b=some u)(heo:∃ u,h'.get? e=some u)(new:ObjOk P w (upd H x o') h' x o'):HOk P w (upd H x o') h':=fun b u q=>by
  have nown:∀ c y,H c=some (.own y)->c ≠ x:=fun c y r z=>by subst z;rw[r] at mu;exact mu
  have ntup:∀ c xs,H c=some (.tup xs)->c ≠ x:=fun c xs r z=>by subst z;rw[r] at mu;exact mu
  by_cases hb:b=x
  · subst hb;rw[ba] at q;cases q;exact new
  · rw[au hb] at q
    by_cases hbe:b=e
    · have q':H b=some (.own x):=by
        rcases he with z | z
        · exact absurd (hbe.trans z) hb
        · rw[hbe];exact z
      rw[q] at q';cases q'
      obtain⟨v,hv⟩:=heo
      exact⟨v,by rw[hbe];exact hv⟩
    · refine (ok b u q).stay (fun c v hc r=>k c v ?_ r) (fun c r=>by rw[au (nown c b r)];exact r) fun c xs r=>by rw[au (ntup c xs r)];exact r
      rcases hc with rfl | hc
      · exact hbe
      · rintro rfl
        rcases he with z | z
        · exact nown c b hc z
        · rw[hc] at z;cases z;exact hb rfl
end
structure Un (fs ex:List Addr) (H H':Hp) (h h':Heap):Prop where
  keep:∀ b o,h.get? b=some o->H b=none->b ∉ fs->b ∉ ex->h'.get? b=some o
  slot:∀ b o,h.get? b=some o->H b=none->b ∈ fs->b ∉ ex->∃ sl,h'.get? b=some { o with slots:=sl }
  free:∀ b o,h.get? b=some o->H b=none->b ∉ ex->H' b=none
  there:∀ b o,h.get? b=some o->b ∉ ex->∃ o',h'.get? b=some o'
  tups:∀ b xs,H b=some (.tup xs)->H' b=some (.tup xs)
  frzs:∀ b o u,H b=some (.frz o u)->H' b=some (.frz o u)
  tbls:∀ b ps,H b=some (.tbl ps)->∃ more,H' b=some (.tbl (ps++more))
section
variable {fs fs' ex ex':List Addr} {H H1 H2:Hp} {h h1 h2 h':Heap} {a x e:Addr} {o:HO}
theorem Un.any(u:Un fs ex H H1 h h1){b:Addr}{ob:Obj}(q:h.get? b=some ob)(n:H b=none)(hx:b ∉ ex):∃ sl,h1.get? b=some { ob with slots:=sl }:=by
  by_cases hb:b ∈ fs
  · exact u.slot b ob q n hb hx
  · exact⟨ob.slots,u.keep b ob q n hb hx⟩
theorem Un.trans(a:Un fs ex H H1 h h1)(b:Un fs ex H1 H2 h1 h2):Un fs ex H H2 h h2 where
  keep:=fun c ob q n hc hx=>b.keep c ob (a.keep c ob q n hc hx) (a.free c ob q n hx) hc hx
  slot:=fun c ob q n hc hx=>by
    obtain⟨sl,e1⟩:=a.slot c ob q n hc hx
    obtain⟨sl',e2⟩:=b.slot c _ e1 (a.free c ob q n hx) hc hx
    exact⟨sl',e2⟩
  free:=fun c ob q n hx=>by
    obtain⟨o',e1⟩:=a.there c ob q hx
    exact b.free c o' e1 (a.free c ob q n hx) hx
  there:=fun c ob q hx=>by
    obtain⟨o',e1⟩:=a.there c ob q hx
    exact b.there c o' e1 hx
  tups:=fun c xs q=>b.tups c xs (a.tups c xs q)
  frzs:=fun c ob xs q=>b.frzs c ob xs (a.frzs c ob xs q)
  tbls:=fun c ps q=>by
    obtain⟨m1,e1⟩:=a.tbls c ps q
    obtain⟨m2,e2⟩:=b.tbls c _ e1
    exact⟨m1++m2,by rw[e2,Array.append_assoc]⟩
theorem Un.kept(k:∀ b u,h.get? b=some u->h'.get? b=some u):Un fs ex H H h h' :=
  ⟨fun b ob q _ _ _=>k b ob q,fun b ob q _ _ _=>⟨ob.slots,k b ob q⟩,fun _ _ _ n _=>n,fun b ob q _=>⟨ob,k b ob q⟩,fun _ _ q=>q,fun _ _ _ q=>q,fun _ ps q=>⟨#[],by rw[q];simp⟩⟩
theorem Un.refl:Un fs ex H H h h:=Un.kept fun _ _ q=>q
theorem Un.laid(k:∀ b u,h.get? b=some u->h'.get? b=some u)(hp:h.objs.size<=a)(hn:H a=none):Un fs ex H (upd H a o) h h' where
  keep:=fun b u q _ _ _=>k b u q
  slot:=fun b u q _ _ _=>⟨u.slots,k b u q⟩
  free:=fun b u q n _=>by rw[au (Nat.ne_of_lt (Nat.lt_of_lt_of_le (Heap.lt_size q) hp))];exact n
  there:=fun b u q _=>⟨u,k b u q⟩
  tups:=fun b xs q=>by rw[au (bt q hn)];exact q
  frzs:=fun b u xs q=>by rw[au (bt q hn)];exact q
  tbls:=fun b ps q=>⟨#[],by rw[au (bt q hn),q];simp⟩
theorem Un.write(mu:Mut (H x))(he:e=x\/H e=some (.own x))(k:∀ b u,b ≠ e->h.get? b=some u->h'.get? b=some u)(heo:∃ u,h'.get? e=some u):Un fs ex H (upd H x o) h h':=by
  have hx:∀ b,H b=none->b ≠ x:=fun b n z=>by subst z;rw[n] at mu;exact mu
  have hb:∀ b,H b=none->b ≠ e:=fun b n z=>by
    subst z
    rcases he with r | r
    · exact hx b n r
    · rw[n] at r;cases r
  have hm:∀ b u,H b=some u->¬ Mut (some u)->b ≠ x:=fun b u q nm z=>by subst z;rw[q] at mu;exact nm mu
  refine⟨fun b u q n _ _=>k b u (hb b n) q,fun b u q n _ _=>⟨u.slots,k b u (hb b n) q⟩,fun b u q n _=>by rw[au (hx b n)];exact n,fun b u q _=>?_,
    fun b xs q=>by rw[au (hm b _ q fun z=>z)];exact q,fun b u xs q=>by rw[au (hm b _ q fun z=>z)];exact q,fun b ps q=>⟨#[],by rw[au (hm b _ q fun z=>z),q];simp⟩⟩
  by_cases hbe:b=e
  · subst hbe;exact heo
  · exact⟨u,k b u hbe q⟩
theorem Un.mono(u:Un fs ex H H1 h h1)(hs:∀ b ∈ fs,b ∈ fs')(hx:∀ b ∈ ex,b ∈ ex'):Un fs' ex' H H1 h h1 :=
  ⟨fun b ob q n hb he=>u.keep b ob q n (fun z=>hb (hs b z)) fun z=>he (hx b z),fun _ _ q n _ he=>u.any q n fun z=>he (hx _ z),fun b ob q n he=>u.free b ob q n fun z=>he (hx b z),fun b ob q he=>u.there b ob q fun z=>he (hx b z),u.tups,u.frzs,u.tbls⟩
end
def trk(h:Heap)(H:Hp):List Addr:=(List.range h.objs.size).filter fun a=>(H a).isSome
def cN(h:Heap)(H:Hp):Heap:=PySem.W.hideAll h (trk h H)
theorem qg(h:Heap)(H:Hp):(cN h H).objs.size=h.objs.size:=PySem.W.hideAll_size _ _
theorem qh{h:Heap}{H:Hp}{b:Addr}{o:Obj}(e:h.get? b=some o)(n:H b=none):(cN h H).get? b=some o :=
  PySem.W.hideAll_get _ e fun hm=>by
    have q:(H b).isSome=true:=(List.mem_filter.mp hm).2
    rw[n] at q;simp at q
theorem qi{h:Heap}{H:Hp}{b:Addr}{o:Obj}(e:(cN h H).get? b=some o):h.get? b=some o/\H b=none:=by
  have e':h.get? b=some o:=PySem.W.of_hideAll (trk h H) e
  refine⟨e',?_⟩
  cases q:H b with
  | none=>rfl
  | some x =>
    have hm:b ∈ trk h H:=List.mem_filter.mpr ⟨List.mem_range.mpr (Heap.lt_size e'),by simp[q]⟩
    have z:(cN h H).get? b=none:=PySem.W.hideAll_none (trk h H) hm
    rw[z] at e;cases e
def qj(g h:Heap)(L:Addr):List (Addr × Obj):=(List.range h.objs.size).filterMap fun a=>if a=L\/(g.get? a).isSome=true then none else (h.get? a).map fun o=>(a,o)
def ai(g h:Heap)(L d:Addr):List (Addr × Obj):=(qj g h L).filter fun p=>decide (p.1 ≠ d)
end L2
namespace L2
open PySem PySem.Spec PyProof.Rows
structure Mod (K:PySem.W.Frag) (mg:Str->Option Value) (base:Heap):Prop where
  kin:K.In base
  glob:base.Ns mainGlobals mg
  blt:∃ mb,base.Ns builtinsNs mb/\∀ x:Str,x ≠ "__name__"->mb x=bootBuiltins x
  nolimit:base.NoLimit
structure Cx where
  prog:Program
  w:World
  K:PySem.W.Frag
  mg:Str->Option Value
  base:Heap
  A:Around
  N:List Str
  s₀:Shared
  H₀:Hp
  env:Env
  outer:List Env
  stack:List Env
  ex:List Addr
  fn:Str->Bool
  calm:Bool
  pn:List (Addr × Obj)
  xe:Value->Shared->Prop
def frs(l:List Env):List Addr:=l.filterMap (·.frame)
abbrev Cx.fs(X:Cx):List Addr:=frs X.outer
def Vis(sc:Scope)(x:Str):Prop:=sc.names.lookup x=some .local\/sc.names.lookup x=some .cell\/sc.names.lookup x=some .free
def Loc(sc:Scope)(x:Str):Prop:=sc.names.lookup x=some .local\/sc.names.lookup x=some .cell
def qk(env:Env)(h:Heap)(m:Str->Option Value)(x:Str)(u:Value):Prop :=
  (env.kindOf x=some .local/\m x=some u)\/((env.kindOf x=some .cell\/env.kindOf x=some .free)/\∃ c,env.cells.lookup x=some c/\h.IsCell c (some u))
structure Cx.Ok (X:Cx):Prop where
  mod:Mod X.K X.mg X.base
  kind:X.env.scope.kind=.function
  glob:X.env.globals=mainGlobals
  blt:X.env.builtins=builtinsNs
  above:X.s₀.heap.objs.size<=X.env.locals
  inj:∀ x y c,X.env.cells.lookup x=some c->X.env.cells.lookup y=some c->x=y
  has:∀ x,(X.env.kindOf x=some .cell\/X.env.kindOf x=some .free)->∃ c,X.env.cells.lookup x=some c
  cab:∀ x c,X.fn x=true->X.env.cells.lookup x=some c->X.s₀.heap.objs.size<=c
  hd:X.calm=true->X.A.handled=none
  frames:X.A.frames=some X.stack
  stk:X.stack=X.outer\/(X.stack=X.env::X.outer/\X.env.frame=some X.env.locals)
  exf:∀ b ∈ X.ex,b ≠ X.env.locals/\∀ x c,X.env.cells.lookup x=some c->c ≠ b
  bs:∀ b o,X.base.get? b=some o->X.s₀.heap.get? b=some o/\X.H₀ b=none
  bsz:X.base.objs.size<=X.s₀.heap.objs.size
  noex:∀ b o,X.base.get? b=some o->b ∉ X.ex
  exfs:∀ b ∈ X.ex,b ∉ X.fs
  funs:X.s₀.heap.FunFrames X.base X.outer
  frf:∀ b ∈ X.fs,X.H₀ b=none
structure Inv (X:Cx) (pins:List (Addr × Obj)) (σ:List (Option V)) (H:Hp) (s:Shared):Prop where
  ok:X.Ok
  os:s.os=X.s₀.os
  bare:AllBare s.gens
  base:Un X.fs X.ex X.H₀ H X.s₀.heap s.heap
  loc:∃ m,s.heap.Ns X.env.locals m/\∀ (i:Nat) (x:Str) (v:V),X.N[i]?=some x->σ[i]?=some (some v)->Vis X.env.scope x->∃ u,RelV v u/\qk X.env s.heap m x u
  cell:∀ x c,X.env.cells.lookup x=some c->∃ v,s.heap.IsCell c v
  free:H X.env.locals=none
  freeC:∀ x c,X.env.cells.lookup x=some c->H c=none
  pin:∀ p ∈ X.pn++pins,s.heap.get? p.1=some p.2/\H p.1=none/\p.1 ≠ X.env.locals/\p.1 ∉ X.fs/\∀ v,p.2.data ≠ .cell v
  hok:HOk X.prog X.w H s.heap
  len:σ.length=X.N.length
section
variable {X:Cx} {pins:List (Addr × Obj)} {σ:List (Option V)} {H H':Hp} {s:Shared} {h':Heap}
theorem Cx.Ok.nofr(ok:X.Ok){b:Addr}{o:Obj}(e:X.base.get? b=some o):b ∉ X.fs:=fun hb=>by
  have:=(ok.funs.mem hb).1
  rw[e] at this;cases this
theorem Inv.bs(I:Inv X pins σ H s):∀ b o,X.base.get? b=some o->s.heap.get? b=some o/\H b=none:=fun b o e =>
  ⟨I.base.keep b o (I.ok.bs b o e).1 (I.ok.bs b o e).2 (I.ok.nofr e) (I.ok.noex b o e),I.base.free b o (I.ok.bs b o e).1 (I.ok.bs b o e).2 (I.ok.noex b o e)⟩
theorem Inv.bk(I:Inv X pins σ H s):∀ b o,X.base.get? b=some o->s.heap.get? b=some o:=fun b o e=>(I.bs b o e).1
theorem Inv.mod(I:Inv X pins σ H s):Mod X.K X.mg X.base:=I.ok.mod
theorem Inv.kIn(I:Inv X pins σ H s):X.K.In s.heap:=I.ok.mod.kin.keeps I.bk
theorem Inv.nolimit(I:Inv X pins σ H s):s.heap.NoLimit:=I.ok.mod.nolimit.keeps I.bk
theorem Inv.fr(I:Inv X pins σ H s):∃ m,Fr X.base X.env.locals s.heap m :=
  let ⟨m,hn,_⟩:=I.loc
  ⟨m,hn,I.bk,Nat.le_trans I.ok.bsz I.ok.above⟩
theorem Inv.lt(I:Inv X pins σ H s):X.env.locals < s.heap.objs.size:=let ⟨_,hn,_⟩:=I.loc;hn.lt
theorem Inv.sz(I:Inv X pins σ H s):X.s₀.heap.objs.size<=s.heap.objs.size:=Nat.le_trans I.ok.above (Nat.le_of_lt I.lt)
theorem Inv.nofs(I:Inv X pins σ H s){a:Addr}(h:s.heap.objs.size<=a):a ∉ X.fs:=fun hb=>by
  obtain⟨_,o,ho,_⟩:=I.ok.funs.mem hb
  exact absurd (Nat.lt_of_lt_of_le (Heap.lt_size ho) (Nat.le_trans I.sz h)) (Nat.lt_irrefl _)
theorem Inv.cne(I:Inv X pins σ H s):∀ x c,X.env.cells.lookup x=some c->c ≠ X.env.locals:=fun x c e z=>by
  obtain⟨v,o,ho,hd⟩:=I.cell x c e
  obtain⟨m,⟨o',es,ep,ho',hd',_⟩,_⟩:=I.loc
  rw[z,ho'] at ho;cases ho;rw[hd'] at hd;cases hd
theorem Inv.funs(I:Inv X pins σ H s):s.heap.FunFrames X.base X.outer:=by
  have all:∀ (l:List Env),(∀ b ∈ frs l,b ∈ X.fs)->X.s₀.heap.FunFrames X.base l->s.heap.FunFrames X.base l:=by
    intro l
    induction l with
    | nil=>intro _ _;trivial
    | cons env r ih =>
      intro hs hl
      obtain⟨hk,⟨L,o,hf,hn,ho,hd⟩,hr⟩:=hl
      have hL:L ∈ X.fs:=hs L (by unfold frs;rw[List.filterMap_cons,hf];exact List.mem_cons_self)
      obtain⟨sl,e⟩:=I.base.slot L o ho (I.ok.frf L hL) hL fun z=>I.ok.exfs L z hL
      exact⟨hk,⟨L,_,hf,hn,e,hd⟩,ih (fun b hb=>hs b (by unfold frs;rw[List.filterMap_cons,hf];exact List.mem_cons_of_mem _ hb)) hr⟩
  exact all X.outer (fun _ hb=>hb) I.ok.funs
theorem Inv.stack(I:Inv X pins σ H s):s.heap.FunFrames X.base X.stack:=by
  rcases I.ok.stk with e | ⟨e,hf⟩
  · rw[e];exact I.funs
  · rw[e]
    obtain⟨m,hn,_⟩:=I.loc
    refine .cons (by rw[I.ok.kind];decide) hf hn ?_ I.funs
    exact Heap.get?_none_of_le (Nat.le_trans I.ok.bsz I.ok.above)
theorem Inv.stkSub(I:Inv X pins σ H s):∀ b ∈ frs X.stack,b ∈ X.env.locals::X.fs:=fun b hb=>by
  rcases I.ok.stk with e | ⟨e,hf⟩
  · rw[e] at hb;exact List.mem_cons_of_mem _ hb
  · rw[e] at hb
    unfold frs at hb
    rw[List.filterMap_cons,hf] at hb
    exact hb
theorem Inv.stkFree(I:Inv X pins σ H s):∀ b ∈ frs X.stack,H b=none:=fun b hb=>by
  rcases List.mem_cons.mp (I.stkSub b hb) with e | hb
  · rw[e];exact I.free
  · obtain⟨_,o,ho,_⟩:=I.ok.funs.mem hb
    exact I.base.free b o ho (I.ok.frf b hb) fun z=>I.ok.exfs b z hb
theorem Inv.step{g':Array GenState}{t':Nat}{d':Drawn}{ch:List Addr}(I:Inv X pins σ H s)(hch:∀ b ∈ ch,(b ∈ X.ex\/X.s₀.heap.objs.size<=b)/\b ≠ X.env.locals/\(∀ x c,X.env.cells.lookup x=some c->c ≠ b)/\∀ p ∈ X.pn++pins,p.1 ≠ b)(keep:∀ b o,b ≠ X.env.locals->b ∉ X.fs->b ∉ ch->s.heap.get? b=some o->H b=none->h'.get? b=some o)(slot:∀ b o,b ≠ X.env.locals->b ∈ X.fs->b ∉ ch->s.heap.get? b=some o->H b=none->∃ sl,h'.get? b=some { o with slots:=sl })(free:∀ b o,b ∉ ch->s.heap.get? b=some o->H b=none->H' b=none)(there:∀ b o,b ∉ ch->s.heap.get? b=some o->∃ o',h'.get? b=some o')(tups:∀ b xs,H b=some (.tup xs)->H' b=some (.tup xs))(frzs:∀ b o u,H b=some (.frz o u)->H' b=some (.frz o u))(tbls:∀ b ps,H b=some (.tbl ps)->∃ more,H' b=some (.tbl (ps++more)))(ns:∀ m,s.heap.Ns X.env.locals m->h'.Ns X.env.locals m)(hok:HOk X.prog X.w H' h')(hg:AllBare g'):
    Inv X pins σ H' { s with heap:=h',gens:=g',drawn:=d',toks:=t' }:=by
  have neL:∀ b o,X.s₀.heap.get? b=some o->b ≠ X.env.locals:=fun b o e=>Nat.ne_of_lt (Nat.lt_of_lt_of_le (Heap.lt_size e) I.ok.above)
  have neC:∀ b o,X.s₀.heap.get? b=some o->b ∉ X.ex->b ∉ ch:=fun b o e hx hb=>by
    rcases (hch b hb).1 with z | z
    · exact hx z
    · exact absurd (Nat.lt_of_lt_of_le (Heap.lt_size e) z) (Nat.lt_irrefl _)
  have cellK:∀ x c,X.env.cells.lookup x=some c->∀ v,s.heap.IsCell c v->h'.IsCell c v:=fun x c e v ⟨o,ho,hd⟩=>by
    have nch:c ∉ ch:=fun z=>(hch c z).2.2.1 x c e rfl
    by_cases hc:c ∈ X.fs
    · obtain⟨sl,q⟩:=slot c o (I.cne x c e) hc nch ho (I.freeC x c e)
      exact⟨_,q,hd⟩
    · exact⟨o,keep c o (I.cne x c e) hc nch ho (I.freeC x c e),hd⟩
  refine⟨I.ok,I.os,hg,⟨fun b o e n hb hx=>?_,fun b o e n hb hx=>?_,fun b o e n hx=>?_,fun b o e hx=>?_,fun b xs e=>tups b xs (I.base.tups b xs e),fun b o xs e=>frzs b o xs (I.base.frzs b o xs e),fun b ps e=>?_⟩,?_,fun x c e=>?_,?_,fun x c e=>?_,fun p hp=>?_,hok,I.len⟩
  · exact keep b o (neL b o e) hb (neC b o e hx) (I.base.keep b o e n hb hx) (I.base.free b o e n hx)
  · obtain⟨sl,e1⟩:=I.base.slot b o e n hb hx
    obtain⟨sl',e2⟩:=slot b _ (neL b o e) hb (neC b o e hx) e1 (I.base.free b o e n hx)
    exact⟨sl',e2⟩
  · obtain⟨o',e1⟩:=I.base.there b o e hx
    exact free b o' (neC b o e hx) e1 (I.base.free b o e n hx)
  · obtain⟨o',e1⟩:=I.base.there b o e hx
    exact there b o' (neC b o e hx) e1
  · obtain⟨m1,e1⟩:=I.base.tbls b ps e
    obtain⟨m2,e2⟩:=tbls b _ e1
    exact⟨m1++m2,by rw[e2,Array.append_assoc]⟩
  · obtain⟨m,hn,hl⟩:=I.loc
    refine⟨m,ns m hn,fun i x v e1 e2 e3=>?_⟩
    obtain⟨u,r,l⟩:=hl i x v e1 e2 e3
    refine⟨u,r,?_⟩
    rcases l with l | ⟨k,c,e,z⟩
    · exact .inl l
    · exact .inr ⟨k,c,e,cellK x c e _ z⟩
  · obtain⟨v,z⟩:=I.cell x c e
    exact⟨v,cellK x c e v z⟩
  · obtain⟨m,⟨o,_,_,ho,_⟩,_⟩:=I.loc
    exact free _ o (fun z=>(hch _ z).2.1 rfl) ho I.free
  · obtain⟨v,o,ho,hd⟩:=I.cell x c e
    exact free c o (fun z=>(hch c z).2.2.1 x c e rfl) ho (I.freeC x c e)
  · obtain⟨e,n,ne,nf,d⟩:=I.pin p hp
    have nch:p.1 ∉ ch:=fun z=>(hch p.1 z).2.2.2 p hp rfl
    exact⟨keep p.1 p.2 ne nf nch e n,free p.1 p.2 nch e n,ne,nf,d⟩
theorem Inv.un{t':Nat}(I:Inv X pins σ H s)(u:Un X.fs [] H H' s.heap h')(hok:HOk X.prog X.w H' h'):Inv X pins σ H' { s with heap:=h',toks:=t' }:=by
  obtain⟨m,⟨o,es,ep,ho,r⟩,_⟩:=id I.loc
  obtain⟨sl,hL⟩:=u.any ho I.free (by simp)
  exact I.step (g':=s.gens) (d':=s.drawn) (ch:=[]) (fun _ z=>nomatch z) (fun b o _ hb _ e n=>u.keep b o e n hb (by simp)) (fun b o _ hb _ e n=>u.slot b o e n hb (by simp)) (fun b o _ e n=>u.free b o e n (by simp)) (fun b o _ e=>u.there b o e (by simp)) u.tups u.frzs u.tbls (fun m' hm=>by
    obtain⟨o',es',ep',ho',r'⟩:=hm
    rw[ho] at ho';cases ho'
    exact⟨_,es',ep',hL,r'⟩) hok I.bare
theorem Inv.call{g':Array GenState}{t':Nat}{d':Drawn}{ch:List Addr}(I:Inv X pins σ H s)(u:Un (frs X.stack) ch H H' s.heap h')(hok:HOk X.prog X.w H' h')(hg:AllBare g')(hch:∀ b ∈ ch,(b ∈ X.ex\/X.s₀.heap.objs.size<=b)/\b ≠ X.env.locals/\(∀ x c,X.env.cells.lookup x=some c->c ≠ b)/\∀ p ∈ X.pn++pins,p.1 ≠ b):
    Inv X pins σ H' { s with heap:=h',gens:=g',drawn:=d',toks:=t' }:=by
  obtain⟨m,⟨o,es,ep,ho,r⟩,_⟩:=id I.loc
  obtain⟨sl,hL⟩:=u.any ho I.free fun z=>(hch _ z).2.1 rfl
  exact I.step (ch:=ch) hch (fun b o hL hb hc e n=>u.keep b o e n (fun z=>(List.mem_cons.mp (I.stkSub b z)).elim hL hb) hc) (fun b o _ _ hc e n=>u.any e n hc) (fun b o hc e n=>u.free b o e n hc) (fun b o hc e=>u.there b o e hc) u.tups u.frzs u.tbls (fun m' hm=>by
    obtain⟨o',es',ep',ho',r'⟩:=hm
    rw[ho] at ho';cases ho'
    exact⟨_,es',ep',hL,r'⟩) hok hg
theorem Inv.turned{t':Nat}{it:Addr}(I:Inv X pins σ H s)(k:∀ b o,b ≠ it->s.heap.get? b=some o->h'.get? b=some o)(hn:H it=none)(hL:it ≠ X.env.locals)(h1:it ∈ X.ex\/X.s₀.heap.objs.size<=it)(h2:∀ x c,X.env.cells.lookup x=some c->c ≠ it)(h3:∀ p ∈ X.pn++pins,p.1 ≠ it):Inv X pins σ H { s with heap:=h',toks:=t' }:=by
  have nit:∀ b u,H b=some u->b ≠ it:=fun b u e z=>by rw[z,hn] at e;cases e
  refine I.step (g':=s.gens) (d':=s.drawn) (ch:=[it]) (fun b hb=>?_) (fun b o _ _ hc e _=>k b o (fun z=>hc (by simp[z])) e) (fun b o _ _ hc e _=>⟨o.slots,k b o (fun z=>hc (by simp[z])) e⟩) (fun _ _ _ _ n=>n)
    (fun b o hc e=>⟨o,k b o (fun z=>hc (by simp[z])) e⟩) (fun _ _ e=>e) (fun _ _ _ e=>e) (fun b ps e=>⟨#[],by rw[e];simp⟩) (fun m hm=>?_) (fun b u e=>?_) I.bare
  · have e:b=it:=by simpa using hb
    subst e
    exact⟨h1,hL,h2,h3⟩
  · obtain⟨o,es,ep,ho,r⟩:=hm
    exact⟨o,es,ep,k _ o (Ne.symm hL) ho,r⟩
  · refine (I.hok b u e).stay (fun c v hc q=>k c v ?_ q) (fun _ q=>q) fun _ _ q=>q
    rcases hc with z | z
    · rw[z];exact nit b u e
    · exact nit c _ z
theorem Inv.tok(I:Inv X pins σ H s)(t:Nat):Inv X pins σ H { s with toks:=t }:=I.un (h':=s.heap) (t':=t) Un.refl I.hok
theorem Inv.kept{t':Nat}(I:Inv X pins σ H s)(k:∀ b u,s.heap.get? b=some u->h'.get? b=some u):Inv X pins σ H { s with heap:=h',toks:=t' }:=I.un (Un.kept k) (I.hok.kept k)
theorem Inv.laid{a:Addr}{o:HO}{t':Nat}(I:Inv X pins σ H s)(k:∀ b u,s.heap.get? b=some u->h'.get? b=some u)(hp:s.heap.objs.size<=a)(new:ObjOk X.prog X.w (upd H a o) h' a o):
    Inv X pins σ (upd H a o) { s with heap:=h',toks:=t' }:=I.un (Un.laid k hp (I.hok.fresh hp)) (I.hok.laid k hp new)
theorem Inv.write{x e:Addr}{o:HO}{t':Nat}(I:Inv X pins σ H s)(mu:Mut (H x))(he:e=x\/H e=some (.own x))(k:∀ b u,b ≠ e->s.heap.get? b=some u->h'.get? b=some u)(heo:∃ u,h'.get? e=some u)(new:ObjOk X.prog X.w (upd H x o) h' x o):Inv X pins σ (upd H x o) { s with heap:=h',toks:=t' }:=I.un (Un.write mu he k heo) (I.hok.write mu he k heo new)
theorem Inv.pins_of{pins':List (Addr × Obj)}(I:Inv X pins σ H s)(h:∀ p ∈ pins',s.heap.get? p.1=some p.2/\H p.1=none/\p.1 ≠ X.env.locals/\p.1 ∉ X.fs/\∀ v,p.2.data ≠ .cell v):Inv X pins' σ H s :=
  ⟨I.ok,I.os,I.bare,I.base,I.loc,I.cell,I.free,I.freeC,fun p hp=>(List.mem_append.mp hp).elim (fun z=>I.pin p (List.mem_append_left _ z)) (h p),I.hok,I.len⟩
theorem iN{N:List Str}(hN:N.Nodup){i j:Nat}{x:Str}(a:N[i]?=some x)(b:N[j]?=some x):i=j:=by
  obtain⟨h1,e1⟩:=List.getElem?_eq_some_iff.mp a
  obtain⟨h2,e2⟩:=List.getElem?_eq_some_iff.mp b
  exact (List.getElem_inj hN).mp (e1.trans e2.symm)
theorem lg{M:Model}{A:Around}{E:Value->Shared->Prop}{i:Nat}{x:Str}{v:V}{u:Value}{Q:Unit->Shared->Prop}(I:Inv X pins σ H s)(hN:X.N.Nodup)(hi:X.N[i]?=some x)(hx:Loc X.env.scope x)(r:RelV v u)(h:∀ s',Inv X pins (σ.set i (some v)) H s'->(∃ a,Heap.SameBut a s.heap s'.heap/\(a=X.env.locals\/X.env.cells.lookup x=some a))->Q () s')(hf:X.fn x=true\/X.env.scope.names.lookup x=some .local:=by first | exact .inl rfl | exact .inr rfl | assumption):wpAny M A (storeName X.env x u) Q E s:=by
  obtain⟨m,hn,hl⟩:=id I.loc
  have hcls:(X.env.scope.kind == .class || (X.env.scope.kind == .module && X.env.locals != X.env.globals))=false:=by rw[I.ok.kind];rfl
  have hiσ:i < σ.length:=by rw[I.len];exact (List.getElem?_eq_some_iff.mp hi).1
  have cne:=I.cne
  have tracked:∀ {a:Addr} {h':Heap},(∃ o,s.heap.get? a=some o/\H a=none)->Heap.SameBut a s.heap h'->HOk X.prog X.w H h':=fun {a h'} ha hs b ob e=>by
    obtain⟨_,_,hfree⟩:=ha
    refine (I.hok b ob e).stay (fun c w' hc q=>(hs.2 c ?_).trans q) (fun _ q=>q) fun _ _ q=>q
    rintro rfl
    rcases hc with rfl | hc
    · rw[hfree] at e;cases e
    · rw[hfree] at hc;cases hc
  rcases hx with hk | hk
  · refine wpAny_storeName_local hk hn (fun h' hn' hs=>?_) hcls
    obtain⟨oL,_,_,hoL,_⟩:=id hn
    refine h _ ⟨I.ok,I.os,I.bare,⟨fun b o e n hb hx=>?_,fun b o e n hb hx=>?_,I.base.free,fun b o e hx=>?_,I.base.tups,I.base.frzs,I.base.tbls⟩,⟨_,hn',fun j y v' e1 e2 e3=>?_⟩,fun y c e=>?_,I.free,I.freeC,fun p hp=>?_,tracked ⟨oL,hoL,I.free⟩ hs,by simpa using I.len⟩ ⟨_,hs,.inl rfl⟩
    · exact (hs.2 b (Nat.ne_of_lt (Nat.lt_of_lt_of_le (Heap.lt_size e) I.ok.above))).trans (I.base.keep b o e n hb hx)
    · obtain⟨sl,e1⟩:=I.base.slot b o e n hb hx
      exact⟨sl,(hs.2 b (Nat.ne_of_lt (Nat.lt_of_lt_of_le (Heap.lt_size e) I.ok.above))).trans e1⟩
    · obtain⟨o',e1⟩:=I.base.there b o e hx
      exact⟨o',(hs.2 b (Nat.ne_of_lt (Nat.lt_of_lt_of_le (Heap.lt_size e) I.ok.above))).trans e1⟩
    · by_cases hj:j=i
      · subst hj
        rw[hi] at e1;cases e1
        rw[List.getElem?_set_self hiσ] at e2
        cases e2
        exact⟨u,r,.inl ⟨hk,by simp⟩⟩
      · rw[List.getElem?_set_ne (Ne.symm hj)] at e2
        obtain⟨u',r',q⟩:=hl j y v' e1 e2 e3
        refine⟨u',r',?_⟩
        rcases q with⟨k,e⟩ | ⟨k,c,e,z⟩
        · refine .inl ⟨k,?_⟩
          have:y ≠ x:=fun e=>hj (iN hN e1 (e ▸ hi))
          simp[this,e]
        · exact .inr ⟨k,c,e,z.sameBut hs (cne y c e)⟩
    · obtain⟨w',z⟩:=I.cell y c e
      exact⟨w',z.sameBut hs (cne y c e)⟩
    · obtain⟨e,n,ne,nf,d⟩:=I.pin p hp
      exact⟨(hs.2 p.1 ne).trans e,n,ne,nf,d⟩
  · have hfn:X.fn x=true:=by
      rcases hf with z | z
      · exact z
      · rw[z] at hk;cases hk
    obtain⟨c,hc⟩:=I.ok.has x (.inl hk)
    obtain⟨w',z⟩:=I.cell x c hc
    refine wpAny_storeName_cell I.ok.kind hk hc z (fun h' hc' hs=>?_)
    obtain⟨oc,hoc,hocd⟩:=id z
    refine h { s with heap:=h' } ⟨I.ok,I.os,I.bare,⟨fun b o e n hb hx=>?_,fun b o e n hb hx=>?_,I.base.free,fun b o e hx=>?_,I.base.tups,I.base.frzs,I.base.tbls⟩,⟨m,hn.sameBut hs (Ne.symm (cne x c hc)),fun j y v' e1 e2 e3=>?_⟩,fun y c' e=>?_,I.free,I.freeC,fun p hp=>?_,tracked ⟨oc,hoc,I.freeC x c hc⟩ hs,by simpa using I.len⟩ ⟨c,hs,.inr hc⟩
    · exact (hs.2 b (Nat.ne_of_lt (Nat.lt_of_lt_of_le (Heap.lt_size e) (I.ok.cab x c hfn hc)))).trans (I.base.keep b o e n hb hx)
    · obtain⟨sl,e1⟩:=I.base.slot b o e n hb hx
      exact⟨sl,(hs.2 b (Nat.ne_of_lt (Nat.lt_of_lt_of_le (Heap.lt_size e) (I.ok.cab x c hfn hc)))).trans e1⟩
    · obtain⟨o',e1⟩:=I.base.there b o e hx
      exact⟨o',(hs.2 b (Nat.ne_of_lt (Nat.lt_of_lt_of_le (Heap.lt_size e) (I.ok.cab x c hfn hc)))).trans e1⟩
    · by_cases hj:j=i
      · subst hj
        rw[hi] at e1;cases e1
        rw[List.getElem?_set_self hiσ] at e2
        cases e2
        exact⟨u,r,.inr ⟨.inl hk,c,hc,hc'⟩⟩
      · rw[List.getElem?_set_ne (Ne.symm hj)] at e2
        obtain⟨u',r',q⟩:=hl j y v' e1 e2 e3
        refine⟨u',r',?_⟩
        rcases q with q | ⟨k,c',e,z'⟩
        · exact .inl q
        · refine .inr ⟨k,c',e,z'.sameBut hs ?_⟩
          rintro rfl
          exact hj (iN hN e1 (I.ok.inj _ _ _ e hc ▸ hi))
    · by_cases hcc:c'=c
      · subst hcc;exact⟨_,hc'⟩
      · obtain⟨w2,z2⟩:=I.cell y c' e
        exact⟨w2,z2.sameBut hs hcc⟩
    · obtain⟨e,n,ne,nf,d⟩:=I.pin p hp
      refine⟨(hs.2 p.1 ?_).trans e,n,ne,nf,d⟩
      intro q
      rw[q,hoc] at e
      have q':oc=p.2:=Option.some.inj e
      exact d w' (by rw[<- q'];exact hocd)
theorem gK{M:Model}{A:Around}{E:Value->Shared->Prop}{i:Nat}{x:Str}{v:V}{u:Value}{Q:Unit->Shared->Prop}(I:Inv X pins σ H s)(hN:X.N.Nodup)(hi:X.N[i]?=some x)(hx:Loc X.env.scope x)(r:RelV v u)(h:∀ s',Inv X pins (σ.set i (some v)) H s'->Q () s')(hf:X.fn x=true\/X.env.scope.names.lookup x=some .local:=by first | exact .inl rfl | exact .inr rfl | assumption):wpAny M A (storeName X.env x u) Q E s :=
  lg I hN hi hx r (fun s' I' _=>h s' I') hf
theorem Inv.call'{s':Shared}{ch:List Addr}(I:Inv X pins σ H s)(ho:s'.os=s.os)(u:Un (frs X.stack) ch H H' s.heap s'.heap)(hok:HOk X.prog X.w H' s'.heap)(hg:AllBare s'.gens)(hch:∀ b ∈ ch,(b ∈ X.ex\/X.s₀.heap.objs.size<=b)/\b ≠ X.env.locals/\(∀ x c,X.env.cells.lookup x=some c->c ≠ b)/\∀ p ∈ X.pn++pins,p.1 ≠ b):Inv X pins σ H' s':=by
  obtain⟨h',g',d',t',o'⟩:=s'
  have e:o'=s.os:=ho
  subst e
  exact I.call (g':=g') (t':=t') (d':=d') u hok hg hch
end
abbrev XK:=Value->Option Addr->Hp->Prop
abbrev St:=List (Option V)
abbrev VK:=V->Hp->Prop
abbrev TE:=St->Hp->VK->Prop
abbrev TT:=St->Hp->(Bool->Hp->Prop)->Prop
abbrev TA:=St->Hp->(List V->Hp->Prop)->Prop
structure Ends where
  nx:St->Hp->Prop
  rt:VK
  bk:St->Hp->Prop:=fun _ _=>False
  ct:St->Hp->Prop:=fun _ _=>False
abbrev TS:=Ends->St->Hp->Prop
def EP(X:Cx)(pins:List (Addr × Obj))(σ:St)(Q:VK)(u:Value)(s':Shared):Prop:=∃ v H',Inv X pins σ H' s'/\RelV v u/\Q v H'
def TP(X:Cx)(pins:List (Addr × Obj))(σ:St)(Q:Bool->Hp->Prop)(b:Bool)(s':Shared):Prop:=∃ H',Inv X pins σ H' s'/\Q b H'
def AP(X:Cx)(pins:List (Addr × Obj))(σ:St)(Q:List V->Hp->Prop)(us:List Value)(s':Shared):Prop:=∃ vs H',Inv X pins σ H' s'/\Vals vs us/\Q vs H'
def SP(X:Cx)(pins:List (Addr × Obj))(D:Ends)(f:Flow)(s':Shared):Prop :=
  match f with
  | .next=>∃ σ' H',Inv X pins σ' H' s'/\D.nx σ' H'
  | .brk=>∃ σ' H',Inv X pins σ' H' s'/\D.bk σ' H'
  | .cont=>∃ σ' H',Inv X pins σ' H' s'/\D.ct σ' H'
  | .ret u=>∃ v σ' H',Inv X pins σ' H' s'/\RelV v u/\D.rt v H'
def PE(X:Cx)(e:Expr)(t:TE):Prop :=
  ∀ (pins:List (Addr × Obj)) (s:Shared) (σ:St) (H:Hp) (Q:VK),Inv X pins σ H s->t σ H Q->wpAny (model X.prog X.w) X.A (eval e X.env) (EP X pins σ Q) X.xe s
def PT(X:Cx)(e:Expr)(t:TT):Prop :=
  ∀ (pins:List (Addr × Obj)) (s:Shared) (σ:St) (H:Hp) (Q:Bool->Hp->Prop),Inv X pins σ H s->t σ H Q->wpAny (model X.prog X.w) X.A (isTrue e X.env (eval e X.env)) (TP X pins σ Q) X.xe s
def PW(X:Cx)(e:Expr)(t:TT):Prop :=
  ∀ (whole:Sem Value) (pins:List (Addr × Obj)) (s:Shared) (σ:St) (H:Hp) (Q:Bool->Hp->Prop),Inv X pins σ H s->t σ H Q->wpAny (model X.prog X.w) X.A (isTrue e X.env whole) (TP X pins σ Q) X.xe s
theorem PW.pt{X:Cx}{e:Expr}{t:TT}(h:PW X e t):PT X e t:=h _
def PA(X:Cx)(es:List Expr)(t:TA):Prop :=
  ∀ (pos:Pos) (pins:List (Addr × Obj)) (s:Shared) (σ:St) (H:Hp) (Q:List V->Hp->Prop),Inv X pins σ H s->t σ H Q->wpAny (model X.prog X.w) X.A (spliced (backTo pos (starEach es X.env))) (AP X pins σ Q) X.xe s
def PS(X:Cx)(st:Stmt)(t:TS):Prop :=
  ∀ (pins:List (Addr × Obj)) (s:Shared) (σ:St) (H:Hp) (D:Ends),Inv X pins σ H s->t D σ H->wpAny (model X.prog X.w) X.A (exec st X.env) (SP X pins D) X.xe s
def PSs(X:Cx)(st:List Stmt)(t:TS):Prop :=
  ∀ (pins:List (Addr × Obj)) (s:Shared) (σ:St) (H:Hp) (D:Ends),Inv X pins σ H s->t D σ H->wpAny (model X.prog X.w) X.A (execs st X.env) (SP X pins D) X.xe s
theorem thn{α:Type}{t:Sem α}{Q Q':α->Shared->Prop}{M:Model}{A:Around}{E:Value->Shared->Prop}{s:Shared}(h:wpAny M A t Q E s)(hQ:∀ a s,Q a s->Q' a s):wpAny M A t Q' E s:=wpAny_mono h hQ fun _ _ x=>x
end L2
namespace L2
open PySem PySem.Spec PyProof.Rows
section
variable {X:Cx}
def ql(i:Nat):TE:=fun σ H Q=>∃ v,σ[i]?=some (some v)/\Q v H
def tC(v:V):TE:=fun _ H Q=>Q v H
theorem iO{i:Nat}{x:Str}{pos:Pos}(hN:X.N[i]?=some x)(hv:Vis X.env.scope x)(hd:(x == ("__debug__" : Str))=false:=by decide)(hcd:(x == ("__classdict__" : Str))=false:=by decide):PE X (.Name x pos) (ql i):=by
  intro pins s σ H Q I h
  obtain⟨v,e,h⟩:=h
  obtain⟨m,hn,hl⟩:=I.loc
  obtain⟨u,r,l⟩:=hl i x v hN e hv
  have fin:EP X pins σ Q u s:=⟨v,H,I,r,h⟩
  rcases l with⟨hk,hm⟩ | ⟨hk,c,hc,hcell⟩
  · exact wpAny_Name (wpAny_loadName_local I.ok.kind hk hn hm fin) hd
  · rcases hk with hk | hk
    · exact wpAny_Name (wpAny_loadName_cell I.ok.kind hk hc hcell fin) hd
    · exact wpAny_Name (wpAny_loadName_free I.ok.kind hk hc hcell fin hcd) hd
theorem qm{i j pos}:PE X (.Constant (.int i) j pos) (tC (.int i)):=fun _ _ _ H _ I h=>wpAny_Constant_int ⟨.int i,H,I.tok _,⟨_,rfl⟩,h⟩
theorem qo{b j pos}:PE X (.Constant (.bool b) j pos) (tC (.bl b)):=fun _ _ _ H _ I h=>Constant_bool ⟨.bl b,H,I,rfl,h⟩
theorem qp{j pos}:PE X (.Constant .none j pos) (tC .non):=fun _ _ _ H _ I h=>Constant_none ⟨.non,H,I,rfl,h⟩
theorem dE{x j pos}:PE X (.Constant (.str x) j pos) (tC (.str x)):=fun _ _ _ H _ I h=>Calls.Constant_str ⟨.str x,H,I.tok _,⟨_,rfl⟩,h⟩
def Gl(X:Cx)(x:Str):Prop:=X.env.kindOf x=some .globalImplicit
theorem er{E:Value->Shared->Prop}{pins:List (Addr × Obj)}{s:Shared}{σ:St}{H:Hp}{x:Str}{u:Value}{pos:Pos}{Q:Value->Shared->Prop}(I:Inv X pins σ H s)(hg:Gl X x)(hm:X.mg x=some u)(h:Q u s)(hd:(x == ("__debug__" : Str))=false:=by decide):wpAny (model X.prog X.w) X.A (eval (.Name x pos) X.env) Q E s :=
  Calls.Name_function_global I.ok.kind hg (Calls.loadGlobal_global (by rw[I.ok.glob];exact I.mod.glob.keeps I.bk) hm h) hd
theorem fN{E:Value->Shared->Prop}{pins:List (Addr × Obj)}{s:Shared}{σ:St}{H:Hp}{x:Str}{u:Value}{pos:Pos}{Q:Value->Shared->Prop}(I:Inv X pins σ H s)(hg:Gl X x)(hm:X.mg x=none)(hv:bootBuiltins x=some u)(h:Q u s)(hn:x ≠ "__name__":=by decide)(hd:(x == ("__debug__" : Str))=false:=by decide):wpAny (model X.prog X.w) X.A (eval (.Name x pos) X.env) Q E s:=by
  obtain⟨mb,h1,h2⟩:=I.mod.blt
  exact Calls.Name_function_global I.ok.kind hg (Calls.loadGlobal_builtin (by rw[I.ok.glob];exact I.mod.glob.keeps I.bk) hm (by rw[I.ok.blt];exact h1.keeps I.bk) ((h2 x hn).trans hv) h) hd
theorem iP{x:Str}{v:V}{u:Value}{pos:Pos}(hg:Gl X x)(hm:X.mg x=some u)(r:RelV v u)(hd:(x == ("__debug__" : Str))=false:=by decide):PE X (.Name x pos) (tC v) :=
  fun _ _ _ H _ I h=>er I hg hm ⟨v,H,I,r,h⟩ hd
theorem iQ{x:Str}{v:V}{u:Value}{pos:Pos}(hg:Gl X x)(hm:X.mg x=none)(hv:bootBuiltins x=some u)(r:RelV v u)(hn:x ≠ "__name__":=by decide)(hd:(x == ("__debug__" : Str))=false:=by decide):PE X (.Name x pos) (tC v) :=
  fun _ _ _ H _ I h=>fN I hg hm hv ⟨v,H,I,r,h⟩ hn hd
variable {a b:Expr} {ta tb:TE} {pos:Pos}
variable {tA tB':TT} {ai:List Expr}
def qq(t u:TT):TT:=fun σ H Q=>t σ H fun c H1=>if c=true then u σ H1 Q else Q false H1
def tOr(t u:TT):TT:=fun σ H Q=>t σ H fun c H1=>if c=true then Q true H1 else u σ H1 Q
def qr(t:TT):TT:=fun σ H Q=>t σ H fun c H1=>Q (!c) H1
theorem qt(ha:PT X a tA):PW X (.BoolOp .And [a] pos) tA:=by
  intro wh pins s σ H Q I h
  refine isTrue_and (thn (ha pins s σ H Q I h) fun c s1 e=>?_)
  cases c with
  | true=>exact isTrue_and_nil e
  | false=>exact e
theorem lh(ha:PT X a tA):PW X (.BoolOp .Or [a] pos) tA:=by
  intro wh pins s σ H Q I h
  refine isTrue_or (thn (ha pins s σ H Q I h) fun c s1 e=>?_)
  cases c with
  | false=>exact isTrue_or_nil e
  | true=>exact e
theorem qu(ha:PT X a tA)(hb:PW X (.BoolOp .And (b::ai) pos) tB'):PW X (.BoolOp .And (a::b::ai) pos) (qq tA tB'):=by
  intro wh pins s σ H Q I h
  refine isTrue_and (thn (ha pins s σ H _ I h) fun c s1 ⟨H1,I1,q1⟩=>?_)
  cases c with
  | true=>exact hb wh pins s1 σ H1 Q I1 q1
  | false=>exact⟨H1,I1,q1⟩
theorem li(ha:PT X a tA)(hb:PW X (.BoolOp .Or (b::ai) pos) tB'):PW X (.BoolOp .Or (a::b::ai) pos) (tOr tA tB'):=by
  intro wh pins s σ H Q I h
  refine isTrue_or (thn (ha pins s σ H _ I h) fun c s1 ⟨H1,I1,q1⟩=>?_)
  cases c with
  | true=>exact⟨H1,I1,q1⟩
  | false=>exact hb wh pins s1 σ H1 Q I1 q1
theorem lm(ha:PT X a tA):PT X (.UnaryOp .Not a pos) (qr tA):=by
  intro pins s σ H Q I h
  exact isTrue_not (ha pins s σ H (fun c H1=>Q (!c) H1) I h)
def qv(ta tb:TE):TE:=fun σ H Q=>ta σ H fun x H1=>∃ c,x=.bl c/\if c=true then tb σ H1 Q else Q (.bl false) H1
def qw(ta tb:TE):TE:=fun σ H Q=>ta σ H fun x H1=>∃ c,x=.bl c/\if c=true then Q (.bl true) H1 else tb σ H1 Q
def qz(ta:TE):TE:=fun σ H Q=>ta σ H fun x H1=>∃ c,x=.bl c/\Q (.bl (!c)) H1
theorem ln{op}{t:TE}(h:PE X a t):PE X (.BoolOp op [a] pos) t:=fun pins s σ H Q I hw=>BoolOp_one (h pins s σ H Q I hw)
theorem lp(ha:PE X a ta)(hb:PE X (.BoolOp .And (b::ai) pos) tb):PE X (.BoolOp .And (a::b::ai) pos) (qv ta tb):=by
  intro pins s σ H Q I h
  refine BoolOp_and (thn (ha pins s σ H _ I h) fun v s1 ⟨x,H1,I1,r1,q1⟩=>?_)
  obtain⟨c,rfl,q1⟩:=q1
  cases r1
  refine wpAny_truthy_bool ?_
  cases c with
  | true=>exact hb pins s1 σ H1 Q I1 q1
  | false=>exact⟨.bl false,H1,I1,rfl,q1⟩
theorem qA(ha:PE X a ta)(hb:PE X (.BoolOp .Or (b::ai) pos) tb):PE X (.BoolOp .Or (a::b::ai) pos) (qw ta tb):=by
  intro pins s σ H Q I h
  refine BoolOp_or (thn (ha pins s σ H _ I h) fun v s1 ⟨x,H1,I1,r1,q1⟩=>?_)
  obtain⟨c,rfl,q1⟩:=q1
  cases r1
  refine wpAny_truthy_bool ?_
  cases c with
  | false=>exact hb pins s1 σ H1 Q I1 q1
  | true=>exact⟨.bl true,H1,I1,rfl,q1⟩
theorem qB(ha:PE X a ta):PE X (.UnaryOp .Not a pos) (qz ta):=by
  intro pins s σ H Q I h
  refine UnaryOp_ (thn (ha pins s σ H _ I h) fun v s1 ⟨x,H1,I1,r1,q1⟩=>?_)
  obtain⟨c,rfl,q1⟩:=q1
  cases r1
  exact not_of (wpAny_truthy_bool ⟨.bl (!c),H1,I1,rfl,q1⟩)
end
end L2
namespace L2
open PySem PySem.Spec PyProof.Rows
def SqL(K:PySem.W.Frag)(H:Hp)(a:Addr)(xs:List V):Prop :=
  Rd H a (.lst xs) \/
    ∃ (o:Obj) (its:Array Value) (n:Nat),K.lookup a=some o/\o.cls=.type "list"/\o.dict=none/\o.data=.seq its n/\its.size<=sizeLine/\Vals xs its.toList
def SqT(K:PySem.W.Frag)(H:Hp)(a:Addr)(xs:List V):Prop :=
  Rd H a (.tup xs) \/
    ∃ (o:Obj) (its:Array Value) (n:Nat),K.lookup a=some o/\o.cls=.type "tuple"/\o.data=.seq its n/\its.size<=sizeLine/\Vals xs its.toList
def qC:Value->Option V
  | .none=>some .non
  | .bool b=>some (.bl b)
  | .int i _=>some (.int i)
  | .str x _=>some (.str x)
  | .bytes b _=>some (.byt b)
  | .float b _=>some (.flt b)
  | .ref a=>some (.ref a)
  | .type n=>some (.ty n)
  | _=>none
theorem RelV.abs{x:V}{u:Value}(r:RelV x u):qC u=some x:=by
  cases x with
  | non=>cases r;rfl
  | bl _=>cases r;rfl
  | int _=>obtain⟨t,rfl⟩:=r;rfl
  | str _=>obtain⟨t,rfl⟩:=r;rfl
  | byt _=>obtain⟨t,rfl⟩:=r;rfl
  | flt _=>obtain⟨t,rfl⟩:=r;rfl
  | ref _=>cases r;rfl
  | ty _=>cases r;rfl
theorem RelV.inj{x y:V}{u:Value}(r:RelV x u)(q:RelV y u):x=y:=Option.some.inj (r.abs.symm.trans q.abs)
theorem Vals.inj:∀ {xs ys:List V} {us:List Value},Vals xs us->Vals ys us->xs=ys
  | _,_,_,.nil,.nil=>rfl
  | _,_,_,.cons r t,.cons r' t'=>by rw[r.inj r',Vals.inj t t']
section
variable {X:Cx} {pins:List (Addr × Obj)} {σ:St} {H:Hp} {s:Shared} {a:Addr} {xs ys:List V}
theorem SqL.of{K:PySem.W.Frag}(h:H a=some (.lst xs)):SqL K H a xs:=.inl (.inl h)
theorem SqT.of{K:PySem.W.Frag}(h:H a=some (.tup xs)):SqT K H a xs:=.inl (.inl h)
theorem Inv.list(I:Inv X pins σ H s)(h:SqL X.K H a xs):∃ its:List Value,Vals xs its/\PlainL s.heap a its.toArray/\xs.length<=sizeLine:=by
  rcases h with h | ⟨o,its,n,hk,hc,hd,hs,hz,r⟩
  · obtain⟨z,its,n,r,e⟩:=h.ok I.hok
    exact⟨its,r,⟨_,n,e,rfl,rfl,rfl⟩,z⟩
  · refine⟨its.toList,r,⟨o,n,I.kIn a o hk,hc,hd,by simpa using hs⟩,?_⟩
    have e:=r.length
    simp only[Array.length_toList] at e
    omega
theorem Inv.tuple(I:Inv X pins σ H s)(h:SqT X.K H a xs):∃ its:List Value,Vals xs its/\IsTup s.heap a its.toArray/\xs.length<=sizeLine:=by
  rcases h with h | ⟨o,its,n,hk,hc,hs,hz,r⟩
  · obtain⟨z,its,r,p⟩:=h.ok I.hok
    exact⟨its,r,p,z⟩
  · refine⟨its.toList,r,⟨o,I.kIn a o hk,hc,n,by simpa using hs⟩,?_⟩
    have e:=r.length
    simp only[Array.length_toList] at e
    omega
theorem Inv.list_inj(I:Inv X pins σ H s)(h:SqL X.K H a xs)(h':SqL X.K H a ys):xs=ys:=by
  obtain⟨its,r,⟨o,n,e,_,_,d⟩,_⟩:=I.list h
  obtain⟨its',r',⟨o',n',e',_,_,d'⟩,_⟩:=I.list h'
  rw[e] at e';cases e'
  rw[d] at d'
  injection d' with d1 _
  have:its=its':=by simpa using congrArg Array.toList d1
  subst this
  exact r.inj r'
end
abbrev Cx.wish(X:Cx)(E:Value->Shared->Prop):Cx:={ X with xe:=E }
abbrev Cx.nox(X:Cx):Cx:=X.wish fun _ _=>False
theorem Cx.Ok.wish{X:Cx}(ok:X.Ok)(E:Value->Shared->Prop):(X.wish E).Ok :=
  ⟨ok.mod,ok.kind,ok.glob,ok.blt,ok.above,ok.inj,ok.has,ok.cab,ok.hd,ok.frames,ok.stk,ok.exf,ok.bs,ok.bsz,ok.noex,ok.exfs,ok.funs,ok.frf⟩
theorem Cx.Ok.unwish{X:Cx}{E:Value->Shared->Prop}(ok:(X.wish E).Ok):X.Ok :=
  ⟨ok.mod,ok.kind,ok.glob,ok.blt,ok.above,ok.inj,ok.has,ok.cab,ok.hd,ok.frames,ok.stk,ok.exf,ok.bs,ok.bsz,ok.noex,ok.exfs,ok.funs,ok.frf⟩
section
variable {X:Cx} {pins:List (Addr × Obj)} {σ:St} {H:Hp} {s:Shared} {E:Value->Shared->Prop}
theorem Inv.wish(I:Inv X pins σ H s)(E:Value->Shared->Prop):Inv (X.wish E) pins σ H s:=⟨I.ok.wish E,I.os,I.bare,I.base,I.loc,I.cell,I.free,I.freeC,I.pin,I.hok,I.len⟩
theorem Inv.unwish(I:Inv (X.wish E) pins σ H s):Inv X pins σ H s:=⟨I.ok.unwish,I.os,I.bare,I.base,I.loc,I.cell,I.free,I.freeC,I.pin,I.hok,I.len⟩
theorem SP.unwish{D:Ends}{f:Flow}{s':Shared}(h:SP (X.wish E) pins D f s'):SP X pins D f s':=by
  cases f with
  | next=>obtain⟨σ',H',I,q⟩:=h;exact⟨σ',H',I.unwish,q⟩
  | brk=>obtain⟨σ',H',I,q⟩:=h;exact⟨σ',H',I.unwish,q⟩
  | cont=>obtain⟨σ',H',I,q⟩:=h;exact⟨σ',H',I.unwish,q⟩
  | ret u=>obtain⟨v,σ',H',I,r,q⟩:=h;exact⟨v,σ',H',I.unwish,r,q⟩
theorem PE.nox{e:Expr}{t:TE}(h:PE X.nox e t):PE X e t:=fun pins s σ H Q I hw =>
  wpAny_mono (h pins s σ H Q (I.wish _) hw) (fun _ _ ⟨v,H',I',r,q⟩=>⟨v,H',I'.unwish,r,q⟩) fun _ _ z=>False.elim z
theorem PT.nox{e:Expr}{t:TT}(h:PT X.nox e t):PT X e t:=fun pins s σ H Q I hw =>
  wpAny_mono (h pins s σ H Q (I.wish _) hw) (fun _ _ ⟨H',I',q⟩=>⟨H',I'.unwish,q⟩) fun _ _ z=>False.elim z
theorem PSs.nox{st:List Stmt}{t:TS}(h:PSs X.nox st t):PSs X st t:=fun pins s σ H D I hw =>
  wpAny_mono (h pins s σ H D (I.wish _) hw) (fun _ _ q=>q.unwish) fun _ _ z=>False.elim z
end
section
variable {X:Cx} {st:Stmt} {ai:List Stmt} {t u:TS} {e:Expr} {te:TE} {pos:Pos}
def qD:TS:=fun D σ H=>D.nx σ H
def qE(t u:TS):TS:=fun D σ H=>t { D with nx:=u D } σ H
theorem lq:PSs X [] qD:=fun _ _ σ H _ I h=>wpAny_execs_nil ⟨σ,H,I,h⟩
theorem iR(h1:PS X st t)(h2:PSs X ai u):PSs X (st::ai) (qE t u):=by
  intro pins s σ H D I h
  refine wpAny_execs_cons (thn (h1 pins s σ H { D with nx:=u D } I h) fun f s1 q=>?_)
  cases f with
  | next =>
    obtain⟨σ',H',I',q⟩:=q
    exact h2 pins s1 σ' H' D I' q
  | ret v=>exact q
  | brk=>exact q
  | cont=>exact q
theorem gL(h1:PS X st t):PSs X [st] t:=by
  intro pins s σ H D I h
  refine wpAny_execs_cons (thn (h1 pins s σ H D I h) fun f s1 q=>?_)
  cases f with
  | next=>exact wpAny_execs_nil q
  | ret v=>exact q
  | brk=>exact q
  | cont=>exact q
theorem Inv.quiet{pins:List (Addr × Obj)}{σ:St}{H:Hp}{s:Shared}(I:Inv X pins σ H s):interactive X.env=false:=by simp[interactive,I.ok.kind]
def qF(te:TE):TS:=fun D σ H=>te σ H fun _ H1=>D.nx σ H1
theorem qG(he:PE X e te)(hs:swapsWith e none pos.line X.env=pure false:=by rfl):PS X (.Expr e pos) (qF te):=by
  intro pins s σ H D I h
  exact wpAny_Expr_any (thn (he pins s σ H _ I h) fun v s1 ⟨x,H1,I1,r1,q1⟩=>⟨σ,H1,I1,q1⟩) I.quiet hs
def qH(te:TE):TS:=fun D σ H=>te σ H D.rt
theorem lr(he:PE X e te):PS X (.Return (some e) pos) (qH te):=by
  intro pins s σ H D I h
  exact wpAny_Return_some (thn (he pins s σ H _ I h) fun v s1 ⟨x,H1,I1,r1,q1⟩=>⟨x,σ,H1,I1,r1,q1⟩)
def qI(c:TT)(t u:TS):TS:=fun D σ H=>c σ H fun b H1=>if b=true then t D σ H1 else u D σ H1
theorem lu{c:Expr}{a b:List Stmt}{tc:TT}(hc:PT X c tc)(ha:PSs X a t)(hb:PSs X b u):PS X (.If c a b pos) (qI tc t u):=by
  intro pins s σ H D I h
  refine wpAny_If (thn (hc pins s σ H _ I h) fun d s1 ⟨H1,I1,q1⟩=>?_)
  cases d with
  | true=>exact ha pins s1 σ H1 D I1 q1
  | false=>exact hb pins s1 σ H1 D I1 q1
end
abbrev TG:=V->St->Hp->(St->Hp->Prop)->Prop
abbrev TGs:=List V->St->Hp->(St->Hp->Prop)->Prop
def PG(X:Cx)(target:Expr)(t:TG):Prop :=
  ∀ (pins:List (Addr × Obj)) (s:Shared) (σ:St) (H:Hp) (v:V) (u:Value) (Q:St->Hp->Prop),Inv X pins σ H s->RelV v u->t v σ H Q ->
    wpAny (model X.prog X.w) X.A (assign target X.env u) (fun _ s'=>∃ σ' H',Inv X pins σ' H' s'/\Q σ' H') X.xe s
def PGs(X:Cx)(ts:List Expr)(t:TGs):Prop :=
  ∀ (pins:List (Addr × Obj)) (s:Shared) (σ:St) (H:Hp) (vs:List V) (us:List Value) (Q:St->Hp->Prop),Inv X pins σ H s->Vals vs us->t vs σ H Q ->
    wpAny (model X.prog X.w) X.A (assignInOrder ((assignEach ts X.env).map (·.2)) us) (fun _ s'=>∃ σ' H',Inv X pins σ' H' s'/\Q σ' H') X.xe s
section
variable {X:Cx} {pos:Pos}
def bD(i:Nat):TG:=fun v σ H Q=>Q (σ.set i (some v)) H
theorem cO{i:Nat}{x:Str}(hN:X.N.Nodup)(hi:X.N[i]?=some x)(hx:Loc X.env.scope x)(hf:X.fn x=true\/X.env.scope.names.lookup x=some .local:=by first | exact .inl rfl | exact .inr rfl | assumption):PG X (.Name x pos) (bD i):=by
  intro pins s σ H v u Q I r h
  exact wpAny_assign_Name (gK I hN hi hx r (fun s' I'=>⟨_,H,I',h⟩) hf)
def lw:TGs:=fun vs σ H Q=>vs=[]/\Q σ H
def lz(t:TG)(u:TGs):TGs:=fun vs σ H Q=>∃ v r,vs=v::r/\t v σ H fun σ' H'=>u r σ' H' Q
theorem qJ:PGs X [] lw:=by
  intro pins s σ H vs us Q I r h
  obtain⟨e,h⟩:=h
  subst e
  cases r
  exact assignInOrder_nil ⟨σ,H,I,h⟩
theorem qK{e:Expr}{es:List Expr}{t:TG}{u:TGs}(h1:PG X e t)(h2:PGs X es u)(hs:(assignEach (e::es) X.env).map (·.2)=assign e X.env::(assignEach es X.env).map (·.2):=by rfl):PGs X (e::es) (lz t u):=by
  intro pins s σ H vs us Q I r h
  obtain⟨v,vr,e1,h⟩:=h
  subst e1
  cases r with
  | cons r rr =>
    rw[hs]
    refine assignInOrder_cons (thn (h1 pins s σ H _ _ _ I r h) fun _ s1 ⟨σ1,H1,I1,q1⟩=>?_)
    exact h2 pins s1 σ1 H1 _ _ Q I1 rr q1
def lA(te:TE)(g:TG):TS:=fun D σ H=>te σ H fun x H1=>g x σ H1 D.nx
theorem lB{i:Nat}{x:Str}{e:Expr}{te:TE}{pos':Pos}(hN:X.N.Nodup)(hi:X.N[i]?=some x)(hx:Loc X.env.scope x)(he:PE X e te)(hs:swapsWith e (some (.Name x pos')) pos.line X.env=pure false:=by rfl)(hf:X.fn x=true\/X.env.scope.names.lookup x=some .local:=by first | exact .inl rfl | exact .inr rfl | assumption):
    PS X (.Assign [.Name x pos'] e pos) (lA te (bD i)):=by
  intro pins s σ H D I h
  refine wpAny_Assign_Name (thn (he pins s σ H _ I h) fun v s1 ⟨y,H1,I1,r1,q1⟩=>?_) hs
  exact gK I1 hN hi hx r1 (fun s2 I2=>⟨_,H1,I2,q1⟩) hf
end
section
variable {X:Cx} {pos:Pos}
end
structure It where
  go:Nat->Hp->Prop
  yld:Nat->Hp->V->Hp->Prop
  stop:Nat->Hp->Prop
def bA(X:Cx)(pins:List (Addr × Obj))(H:Hp)(b:Addr):Prop :=
  H b=none/\b ≠ X.env.locals/\b ∉ X.fs/\(b ∈ X.ex\/X.s₀.heap.objs.size<=b)/\(∀ x c,X.env.cells.lookup x=some c->c ≠ b)/\∀ p ∈ X.pn++pins,p.1 ≠ b
theorem Inv.fpOk{X:Cx}{pins:List (Addr × Obj)}{σ:St}{H H':Hp}{s:Shared}{b:Addr}(I:Inv X pins σ H s)(hb:s.heap.objs.size<=b)(hn:H' b=none):bA X pins H' b:=by
  refine⟨hn,Nat.ne_of_gt (Nat.lt_of_lt_of_le I.lt hb),I.nofs hb,.inr (Nat.le_trans I.sz hb),fun x c e z=>?_,fun p hp z=>?_⟩
  · obtain⟨v,q⟩:=I.cell x c e
    exact absurd (Nat.lt_of_lt_of_le q.lt (by rw[z];exact hb)) (Nat.lt_irrefl _)
  · exact absurd (Nat.lt_of_lt_of_le (Heap.lt_size (I.pin p hp).1) (by rw[z];exact hb)) (Nat.lt_irrefl _)
structure Turn (P:Program) (w:World) (K:PySem.W.Frag) (tg:Expr) (J:It) (fp:List Addr) (it:Addr) (tn:Nat->Heap->Prop):Prop where
  mem:it ∈ fp
  obj:∀ i h,tn i h->∀ b ∈ fp,∃ o,h.get? b=some o/\∀ v,o.data ≠ .cell v
  keep:∀ i h h',tn i h->(∀ b ∈ fp,∀ o,h.get? b=some o->h'.get? b=some o)->tn i h'
  item:∀ (X:Cx),X.prog=P->X.w=w->X.K=K->X.calm=true->∀ (i:Nat) (pins:List (Addr × Obj)) (s:Shared) (σ:St) (H:Hp) (E:Value->Shared->Prop),Inv X pins σ H s->(∀ b ∈ fp,bA X pins H b)->tn i s.heap->J.go i H ->
    wpAny (model P w) X.A (pyNext (.ref it)) (fun r s1=>∃ u,r=some u /\
      wpAny (model P w) X.A (letOwnedTupleGo tg (.ref it) u) (fun _ s2=>∃ x H',Inv X pins σ H' s2/\RelV x u/\J.yld i H x H'/\tn (i+1) s2.heap/\∀ b ∈ fp,H' b=none) E s1) E s
  done:∀ (X:Cx),X.prog=P->X.w=w->X.K=K->X.calm=true->∀ (i:Nat) (pins:List (Addr × Obj)) (s:Shared) (σ:St) (H:Hp) (E:Value->Shared->Prop),Inv X pins σ H s->(∀ b ∈ fp,bA X pins H b)->tn i s.heap->J.stop i H ->
    wpAny (model P w) X.A (pyNext (.ref it)) (fun r s1=>r=none/\Inv X pins σ H s1) E s
  self:∀ (A:Around) (i:Nat) (s:Shared) (Q:Value->Shared->Prop) (E:Value->Shared->Prop),tn i s.heap->Q (.ref it) s->wpAny (model P w) A (pyIter (.ref it)) Q E s
abbrev TI:=St->Hp->(It->Hp->Prop)->Prop
def PIE(X:Cx)(pins:List (Addr × Obj))(σ:St)(tg:Expr)(R:It->Hp->Prop)(itv:Value)(s2:Shared):Prop :=
  ∃ (it:Addr) (fp:List Addr) (tn:Nat->Heap->Prop) (J:It) (H':Hp),itv=.ref it/\Inv X pins σ H' s2/\Turn X.prog X.w X.K tg J fp it tn/\tn 0 s2.heap/\(∀ b ∈ fp,bA X pins H' b)/\R J H'
def PI(X:Cx)(tg iter:Expr)(wi:TI):Prop :=
  ∀ (pins:List (Addr × Obj)) (s:Shared) (σ:St) (H:Hp) (R:It->Hp->Prop),Inv X pins σ H s->wi σ H R ->
    wpAny (model X.prog X.w) X.A (eval iter X.env) (fun v s1=>wpAny (model X.prog X.w) X.A (pyIter v) (PIE X pins σ tg R) X.xe s1) X.xe s
theorem iS{M:Model}{A:Around}{E:Value->Shared->Prop}{s:Shared}{tg:Expr}{it:Addr}{u:Value}{o:Obj}{n:String}{vs:Array Value}{Q:Unit->Shared->Prop}(ho:s.heap.get? it=some o)(hc:o.cls=.type n)(hd:o.data=.fields vs)(hn:["enumerate","zip","dict_itemiterator","dict_reverseitemiterator","odict_iterator","itertools.zip_longest","itertools.pairwise"].contains n=false)(hQ:Q () s):wpAny M A (letOwnedTupleGo tg (.ref it) u) Q E s:=by
  unfold letOwnedTupleGo
  cases tg <;> first
    | exact wpAny_pure hQ
    | (cases u <;> first
        | exact wpAny_pure hQ
        | (refine wpAny_bind (wpAny_load ho ?_)
           rw[hc,hd]
           show wpAny M A (if (["enumerate","zip","dict_itemiterator","dict_reverseitemiterator","odict_iterator","itertools.zip_longest","itertools.pairwise"].contains n && vs[0]? == some (rawInt _))=true then _ else _) Q E s
           rw[if_neg (by intro h;rw[hn,Bool.false_and] at h;cases h)]
           exact wpAny_pure hQ))
def Itl(K:PySem.W.Frag)(a:Addr):It :=
  ⟨fun i H=>∃ xs x,SqL K H a xs/\xs[i]?=some x,fun i H x H'=>H'=H/\∀ xs,SqL K H a xs->xs[i]?=some x,fun i H=>∃ xs,SqL K H a xs/\xs.length<=i⟩
def Itr(lo:Int)(n:Nat):It:=⟨fun i _=>i < n,fun i H x H'=>H'=H/\x=.int (lo+i),fun i _=>n<=i⟩
theorem qL{P:Program}{w:World}{K:PySem.W.Frag}{tg:Expr}(a it:Addr):Turn P w K tg (Itl K a) [it] it (fun i h=>h.IsListIter it a i) where
  mem:=by simp
  obj:=fun i h st b hb=>by
    have e:b=it:=by simpa using hb
    subst e
    obtain⟨o,e,c,d⟩:=st
    exact⟨o,e,fun v z=>by rw[d] at z;cases z⟩
  keep:=fun i h h' st k=>st.at fun o e=>k it (by simp) o e
  item:=by
    intro X hP hw hK hc i pins s σ H E I hf st hg
    subst hP hw hK
    obtain⟨xs,x,hq,hx⟩:=hg
    obtain⟨its,rv,p,hz⟩:=I.list hq
    obtain⟨u,hu,ru⟩:=rv.get hx
    obtain⟨f0,f1,f2,f3,f4,f5⟩:=hf it (by simp)
    refine wpAny_pyNext_list_item st p.isList (x:=u) (by simpa using hu) fun h' st' sb=>?_
    have I1:Inv X pins σ H { s with heap:=h' }:=I.turned (t':=s.toks) (fun b o hb e=>(sb.2 b hb).trans e) f0 f1 f3 f4 f5
    obtain⟨o,e,c,d⟩:=id st'
    exact⟨u,rfl,iS (s:={ s with heap:=h' }) e c d (by decide) ⟨x,H,I1,ru,⟨rfl,fun ys hy=>by rw[I.list_inj hy hq];exact hx⟩,st',fun b hb=>(hf b hb).1⟩⟩
  done:=by
    intro X hP hw hK hc i pins s σ H E I hf st hg
    subst hP hw hK
    obtain⟨xs,hq,hx⟩:=hg
    obtain⟨its,rv,p,hz⟩:=I.list hq
    obtain⟨f0,f1,f2,f3,f4,f5⟩:=hf it (by simp)
    have hl:=rv.length
    exact wpAny_pyNext_list_end (I.ok.hd hc) st p.isList (by simp;omega) fun h' eb=>⟨rfl,I.turned (t':=s.toks) (fun b o hb e=>eb b o hb e) f0 f1 f3 f4 f5⟩
  self:=fun _ _ _ _ _ st h=>wpAny_pyIter_listiter st h
theorem qM{P:Program}{w:World}{K:PySem.W.Frag}{tg:Expr}(it:Addr)(lo:Int)(n:Nat):Turn P w K tg (Itr lo n) [it] it (fun i h=>IsRangeIter h it (lo+(i:Nat) * 1) ((n:Int) - (i:Nat)) 1) where
  mem:=by simp
  obj := fun i h st b hb=>by
    have e:b=it:=by simpa using hb
    subst e
    exact⟨_,st,fun v z=>by
      have z':Data.fields _=Data.cell v:=z
      cases z'⟩
  keep:=fun i h h' st k=>k it (by simp) _ st
  item:=by
    intro X hP hw hK hc i pins s σ H E I hf st hg
    subst hP hw hK
    obtain⟨f0,f1,f2,f3,f4,f5⟩:=hf it (by simp)
    have W:=Walks.range (prog:=X.prog) (w:=X.w) (I.ok.hd hc) it lo 1 n
    refine W.item i s _ _ hg st fun v h' tk hv st' kk=>?_
    obtain⟨t,rfl⟩:=hv
    have I1:Inv X pins σ H { s with heap:=h',toks:=tk }:=I.turned (fun b o hb e=>kk b o (by simpa using hb) e) f0 f1 f3 f4 f5
    refine⟨_,rfl,iS (s:={ s with heap:=h',toks:=tk }) (n:="range_iterator") st' rfl rfl (by decide) ⟨.int (lo+i),H,I1,⟨t,?_⟩,⟨rfl,rfl⟩,st',fun b hb=>(hf b hb).1⟩⟩
    rw[Int.mul_one]
  done:=by
    intro X hP hw hK hc i pins s σ H E I hf st hg
    subst hP hw hK
    obtain⟨f0,f1,f2,f3,f4,f5⟩:=hf it (by simp)
    exact wpAny_pyNext_range_end (I.ok.hd hc) st (by have:n<=i:=hg;omega) fun h' eb=>⟨rfl,I.turned (t':=s.toks) (fun b o hb e=>eb b o hb e) f0 f1 f3 f4 f5⟩
  self:=fun _ _ _ _ _ st h=>wpAny_pyIter_rangeiter st h
end L2
namespace L2
open PySem PySem.Spec PyProof.Rows
section
variable {X:Cx} {tg:Expr}
def qN(K:PySem.W.Frag)(tl:TE):TI:=fun σ H R=>tl σ H fun x H1=>∃ a,x=.ref a/\(∃ xs,SqL K H1 a xs)/\R (Itl K a) H1
theorem iT{l:Expr}{tl:TE}(hl:PE X l tl):PI X tg l (qN X.K tl):=by
  intro pins s σ H R I h
  refine thn (hl pins s σ H _ I h) fun v s1 ⟨x,H1,I1,r1,q1⟩=>?_
  obtain⟨a,e,⟨xs,hq⟩,q⟩:=q1
  subst e
  cases r1
  obtain⟨its,rv,p,hz⟩:=I1.list hq
  refine wpAny_pyIter_list p.isList ?_
  refine⟨s1.heap.objs.size,[s1.heap.objs.size],_,_,H1,rfl,I1.kept (t':=s1.toks) fun b o e=>Heap.get?_push_of_some _ e,qL a _,⟨_,Heap.get?_push_size _ rfl,rfl,rfl⟩,fun b hb=>?_,q⟩
  have e:b=s1.heap.objs.size:=by simpa using hb
  subst e
  exact I1.fpOk (Nat.le_refl _) (I1.hok.fresh (Nat.le_refl _))
theorem lC{pins:List (Addr × Obj)}{σ:St}{H:Hp}{s:Shared}{R:It->Hp->Prop}{E:Value->Shared->Prop}{lo hi:Int}{t u v:Tok}{tk:Nat}(I:Inv X pins σ H s)(h1:-(2 ^ 62)<=lo)(h2:lo < 2 ^ 62)(h3:-(2 ^ 62)<=hi)(h4:hi < 2 ^ 62)(q:R (Itr lo (hi - lo).toNat) H):wpAny (model X.prog X.w) X.A (pyIter (.ref s.heap.objs.size)) (PIE X pins σ tg R) E { s with heap:=s.heap.push { cls:=.type "range",data:=.fields #[.int lo t,.int hi u,.int 1 v] },toks:=tk }:=by
  refine wpAny_pyIter_range (IsRange.new ..) (small_one h1 h2 h3 h4) ?_
  have I1:Inv X pins σ H { s with heap:=s.heap.push { cls:=.type "range",data:=.fields #[.int lo t,.int hi u,.int 1 v] },toks:=tk }:=I.kept fun b o e=>Heap.get?_push_of_some _ e
  refine⟨(s.heap.push { cls:=.type "range",data:=.fields #[.int lo t,.int hi u,.int 1 v] }).objs.size,[(s.heap.push { cls:=.type "range",data:=.fields #[.int lo t,.int hi u,.int 1 v] }).objs.size],_,_,H,rfl,
    I1.kept (t':=tk) fun b o e=>Heap.get?_push_of_some _ e,qM _ lo (hi - lo).toNat,?_,fun b hb=>?_,q⟩
  · have e1:lo+((0:Nat):Int) * 1=lo:=by simp
    have e2:(((hi - lo).toNat:Nat):Int) - ((0:Nat):Int)=Builtin.Range.rangeSize lo hi 1:=by rw[rangeSize_one];split <;> omega
    show IsRangeIter _ _ (lo+((0:Nat):Int) * 1) ((((hi - lo).toNat:Nat):Int) - ((0:Nat):Int)) 1
    rw[e1,e2]
    exact Heap.get?_push_size _ rfl
  · have e:b=(s.heap.push { cls:=.type "range",data:=.fields #[.int lo t,.int hi u,.int 1 v] }).objs.size:=by simpa using hb
    subst e
    exact I1.fpOk (Nat.le_refl _) (I1.hok.fresh (Nat.le_refl _))
def lD(ta:TA):TI:=fun σ H R=>ta σ H fun vs H1=>∃ j:Int,vs=[.int j]/\-(2 ^ 62)<=j/\j < 2 ^ 62/\R (Itr 0 j.toNat) H1
def lE(ta:TA):TI:=fun σ H R=>ta σ H fun vs H1=>∃ i j:Int,vs=[.int i,.int j]/\(-(2 ^ 62)<=i/\i < 2 ^ 62/\-(2 ^ 62)<=j/\j < 2 ^ 62)/\R (Itr i (j - i).toNat) H1
theorem qO{a:Expr}{ta:TA}{p pos:Pos}(hg:Gl X "range")(hm:X.mg "range" = none)(ha:PA X [a] ta)(hs:starEach [a] X.env=[(false,eval a X.env)]:=by rfl):PI X tg (.Call (.Name "range" p) [a] [] pos) (lD ta):=by
  intro pins s σ H R I h
  refine Call_ (fN I hg hm boot_range (PyProof.Rows.callWith_type1 (thn (ha pos pins s σ H _ I h) fun us s1 ⟨vs,H1,I1,r1,q1⟩=>?_) hs rfl))
  obtain⟨j,e,q1,q2,q⟩:=q1
  subst e
  cases r1 with
  | cons r rr =>
    cases rr
    obtain⟨t,rfl⟩:=r
    exact call_range_1 (lC I1 (by omega) (by omega) q1 q2 (by simpa using q))
theorem qP{a b:Expr}{ta:TA}{p pos:Pos}(hg:Gl X "range")(hm:X.mg "range" = none)(ha:PA X [a,b] ta)(hs:starEach [a,b] X.env=[(false,eval a X.env),(false,eval b X.env)]:=by rfl)(hs2:starEach [b] X.env=[(false,eval b X.env)]:=by rfl):
    PI X tg (.Call (.Name "range" p) [a,b] [] pos) (lE ta):=by
  intro pins s σ H R I h
  refine Call_ (fN I hg hm boot_range (PyProof.Rows.callWith_type1 (thn (ha pos pins s σ H _ I h) fun us s1 ⟨vs,H1,I1,r1,q1⟩=>?_) (by rw[hs,hs2]) (by rw[hs2];rfl)))
  obtain⟨i,j,e,⟨q1,q2,q3,q4⟩,q⟩:=q1
  subst e
  cases r1 with
  | cons r rr =>
    cases rr with
    | cons r' rr =>
      cases rr
      obtain⟨t,rfl⟩:=r
      obtain⟨t',rfl⟩:=r'
      exact call_range_2 (lC I1 q1 q2 q3 q4 q)
def qQ(wi:TI)(g:TG)(tb:TS):TS:=fun D σ H=>wi σ H fun J H1=>∃ W:Nat->Nat->St->Hp->Prop,(∃ m,W 0 m σ H1)/\∀ i m σ H,W i m σ H ->
  (J.stop i H/\D.nx σ H)\/(J.go i H/\∃ N:St->Hp->Prop,(∀ σ' H',N σ' H'->∃ m',m' < m/\W (i+1) m' σ' H')/\∀ x H',J.yld i H x H'->g x σ H' fun σ2 H2=>tb { D with nx:=N,ct:=N,bk:=D.nx } σ2 H2)
def fO(fp:List Addr)(h:Heap):List (Addr × Obj):=fp.filterMap fun b=>(h.get? b).map fun o=>(b,o)
theorem gM{fp:List Addr}{h:Heap}{b:Addr}{o:Obj}(hb:b ∈ fp)(e:h.get? b=some o):(b,o) ∈ fO fp h:=List.mem_filterMap.mpr ⟨b,hb,by rw[e];rfl⟩
theorem qR{fp:List Addr}{h:Heap}{p:Addr × Obj}(hp:p ∈ fO fp h):p.1 ∈ fp/\h.get? p.1=some p.2:=by
  obtain⟨b,hb,e⟩:=List.mem_filterMap.mp hp
  cases q:h.get? b with
  | none=>rw[q] at e;cases e
  | some o =>
    rw[q] at e
    have e':(b,o)=p:=Option.some.inj e
    subst e'
    exact⟨hb,q⟩
theorem Inv.pinned{pins:List (Addr × Obj)}{σ:St}{H:Hp}{s:Shared}{fp:List Addr}(I:Inv X pins σ H s)(hf:∀ b ∈ fp,bA X pins H b)(ho:∀ b ∈ fp,∃ o,s.heap.get? b=some o/\∀ v,o.data ≠ .cell v):Inv X (pins++fO fp s.heap) σ H s :=
  I.pins_of fun p hp=>(List.mem_append.mp hp).elim (fun z=>I.pin p (List.mem_append_right _ z)) fun z=>by
    obtain⟨hb,e⟩:=qR z
    obtain⟨f0,f1,f2,_⟩:=hf p.1 hb
    obtain⟨o,e',d⟩:=ho p.1 hb
    rw[e] at e';cases e'
    exact⟨e,f0,f1,f2,d⟩
theorem Inv.unpinned{pins pl:List (Addr × Obj)}{σ:St}{H:Hp}{s:Shared}(I:Inv X (pins++pl) σ H s):Inv X pins σ H s:=I.pins_of fun p hp=>I.pin p (List.mem_append_right _ (List.mem_append_left _ hp))
theorem iU{iter:Expr}{body:List Stmt}{wi:TI}{g:TG}{tb:TS}{pos:Pos}(hp:PassesOwn (model X.prog X.w) X.A X.env X.xe)(hc:X.calm=true)(hi:PI X tg iter wi)(hg:PG X tg g)(hb:PSs X body tb)(hs:∀ x,foldedSetIterable iter X.env x=pure x:=by intro _;rfl):PS X (.For tg iter body [] pos) (qQ wi g tb):=by
  intro pins s σ H D I h
  refine wpAny_For (thn (hi pins s σ H _ I h) fun v s1 h1=>thn h1 fun itv s2 h2=>?_) hs
  obtain⟨it,fp,tn,J,H2,e,I2,T,st2,f2,W,⟨m0,w0⟩,turn⟩:=h2
  subst e
  have stat:∀ {H':Hp},(∀ b ∈ fp,H' b=none)->∀ b ∈ fp,bA X pins H' b:=fun hn b hb=>⟨hn b hb,(f2 b hb).2⟩
  refine codeAny_forLoop_any (fun n s'=>∃ i σ' H',Inv X pins σ' H' s'/\tn i s'.heap/\(∀ b ∈ fp,H' b=none)/\W i n σ' H') ?_ m0 ⟨0,σ,H2,I2,st2,fun b hb=>(f2 b hb).1,w0⟩
  rintro n s3 ⟨i,σ3,H3,I3,st3,fr3,w3⟩
  rcases turn i n σ3 H3 w3 with⟨stop,qn⟩ | ⟨go,N,hN,step⟩
  · refine wpAny_passesOwn hp (thn (T.done X rfl rfl rfl hc i pins s3 σ3 H3 X.xe I3 (stat fr3) st3 stop) fun r s4 ⟨hr,I4⟩=>?_)
    subst hr
    exact wpAny_execs_nil ⟨σ3,H3,I4,qn⟩
  · refine wpAny_passesOwn hp (thn (T.item X rfl rfl rfl hc i pins s3 σ3 H3 X.xe I3 (stat fr3) st3 go) fun r s4 ⟨u,hr,h4⟩=>?_)
    subst hr
    refine wpAny_passesOwn hp (thn h4 fun _ s5 ⟨x,H5,I5,r5,y5,st5,fr5⟩=>?_)
    have I5':=I5.pinned (stat fr5) (T.obj _ _ st5)
    refine wpAny_passesOwn hp (thn (hg _ s5 σ3 H5 x u _ I5' r5 (step x H5 y5)) fun _ s6 ⟨σ6,H6,I6,q6⟩=>?_)
    refine wpAny_passesOwn hp (thn (hb _ s6 σ6 H6 _ I6 q6) fun f s7 q7=>?_)
    have again:∀ {σ7:St} {H7:Hp},Inv X (pins++fO fp s5.heap) σ7 H7 s7->N σ7 H7->∃ m,m < n/\∃ i σ' H',Inv X pins σ' H' s7/\tn i s7.heap/\(∀ b ∈ fp,H' b=none)/\W i m σ' H':=fun {σ7 H7} I7 n7=>by
      obtain⟨m',hm,w7⟩:=hN σ7 H7 n7
      refine⟨m',hm,i+1,σ7,H7,I7.unpinned,T.keep _ _ _ st5 fun b hb o e=>(I7.pin (b,o) (List.mem_append_right _ (List.mem_append_right _ (gM hb e)))).1,fun b hb=>?_,w7⟩
      obtain⟨o,e,d⟩:=T.obj _ _ st5 b hb
      exact (I7.pin (b,o) (List.mem_append_right _ (List.mem_append_right _ (gM hb e)))).2.1
    cases f with
    | next=>obtain⟨σ7,H7,I7,n7⟩:=q7;exact again I7 n7
    | cont=>obtain⟨σ7,H7,I7,n7⟩:=q7;exact again I7 n7
    | brk=>obtain⟨σ7,H7,I7,q7⟩:=q7;exact⟨σ7,H7,I7.unpinned,q7⟩
    | ret v=>obtain⟨x7,σ7,H7,I7,r7,q7⟩:=q7;exact⟨x7,σ7,H7,I7.unpinned,r7,q7⟩
end
theorem iV{K:PySem.W.Frag}{a:Addr}{xs:List V}{g:TG}{tb:TS}{D:Ends}{σ:St}{H:Hp}(Pv:Nat->St->Hp->Prop)(h0:Pv 0 σ H)(hl:∀ i σ H,i<=xs.length->Pv i σ H->SqL K H a xs)(hs:∀ i x σ H,xs[i]?=some x->Pv i σ H->g x σ H fun σ2 H2=>tb { D with nx:=Pv (i+1),ct:=Pv (i+1),bk:=D.nx } σ2 H2)(hd:∀ σ H,Pv xs.length σ H->D.nx σ H):
    ∃ W:Nat->Nat->St->Hp->Prop,(∃ m,W 0 m σ H)/\∀ i m σ H,W i m σ H ->
      ((Itl K a).stop i H/\D.nx σ H)\/((Itl K a).go i H/\∃ N:St->Hp->Prop,(∀ σ' H',N σ' H'->∃ m',m' < m/\W (i+1) m' σ' H')/\∀ x H',(Itl K a).yld i H x H'->g x σ H' fun σ2 H2=>tb { D with nx:=N,ct:=N,bk:=D.nx } σ2 H2):=by
  refine⟨fun i m σ H=>m=xs.length - i/\i<=xs.length/\Pv i σ H,⟨xs.length,by simp,Nat.zero_le _,h0⟩,?_⟩
  rintro i m σ H ⟨rfl,hi,p⟩
  have q:=hl i σ H hi p
  by_cases hlt:i < xs.length
  · refine .inr ⟨⟨xs,xs[i],q,by simp[hlt]⟩,Pv (i+1),fun σ' H' p'=>⟨xs.length - (i+1),by omega,rfl,hlt,p'⟩,fun x H' y=>?_⟩
    obtain⟨e,y⟩:=y
    subst e
    exact hs i x σ _ (y xs q) p
  · have e:i=xs.length:=by omega
    subst e
    exact .inl ⟨⟨xs,q,Nat.le_refl _⟩,hd σ H p⟩
end L2
namespace L2
open PySem PySem.Spec PyProof.Rows
abbrev R2:=V->V->Hp->VK->Prop
def OpR(X:Cx)(f:Value->Value->Sem Value)(r:R2):Prop :=
  ∀ (pins:List (Addr × Obj)) (s:Shared) (σ:St) (H:Hp) (x y:V) (v u:Value) (Q:VK),Inv X pins σ H s->RelV x v->RelV y u->r x y H Q ->
    wpAny (model X.prog X.w) X.A (f v u) (EP X pins σ Q) X.xe s
def CallR(X:Cx)(f:Value)(r:List V->Hp->VK->Prop):Prop :=
  ∀ (pins:List (Addr × Obj)) (s:Shared) (σ:St) (H:Hp) (xs:List V) (us:List Value) (Q:VK),Inv X pins σ H s->Vals xs us->r xs H Q ->
    wpAny (model X.prog X.w) X.A (call f us) (EP X pins σ Q) X.xe s
def qS(X:Cx)(r:V->Hp->(Bool->Hp->Prop)->Prop):Prop :=
  ∀ (pins:List (Addr × Obj)) (s:Shared) (σ:St) (H:Hp) (x:V) (v:Value) (Q:Bool->Hp->Prop),Inv X pins σ H s->RelV x v->r x H Q ->
    wpAny (model X.prog X.w) X.A (truthy v) (TP X pins σ Q) X.xe s
def tOp(r:R2)(ta tb:TE):TE:=fun σ H Q=>ta σ H fun x H1=>tb σ H1 fun y H2=>r x y H2 Q
def rI(C:Int->Int->Prop)(g:Int->Int->V):R2:=fun x y H Q=>∃ i j,x=.int i/\y=.int j/\C i j/\Q (g i j) H
def rI0(g:Int->Int->V):R2:=fun x y H Q=>∃ i j,x=.int i/\y=.int j/\Q (g i j) H
section
variable {X:Cx} {a b c:Expr} {ta tb tc:TE} {pos:Pos}
theorem iW(ha:PE X a ta)(hb:PE X b tb){pins:List (Addr × Obj)}{s:Shared}{σ:St}{H:Hp}{R:V->V->Hp->Prop}(I:Inv X pins σ H s)(h:ta σ H fun x H1=>tb σ H1 fun y H2=>R x y H2){Q:Value->Shared->Prop}{f:Value->Value->Sem Value}(hf:∀ v u s2 x y H2,Inv X pins σ H2 s2->RelV x v->RelV y u->R x y H2->wpAny (model X.prog X.w) X.A (f v u) Q X.xe s2):
    wpAny (model X.prog X.w) X.A (eval a X.env) (fun v s₁=>wpAny (model X.prog X.w) X.A (eval b X.env) (fun u s₂=>wpAny (model X.prog X.w) X.A (f v u) Q X.xe s₂) X.xe s₁) X.xe s:=by
  refine thn (ha pins s σ H _ I h) fun v s1 ⟨x,H1,I1,r1,q1⟩=>?_
  refine thn (hb pins s1 σ H1 _ I1 q1) fun u s2 ⟨y,H2,I2,r2,q2⟩=>?_
  exact hf v u s2 x y H2 I2 r1 r2 q2
theorem gN{op:Operator}{r:R2}(ho:OpR X (binaryOp op) r)(ha:PE X a ta)(hb:PE X b tb):PE X (.BinOp a op b pos) (tOp r ta tb):=by
  intro pins s σ H Q I h
  exact wpAny_BinOp (iW ha hb I h fun v u s2 x y H2 I2 rx ry q=>ho pins s2 σ H2 x y v u Q I2 rx ry q)
theorem opI{f:Value->Value->Sem Value}{C:Int->Int->Prop}{g:Int->Int->Int}(rule:∀ (i j:Int) (t u:Tok) (s:Shared) (Q:Value->Shared->Prop) (E:Value->Shared->Prop),C i j->Q (.int (g i j) s.toks) { s with toks:=s.toks+1 }->wpAny (model X.prog X.w) X.A (f (.int i t) (.int j u)) Q E s):
    OpR X f (rI C fun i j=>.int (g i j)):=by
  intro pins s σ H x y v u Q I rx ry h
  obtain⟨i,j,rfl,rfl,hc,q⟩:=h
  obtain⟨t,rfl⟩:=rx
  obtain⟨t',rfl⟩:=ry
  exact rule i j t t' s _ _ hc ⟨.int (g i j),H,I.tok _,⟨_,rfl⟩,q⟩
theorem lF{f:Value->Value->Sem Value}{g:Int->Int->Int}(rule:∀ (i j:Int) (t u:Tok) (s:Shared) (Q:Value->Shared->Prop) (E:Value->Shared->Prop),Q (.int (g i j) s.toks) { s with toks:=s.toks+1 }->wpAny (model X.prog X.w) X.A (f (.int i t) (.int j u)) Q E s):
    OpR X f (rI0 fun i j=>.int (g i j)):=by
  intro pins s σ H x y v u Q I rx ry h
  obtain⟨i,j,rfl,rfl,q⟩:=h
  obtain⟨t,rfl⟩:=rx
  obtain⟨t',rfl⟩:=ry
  exact rule i j t t' s _ _ ⟨.int (g i j),H,I.tok _,⟨_,rfl⟩,q⟩
theorem lG{f:Value->Value->Sem Value}{g:Int->Int->Bool}(rule:∀ (i j:Int) (t u:Tok) (s:Shared) (Q:Value->Shared->Prop) (E:Value->Shared->Prop),Q (.bool (g i j)) s->wpAny (model X.prog X.w) X.A (f (.int i t) (.int j u)) Q E s):
    OpR X f (rI0 fun i j=>.bl (g i j)):=by
  intro pins s σ H x y v u Q I rx ry h
  obtain⟨i,j,rfl,rfl,q⟩:=h
  obtain⟨t,rfl⟩:=rx
  obtain⟨t',rfl⟩:=ry
  exact rule i j t t' s _ _ ⟨.bl (g i j),H,I,rfl,q⟩
def CMul(i j:Int):Prop:=(-(2 ^ 64) < i/\i < 2 ^ 64)\/(-(2 ^ 64) < j/\j < 2 ^ 64)
theorem CMul.ok{i j:Int}(h:CMul i j):IntMulOk i j:=by
  rcases h with⟨h1,h2⟩ | ⟨h1,h2⟩
  · exact .of_left (intBits_le_64 h1 h2)
  · exact .of_right (intBits_le_64 h1 h2)
theorem lH:OpR X (binaryOp .Add) (rI0 fun i j=>.int (i+j)):=lF fun _ _ _ _ _ _ _ q=>add_int q
theorem qT:OpR X (binaryOp .Sub) (rI0 fun i j=>.int (i - j)):=lF fun _ _ _ _ _ _ _ q=>sub_int q
theorem qU:OpR X (binaryOp .Mod) (rI (fun _ j=>0 < j) fun i j=>.int (i % j)):=opI fun i j _ _ _ _ _ hc q=>by
  have h1:(0:Int) < j:=hc
  exact mod_int' (by omega) (by rw[Int.fmod_eq_emod_of_nonneg i (by omega)];exact q)
end
section
variable {X:Cx} {a b c:Expr} {ta tb tc:TE} {pos:Pos}
theorem iX{pins:List (Addr × Obj)}{σ:St}{H:Hp}{s:Shared}{Q:VK}{k k':Bool}(I:Inv X pins σ H s)(q:Q (.bl k) H)(e:k=k'):EP X pins σ Q (.bool k') s:=by
  subst e
  exact⟨.bl k,H,I,rfl,q⟩
theorem qV:OpR X (compareOp .Lt) (rI0 fun i j=>.bl (decide (i < j))):=lG fun _ _ _ _ _ _ _ q=>lt_int q
theorem lI:OpR X (compareOp .LtE) (rI0 fun i j=>.bl (decide (i<=j))):=lG fun _ _ _ _ _ _ _ q=>le_int q
theorem lJ:OpR X (compareOp .In) (fun x y H Q=>∃ i j,x=.str i/\y=.str j/\Q (.bl (!(Builtin.Str.occurrences j i 0 j.length 1).isEmpty)) H):=by
  intro pins s σ H x y v u Q I rx ry h
  obtain⟨i,j,rfl,rfl,q⟩:=h
  obtain⟨t,rfl⟩:=rx
  obtain⟨t',rfl⟩:=ry
  exact in_str (iX I q rfl)
theorem qW:OpR X (compareOp .Is) (fun x y H Q=>y=.non/\Q (.bl (decide (x=.non))) H):=by
  intro pins s σ H x y v u Q I rx ry h
  obtain⟨rfl,q⟩:=h
  cases ry
  refine is_none_gen (iX I q ?_)
  cases x <;> first
    | (cases rx;rfl)
    | (obtain⟨t,rfl⟩:=rx;rfl)
theorem lK:OpR X (compareOp .NotIn) (fun x y H Q=>∃ i j,x=.str i/\y=.str j/\Q (.bl (!(!(Builtin.Str.occurrences j i 0 j.length 1).isEmpty))) H):=by
  intro pins s σ H x y v u Q I rx ry h
  obtain⟨i,j,rfl,rfl,q⟩:=h
  obtain⟨t,rfl⟩:=rx
  obtain⟨t',rfl⟩:=ry
  exact notIn_str (iX I q rfl)
def qX:HO->Bool
  | .lst _=>true
  | .ins _ _ _=>true
  | _=>false
theorem eB{pins:List (Addr × Obj)}{s:Shared}{σ:St}{H:Hp}{a:Addr}{o:HO}(I:Inv X pins σ H s)(h:H a=some o)(p:qX o=true):∃ ob,s.heap.get? a=some ob/\ob.cls ≠ .type "tuple":=by
  cases o with
  | lst xs =>
    obtain⟨_,its,n,_,e⟩:xs.length<=sizeLine/\∃ (its:List Value) (n:Nat),Vals xs its/\s.heap.get? a=some { cls:=.type "list",data:=.seq its.toArray n }:=I.hok a _ h
    exact⟨_,e,(by show Value.type "list" ≠ .type "tuple";decide +kernel)⟩
  | ins C dx fs =>
    have x:=I.hok a _ h
    obtain⟨_,_,_,e,_⟩:=x
    exact⟨_,e,(by show Value.ref C ≠ .type "tuple";exact fun z=>by cases z)⟩
  | _=>exact absurd (show false=true from p) Bool.false_ne_true
theorem OpR.or{f:Value->Value->Sem Value}{r r':R2}(h:OpR X f r)(h':OpR X f r'):OpR X f (fun x y H Q=>r x y H Q\/r' x y H Q):=by
  intro pins s σ H x y v u Q I rx ry q
  rcases q with q | q
  · exact h pins s σ H x y v u Q I rx ry q
  · exact h' pins s σ H x y v u Q I rx ry q
theorem cu(b:Expr){op:CmpOp}(h:op ≠ .In:=by decide)(h2:op ≠ .NotIn:=by decide):behindInMarks op b=false:=by
  have e1:(op == CmpOp.In)=false:=by cases op <;> first | rfl | exact absurd rfl h
  have e2:(op == CmpOp.NotIn)=false:=by cases op <;> first | rfl | exact absurd rfl h2
  cases b <;> simp[behindInMarks,e1,e2]
theorem iY{op:CmpOp}{r:R2}(ho:OpR X (compareOp op) r)(ha:PE X a ta)(hb:PE X b tb)(hm:behindInMarks op b=false):PE X (.Compare a [op] [b] pos) (tOp r ta tb):=by
  intro pins s σ H Q I h
  exact wpAny_Compare1 (iW ha hb I h fun v u s2 x y H2 I2 rx ry q=>ho pins s2 σ H2 x y v u Q I2 rx ry q) hm
def qY(t:TE):TT:=fun σ H Q=>t σ H fun x H'=>∃ k,x=.bl k/\Q k H'
theorem iZ{op:CmpOp}{r:R2}(ho:OpR X (compareOp op) r)(ha:PE X a ta)(hb:PE X b tb)(hm:behindInMarks op b=false):PT X (.Compare a [op] [b] pos) (qY (tOp r ta tb)):=by
  intro pins s σ H Q I h
  refine wpAny_isTrue_Compare1 (thn (ha pins s σ H _ I h) fun v s1 ⟨x,H1,I1,r1,q1⟩=>thn (hb pins s1 σ H1 _ I1 q1) fun u s2 ⟨y,H2,I2,r2,q2⟩ =>
    thn (ho pins s2 σ H2 x y v u _ I2 r1 r2 q2) fun c s3 ⟨z,H3,I3,r3,k,e,q3⟩=>?_) hm
  subst e
  cases r3
  exact wpAny_truthy_bool ⟨H3,I3,q3⟩
def lM(r r':R2)(ta tb tc:TE):TE:=fun σ H Q=>ta σ H fun x H1=>tb σ H1 fun y H2=>r x y H2 fun z H3=>∃ k,z=.bl k /\
  (if k=true then tc σ H3 fun w' H4=>r' y w' H4 Q else Q (.bl false) H3)
theorem qZ{op op':CmpOp}{r r':R2}(ho:OpR X (compareOp op) r)(ho':OpR X (compareOp op') r')(ha:PE X a ta)(hb:PE X b tb)(hc:PE X c tc)(hm:lastMarks [op,op'] [b,c]=false:=by with_unfolding_all rfl):PE X (.Compare a [op,op'] [b,c] pos) (lM r r' ta tb tc):=by
  intro pins s σ H Q I h
  refine Compare_chain (thn (ha pins s σ H _ I h) fun v s1 ⟨x,H1,I1,r1,q1⟩=>chain_link (thn (hb pins s1 σ H1 _ I1 q1) fun u s2 ⟨y,H2,I2,r2,q2⟩ =>
    thn (ho pins s2 σ H2 x y v u _ I2 r1 r2 q2) fun d s3 ⟨z,H3,I3,r3,k,e,q3⟩=>?_)) hm
  subst e
  cases r3
  refine wpAny_truthy_bool ?_
  cases k with
  | false=>exact ite_ff ⟨.bl false,H3,I3,rfl,q3⟩
  | true=>exact ite_tt (chain_last (thn (hc pins s3 σ H3 _ I3 q3) fun w' s4 ⟨z',H4,I4,r4,q4⟩=>ho' pins s4 σ H4 y z' u w' Q I4 r2 r4 q4))
def j4(K:PySem.W.Frag)(x:V)(H:Hp)(k:Bool):Prop :=
  match x with
  | .non=>k=false
  | .bl b=>k=b
  | .int i=>k=(i != 0)
  | .str y=>y.length<=sizeLine/\k=((y.length:Int) != 0)
  | .byt y=>y.size<=sizeLine/\k=((y.size:Int) != 0)
  | .ref p=>(∃ xs,SqL K H p xs/\k = !xs.isEmpty)\/(∃ xs,SqT K H p xs/\k = !xs.isEmpty)\/∃ kvs,H p=some (.dK kvs)/\k = !kvs.isEmpty
  | _=>False
theorem r8{κ:Type}{kvs:List (κ × V)}{vs:List (κ × Value)}(r:KV kvs vs):(!vs.isEmpty) = !kvs.isEmpty:=by
  cases r <;> rfl
theorem lN{xs:List V}{its:List Value}(r:Vals xs its):(!its.toArray.isEmpty) = !xs.isEmpty:=by
  cases r <;> simp
theorem eD:(sizeLine:Nat) < 2 ^ 63:=by rw[sizeLine_eq];decide
theorem rb:qS X (fun x H Q=>∃ k,j4 X.K x H k/\Q k H):=by
  intro pins s σ H x v Q I rx h
  obtain⟨k,e,q⟩:=h
  have hl:=eD
  have hs:sizeLine=16777216:=sizeLine_eq
  cases x with
  | non =>
    cases rx
    have e':k=false:=e
    subst e'
    exact truthy_none ⟨H,I,q⟩
  | bl b =>
    cases rx
    have e':k=b:=e
    subst e'
    exact wpAny_truthy_bool ⟨H,I,q⟩
  | int i =>
    obtain⟨t,rfl⟩:=rx
    have e':k=(i != 0):=e
    subst e'
    exact PySem.P.truthy_int ⟨H,I,q⟩
  | str y =>
    obtain⟨t,rfl⟩:=rx
    obtain⟨hy,e'⟩:y.length<=sizeLine/\k=((y.length:Int) != 0):=e
    subst e'
    exact PySem.P.truthy_str (by omega) ⟨H,I.tok _,q⟩
  | byt y =>
    obtain⟨t,rfl⟩:=rx
    obtain⟨hy,e'⟩:y.size<=sizeLine/\k=((y.size:Int) != 0):=e
    subst e'
    exact PySem.W.truthy_bytes (by omega) ⟨H,I.tok _,q⟩
  | ref p =>
    cases rx
    have e':(∃ xs,SqL X.K H p xs/\k = !xs.isEmpty)\/(∃ xs,SqT X.K H p xs/\k = !xs.isEmpty)\/∃ kvs,H p=some (.dK kvs)/\k = !kvs.isEmpty:=e
    rcases e' with⟨xs,hx,e'⟩ | ⟨xs,hx,e'⟩ | ⟨kvs,hx,e'⟩
    · subst e'
      obtain⟨its,r,pl,hz⟩:=I.list hx
      have hlen:=r.length
      exact wpAny_truthy_list pl.isList (by simp only[List.size_toArray];omega) ⟨H,I.tok _,by rw[lN r];exact q⟩
    · subst e'
      obtain⟨its,r,pl,hz⟩:=I.tuple hx
      have hlen:=r.length
      exact truthy_tuple pl (by simp only[List.size_toArray];omega) ⟨H,I.tok _,by rw[lN r];exact q⟩
    · subst e'
      obtain⟨hz,hS,vs,r,m⟩:kvs.length<=sizeLine/\(p == sysModules)=false/\∃ vs,KV kvs vs/\s.heap.DictOf (bz X.prog X.w) p vs:=I.hok p _ hx
      have hlen:kvs.length=vs.length:=Paired.length r
      exact wpAny_truthy_dict hS m (by omega) ⟨H,I.tok _,by rw[r8 r];exact q⟩
  | _=>exact (show False from e).elim
theorem lO(ha:PE X a ta)(he:∀ whole,isTrue a X.env whole=(do let v <- whole;standAt a.pos;holding [v] (truthy v))):
    PT X a (fun σ H Q=>ta σ H fun x H'=>∃ k,j4 X.K x H' k/\Q k H'):=by
  intro pins s σ H Q I h
  exact isTrue_plain (thn (ha pins s σ H _ I h) fun v s1 ⟨x,H1,I1,r1,q1⟩=>rb pins s1 σ H1 x v Q I1 r1 q1) (he _)
theorem lP:OpR X (binaryOp .Add) (fun x y H Q=>∃ i j,x=.str i/\y=.str j/\i.length+j.length<=sizeLine/\Q (.str (i++j)) H):=by
  intro pins s σ H x y v u Q I rx ry h
  obtain⟨i,j,rfl,rfl,hz,q⟩:=h
  obtain⟨t,rfl⟩:=rx
  obtain⟨t',rfl⟩:=ry
  exact add_str (fun t' tk=>⟨.str (i++j),H,I.tok _,⟨_,rfl⟩,q⟩) hz
theorem cv{x:V}{us:List Value}(r:Vals [x] us):∃ u,us=[u]/\RelV x u:=by
  cases r with
  | cons r1 r2=>cases r2;exact⟨_,rfl,r1⟩
theorem gO{x y:V}{us:List Value}(r:Vals [x,y] us):∃ u w',us=[u,w']/\RelV x u/\RelV y w':=by
  cases r with
  | cons r1 r2 =>
    cases r2 with
    | cons r3 r4=>cases r4;exact⟨_,_,rfl,r1,r3⟩
theorem rf(hc:X.calm=true):CallR X (.builtin "min") (fun xs H Q=>∃ i j,xs=[.int i,.int j]/\Q (.int (if j < i then j else i)) H):=by
  intro pins s σ H xs us Q I r h
  obtain⟨i,j,rfl,q⟩:=h
  obtain⟨u,w',rfl,⟨t,rfl⟩,⟨t',rfl⟩⟩:=gO r
  refine min_two_ints (I.ok.hd hc) fun h' tk k=>⟨_,H,I.kept k,?_,q⟩
  by_cases hj:j < i
  · rw[if_pos hj,if_pos hj];exact⟨_,rfl⟩
  · rw[if_neg hj,if_neg hj];exact⟨_,rfl⟩
theorem rg:CallR X (.type "int") (fun xs H Q=>(∃ i,xs=[.int i]/\Q (.int i) H)\/∃ k,xs=[.bl k]/\Q (.int (if k then 1 else 0)) H):=by
  intro pins s σ H xs us Q I r h
  rcases h with⟨i,rfl,q⟩ | ⟨k,rfl,q⟩
  · obtain⟨u,rfl,t,rfl⟩:=cv r
    exact call_int_int ⟨.int i,H,I,⟨_,rfl⟩,q⟩
  · obtain⟨u,rfl,r1⟩:=cv r
    cases r1
    exact call_int_bool ⟨.int (if k then 1 else 0),H,I.tok _,⟨_,rfl⟩,q⟩
theorem rh:CallR X (.type "str") (fun xs H Q=>∃ i,xs=[.int i]/\i.natAbs.log2 < 1920/\Q (.str (toString i)) H):=by
  intro pins s σ H xs us Q I r h
  obtain⟨i,rfl,hz,q⟩:=h
  obtain⟨u,rfl,t,rfl⟩:=cv r
  exact PySem.P.str_of_int hz ⟨.str _,H,I.tok _,⟨_,rfl⟩,q⟩
end
end L2
namespace L2
open PySem PySem.Spec PyProof.Rows
structure ObjM (h:Heap) (x dx C:Addr) (mA:Str->Option Value):Prop where
  obj:h.get? x=some (PySem.W.instObj C dx)
  ns:h.Ns1 dx mA
  ne:dx ≠ x
theorem rj{h:Heap}{dx:Addr}{mA:Str->Option Value}(n:h.Ns1 dx mA):∃ od,h.get? dx=some od/\∀ name,PySem.W.lookIn name od=some (mA name):=by
  obtain⟨o,es,ep,ho,hd,hk,_,hm⟩:=n
  refine⟨o,ho,fun name=>?_⟩
  have e:=hm name
  unfold nsFind findBy at e
  rw[<- Array.find?_toList] at e
  unfold PySem.W.lookIn
  rw[hd]
  dsimp only
  split
  · rename_i y q
    rw[q] at e
    exact congrArg some e
  · rename_i q
    rw[q] at e
    have a:es.toList.any (·.refKey)=false:=by
      rw[List.any_eq_false]
      intro y hy
      obtain⟨z,t,hkey⟩:=hk y (Array.mem_toList_iff.mp hy)
      simp[DictEntry.refKey,hkey]
    have a':¬ es.toList.any (·.refKey)=true:=by rw[a];exact Bool.false_ne_true
    rw[if_neg a']
    exact congrArg some e
theorem ObjM.look{h:Heap}{x dx C:Addr}{mA:Str->Option Value}(I:ObjM h x dx C mA):∃ od,PySem.W.InstAt h x (PySem.W.instObj C dx) C (some od)/\∀ name,PySem.W.lookIn name od=some (mA name) :=
  let ⟨od,ho,hl⟩:=rj I.ns
  ⟨od,⟨I.obj,rfl,rfl,ho⟩,hl⟩
section
variable {prog:Program} {w:World} {A:Around} {E:Value->Shared->Prop} {s:Shared} {K:PySem.W.Frag} {x dx C f:Addr} {mA:Str->Option Value} {name:Str} {v:Value}
end
theorem RelO.some_of{v:V}{o:Option Value}(r:RelO (some v) o):∃ u,o=some u/\RelV v u:=by
  cases o with
  | none=>exact (show False from r).elim
  | some u=>exact⟨u,rfl,r⟩
section
variable {P:Program} {w:World} {H H':Hp} {h h':Heap} {a C dx:Addr} {fs fs':List (Str × V)}
end
structure Cls (K:PySem.W.Frag) (C:Addr):Prop where
  pg:PySem.W.plainGet K C Str.empty=true
  hd:PySem.W.hasDictIn K C=true
  po:PySem.W.plainOver K C=true
  sa:PySem.W.findIn K (.ref C) "__setattr__" = some (some (.builtin "object.__setattr__"))
theorem Cls.get{K:PySem.W.Frag}{C:Addr}(c:Cls K C)(f:Str):PySem.W.plainGet K C f=true:=c.pg
structure Con (K:PySem.W.Frag) (C:Addr) (f:Str) (v:V) (u:Value):Prop where
  at_:PySem.W.findIn K (.ref C) f=some (some u)
  rel:RelV v u
  get:PySem.W.specialIn K u "__get__" = some none
  cp:PySem.W.copiedNames.contains f=false
structure Meth (K:PySem.W.Frag) (C:Addr) (m:Str) (f:Addr):Prop where
  at_:PySem.W.findIn K (.ref C) m=some (some (.ref f))
  fn:PySem.W.isFn K (.ref f)=true
  kp:PySem.W.keepIn K (.ref f)=true
section
variable {X:Cx} {pins:List (Addr × Obj)} {σ:St} {H:Hp} {s:Shared} {a C dx:Addr} {fs:List (Str × V)} {f:Str} {v:V} {A:Around} {E:Value->Shared->Prop}
theorem Inv.made(I:Inv X pins σ H s):Inv X pins σ (upd (upd H s.heap.objs.size (.own (s.heap.objs.size+1))) (s.heap.objs.size+1) (.ins C s.heap.objs.size []))
    { s with heap:=(s.heap.push PySem.W.emptyDict).push (PySem.W.instObj C s.heap.objs.size) }:=by
  have e1:(s.heap.push PySem.W.emptyDict).get? s.heap.objs.size=some PySem.W.emptyDict:=Heap.get?_push_size s.heap rfl
  have e2:((s.heap.push PySem.W.emptyDict).push (PySem.W.instObj C s.heap.objs.size)).get? (s.heap.objs.size+1)=some (PySem.W.instObj C s.heap.objs.size):=by
    have:=Heap.get?_push_size (s.heap.push PySem.W.emptyDict) (o:=PySem.W.instObj C s.heap.objs.size) rfl
    rwa [Heap.size_push] at this
  have e3:(s.heap.push PySem.W.emptyDict).Ns s.heap.objs.size (fun _=>none):=⟨PySem.W.emptyDict,#[],_,e1,rfl,(fun e he=>absurd he (by simp)),fun _=>rfl⟩
  have I1:=I.laid (a:=s.heap.objs.size) (o:=.own (s.heap.objs.size+1)) (h':=s.heap.push PySem.W.emptyDict) (t':=s.toks) (fun b u q=>Heap.get?_push_of_some _ q) (Nat.le_refl _) ⟨_,e1⟩
  refine I1.laid (a:=s.heap.objs.size+1) (o:=.ins C s.heap.objs.size []) (t':=s.toks) (fun b u q=>Heap.get?_push_of_some _ q) (Nat.le_of_eq (Heap.size_push _ _)) ?_
  have ne:s.heap.objs.size ≠ s.heap.objs.size+1:=Nat.ne_of_lt (Nat.lt_succ_self _)
  refine⟨by rw[au ne,ba],Nat.zero_le _,ne,e2,fun _=>none,(Heap.Ns1.of_empty e3).at fun o q=>Heap.get?_push_of_some _ q,fun _=>True.intro,fun y hy=>absurd rfl hy⟩
end
section
variable {X:Cx} {o e value:Expr} {f:Str} {pos pos' tpos:Pos} {ta tv:TE}
end
section
variable {X:Cx} {pins:List (Addr × Obj)} {σ:St} {H:Hp} {s:Shared} {A:Around} {E:Value->Shared->Prop} {Q:Value->Shared->Prop} {c:Value} {b:Bool}
inductive TyOf (K:PySem.W.Frag) (H:Hp):V->Value->Prop where
  | non:TyOf K H .non (.type "NoneType")
  | bl (x:Bool):TyOf K H (.bl x) (.type "bool")
  | int (i:Int):TyOf K H (.int i) (.type "int")
  | str (x:Str):TyOf K H (.str x) (.type "str")
  | flt (x:UInt64):TyOf K H (.flt x) (.type "float")
  | lst {a:Addr} {xs:List V} (e:H a=some (.lst xs)):TyOf K H (.ref a) (.type "list")
  | frz {a:Addr} {o:Obj} {xs:List V} (e:H a=some (.frz o (.lst xs))):TyOf K H (.ref a) (.type "list")
  | tup {a:Addr} {xs:List V} (e:H a=some (.tup xs)):TyOf K H (.ref a) (.type "tuple")
  | dK {a:Addr} {kvs:List (Key × V)} (e:H a=some (.dK kvs)):TyOf K H (.ref a) (.type "dict")
  | dT {a:Addr} {kvs:List (List Key × V)} (e:H a=some (.dT kvs)):TyOf K H (.ref a) (.type "dict")
  | ins {a C dx:Addr} {fs:List (Str × V)} (e:H a=some (.ins C dx fs)) (cl:Cls K C) (ha:PySem.W.findIn K (.ref C) "__class__" = some (some (.builtin "object.__class__")))
      (hn:PySem.W.specialIn K (.builtin "object.__class__") "__get__" = some (some (.builtin "getset_descriptor.__get__"))) (htk:PySem.W.takesIn K (.builtin "object.__class__")=some true)
      (hm:PySem.W.mroIn K C (.type "object")=some true):TyOf K H (.ref a) (.ref C)
end
end L2
namespace L2
open PySem PySem.Spec PyProof.Rows
structure Room (k:Nat) (A:Around):Prop where
  hd:A.handled=none
  dp:A.depth+3 * k+5 < recursionLimit
  un:A.units+16 * k+200 < cLine
theorem Room.mono{j k:Nat}{A:Around}(r:Room k A)(h:j<=k):Room j A:=⟨r.hd,by have:=r.dp;omega,by have:=r.un;omega⟩
theorem Room.deeper{k:Nat}{A:Around}(r:Room (k+1) A)(env:Env):Room k (A.deeper env) :=
  ⟨r.hd,by have:=r.dp;show A.depth+1+3 * k+5 < _;omega,by have:=r.un;show A.units+3+16 * k+200 < _;omega⟩
theorem Room.in1{k:Nat}{A:Around}(r:Room (k+1) A):Room k A.in1 :=
  ⟨r.hd,by have:=r.dp;show A.depth+3 * k+5 < _;omega,by have:=r.un;show A.units+1+16 * k+200 < _;omega⟩
theorem rm{A:Around}{C:Addr}{us:List Value}{kw:List (Str × Value)}:(A.under (.builtin "type.__call__" ⟨.ref C::us,kw⟩)).depth=A.depth+1:=by
  first | rfl | simp[Around.under,Code.weight,Code.isCreation,Code.isGuard,Code.isCaller,Code.frames,Code.isFrame,guardIds]
theorem rn{A:Around}{C:Addr}{us:List Value}{kw:List (Str × Value)}:(A.under (.builtin "type.__call__" ⟨.ref C::us,kw⟩)).units=A.units+1:=by
  first | rfl | simp[Around.under,Code.cUnits,Code.frames,Code.isFrame]
theorem Room.make{k:Nat}{A:Around}(r:Room (k+1) A)(C:Addr)(us:List Value)(kw:List (Str × Value)):Room k (A.under (.builtin "type.__call__" ⟨.ref C::us,kw⟩)) :=
  ⟨r.hd,by have:=r.dp;rw[rm];omega,by have:=r.un;rw[rn];omega⟩
theorem Room.depth{k:Nat}{A:Around}(r:Room k A):A.depth < recursionLimit:=by have:=r.dp;omega
theorem Room.units{k:Nat}{A:Around}(r:Room k A):A.units+64 < cLine:=by have:=r.un;omega
def lQ:TA:=fun _ H Q=>Q [] H
def lR(ta:TE)(tr:TA):TA:=fun σ H Q=>ta σ H fun x H1=>tr σ H1 fun xs H2=>Q (x::xs) H2
section
variable {X:Cx} {e:Expr} {es:List Expr} {te:TE} {t:TA} {pos:Pos}
theorem bT:PA X [] lQ:=fun _ _ _ _ H Q I h=>Calls.spliced_nil ⟨[],H,I,.nil,h⟩
theorem bB(ha:PE X e te)(hr:PA X es t)(hs:starEach (e::es) X.env=(false,eval e X.env)::starEach es X.env:=by rfl):PA X (e::es) (lR te t):=by
  intro pos pins s σ H Q I h
  rw[hs]
  show wpAny _ _ (spliced ((false,eval e X.env)::backTo pos (starEach es X.env))) _ _ s
  refine Calls.spliced_cons (thn (ha pins s σ H _ I h) fun u s1 ⟨x,H1,I1,r1,q1⟩=>?_)
  exact thn (hr pos pins s1 σ H1 _ I1 q1) fun us s2 ⟨xs,H2,I2,r2,q2⟩=>⟨x::xs,H2,I2,.cons r1 r2,q2⟩
def ro(t:TA):TE:=fun σ H Q=>t σ H fun xs H1=>xs.length<=sizeLine/\∀ p,H1 p=none->Q (.ref p) (upd H1 p (.lst xs))
theorem lS(h:PA X es t):PE X (.List es pos) (ro t):=by
  intro pins s σ H Q I hq
  refine wpAny_List_spliced (thn (h pos pins s σ H _ I hq) fun us s1 ⟨xs,H1,I1,r,z,q⟩=>⟨by rw[<- r.length];exact z,?_⟩)
  have hf:H1 s1.heap.objs.size=none:=I1.hok.fresh (Nat.le_refl _)
  refine⟨.ref s1.heap.objs.size,upd H1 s1.heap.objs.size (.lst xs),I1.laid (t':=s1.toks) (fun b u e=>Heap.get?_push_of_some _ e) (Nat.le_refl _) ?_,rfl,q _ hf⟩
  exact⟨z,us,0,r,Heap.get?_push_size _ rfl⟩
end
abbrev Sp:=List V->Hp->VK->XK->Prop
abbrev CXT:=List Env->Hp->Shared->XK->Value->Shared->Prop
structure Env0 (P:Program) (w:World) (K:PySem.W.Frag) (mg:Str->Option Value) (base:Heap) (A:Around) (outer:List Env) (s:Shared) (H:Hp):Prop where
  frames:A.frames=some outer
  mod:Mod K mg base
  bs:∀ b o,base.get? b=some o->s.heap.get? b=some o/\H b=none
  bsz:base.objs.size<=s.heap.objs.size
  funs:s.heap.FunFrames base outer
  frf:∀ b ∈ frs outer,H b=none
  hok:HOk P w H s.heap
  bare:AllBare s.gens
def CE(outer:List Env)(P:Program)(w:World)(H:Hp)(s:Shared)(Q:VK)(u:Value)(s':Shared):Prop :=
  ∃ v H',s'.os=s.os/\AllBare s'.gens/\Un (frs outer) [] H H' s.heap s'.heap/\HOk P w H' s'.heap/\RelV v u/\Q v H'
def CR(CX:CXT)(outer:List Env)(P:Program)(w:World)(H:Hp)(s:Shared)(Q:VK)(E:XK)(r:Result)(s':Shared):Prop :=
  match r with
  | .ok (.ret u)=>CE outer P w H s Q u s'
  | .ok _=>False
  | .error e=>CX outer H s E e s'
structure FnOk (P:Program) (w:World) (K:PySem.W.Frag) (mg:Str->Option Value) (base:Heap) (CX:CXT) (k:Nat) (f:Addr) (fd:FuncData) (ps:List Str) (sp:Sp):Prop where
  len:∀ vs H Q E,sp vs H Q E->vs.length=ps.length
  run:∀ (A:Around) (outer:List Env) (s:Shared) (H:Hp) (args:Args) (us:List Value) (vs:List V) (Q:VK) (E:XK),Room k A->Env0 P w K mg base A outer s H->BindsTo s fd args (ps.zip us)->Vals vs us->sp vs H Q E ->
    codeAny (model P w) A (.call (.ref f) args) (CR CX outer P w H s Q E) s
theorem FnOk.mono{P:Program}{w:World}{K:PySem.W.Frag}{mg:Str->Option Value}{base:Heap}{CX:CXT}{j k:Nat}{f:Addr}{fd:FuncData}{ps:List Str}{sp:Sp}(F:FnOk P w K mg base CX j f fd ps sp)(h:j<=k):
    FnOk P w K mg base CX k f fd ps sp:=⟨F.len,fun A outer s H args us vs Q E hr=>F.run A outer s H args us vs Q E (hr.mono h)⟩
theorem FnOk.imp{P:Program}{w:World}{K:PySem.W.Frag}{mg:Str->Option Value}{base:Heap}{CX:CXT}{k:Nat}{f:Addr}{fd:FuncData}{ps:List Str}{sp sp':Sp}(F:FnOk P w K mg base CX k f fd ps sp)(h:∀ vs H Q E,sp' vs H Q E->sp vs H Q E):FnOk P w K mg base CX k f fd ps sp' :=
  ⟨fun vs H Q E q=>F.len vs H Q E (h _ _ _ _ q),fun A outer s H args us vs Q E hr he hb hv hs=>F.run A outer s H args us vs Q E hr he hb hv (h _ _ _ _ hs)⟩
theorem Env0.make{P:Program}{w:World}{K:PySem.W.Frag}{mg:Str->Option Value}{base:Heap}{A:Around}{outer:List Env}{s:Shared}{H:Hp}(e:Env0 P w K mg base A outer s H)(C:Addr)(us:List Value)(kw:List (Str × Value)):
    Env0 P w K mg base (A.under (.builtin "type.__call__" ⟨.ref C::us,kw⟩)) outer s H:=⟨by first | exact e.frames | (simpa [Around.under,Code.envs,Code.isFrame,pushEnvs] using e.frames),e.mod,e.bs,e.bsz,e.funs,e.frf,e.hok,e.bare⟩
theorem Env0.in1{P:Program}{w:World}{K:PySem.W.Frag}{mg:Str->Option Value}{base:Heap}{A:Around}{outer:List Env}{s:Shared}{H:Hp}(e:Env0 P w K mg base A outer s H):
    Env0 P w K mg base A.in1 outer s H:=⟨e.frames,e.mod,e.bs,e.bsz,e.funs,e.frf,e.hok,e.bare⟩
section
variable {X:Cx} {pins:List (Addr × Obj)} {σ:St} {H:Hp} {s s':Shared}
theorem Inv.env0(I:Inv X pins σ H s):Env0 X.prog X.w X.K X.mg X.base X.A X.stack s H :=
  ⟨I.ok.frames,I.ok.mod,I.bs,Nat.le_trans I.ok.bsz I.sz,I.stack,I.stkFree,I.hok,I.bare⟩
theorem Inv.after{Q:VK}{u:Value}(I:Inv X pins σ H s)(h:CE X.stack X.prog X.w H s Q u s'):EP X pins σ Q u s':=by
  obtain⟨v,H',os,bare,un,hok,r,q⟩:=h
  obtain⟨hh,g,d,t,os'⟩:=s'
  obtain rfl:os'=s.os:=os
  exact⟨v,H',I.call (h':=hh) (g':=g) (d':=d) (t':=t) (ch:=[]) un hok bare (fun b z=>absurd z (by simp)),r,q⟩
end
def rp(sp:Sp)(dvs:List V)(E:XK)(t:TA):TE:=fun σ H Q=>t σ H fun vs H1=>sp (vs++dvs) H1 Q E
def Binds(K:PySem.W.Frag)(fd:FuncData)(ps:List Str)(ds:List Value):Prop :=
  ∀ (s:Shared) (us:List Value),K.In s.heap->(us++ds).length=ps.length->BindsTo s fd ⟨us,[]⟩ (ps.zip (us++ds))
theorem Binds.all{K:PySem.W.Frag}{fd:FuncData}{ps:List Str}(h:∀ us:List Value,us.length=ps.length->bindArgs fd ⟨us,[]⟩=pure (ps.zip us)):Binds K fd ps []:=fun s us _ hl=>by
  rw[List.append_nil] at hl ⊢
  exact .of_eq (h us hl)
def gP(CX:CXT)(X:Cx)(E:XK):Prop:=∀ (pins:List (Addr × Obj)) (σ:St) (H:Hp) (s:Shared) (e:Value) (s':Shared),Inv X pins σ H s->CX X.stack H s E e s'->X.xe e s'
section
variable {X:Cx} {CX:CXT} {k:Nat} {f C:Addr} {fd:FuncData} {ps:List Str} {sp:Sp} {dvs:List V} {ds:List Value} {E:XK} {x m:Str} {p pos apos:Pos} {e o:Expr} {es:List Expr} {ta:TE} {t:TA}
theorem rq{pins:List (Addr × Obj)}{σ:St}{H:Hp}{s:Shared}{Q:VK}{us:List Value}{vs:List V}(F:FnOk X.prog X.w X.K X.mg X.base CX k f fd ps sp)(hr:Room k X.A)(hb:Binds X.K fd ps ds)(hd:Vals dvs ds)(hx:gP CX X E)(I:Inv X pins σ H s)(r:Vals vs us)(h:sp (vs++dvs) H Q E):wpAny (model X.prog X.w) X.A (call (.ref f) us) (EP X pins σ Q) X.xe s:=by
  have r2:Vals (vs++dvs) (us++ds):=r.append hd
  have hl:(us++ds).length=ps.length:=by rw[<- r2.length];exact F.len _ _ _ _ h
  refine wpAny_call (codeAny_mono (F.run X.A X.stack s H ⟨us,[]⟩ (us++ds) (vs++dvs) Q E hr I.env0 (hb s us I.kIn hl) r2 h) fun r s' hq=>?_)
  cases r with
  | error e=>exact hx pins σ H s e s' I hq
  | ok fl =>
    cases fl with
    | ret u=>exact I.after hq
    | next=>exact False.elim hq
    | brk=>exact False.elim hq
    | cont=>exact False.elim hq
theorem lT(F:FnOk X.prog X.w X.K X.mg X.base CX k f fd ps sp)(hr:Room k X.A)(hg:Gl X x)(hm:X.mg x=some (.ref f))(hk:PySem.W.keepIn X.K (.ref f)=true)(hb:Binds X.K fd ps ds)(hd:Vals dvs ds)(hx:gP CX X E)(ha:PA X (e::es) t)(hdb:(x == ("__debug__" : Str))=false:=by decide)(he:starEach (e::es) X.env=(false,eval e X.env)::starEach es X.env:=by rfl)(hpl:(backTo pos (starEach es X.env)).any (·.1)=false:=by rfl):
    PE X (.Call (.Name x p) (e::es) [] pos) (rp sp dvs E t):=by
  intro pins s σ H Q I h
  refine wpAny_Call_Name_kw (er I hg hm ?_ hdb)
  refine PySem.W.callWith_K (h₀:=X.base) I.ok.mod.kin hk (thn (ha pos pins s σ H _ I h) fun us s1 ⟨vs,H1,I1,r,q⟩=>⟨I1.kIn,?_⟩) he hpl
  exact rq F hr hb hd hx I1 r q
structure Mk (K:PySem.W.Frag) (C f:Addr):Prop where
  makes:PySem.W.makesIn K C=true
  init:PySem.W.findIn K (.ref C) "__init__" = some (some (.ref f))
  fn:PySem.W.isFn K (.ref f)=true
  kp:PySem.W.keepIn K (.ref C)=true
end
section
variable {X:Cx} {CX:CXT} {k:Nat} {f C:Addr} {fd:FuncData} {ps ks:List Str} {sp:Sp} {E:XK} {x m:Str} {p pos apos kpos:Pos} {e o:Expr} {es:List Expr} {kws:List Keyword} {te ta:TE} {t tk:TA} {nm:Option Str}
structure KBinds (K:PySem.W.Frag) (fd:FuncData) (ps ks:List Str) (g:List Value->List Value->List Value) (gV:List V->List V->List V):Prop where
  to:∀ (s:Shared) (us ws:List Value),K.In s.heap->(g us ws).length=ps.length->BindsTo s fd ⟨us,ks.zip ws⟩ (ps.zip (g us ws))
  rel:∀ {vs:List V} {us:List Value} {zs:List V} {ws:List Value},Vals vs us->Vals zs ws->Vals (gV vs zs) (g us ws)
variable {g:List Value->List Value->List Value} {gV:List V->List V->List V}
end
structure FnScope (N P:List Str) (sc:Scope):Prop where
  kind:sc.kind=.function
  co:sc.isCoroutine=false
  gen:sc.isGenerator=false
  nd:N.Nodup
  pre:N.take P.length=P
  par:∀ x ∈ P,sc.names.lookup x=some .local\/sc.names.lookup x=some .cell
  nofree:∀ y ∈ sc.names,y.2 ≠ .free
theorem lU{kindOf:Str->Option NameKind}{x:Str}:∀ {binds:List (Str × Value)} {m:Str->Option Value},(∀ v,(x,v) ∉ binds)->bindL kindOf binds m x=m x
  | [],_,_=>rfl
  | (n,v)::r,m,h=>by
    unfold bindL
    rw[lU fun w hw=>h w (List.mem_cons_of_mem _ hw)]
    split
    · have:x ≠ n:=by rintro rfl;exact h v List.mem_cons_self
      simp[this]
    · rfl
theorem lV{kindOf:Str->Option NameKind}{x:Str}:∀ {binds:List (Str × Value)} {m:Str->Option Value},(∀ v,(x,v) ∉ binds)->bindC kindOf binds m x=m x
  | [],_,_=>rfl
  | (n,v)::r,m,h=>by
    unfold bindC
    rw[lV fun w hw=>h w (List.mem_cons_of_mem _ hw)]
    split
    · rfl
    · have:x ≠ n:=by rintro rfl;exact h v List.mem_cons_self
      simp[this]
theorem lW{kindOf:Str->Option NameKind}{x:Str}{v:Value}:∀ {P:List Str} {vs:List Value} {i:Nat} {m:Str->Option Value},P.Nodup->P[i]?=some x->vs[i]?=some v->kindOf x=some .local ->
    bindL kindOf (P.zip vs) m x=some v
  | [],_,_,_,_,h,_,_=>by simp at h
  | _::_,[],_,_,_,_,h,_=>by simp at h
  | p::P,w::vs,0,m,nd,h1,h2,hk=>by
    simp at h1 h2;subst h1;subst h2
    show bindL kindOf ((p,w)::P.zip vs) m p=_
    unfold bindL
    rw[lU fun v hv=>(List.nodup_cons.mp nd).1 (List.of_mem_zip hv).1,if_pos hk]
    simp
  | p::P,w::vs,i+1,m,nd,h1,h2,hk=>by
    show bindL kindOf ((p,w)::P.zip vs) m x=_
    unfold bindL
    exact lW (i:=i) (List.nodup_cons.mp nd).2 (by simpa using h1) (by simpa using h2) hk
theorem lX{kindOf:Str->Option NameKind}{x:Str}{v:Value}:∀ {P:List Str} {vs:List Value} {i:Nat} {m:Str->Option Value},P.Nodup->P[i]?=some x->vs[i]?=some v->kindOf x ≠ some .local ->
    bindC kindOf (P.zip vs) m x=some v
  | [],_,_,_,_,h,_,_=>by simp at h
  | _::_,[],_,_,_,_,h,_=>by simp at h
  | p::P,w::vs,0,m,nd,h1,h2,hk=>by
    simp at h1 h2;subst h1;subst h2
    show bindC kindOf ((p,w)::P.zip vs) m p=_
    unfold bindC
    rw[lV fun v hv=>(List.nodup_cons.mp nd).1 (List.of_mem_zip hv).1,if_neg hk]
    simp
  | p::P,w::vs,i+1,m,nd,h1,h2,hk=>by
    show bindC kindOf ((p,w)::P.zip vs) m x=_
    unfold bindC
    exact lX (i:=i) (List.nodup_cons.mp nd).2 (by simpa using h1) (by simpa using h2) hk
def start(N:List Str)(vs:List V):St:=vs.map some++List.replicate (N.length - vs.length) none
def bu(CX:CXT)(P:Program)(w:World)(K:PySem.W.Frag)(mg:Str->Option Value)(base:Heap)(N:List Str)(qual:Str)(scope:Scope)(f:Addr)(cd:Value)(A:Around)(outer:List Env)(s:Shared)(H:Hp)(E:XK):Cx where
  prog:=P
  w:=w
  K:=K
  mg:=mg
  base:=base
  A:=A.deeper (envOfC qual scope s.heap.objs.size f cd)
  N:=N
  s₀:=s
  H₀:=H
  env:=envOfC qual scope s.heap.objs.size f cd
  outer:=outer
  stack:=envOfC qual scope s.heap.objs.size f cd::outer
  ex:=[]
  calm:=true
  fn:=fun _=>true
  pn:=[]
  xe:=fun e s'=>wpAny (model P w) (A.deeper (envOfC qual scope s.heap.objs.size f cd)) (leaving (envOfC qual scope s.heap.objs.size f cd) e) (fun _ s''=>CX outer H s E e s'') (fun e' s''=>CX outer H s E e' s'') s'
theorem lY{sc:Scope}{n:Nat}{x:Str}(h:sc.names.lookup x=some .cell):∃ c,(cellsFrom n sc.names []).lookup x=some c:=by
  have q:=PySem.W.cellsFrom_some sc.names n [] (.inl h)
  exact Option.isSome_iff_exists.mp q
theorem rz{CX:CXT}{P:Program}{w:World}{K:PySem.W.Frag}{mg:Str->Option Value}{base:Heap}{N ps:List Str}{qual:Str}{scope:Scope}{f:Addr}{cd:Value}{A:Around}{outer:List Env}{s s1:Shared}{H:Hp}{E:XK}{us:List Value}{vs:List V}(S:FnScope N ps scope)(hd:A.handled=none)(e0:Env0 P w K mg base A outer s H)(hl:vs.length=ps.length)(r:Vals vs us)(x:InCallC s s.heap.objs.size (bindL (envOfC qual scope s.heap.objs.size f cd).kindOf (ps.zip us) fun _=>none) (cellsFrom (s.heap.objs.size+1) scope.names []) (bindC (envOfC qual scope s.heap.objs.size f cd).kindOf (ps.zip us) fun _=>none) s1):
    Inv (bu CX P w K mg base N qual scope f cd A outer s H E) [] (start N vs) H s1:=by
  have hpl:ps.length<=N.length:=by have:=congrArg List.length S.pre;rw[List.length_take] at this;omega
  obtain⟨h1,tk,rfl,hk⟩:=x.done
  have noA:∀ b:Addr,b ∉ (bu CX P w K mg base N qual scope f cd A outer s H E).ex:=fun b z=>absurd (show b ∈ ([]:List Addr) from z) (by simp)
  refine⟨⟨e0.mod,S.kind,rfl,rfl,Nat.le_refl _,fun y z c h1 h2=>?_,fun y hy=>?_,fun y c _ h=>?_,fun _=>hd,Around.frames_deeper e0.frames,.inr ⟨rfl,rfl⟩,fun b z=>absurd z (noA b),e0.bs,e0.bsz,fun b _ _=>noA b,fun b z=>absurd z (noA b),e0.funs,e0.frf⟩,
    rfl,e0.bare,Un.kept hk,⟨_,x.toInCall.ns,fun i y v h1 h2 h3=>?_⟩,fun y c h=>⟨_,x.cell y c h⟩,e0.hok.fresh (Nat.le_refl _),fun y c h=>?_,fun p hp=>absurd (show p ∈ ([]:List (Addr × Obj)) from hp) (by simp),e0.hok.kept hk,?_⟩
  · exact name_of_addr x.apart (PySem.mem_of_lookup h1) (PySem.mem_of_lookup h2)
  · have hy:scope.names.lookup y=some .cell\/scope.names.lookup y=some .free:=hy
    rcases hy with hy | hy
    · exact lY hy
    · exact absurd rfl (S.nofree _ (PySem.mem_of_lookup hy))
  · exact Nat.le_of_lt (x.above y c (PySem.mem_of_lookup h))
  · have hi:i < vs.length:=by
      unfold start at h2
      by_cases hi:i < vs.length
      · exact hi
      · rw[List.getElem?_append_right (by simpa using hi)] at h2
        rw[List.getElem?_replicate] at h2
        split at h2 <;> cases h2
    have ha:vs[i]?=some v:=by
      unfold start at h2
      rw[List.getElem?_append_left (by simpa using hi),List.getElem?_map] at h2
      cases e:vs[i]? with
      | none=>rw[e] at h2;cases h2
      | some a=>rw[e] at h2;cases h2;rfl
    obtain⟨u,hu,rv⟩:=r.get ha
    have hp:ps[i]?=some y:=by
      rw[<- S.pre,List.getElem?_take_of_lt (by omega)];exact h1
    have ndP:ps.Nodup:=by rw[<- S.pre];exact S.nd.sublist (List.take_sublist _ _)
    refine⟨u,rv,?_⟩
    rcases S.par y (List.mem_of_getElem? hp) with k | k
    · exact .inl ⟨k,lW ndP hp hu k⟩
    · obtain⟨c,e⟩:=lY (n:=s.heap.objs.size+1) k
      refine .inr ⟨.inl k,c,e,?_⟩
      have q:=x.cell y c e
      rw[lX ndP hp hu (by show scope.names.lookup y ≠ _;rw[k];decide)] at q
      exact q
  · exact e0.hok.fresh (Nat.le_of_lt (x.above y c (PySem.mem_of_lookup h)))
  · unfold start
    show _=N.length
    rw[List.length_append,List.length_map,List.length_replicate]
    omega
theorem lZ{CX:CXT}{P:Program}{w:World}{K:PySem.W.Frag}{mg:Str->Option Value}{base:Heap}{k:Nat}{f:Addr}{name qual:Str}{params:Arguments}{body:List Stmt}{scope:Scope}{dV kV doc pm cdv ct oc:Value}{an od:Option Addr}{osl:Array (Option Value)}{N ps:List Str}{sp:Sp}(lk:K.lookup f=some ⟨oc,od,.func (PySem.W.fnOf name qual params body scope dV kV doc pm an cdv ct),osl⟩)(hcd:PySem.W.codeIn K cdv qual=true)(S:FnScope N ps scope)(len:∀ vs H Q E,sp vs H Q E->vs.length=ps.length)(hbody:∀ (A:Around) (outer:List Env) (s:Shared) (H:Hp) (vs:List V) (Q:VK) (E:XK),Room k (A.deeper (envOfC qual scope s.heap.objs.size f cdv))->sp vs H Q E ->
      ∃ t,PSs (bu CX P w K mg base N qual scope f cdv A outer s H E) body t/\t { nx:=fun _ H'=>Q .non H',rt:=Q } (start N vs) H):
    FnOk P w K mg base CX (k+1) f (PySem.W.fnOf name qual params body scope dV kV doc pm an cdv ct) ps sp:=by
  refine⟨len,fun A outer s H args us vs Q E hr e0 hb r hsp=>?_⟩
  have hl:=len _ _ _ _ hsp
  have KX:K.In s.heap:=e0.mod.kin.keeps fun b o e=>(e0.bs b o e).1
  have lim:s.heap.NoLimit:=e0.mod.nolimit.keeps fun b o e=>(e0.bs b o e).1
  have hkind:∀ y ∈ ps.zip us,scope.names.lookup y.1=some .local\/(scope.names.lookup y.1=some .cell/\((cellsFrom (s.heap.objs.size+1) scope.names []).lookup y.1).isSome=true):=fun⟨n,v⟩ hy=>by
    rcases S.par n (List.of_mem_zip hy).1 with q | q
    · exact .inl q
    · exact .inr ⟨q,PySem.W.cellsFrom_some _ _ _ (.inl q)⟩
  refine codeAny_call_function hr.depth (KX _ _ lk) rfl S.co S.gen rfl (PySem.W.codeRec_of KX hcd) (hb _ _ _ _ ?_)
  refine wpAny_newFunctionEnv_cells S.kind hkind fun env he s1 x=>?_
  subst he
  refine⟨lim.keeps x.toInCall.keep,codeAny_func ?_⟩
  obtain⟨t,ht,hq⟩:=hbody A outer s H vs Q E (hr.deeper _) hsp
  have I:Inv (bu CX P w K mg base N qual scope f cdv A outer s H E) [] (start N vs) H s1:=rz S hr.hd e0 hl r x
  refine wpAny_mono (ht [] s1 (start N vs) H _ I hq) (fun fl s' hs=>?_) fun e s' hs=>hs
  have fin:∀ {σ':St} {H':Hp} {v:V} {u:Value},Inv (bu CX P w K mg base N qual scope f cdv A outer s H E) [] σ' H' s'->RelV v u->Q v H'->CE outer P w H s Q u s' :=
    fun {σ' H' v u} J rv q=>⟨v,H',J.os,J.bare,J.base,J.hok,rv,q⟩
  cases fl with
  | ret u =>
    obtain⟨v,σ',H',J,rv,q⟩:=hs
    exact fin J rv q
  | next =>
    obtain⟨σ',H',J,q⟩:=hs
    exact fin (v:=V.non) (u:=Value.none) J rfl q
  | brk =>
    obtain⟨_,_,_,q⟩:=hs
    exact False.elim q
  | cont =>
    obtain⟨_,_,_,q⟩:=hs
    exact False.elim q
end L2
namespace L2
open PySem PySem.Spec PyProof.Rows
section
variable {X:Cx} {x:Str} {p pos:Pos} {e:Expr} {es:List Expr} {t:TA} {id T:String} {r:List V->Hp->VK->Prop}
def tCB(r:List V->Hp->VK->Prop)(t:TA):TE:=fun σ H Q=>t σ H fun vs H1=>r vs H1 Q
theorem fP(hc:CallR X (.builtin id) r)(hg:Gl X x)(hm:X.mg x=none)(hv:bootBuiltins x=some (.builtin id))(ha:PA X (e::es) t)(hn:x ≠ "__name__":=by decide)(hdb:(x == ("__debug__" : Str))=false:=by decide)(he:starEach (e::es) X.env=(false,eval e X.env)::starEach es X.env:=by rfl)(hpl:(backTo pos (starEach es X.env)).any (·.1)=false:=by rfl):PE X (.Call (.Name x p) (e::es) [] pos) (tCB r t):=by
  intro pins s σ H Q I h
  refine wpAny_Call_Name_kw (fN I hg hm hv ?_ hn hdb)
  exact PyProof.Rows.callWith_builtin1 (thn (ha pos pins s σ H _ I h) fun us s1 ⟨vs,H1,I1,r1,q1⟩=>hc pins s1 σ H1 vs us Q I1 r1 q1) he hpl
theorem gQ(hc:CallR X (.type T) r)(hg:Gl X x)(hm:X.mg x=none)(hv:bootBuiltins x=some (.type T))(ha:PA X (e::es) t)(hn:x ≠ "__name__":=by decide)(hdb:(x == ("__debug__" : Str))=false:=by decide)(he:starEach (e::es) X.env=(false,eval e X.env)::starEach es X.env:=by rfl)(hpl:(backTo pos (starEach es X.env)).any (·.1)=false:=by rfl):PE X (.Call (.Name x p) (e::es) [] pos) (tCB r t):=by
  intro pins s σ H Q I h
  refine wpAny_Call_Name_kw (fN I hg hm hv ?_ hn hdb)
  exact PyProof.Rows.callWith_type1 (thn (ha pos pins s σ H _ I h) fun us s1 ⟨vs,H1,I1,r1,q1⟩=>hc pins s1 σ H1 vs us Q I1 r1 q1) he hpl
end
end L2
namespace HT
open PySem PyProof.Rows
section
open PySem.SeqAt
open PySem.AutoSeq1 (wpAny_loadPart')
open PySem.MeetsSeq PySem.MeetsSeq2 PySem.MeetsSeq3
end
section
variable {prog:Program} {w:World} {A:Around} {E:Value->Shared->Prop} {s:Shared}
def sIx(n d:Nat):Option Int->Nat
  | none=>d
  | some v=>if v < 0 then (v+(n:Int)).toNat else min v.toNat n
end
end HT
namespace L2
open PySem PySem.Spec PyProof.Rows
abbrev TO:=St->Hp->(Option Int->Hp->Prop)->Prop
def PO(X:Cx)(e:Option Expr)(t:TO):Prop :=
  ∀ (pins:List (Addr × Obj)) (s:Shared) (σ:St) (H:Hp) (Q:Option Int->Hp->Prop),Inv X pins σ H s->t σ H Q ->
    wpAny (model X.prog X.w) X.A (evalPart e X.env) (fun u s'=>∃ o H',Inv X pins σ H' s'/\IsPart u o/\Q o H') X.xe s
def rA:TO:=fun _ H Q=>Q none H
def rB(t:TE):TO:=fun σ H Q=>t σ H fun x H1=>∃ i,x=.int i/\Q (some i) H1
section
variable {X:Cx} {e:Expr} {te:TE} {lo hi:Option Expr} {tl th:TO} {pos p2:Pos}
theorem rC:PO X none rA:=by
  intro pins s σ H Q I h
  rw[evalPart_none]
  exact wpAny_pure ⟨none,H,I,.none,h⟩
theorem rD(h:PE X e te):PO X (some e) (rB te):=by
  intro pins s σ H Q I hw
  rw[evalPart_some]
  refine thn (h pins s σ H _ I hw) fun u s1 ⟨x,H1,I1,r1,q1⟩=>?_
  obtain⟨i,rfl,q⟩:=q1
  obtain⟨t,rfl⟩:=r1
  exact⟨some i,H1,I1,.int i t,q⟩
def SlR(X:Cx)(r:V->Option Int->Option Int->Hp->VK->Prop):Prop :=
  ∀ (pins:List (Addr × Obj)) (s:Shared) (σ:St) (H:Hp) (x:V) (v vl vu:Value) (lo hi:Option Int) (sl:Addr) (Q:VK),Inv X pins σ H s->RelV x v->s.heap.IsSliceOf sl vl vu .none->IsPart vl lo->IsPart vu hi->r x lo hi H Q ->
    ∃ T id,typeLookup (.type T) "__getitem__" = pure (some (.builtin id))/\s.TypeIs v T/\wpAny (model X.prog X.w) X.A (getItem v (.ref sl)) (EP X pins σ Q) X.xe s
theorem SlR.or{r r':V->Option Int->Option Int->Hp->VK->Prop}(h:SlR X r)(h':SlR X r'):SlR X (fun x lo hi H Q=>r x lo hi H Q\/r' x lo hi H Q):=by
  intro pins s σ H x v vl vu lo hi sl Q I rx hs pl pu q
  rcases q with q | q
  · exact h pins s σ H x v vl vu lo hi sl Q I rx hs pl pu q
  · exact h' pins s σ H x v vl vu lo hi sl Q I rx hs pl pu q
def tSl(r:V->Option Int->Option Int->Hp->VK->Prop)(te:TE)(tl th:TO):TE:=fun σ H Q=>te σ H fun x H1=>tl σ H1 fun l H2=>th σ H2 fun u H3=>r x l u H3 Q
theorem m4{r:V->Option Int->Option Int->Hp->VK->Prop}(hr:SlR X r)(he:PE X e te)(hl:PO X lo tl)(hu:PO X hi th):PE X (.Subscript e (.Slice lo hi none p2) pos) (tSl r te tl th):=by
  intro pins s σ H Q I h
  refine Subscript_ (thn (he pins s σ H _ I h) fun v s1 ⟨x,H1,I1,r1,q1⟩=>?_)
  refine wpAny_Slice (thn (hl pins s1 σ H1 _ I1 q1) fun vl s2 ⟨l,H2,I2,pl,q2⟩=>thn (hu pins s2 σ H2 _ I2 q2) fun vu s3 ⟨u,H3,I3,pu,q3⟩=>?_)
  rw[evalPart_none]
  refine wpAny_pure ?_
  have I4:Inv X pins σ H3 { s3 with heap:=s3.heap.push { cls:=.type "slice",data:=.fields #[vl,vu,.none] } }:=I3.kept (t':=s3.toks) fun b ob q=>Heap.get?_push_of_some _ q
  obtain⟨T,id,hT,ht,hg⟩:=hr pins { s3 with heap:=s3.heap.push { cls:=.type "slice",data:=.fields #[vl,vu,.none] } } σ H3 x v vl vu l u s3.heap.objs.size Q I4 r1 (Heap.IsSliceOf.new ..) pl pu q3
  show wpAny (model X.prog X.w) X.A (subscriptTail e (.Slice lo hi none p2) v (.ref s3.heap.objs.size)) (EP X pins σ Q) X.xe { s3 with heap:=s3.heap.push { cls:=.type "slice",data:=.fields #[vl,vu,.none] } }
  exact tail_any (ops:=[.ref s3.heap.objs.size,v]) ht hT hg (by with_unfolding_all rfl)
def eE(xs:List V)(lo hi:Option Int):List V:=(xs.drop (HT.sIx xs.length 0 lo)).take (HT.sIx xs.length xs.length hi - HT.sIx xs.length 0 lo)
theorem rE(xs:List V)(lo hi:Option Int):(eE xs lo hi).length<=xs.length:=by
  unfold eE
  rw[List.length_take,List.length_drop]
  omega
end
end L2
namespace L2
open PySem PySem.Spec PyProof.Rows
def ixN(n:Nat)(i:Int):Option Nat:=if 0<=i then (if i < n then some i.toNat else none) else if -(n:Int)<=i then some (i+n).toNat else none
def atI{α:Type}(xs:List α)(i:Int):Option α:=(ixN xs.length i).bind fun j=>xs[j]?
theorem rF{n:Nat}{i:Int}{j:Nat}(h:ixN n i=some j):seqIndex? i n=some j/\j < n/\-(n:Int)<=i/\i < n:=by
  unfold ixN at h
  by_cases h0:0<=i
  · rw[if_pos h0] at h
    by_cases h1:i < n
    · rw[if_pos h1] at h
      have e:i.toNat=j:=Option.some.inj h
      exact⟨by rw[seqIndex_of h0 h1,e],by omega,by omega,h1⟩
    · rw[if_neg h1] at h;cases h
  · rw[if_neg h0] at h
    by_cases h1:-(n:Int)<=i
    · rw[if_pos h1] at h
      have e:(i+n).toNat=j:=Option.some.inj h
      exact⟨by rw[seqIndex_neg (by omega) h1,e],by omega,h1,by omega⟩
    · rw[if_neg h1] at h;cases h
theorem eF{α:Type}{xs:List α}{i:Int}{v:α}(h:atI xs i=some v):∃ j,seqIndex? i xs.length=some j/\xs[j]?=some v/\j < xs.length/\-(xs.length:Int)<=i/\i < xs.length:=by
  unfold atI at h
  cases e:ixN xs.length i with
  | none=>rw[e] at h;cases h
  | some j =>
    rw[e] at h
    obtain⟨h1,h2,h3,h4⟩:=rF e
    exact⟨j,h1,h,h2,h3,h4⟩
def dF(b:Expr):Prop:=∀ o i,subscripted b false o i=operate [o,i] (getItem o i)
def IxR(X:Cx)(r:R2):Prop :=
  ∀ (value slice:Expr) (pins:List (Addr × Obj)) (s:Shared) (σ:St) (H:Hp) (x y:V) (v u:Value) (Q:VK),Inv X pins σ H s->RelV x v->RelV y u->r x y H Q ->
    subscripted slice false v u=operate [v,u] (getItem v u)->wpAny (model X.prog X.w) X.A (subscriptTail value slice v u) (EP X pins σ Q) X.xe s
def MtR(X:Cx)(id:String)(r:V->List V->Hp->VK->Prop):Prop :=
  ∀ (pins:List (Addr × Obj)) (s:Shared) (σ:St) (H:Hp) (x:V) (xs:List V) (v:Value) (us:List Value) (Q:VK),Inv X pins σ H s->RelV x v->Vals xs us->r x xs H Q ->
    wpAny (model X.prog X.w) X.A (call (.builtin id) (v::us)) (EP X pins σ Q) X.xe s
section
variable {X:Cx} {a b:Expr} {ta tb:TE} {pos:Pos}
theorem IxR.or{r r':R2}(h:IxR X r)(h':IxR X r'):IxR X (fun x y H Q=>r x y H Q\/r' x y H Q):=by
  intro value slice pins s σ H x y v u Q I rx ry q hs
  rcases q with q | q
  · exact h value slice pins s σ H x y v u Q I rx ry q hs
  · exact h' value slice pins s σ H x y v u Q I rx ry q hs
theorem MtR.or{id:String}{r r':V->List V->Hp->VK->Prop}(h:MtR X id r)(h':MtR X id r'):MtR X id (fun x xs H Q=>r x xs H Q\/r' x xs H Q):=by
  intro pins s σ H x xs v us Q I rx rs q
  rcases q with q | q
  · exact h pins s σ H x xs v us Q I rx rs q
  · exact h' pins s σ H x xs v us Q I rx rs q
theorem gR{r:R2}(hr:IxR X r)(ha:PE X a ta)(hb:PE X b tb)(hs:dF b):PE X (.Subscript a b pos) (tOp r ta tb):=by
  intro pins s σ H Q I h
  exact Subscript_ (iW ha hb I h fun v u s2 x y H2 I2 rx ry q=>hr a b pins s2 σ H2 x y v u Q I2 rx ry q (hs _ _))
def rG(K:PySem.W.Frag):R2:=fun x y H Q=>∃ p xs i v,x=.ref p/\y=.int i/\SqL K H p xs/\atI xs i=some v/\Q v H
def rH(K:PySem.W.Frag):R2:=fun x y H Q=>∃ p xs i v,x=.ref p/\y=.int i/\SqT K H p xs/\atI xs i=some v/\Q v H
def m5:R2:=fun x y H Q=>∃ z i c,x=.str z/\y=.int i/\z.length<=sizeLine/\atI z.cps.toList i=some c/\Q (.str ⟨#[c]⟩) H
theorem ix_list:IxR X (rG X.K):=by
  intro value slice pins s σ H x y v u Q I rx ry h hs
  obtain⟨p,xs,i,z,rfl,rfl,hq,he,q⟩:=h
  cases rx
  obtain⟨t,rfl⟩:=ry
  obtain⟨its,r,pl,hz⟩:=I.list hq
  obtain⟨j,h1,h2,h3,h4,h5⟩:=eF he
  obtain⟨w,ew,rw'⟩:=r.get h2
  have hl:=r.length
  have hn:=eD
  have fin:EP X pins σ Q w s:=⟨z,H,I,rw',q⟩
  by_cases h0:0<=i
  · have hj:i.toNat=j:=by
      rw[seqIndex_of h0 h5] at h1
      exact Option.some.inj h1
    exact item_listR pl.isList h0 (by omega) (by rw[hj];simpa using ew) fin hs
  · have hj:(i+(its.toArray.size:Int)).toNat=j:=by
      rw[seqIndex_neg (by omega) h4] at h1
      rw[List.size_toArray,<- hl]
      exact Option.some.inj h1
    exact subscriptTail_builtinR (x:=w) pl.isList.typeIs slot_list_getitem.lookup
      (wpAny_getItem_list_neg (Q:=fun r s'=>r=w/\EP X pins σ Q r s') pl.isList (by omega) (by rw[List.size_toArray] <;> omega) (by omega) (by rw[hj];simpa using ew) ⟨rfl,fin⟩) hs
theorem m6:IxR X (rH X.K):=by
  intro value slice pins s σ H x y v u Q I rx ry h hs
  obtain⟨p,xs,i,z,rfl,rfl,hq,he,q⟩:=h
  cases rx
  obtain⟨t,rfl⟩:=ry
  obtain⟨its,r,pl,hz⟩:=I.tuple hq
  obtain⟨j,h1,h2,h3,h4,h5⟩:=eF he
  obtain⟨w,ew,rw'⟩:=r.get h2
  have hl:=r.length
  have hn:=eD
  have fin:EP X pins σ Q w s:=⟨z,H,I,rw',q⟩
  exact subscriptTail_builtinR (x:=w) pl.typeIs slot_tuple_getitem.lookup
    (getItem_tuple (j:=j) (Q:=fun r s'=>r=w/\EP X pins σ Q r s') pl (by omega) (by omega) (by rw[List.size_toArray,<- hl];exact h1) (by simpa using ew) ⟨rfl,fin⟩) hs
theorem m7:IxR X m5:=by
  intro value slice pins s σ H x y v u Q I rx ry h hs
  obtain⟨z,i,c,rfl,rfl,hz,he,q⟩:=h
  obtain⟨t,rfl⟩:=rx
  obtain⟨t',rfl⟩:=ry
  obtain⟨j,h1,h2,h3,h4,h5⟩:=eF he
  have hl:z.cps.toList.length=z.length:=by simp[Str.length]
  rw[hl] at h1 h4 h5
  have hn:=eD
  exact tail_any (typeIs_str s z t) slot_str_getitem.lookup (getItem_str (c:=c) (by
    have e1:decide (i < -(2 ^ 63:Int))=false:=decide_eq_false (by omega)
    have e2:decide (i ≥ 2 ^ 63)=false:=decide_eq_false (by omega)
    rw[e1,e2,Bool.or_false]) (by rw[h1];simpa using h2) ⟨.str ⟨#[c]⟩,H,I.tok _,⟨_,rfl⟩,q⟩) hs
theorem Inv.lst{pins:List (Addr × Obj)}{σ:St}{H:Hp}{s:Shared}{p:Addr}{xs:List V}(I:Inv X pins σ H s)(h:H p=some (.lst xs)):
    ∃ (its:List Value) (n:Nat),Vals xs its/\s.heap.get? p=some { cls:=.type "list",data:=.seq its.toArray n }/\xs.length<=sizeLine:=by
  obtain⟨z,its,n,r,e⟩:=I.hok p _ h
  exact⟨its,n,r,e,z⟩
theorem rJ(lo hi:Option Int)(n:Nat):(sliceBounds lo hi none n).1=((HT.sIx n 0 lo:Nat):Int)/\(sliceBounds lo hi none n).2.1=((HT.sIx n n hi:Nat):Int)/\(sliceBounds lo hi none n).2.2=1:=by
  refine⟨?_,?_,rfl⟩
  · cases lo with
    | none=>simp[sliceBounds,HT.sIx]
    | some i =>
      simp only[sliceBounds,HT.sIx,Option.getD_none,show (1:Int) > 0 by decide,if_true]
      by_cases h:i < 0
      · simp only[h,if_true] <;> omega
      · simp only[h,if_false] <;> omega
  · cases hi with
    | none=>simp[sliceBounds,HT.sIx]
    | some i =>
      simp only[sliceBounds,HT.sIx,Option.getD_none,show (1:Int) > 0 by decide,if_true]
      by_cases h:i < 0
      · simp only[h,if_true] <;> omega
      · simp only[h,if_false] <;> omega
theorem rK(its:List Value)(lo hi:Option Int):slicePick its.toArray lo hi none=((its.drop (HT.sIx its.length 0 lo)).take (HT.sIx its.length its.length hi - HT.sIx its.length 0 lo)).toArray:=by
  obtain⟨h1,h2,h3⟩:=rJ lo hi its.toArray.size
  unfold slicePick
  rw[h1,h2,h3]
  simp only[sliceRange_one,pick_run,List.size_toArray] <;> rfl
def rL(K:PySem.W.Frag):V->Option Int->Option Int->Hp->VK->Prop:=fun x lo hi H Q=>∃ a xs,x=.ref a/\SqL K H a xs/\∀ p,H p=none->Q (.ref p) (upd H p (.lst (eE xs lo hi)))
theorem rM:SlR X (rL X.K):=by
  intro pins s σ H x v vl vu lo hi sl Q I rx hs pl pu h
  obtain⟨a,xs,rfl,hx,q⟩:=h
  cases rx
  obtain⟨its,r,ht,hz⟩:=I.list hx
  have hlen:=r.length
  refine⟨"list",_,slot_list_getitem.lookup,ht.isList.typeIs,?_⟩
  refine wpAny_getItem_list_slice ht.isList hs pl pu .none (by simp) ?_ (by rw[List.size_toArray] <;> omega)
  rw[rK,<- hlen]
  refine⟨.ref s.heap.objs.size,_,I.laid (t':=s.toks) (o:=.lst (eE xs lo hi)) (fun b ob q=>Heap.get?_push_of_some _ q) (Nat.le_refl _) ?_,rfl,q _ (I.hok.fresh (Nat.le_refl _))⟩
  exact⟨Nat.le_trans (rE xs lo hi) hz,_,0,(r.drop (HT.sIx xs.length 0 lo)).take (HT.sIx xs.length xs.length hi - HT.sIx xs.length 0 lo),Heap.get?_push_size _ rfl⟩
def cw:V->Bool
  | .non=>true
  | .bl _=>true
  | .int _=>true
  | .str _=>true
  | _=>false
def eqV:V->V->Bool
  | .non,.non=>true
  | .bl a,.bl b=>a == b
  | .bl a,.int b=>(if a then 1 else 0) == b
  | .int a,.bl b=>a == (if b then 1 else 0)
  | .int a,.int b=>a == b
  | .str a,.str b=>a == b
  | _,_=>false
theorem rN{A:Around}{s:Shared}{y x:V}{u v:Value}(ry:RelV y u)(rx:RelV x v)(fy:cw y=true)(fx:cw x=true):SeqAt.EqAt A s u v (eqV y x):=by
  cases y with
  | non =>
    cases ry
    cases x with
    | non=>cases rx;exact SeqAt.EqAt.same _
    | bl b=>cases rx;exact SeqAt.EqAt.none_bool b
    | int b=>obtain⟨t,rfl⟩:=rx;exact SeqAt.EqAt.none_int b t
    | str b=>obtain⟨t,rfl⟩:=rx;exact SeqAt.EqAt.none_str b t
    | _=>exact absurd (show false=true from fx) Bool.false_ne_true
  | bl a =>
    cases ry
    cases x with
    | non=>cases rx;exact SeqAt.EqAt.bool_none a
    | bl b=>cases rx;exact SeqAt.EqAt.bool_bool a b
    | int b=>obtain⟨t,rfl⟩:=rx;exact SeqAt.EqAt.bool_int a b t
    | str b=>obtain⟨t,rfl⟩:=rx;exact SeqAt.EqAt.bool_str a b t
    | _=>exact absurd (show false=true from fx) Bool.false_ne_true
  | int a =>
    obtain⟨t',rfl⟩:=ry
    cases x with
    | non=>cases rx;exact SeqAt.EqAt.int_none a t'
    | bl b=>cases rx;exact SeqAt.EqAt.int_bool a t' b
    | int b=>obtain⟨t,rfl⟩:=rx;exact SeqAt.EqAt.int_int a t' b t
    | str b=>obtain⟨t,rfl⟩:=rx;exact SeqAt.EqAt.int_str a t' b t
    | _=>exact absurd (show false=true from fx) Bool.false_ne_true
  | str a =>
    obtain⟨t',rfl⟩:=ry
    cases x with
    | non=>cases rx;exact SeqAt.EqAt.str_none a t'
    | bl b=>cases rx;exact SeqAt.EqAt.str_bool a t' b
    | int b=>obtain⟨t,rfl⟩:=rx;exact SeqAt.EqAt.str_int a t' b t
    | str b=>obtain⟨t,rfl⟩:=rx;exact SeqAt.EqAt.str_str a t' b t
    | _=>exact absurd (show false=true from fx) Bool.false_ne_true
  | _=>exact absurd (show false=true from fy) Bool.false_ne_true
def eqU(x:V)(u:Value):Bool:=match u with
  | .none=>eqV .non x
  | .bool b=>eqV (.bl b) x
  | .int i _=>eqV (.int i) x
  | .str z _=>eqV (.str z) x
  | _=>false
theorem m8{x y:V}{u:Value}(r:RelV y u)(f:cw y=true):eqU x u=eqV y x:=by
  cases y with
  | non=>cases r;rfl
  | bl b=>cases r;rfl
  | int i=>obtain⟨t,rfl⟩:=r;rfl
  | str z=>obtain⟨t,rfl⟩:=r;rfl
  | _=>exact absurd (show false=true from f) Bool.false_ne_true
theorem fQ{x:V}:∀ {xs:List V} {us:List Value},Vals xs us->xs.all cw=true->us.any (eqU x)=xs.any fun y=>eqV y x
  | _,_,.nil,_=>rfl
  | y::xs,u::us,.cons r t,f=>by
    rw[List.all_cons,Bool.and_eq_true] at f
    rw[List.any_cons,List.any_cons,m8 r f.1,fQ t f.2]
theorem fR{A:Around}{s:Shared}{x:V}{v:Value}(rx:RelV x v)(fx:cw x=true):∀ {xs:List V} {us:List Value},Vals xs us->xs.all cw=true->∀ u ∈ us,SeqAt.EqAt A s u v (eqU x u)
  | _,_,.nil,_=>fun u hu=>by cases hu
  | y::xs,u::us,.cons r t,f=>fun u' hu=>by
    rw[List.all_cons,Bool.and_eq_true] at f
    rcases List.mem_cons.mp hu with rfl | hu
    · rw[m8 r f.1];exact rN r rx f.1 fx
    · exact fR rx fx t f.2 u' hu
def inV(x:V)(xs:List V):Bool:=xs.any fun y=>eqV y x
def rIn(K:PySem.W.Frag)(neg:Bool):R2:=fun x y H Q=>∃ p xs,y=.ref p/\(SqL K H p xs\/SqT K H p xs)/\cw x=true/\xs.all cw=true/\Q (.bl (if neg then !inV x xs else inV x xs)) H
theorem rO:OpR X (compareOp .In) (rIn X.K false):=by
  intro pins s σ H x y v u Q I rx ry h
  obtain⟨p,xs,rfl,hq,fx,fs,q⟩:=h
  cases ry
  rcases hq with hq | hq
  · obtain⟨its,r,pl,hz⟩:=I.list hq
    refine SeqAt.in_listAt (eqU x) pl.isList (fun w hw=>fR rx fx r fs w (by simpa using hw)) ⟨.bl _,H,I,rfl,?_⟩
    rw[show its.toArray.any (eqU x)=its.any (eqU x) by simp,fQ r fs]
    exact q
  · obtain⟨its,r,pl,hz⟩:=I.tuple hq
    refine SeqAt.in_tupleAt (eqU x) pl (fun w hw=>fR rx fx r fs w (by simpa using hw)) ⟨.bl _,H,I,rfl,?_⟩
    rw[show its.toArray.any (eqU x)=its.any (eqU x) by simp,fQ r fs]
    exact q
theorem rP:OpR X (compareOp .NotIn) (rIn X.K true):=by
  intro pins s σ H x y v u Q I rx ry h
  obtain⟨p,xs,rfl,hq,fx,fs,q⟩:=h
  cases ry
  rcases hq with hq | hq
  · obtain⟨its,r,pl,hz⟩:=I.list hq
    refine SeqAt.notIn_listAt (eqU x) pl.isList (fun w hw=>fR rx fx r fs w (by simpa using hw)) ⟨.bl _,H,I,rfl,?_⟩
    rw[show its.toArray.any (eqU x)=its.any (eqU x) by simp,fQ r fs]
    exact q
  · obtain⟨its,r,pl,hz⟩:=I.tuple hq
    refine SeqAt.notIn_tupleAt (eqU x) pl (fun w hw=>fR rx fx r fs w (by simpa using hw)) ⟨.bl _,H,I,rfl,?_⟩
    rw[show its.toArray.any (eqU x)=its.any (eqU x) by simp,fQ r fs]
    exact q
theorem rQ:CallR X (.builtin "len") (fun xs H Q=>∃ p ys,xs=[.ref p]/\(SqL X.K H p ys\/SqT X.K H p ys)/\Q (.int ys.length) H):=by
  intro pins s σ H xs us Q I r h
  obtain⟨p,ys,rfl,hq,q⟩:=h
  obtain⟨u,rfl,rx⟩:=cv r
  cases rx
  have hn:=eD
  rcases hq with hq | hq
  · obtain⟨its,r',pl,hz⟩:=I.list hq
    have hlen:=r'.length
    exact Calls.call_len_list pl.isList (by simp only[List.size_toArray] <;> omega) ⟨.int ys.length,H,I.tok _,⟨s.toks+1,by rw[List.size_toArray,hlen]⟩,q⟩
  · obtain⟨its,r',pl,hz⟩:=I.tuple hq
    have hlen:=r'.length
    exact len_tuple pl (by simp only[List.size_toArray] <;> omega) ⟨.int ys.length,H,I.tok _,⟨s.toks+1,by rw[List.size_toArray,hlen]⟩,q⟩
theorem rR:CallR X (.builtin "len") (fun xs H Q=>∃ z,xs=[.str z]/\z.length<=sizeLine/\Q (.int z.length) H):=by
  intro pins s σ H xs us Q I r h
  obtain⟨z,rfl,hz,q⟩:=h
  obtain⟨u,rfl,t,rfl⟩:=cv r
  have hn:=eD
  exact len_str (by omega) ⟨.int z.length,H,I.tok _,⟨_,rfl⟩,q⟩
theorem CallR.or{f:Value}{r r':List V->Hp->VK->Prop}(h:CallR X f r)(h':CallR X f r'):CallR X f (fun xs H Q=>r xs H Q\/r' xs H Q):=by
  intro pins s σ H xs us Q I rs q
  rcases q with q | q
  · exact h pins s σ H xs us Q I rs q
  · exact h' pins s σ H xs us Q I rs q
theorem rS:CallR X (.type "list") (fun xs H Q=>∃ p ys,xs=[.ref p]/\(SqL X.K H p ys\/SqT X.K H p ys)/\∀ l,H l=none->Q (.ref l) (upd H l (.lst ys))):=by
  intro pins s σ H xs us Q I r h
  obtain⟨p,ys,rfl,hq,q⟩:=h
  obtain⟨u,rfl,rx⟩:=cv r
  cases rx
  have fin:∀ (its:List Value),Vals ys its->ys.length<=sizeLine->∀ (h':Heap) (c':Nat),(∀ b o',s.heap.get? b=some o'->h'.get? b=some o') ->
      h'.get? s.heap.objs.size=some { cls:=.type "list",dict:=none,data:=.seq its.toArray c',slots:=#[] }->EP X pins σ Q (.ref s.heap.objs.size) { s with heap:=h' }:=fun its r' hz h' c' kp e =>
    ⟨.ref s.heap.objs.size,_,I.laid (t':=s.toks) kp (Nat.le_refl _) (show ObjOk X.prog X.w _ h' _ (.lst ys) from ⟨hz,its,c',r',e⟩),rfl,q _ (I.hok.fresh (Nat.le_refl _))⟩
  rcases hq with hq | hq
  · obtain⟨its,r',pl,hz⟩:=I.list hq
    have hlen:=r'.length
    obtain⟨o,ho,hc,n,hd⟩:=pl.isList
    exact call_list_seq p (.inl rfl) ho hc hd (fun h' c' kp e=>fin its r' hz h' c' kp e) (by simp only[List.size_toArray] <;> omega)
  · obtain⟨its,r',pl,hz⟩:=I.tuple hq
    have hlen:=r'.length
    obtain⟨o,ho,hc,n,hd⟩:=pl
    exact call_list_seq p (.inr rfl) ho hc hd (fun h' c' kp e=>fin its r' hz h' c' kp e) (by simp only[List.size_toArray] <;> omega)
def tyV(K:PySem.W.Frag)(T:String)(x:V)(H:Hp):Prop:=match x with
  | .str _=>T = "str"
  | .int _=>T = "int"
  | .ref p=>(T = "list"/\∃ xs,SqL K H p xs)\/(T = "tuple"/\∃ o,K.lookup p=some o/\o.cls=.type "tuple"/\o.dict=none) \/
      (T = "dict"/\((∃ kvs,H p=some (.dK kvs))\/∃ kvs,H p=some (.dT kvs)))\/(T = "set"/\∃ S n,H p=some (.set S n))
  | _=>False
theorem rT{pins:List (Addr × Obj)}{σ:St}{H:Hp}{s:Shared}{T:String}{x:V}{v:Value}(I:Inv X pins σ H s)(r:RelV x v)(ty:tyV X.K T x H):
    s.TypeIs v T/\∀ a,v=.ref a->∃ ob,s.heap.get? a=some ob/\ob.dict=none:=by
  cases x with
  | str z =>
    obtain⟨t,rfl⟩:=r
    cases (show T = "str" from ty)
    exact⟨typeIs_str s z t,fun _ e=>nomatch e⟩
  | int i =>
    obtain⟨t,rfl⟩:=r
    cases (show T = "int" from ty)
    exact⟨typeIs_int s i t,fun _ e=>nomatch e⟩
  | ref p =>
    cases r
    rcases ty with⟨rfl,xs,hq⟩ | ⟨rfl,o,hk,hc,hd⟩ | ⟨rfl,hk⟩ | ⟨rfl,S,n,hk⟩
    · obtain⟨its,_,pl,_⟩:=I.list hq
      refine⟨pl.isList.typeIs,fun a e=>?_⟩
      cases e
      obtain⟨o,n,e,c,hd,_⟩:=pl
      exact⟨o,e,hd⟩
    · refine⟨⟨o,I.kIn p o hk,hc⟩,fun a e=>?_⟩
      cases e
      exact⟨o,I.kIn _ o hk,hd⟩
    · have z:∃ o,s.heap.get? p=some o/\o.ExactDict:=by
        rcases hk with⟨kvs,hk⟩ | ⟨kvs,hk⟩
        · obtain⟨_,_,_,_,o,_,_,e,ex,_⟩:=I.hok p _ hk
          exact⟨o,e,ex⟩
        · obtain⟨_,_,_,_,o,_,_,e,ex,_⟩:=I.hok p _ hk
          exact⟨o,e,ex⟩
      obtain⟨o,e,ex⟩:=z
      refine⟨⟨o,e,ex.1⟩,fun a e2=>?_⟩
      cases e2
      exact⟨o,e,ex.2.1⟩
    · obtain⟨o,_,_,_,e,ex,_⟩:=I.hok p _ hk
      refine⟨⟨o,e,ex.1⟩,fun a e2=>?_⟩
      cases e2
      exact⟨o,e,ex.2.1⟩
  | _=>exact False.elim ty
def tBM(K:PySem.W.Frag)(T:String)(r:V->List V->Hp->VK->Prop)(to:TE)(t:TA):TE:=fun σ H Q=>to σ H fun x H1=>tyV K T x H1/\t σ H1 fun xs H2=>r x xs H2 Q
variable {o e:Expr} {es:List Expr} {to:TE} {t:TA} {name:Str} {apos cpos:Pos} {T id:String} {r:V->List V->Hp->VK->Prop}
theorem j5(pa:PlainAttrs T)(slot:Slot T name id)(hty:typeOf (.builtin id)=pure (.type "method_descriptor"))(hm:MtR X id r)(ho:PE X o to)(ha:PA X (e::es) t)(hbase:attributeBase o name X.env (eval o X.env)=eval o X.env:=by rfl)(hfew:((backTo cpos (starEach (e::es) X.env)).all (fun x=>!x.1) && (backToKw cpos (keywordEach [] X.env)).all (fun x=>x.1.isSome)
      && decide ((e::es).length+([]:List Keyword).length+(if ([]:List Keyword).isEmpty then 0 else 1) < 30))=true:=by rfl)(hline:(apos.endLine == cpos.line)=true:=by rfl)(hs:starEach (e::es) X.env=(false,eval e X.env)::starEach es X.env:=by rfl)(hplain:(backTo cpos (starEach es X.env)).any (·.1)=false:=by rfl):
    PE X (.Call (.Attribute o name apos) (e::es) [] cpos) (tBM X.K T r to t):=by
  intro pins s σ H Q I h
  refine wpAny_Call_method_late hbase hfew hline rfl (thn (ho pins s σ H _ I h) fun v s1 ⟨x,H1,I1,r1,ty,q1⟩=>?_)
  obtain⟨h1,h2⟩:=rT I1 r1 ty
  refine⟨T,id,pa,slot,hty,h1,h2,?_⟩
  have hA:=ha cpos pins s1 σ H1 _ I1 q1
  rw[hs] at hA ⊢
  refine Calls.callWith_builtin (by show (false || (backTo cpos (starEach es X.env)).any (·.1))=false;rw[hplain] <;> rfl) (Calls.evalArgs_plain ?_)
  exact thn hA fun us s2 ⟨vs,H2,I2,r2,q2⟩=>hm pins s2 σ H2 x vs v us Q I2 r1 r2 q2
end
end L2
namespace L2
open PySem PySem.Spec PyProof.Rows
def MtM(X:Cx)(id:String)(r:V->List V->Hp->VK->Prop):Prop :=
  ∀ (pins:List (Addr × Obj)) (s:Shared) (σ:St) (H:Hp) (x:V) (xs:List V) (v:Value) (us:List Value) (Q:VK),Inv X pins σ H s->RelV x v->Vals xs us->r x xs H Q ->
    wpAny (model X.prog X.w) X.A (call (.builtin id) (v::us)) (EP X pins σ Q) X.xe s
theorem Vals.one:∀ {x:V} {us:List Value},Vals [x] us->∃ u,us=[u]/\RelV x u
  | _,_,.cons r .nil=>⟨_,rfl,r⟩
theorem Vals.two:∀ {x y:V} {us:List Value},Vals [x,y] us->∃ u v,us=[u,v]/\RelV x u/\RelV y v
  | _,_,_,.cons r (.cons q .nil)=>⟨_,_,rfl,r,q⟩
theorem Vals.zero:∀ {us:List Value},Vals [] us->us=[]
  | _,.nil=>rfl
theorem Vals.dropLast{xs:List V}{us:List Value}(h:Vals xs us):Vals xs.dropLast us.dropLast:=by
  induction h with
  | nil=>exact .nil
  | cons r t ih =>
    cases t with
    | nil=>exact .nil
    | cons q t'=>exact .cons r ih
theorem Vals.reverse{xs:List V}{us:List Value}(h:Vals xs us):Vals xs.reverse us.reverse:=by
  induction h with
  | nil=>exact .nil
  | cons r t ih=>rw[List.reverse_cons,List.reverse_cons];exact Vals.append ih (.cons r .nil)
theorem Vals.rep{xs:List V}{us:List Value}(h:Vals xs us):∀ k:Nat,Vals (List.replicate k xs).flatten (List.replicate k us).flatten
  | 0=>.nil
  | k+1=>by
    rw[List.replicate_succ,List.replicate_succ,List.flatten_cons,List.flatten_cons]
    exact Vals.append h (Vals.rep h k)
theorem m9(its:List Value):∀ (k:Nat) (acc:List Value),
    List.foldl (fun x1 x2=>x1++x2) acc.toArray (List.replicate k its.toArray)=(acc++(List.replicate k its).flatten).toArray
  | 0,acc=>by simp
  | k + 1,acc=>by
    have e:acc.toArray++its.toArray=(acc++its).toArray:=by simp
    have e2:(acc++its)++(List.replicate k its).flatten=acc++(List.replicate (k+1) its).flatten:=by
      rw[List.replicate_succ,List.flatten_cons,List.append_assoc]
    rw[<- e2,<- m9 its k (acc++its),<- e,List.replicate_succ,List.foldl_cons]
section
variable {X:Cx} {pins:List (Addr × Obj)} {σ:St} {H:Hp} {s:Shared} {l b:Addr} {xs ys zs:List V}
theorem Inv.lset{its its':List Value}{n:Nat}{f:Array Value->Array Value}{t':Nat}(I:Inv X pins σ H s)(hH:H l=some (.lst xs))(e:s.heap.get? l=some { cls:=.type "list",data:=.seq its.toArray n })(hf:f its.toArray=its'.toArray)(hv:Vals ys its')(hz:ys.length<=sizeLine):
    Inv X pins σ (upd H l (.lst ys)) { s with heap:=s.heap.update l (Obj.mapSeq f),toks:=t' }:=by
  have q:=PySem.IsL.update e f
  rw[hf] at q
  refine I.write (x:=l) (e:=l) (by rw[hH];exact trivial) (.inl rfl) (fun b' u hb hu=>(Heap.get?_update_other s.heap (Obj.mapSeq f) (Ne.symm hb)).trans hu) ⟨_,q⟩ ?_
  exact⟨hz,its',_,hv,q⟩
theorem Inv.lnew{its:List Value}{t':Nat}(I:Inv X pins σ H s)(hv:Vals ys its)(hz:ys.length<=sizeLine):
    Inv X pins σ (upd H s.heap.objs.size (.lst ys)) { s with heap:=s.heap.push { cls:=.type "list",data:=.seq its.toArray },toks:=t' } :=
  I.laid (fun _ _ q=>Heap.get?_push_of_some _ q) (Nat.le_refl _) ⟨hz,its,0,hv,Heap.get?_push_size _ rfl⟩
theorem Inv.fresh(I:Inv X pins σ H s):H s.heap.objs.size=none:=I.hok.fresh (Nat.le_refl _)
theorem Inv.lstM(I:Inv X pins σ H s)(hH:H l=some (.lst xs)):xs.length<=sizeLine/\∃ (its:List Value) (n:Nat),Vals xs its/\xs.length=its.length/\s.heap.get? l=some { cls:=.type "list",data:=.seq its.toArray n }:=by
  obtain⟨z,its,n,r,e⟩:=I.hok l _ hH
  exact⟨z,its,n,r,r.length,e⟩
theorem rU{n:Nat}(h:n<=sizeLine):Builtin.List.listTooLong n=false:=by
  unfold Builtin.List.listTooLong
  exact decide_eq_false (by omega)
end
section
variable {X:Cx}
def rV:V->List V->Hp->VK->Prop:=fun x vs H Q=>∃ l xs y,x=.ref l/\vs=[y]/\H l=some (.lst xs)/\xs.length < sizeLine/\Q .non (upd H l (.lst (xs++[y])))
theorem rW:MtM X "list.append" rV:=by
  intro pins s σ H x vs v us Q I rx rv h
  obtain⟨l,xs,y,rfl,rfl,hH,hz,q⟩:=h
  cases rx
  obtain⟨u,rfl,ru⟩:=rv.one
  obtain⟨z,its,n,r,hl,e⟩:=I.lstM hH
  refine call_meets F.slot_list_append ⟨_,e,rfl⟩ F.entry_list_append (F.args_list_append_2 _ _) (PySem.list_append l its.toArray n u (by rw[List.size_toArray];omega)) ⟨e,?_⟩
  refine⟨.non,_,I.lset (its':=its++[u]) hH e (by simp) (r.append (.cons ru .nil)) ?_,rfl,q⟩
  rw[List.length_append,List.length_singleton]
  omega
def rX:R2:=fun x y H Q=>∃ l k xs,x=.ref l/\y=.int k/\H l=some (.lst xs)/\-(2 ^ 63)<=k/\k < 2 ^ 63/\xs.length * k.toNat<=sizeLine /\
  ∀ p,H p=none->Q (.ref p) (upd H p (.lst (List.replicate k.toNat xs).flatten))
theorem rY{α:Type}(xs:List α)(k:Nat):(List.replicate k xs).flatten.length=k * xs.length:=by
  induction k with
  | zero=>simp
  | succ k ih=>rw[List.replicate_succ,List.flatten_cons,List.length_append,ih,Nat.succ_mul,Nat.add_comm]
theorem rZ:OpR X (binaryOp .Mult) rX:=by
  intro pins s σ H x y v u Q I rx ry h
  obtain⟨l,k,xs,rfl,rfl,hH,h1,h2,hz,q⟩:=h
  cases rx
  obtain⟨t,rfl⟩:=ry
  obtain⟨z,its,n,r,hl,e⟩:=I.lstM hH
  have hlen:its.toArray.size * k.toNat<=sizeLine:=by rw[List.size_toArray,<- hl];exact hz
  have hcap:¬ its.toArray.size * k.toNat > (2 ^ 63 - 1) / 8:=by
    have:(sizeLine:Nat)<=(2 ^ 63 - 1) / 8:=by decide
    omega
  have hfit:¬ (!Builtin.List.listFitsIndex k)=true:=by
    rw[fitsIndex_both h1 h2]
    exact Bool.false_ne_true
  have hlong:¬ Builtin.List.listTooLong (its.toArray.size * k.toNat)=true:=by
    rw[rU hlen]
    exact Bool.false_ne_true
  have hnew:List.foldl (fun x1 x2=>x1++x2) #[] (List.replicate (if its.toArray.isEmpty=true then 0 else k.toNat) its.toArray)=(List.replicate k.toNat its).flatten.toArray:=by
    have f0:∀ m:Nat,List.foldl (fun x1 x2=>x1++x2) #[] (List.replicate m its.toArray)=(List.replicate m its).flatten.toArray:=fun m=>by
      have:=m9 its m []
      rw[List.nil_append] at this
      exact this
    rw[f0]
    cases its with
    | nil=>simp
    | cons a r'=>rw[if_neg (by simp)]
  refine wpAny_binaryOp_repeat_ref (T:="list") (U:="int") (by decide) ⟨_,e,rfl⟩ (fun s'=>typeIs_int s' k t) noFill_list_mul F.fills_int_mul F.slot_int_rmul repeat_list F.slot_int_index.lookup
    (call_meets F.slot_int_rmul (typeIs_int s k t) F.entry_int_rmul (F.args_int_rmul_2 _ _) (int___rmul___int_list k t l its.toArray n)
      ⟨e,rfl,⟨_,e,rfl⟩,call_meets F.slot_list_mul ⟨_,e,rfl⟩ F.entry_list_mul (F.args_list_mul_2 _ _) (AutoListH.list___mul___list_int_3 l its.toArray n k t hfit hcap hlong) ⟨e,?_⟩⟩)
  rw[hnew]
  exact⟨.ref _,_,I.lnew (t':=s.toks) (r.rep k.toNat) (by rw[rY,Nat.mul_comm];exact hz),rfl,q _ I.fresh⟩
end
section
variable {prog:Program} {w:World} {A:Around} {E:Value->Shared->Prop} {s:Shared}
set_option maxRecDepth 100000 in
end
section
variable {X:Cx}
end
end L2
namespace Att
open PySem PySem.W PySem.Calls PyProof.Rows
theorem sd{P:Params}{h:Heap}:∀ (ns:List Int) (vs:List Value),WellAll P h vs (ns.map WData.int)->IntsAre vs ns:=by
  intro ns
  induction ns with
  | nil =>
    intro vs w
    rw[List.map_nil] at w
    cases w
    exact .nil
  | cons n ns ih =>
    intro vs w
    rw[List.map_cons] at w
    cases w with
    | cons a b =>
      cases a
      exact .cons _ _ (ih _ b)
theorem se{l:OpenLaw}{n:Nat}(hn:l.most=some n){P:Params}{h:Heap}{args:List WData}{vals:List Value}(hpre:l.row.toRowW.claim.pre args=true)(hwl:WellAll P h vals args):
    ∃ a vs ns,vals=[Value.ref a]/\args=[WData.list (ns.map WData.int)]/\h.get? a=some { cls:=.type "list",data:=.seq vs.toArray }/\IntsAre vs ns/\ns.length<=n:=by
  have hsh:WShape.hasAll [] args [.list .int]=true:=(pre_splitW hpre).1
  have hc:l.pre.holds [] { args:=args }=true:=(pre_splitW hpre).2
  obtain⟨d,r,rfl,h1,h2⟩:=hasAllW_cons hsh
  obtain rfl:=hasAllW_nil h2
  obtain⟨xs,rfl,h3⟩:=hasW_list h1
  obtain⟨ns,rfl⟩:=items_int h3
  have hlen:ns.length<=n:=by
    unfold OpenLaw.pre at hc
    have h4:(WTm.not (.lt (.lit (.int (n:Int))) (.len (.arg 0)))).holds [] { args:=[.list (ns.map .int)] }=true:=by
      have h4:=(holds_andW hc).1
      rw[hn] at h4
      exact h4
    have h5:=condW_of h4 (w_not (w_lt w_lit (w_len_list (w_arg rfl))))
    rw[List.length_map] at h5
    refine Nat.le_of_not_lt fun q=>?_
    have q':(n:Int) < ((ns.length:Nat):Int):=by omega
    first
      | (rw[decide_eq_true q'] at h5;exact absurd h5 (by decide))
      | (simp at h5;omega)
  cases hwl with
  | cons w1 w2 =>
    cases w2
    cases w1 with
    | list ho hall=>exact⟨_,_,ns,rfl,rfl,ho,sd ns _ hall,hlen⟩
theorem sf(l:OpenLaw)(args:List WData):l.row.toRowW.claim.post args (.bool true) args=true :=
  postW_of (r:=l.row.toRowW) (X:=(true == true))
    (show WShape.has [] (.bool true) .bool=true by first | rfl | decide | simp[WShape.has,WShape.arms,WShape.armsAll])
    (show (WTm.eq .res (.lit (.bool true))).value [] { args:=args,res:=some (.bool true),after:=args }=some (.bool (true == true)) from w_eq_bool (w_res rfl) w_lit) rfl
theorem attach_call{l:OpenLaw}{n:Nat}{q:Program}{loose:List Str}{XP:(Str->Option Value)->Heap->Prop}{YP:World->Heap->Prop}{d:DefRec}(hn:l.most=some n)(hdf:d.params.defaults=[])(call:∀ (w:World) (s₀ s₁:Shared) (mg mb:Str->Option Value) (fa:Addr) (o:Obj) (pm cd doc:Value) (a:Addr) (vs:List Value) (ns:List Int),
      Ground q loose [] XP w s₀ mg mb s₁.heap->YP w s₁.heap ->
      s₁.heap.get? fa=some o->o.data=.func (docDef d.name d.params d.body d.scope pm cd doc)->s₁.heap.CodeRec cd d.name->mg d.name=some (.ref fa) ->
      s₁.heap.get? a=some { cls:=.type "list",data:=.seq vs.toArray }->IntsAre vs ns->ns.length<=n->s₁.gens = #[] ->
      codeAny (model l.prog w) callerA (.call (.ref fa) ⟨[.ref a],[]⟩) (fun r s'=>r=.ok (.ret (.bool true))/\OldK s₁.heap s'.heap/\s'.os=s₁.os/\AllBare s'.gens) s₁):
    WalkO q loose XP YP l.row.toRowW d [] (fun f vs=>PySem.call f vs):=by
  intro w s₀ s₁ mg mb G Y fa o pm cd doc dV kV ho hd hcd hD hmg hg args vals as hpre hlay hrd hwl hlo
  obtain rfl:dV=.none:=Dflts.none hD hdf
  obtain rfl:kV=.none:=Dflts.noKw hD
  obtain⟨a,vs,ns,rfl,rfl,hobj,hints,hlen⟩:=se hn hpre hwl
  refine enter_call (codeAny_mono (call w s₀ s₁ mg mb fa o pm cd doc a vs ns G Y ho (fd_plain hd) hcd hmg hobj hints hlen hg) fun r s' hq=>?_)
  obtain⟨rfl,h2,h3,h4⟩:=hq
  exact⟨.inl ⟨.bool true,.bool true,[],rfl,fun _=>rfl,.bool true,sf l _,fun _=>⟨List.Pairwise.nil,fun _ hm=>(nomatch hm)⟩⟩,h2,h3,h4⟩
section
variable {prog:Program} {w:World} {A:Around} {E:Value->Shared->Prop} {s:Shared} {K:Frag}
end
end Att
namespace L2
open PySem PySem.Spec PyProof.Rows
theorem ma:∀ {vs:List Value} {ns:List Int},IntsAre vs ns->Vals (ns.map V.int) vs
  | _,_,.nil=>.nil
  | _,_,.cons n t h=>.cons ⟨t,rfl⟩ (ma h)
def j6(H:Hp):Prop:=∀ b,H b=none\/∃ o xs,H b=some (.frz o (.lst xs))
theorem sh{P:Program}{w:World}{K:PySem.W.Frag}{mg mb:Str->Option Value}{CX:CXT}{k:Nat}{fa a:Addr}{fd:FuncData}{x:Str}{sp:Sp}{s₁:Shared}{vs:List Value}{ns:List Int}(KX:K.In s₁.heap)(hns:s₁.heap.Ns mainGlobals mg)(hb:s₁.heap.Ns builtinsNs mb)(hbb:∀ x:Str,x ≠ "__name__"->mb x=bootBuiltins x)(hlim:s₁.heap.NoLimit)(hg:s₁.gens = #[])(ha:s₁.heap.get? a=some { cls:=.type "list",data:=.seq vs.toArray })(hi:IntsAre vs ns)(hl:ns.length<=sizeLine)(hr:Room k callerA)(F:∀ base:Heap,K.In base->base.Ns mainGlobals mg->FnOk P w K mg base CX k fa fd [x] sp)(hbind:∀ (s:Shared) (u:Value),BindsTo s fd ⟨[u],[]⟩ [(x,u)])(hsp:∀ H:Hp,j6 H->SqL K H a (ns.map V.int)->sp [.ref a] H (fun v _=>v=.bl true) fun _ _ _=>False)(hCX:∀ H e s',CX [] H s₁ (fun _ _ _=>False) e s'->False):
    codeAny (model P w) callerA (.call (.ref fa) ⟨[.ref a],[]⟩) (fun r s'=>r=.ok (.ret (.bool true))/\OldK s₁.heap s'.heap/\s'.os=s₁.os/\AllBare s'.gens) s₁:=by
  have rv:=ma hi
  have lenV:=hi.length
  have core : ∀ H:Hp,j6 H->SqL K H a (ns.map V.int)->HOk P w H s₁.heap->(∀ b,H b ≠ none->b=a)->(H a ≠ none->K.lookup a=none) ->
      codeAny (model P w) callerA (.call (.ref fa) ⟨[.ref a],[]⟩) (fun r s'=>r=.ok (.ret (.bool true))/\OldK s₁.heap s'.heap/\s'.os=s₁.os/\AllBare s'.gens) s₁:=by
    intro H hO hS hok hA hK
    have base_of:∀ {b:Addr} {o:Obj},s₁.heap.get? b=some o->H b=none->(cN s₁.heap H).get? b=some o:=fun e n=>qh e n
    have noA:∀ {b:Addr} {o:Obj} {es:Array DictEntry} {ep:Nat},s₁.heap.get? b=some o->o.data=.dict es ep->H b=none:=fun {b o es ep} e d=>by
      cases q:H b with
      | none=>rfl
      | some u =>
        have e':b=a:=hA b (by rw[q];simp)
        subst e'
        rw[ha] at e;cases e
        have d':Data.seq vs.toArray _=Data.dict es ep:=d
        cases d'
    have nsK:∀ {b:Addr} {m:Str->Option Value},s₁.heap.Ns b m->(cN s₁.heap H).Ns b m:=fun {b m} ⟨o,es,ep,e,d,r⟩=>⟨o,es,ep,base_of e (noA e d),d,r⟩
    have hKb:K.In (cN s₁.heap H):=fun b o e=>base_of (KX b o e) (by
      cases q:H b with
      | none=>rfl
      | some u =>
        have e':b=a:=hA b (by rw[q];simp)
        subst e'
        rw[hK (by rw[q];simp)] at e;cases e)
    have hM:Mod K mg (cN s₁.heap H):=⟨hKb,nsK hns,⟨mb,nsK hb,hbb⟩,let ⟨mc,h1,h2⟩:=hlim;⟨mc,nsK h1,h2⟩⟩
    have e0:Env0 P w K mg (cN s₁.heap H) callerA [] s₁ H:=⟨rfl,hM,fun b o e=>qi e,Nat.le_of_eq (qg _ _),trivial,fun b hb=>absurd (show b ∈ ([]:List Addr) from hb) (by simp),hok,.of_eq hg⟩
    refine codeAny_mono ((F _ hKb (nsK hns)).run callerA [] s₁ H ⟨[.ref a],[]⟩ [.ref a] [.ref a] _ _ hr e0 (hbind s₁ (.ref a)) (.cons rfl .nil) (hsp H hO hS)) fun r s' h=>?_
    cases r with
    | error e=>exact (hCX H e s' h).elim
    | ok fl =>
      cases fl with
      | next=>exact False.elim h
      | brk=>exact False.elim h
      | cont=>exact False.elim h
      | ret u =>
        obtain⟨v,H',os,bare,un,hok',r',q⟩:=h
        have q':v=.bl true:=q
        subst q'
        obtain rfl:u=Value.bool true:=r'
        refine⟨rfl,OldK.of_keep fun b o e=>?_,os,bare⟩
        cases q:H b with
        | none=>exact un.keep b o e q (by intro z;exact absurd (show b ∈ ([]:List Addr) from z) (by simp)) (by simp)
        | some u =>
          rcases hO b with z | ⟨ob,xs,z⟩
          · rw[q] at z;cases z
          · have z2:=un.frzs b ob _ z
            obtain⟨e1,_⟩:=hok b _ z
            obtain⟨e2,_⟩:=hok' b _ z2
            rw[e] at e1;cases e1
            exact e2
  cases hk:K.lookup a with
  | some o =>
    have e:=KX a o hk
    rw[ha] at e
    cases e
    refine core (fun _=>none) (fun _=>.inl rfl) (.inr ⟨_,vs.toArray,_,hk,rfl,rfl,rfl,by rw[List.size_toArray,lenV];exact hl,by simpa using rv⟩) (fun b u z=>by have z':(none:Option HO)=some u:=z;cases z') (fun b z=>absurd rfl z) fun z=>absurd rfl z
  | none =>
    refine core (fun b=>if b=a then some (.frz { cls:=.type "list",data:=.seq vs.toArray } (.lst (ns.map V.int))) else none) (fun b=>?_) (.inl (.inr ⟨{ cls:=.type "list",data:=.seq vs.toArray },if_pos rfl⟩)) (fun b u z=>?_) (fun b z=>?_) fun _=>hk
    · by_cases hb:b=a
      · exact .inr ⟨_,_,if_pos hb⟩
      · exact .inl (if_neg hb)
    · by_cases hb:b=a
      · have z':=(if_pos hb).symm.trans z
        cases z'
        subst hb
        exact⟨ha,by rw[List.length_map];exact hl,vs,_,rv,ha⟩
      · have z':=(if_neg hb).symm.trans z
        cases z'
    · by_cases hb:b=a
      · exact hb
      · exact absurd (if_neg hb) z
end L2
namespace L2
open PySem PySem.Spec PyProof.Rows
theorem walk_of{l:PySem.W.OpenLaw}{n k:Nat}{q:Program}{loose:List Str}{XP:(Str->Option Value)->Heap->Prop}{YP:World->Heap->Prop}{d:DefRec}{K:Params->PySem.W.Frag}{CX:World->CXT}{sp:World->Sp}{x:Str}(hn:l.most=some n)(hn2:n<=sizeLine)(hdf:d.params.defaults=[])(hr:Room k callerA)(hY:∀ (w:World) (h:Heap),YP w h->(K w.params).In h)(F:∀ (w:World) (mg:Str->Option Value) (fa:Addr) (h:Heap),(K w.params).In h->h.Ns mainGlobals mg->mg d.name=some (.ref fa) ->
      ∃ fd:FuncData,(∀ (s:Shared) (u:Value),BindsTo s fd ⟨[u],[]⟩ [(x,u)]) /\
        ∀ base:Heap,(K w.params).In base->base.Ns mainGlobals mg->FnOk l.prog w (K w.params) mg base (CX w) k fa fd [x] (sp w))(hsp:∀ (w:World) (H:Hp) (a:Addr) (ns:List Int),ns.length<=n->j6 H->SqL (K w.params) H a (ns.map V.int)->sp w [.ref a] H (fun v _=>v=.bl true) fun _ _ _=>False)(hCX:∀ (w:World) (H:Hp) (s:Shared) (e:Value) (s':Shared),CX w [] H s (fun _ _ _=>False) e s'->False):
    PySem.W.WalkO q loose XP YP l.row.toRowW d [] (fun f vs=>PySem.call f vs):=by
  refine Att.attach_call hn hdf fun w s₀ s₁ mg mb fa o pm cd doc a vs ns G Y ho hd hcd hmg hobj hints hlen hg=>?_
  have KX:=hY w _ Y
  obtain⟨fd,hb,hF⟩:=F w mg fa _ KX G.T.g hmg
  exact sh KX G.T.g G.T.b G.T.builtins G.T.nolimit hg hobj hints (Nat.le_trans hlen hn2) hr hF hb (fun H hO hS=>hsp w H a ns hlen hO hS) fun H e s'=>hCX w H s₁ e s'
end L2
namespace L2
open PySem PySem.Spec PyProof.Rows
def bh(s:Stmt):Arguments:=match s with
  | .FunctionDef _ a _ _ _ _ _ _ _ _=>a
  | _=>{ posonlyargs:=[],args:=[],vararg:=none,kwonlyargs:=[],kw_defaults:=[],kwarg:=none,defaults:=[] }
def aU(s:Stmt):List Stmt:=match s with
  | .FunctionDef _ _ b _ _ _ _ _ _ _=>b
  | _=>[]
def ak(s:Stmt):Scope:=match s with
  | .FunctionDef _ _ _ _ _ _ sc _ _ _=>sc
  | _=>{ kind:=.function,names:=[],isGenerator:=false,isCoroutine:=false }
abbrev CX0:CXT:=fun _ _ _ _ _ _=>False
abbrev E0:XK:=fun _ _ _=>False
theorem md{X:Cx}:gP CX0 X E0:=fun _ _ _ _ _ _ _ h=>h.elim
structure Fun (K:PySem.W.Frag) (x qual:Str) (st:Stmt) (f:Addr) (fd:FuncData):Prop where
  ex:∃ (oc:Value) (od:Option Addr) (kV doc pm:Value) (an:Option Addr) (cdv ct:Value) (osl:Array (Option Value)),
    fd=PySem.W.fnOf x qual (bh st) (aU st) (ak st) .none kV doc pm an cdv ct/\K.lookup f=some ⟨oc,od,.func fd,osl⟩/\PySem.W.codeIn K cdv qual=true
  kp:PySem.W.keepIn K (.ref f)=true
section
variable {P:Program} {w:World} {K:PySem.W.Frag} {mg:Str->Option Value} {base:Heap}
theorem Fun.ok{x qual:Str}{st:Stmt}{f:Addr}{fd:FuncData}{N ps:List Str}{k:Nat}{sp:Sp}(F:Fun K x qual st f fd)(S:FnScope N ps (ak st))(len:∀ vs H Q E,sp vs H Q E->vs.length=ps.length)(hbody:∀ (cdv:Value) (A:Around) (outer:List Env) (s:Shared) (H:Hp) (vs:List V) (Q:VK) (E:XK),Room k (A.deeper (envOfC qual (ak st) s.heap.objs.size f cdv))->sp vs H Q E ->
      ∃ t,PSs (bu CX0 P w K mg base N qual (ak st) f cdv A outer s H E).nox (aU st) t/\t { nx:=fun _ H'=>Q .non H',rt:=Q } (start N vs) H):FnOk P w K mg base CX0 (k+1) f fd ps sp:=by
  obtain⟨oc,od,kV,doc,pm,an,cdv,ct,osl,rfl,lk,hcd⟩:=F.ex
  refine lZ lk hcd S len fun A outer s H vs Q E hr hsp=>?_
  obtain⟨t,h,q⟩:=hbody cdv A outer s H vs Q E hr hsp
  exact⟨t,h.nox,q⟩
theorem Fun.binds{x qual:Str}{st:Stmt}{f:Addr}{fd:FuncData}{ps:List Str}(F:Fun K x qual st f fd)(h:∀ (kV doc pm:Value) (an:Option Addr) (cdv ct:Value) (us:List Value),us.length=ps.length->bindArgs (PySem.W.fnOf x qual (bh st) (aU st) (ak st) .none kV doc pm an cdv ct) ⟨us,[]⟩=pure (ps.zip us)):Binds K fd ps []:=by
  obtain⟨oc,od,kV,doc,pm,an,cdv,ct,osl,rfl,lk,hcd⟩:=F.ex
  exact .all (h kV doc pm an cdv ct)
theorem aW{x qual:Str}{st:Stmt}{f:Addr}{oc:Value}{od an:Option Addr}{osl:Array (Option Value)}{kV doc pm cdv ct:Value}(l:K.lookup f=some ⟨oc,od,.func (PySem.W.fnOf x qual (bh st) (aU st) (ak st) .none kV doc pm an cdv ct),osl⟩)(c:PySem.W.codeIn K cdv qual=true)(k:PySem.W.keepIn K (.ref f)=true):Fun K x qual st f (PySem.W.fnOf x qual (bh st) (aU st) (ak st) .none kV doc pm an cdv ct):=⟨⟨oc,od,kV,doc,pm,an,cdv,ct,osl,rfl,l,c⟩,k⟩
end
theorem sj{n:Nat}(h:n<=1000):n < sizeLine:=Nat.lt_of_le_of_lt h (by decide)
section
variable {X:Cx}
end
theorem cx{A B:Prop}(h:B):if false=true then A else B:=by
  rw[if_neg Bool.false_ne_true]
  exact h
theorem cy{A B:Prop}(h:A):if true=true then A else B:=by
  rw[if_pos rfl]
  exact h
def Same(H H':Hp):Prop:=∀ b o,H b=some o->H' b=some o
theorem Same.refl(H:Hp):Same H H:=fun _ _ h=>h
theorem Same.trans{H H1 H2:Hp}(a:Same H H1)(b:Same H1 H2):Same H H2:=fun c o h=>b c o (a c o h)
theorem Same.free{H H':Hp}(e:Same H H'){l:Addr}(h:H' l=Option.none):H l=Option.none:=by
  cases q:H l with
  | none=>rfl
  | some o =>
    rw[e l o q] at h
    cases h
theorem Same.seq{K:PySem.W.Frag}{H H':Hp}{a:Addr}{xs:List V}(e:Same H H')(h:SqL K H a xs):SqL K H' a xs:=by
  rcases h with (h | ⟨o,h⟩) | h
  · exact .inl (.inl (e _ _ h))
  · exact .inl (.inr ⟨o,e _ _ h⟩)
  · exact .inr h
end L2
namespace L2
open PySem PySem.Spec PyProof.Rows
end L2
namespace L2
open PySem PySem.Spec PyProof.Rows
section
variable (P:Program) (w:World)
end
section
variable {P:Program} {w:World} {H H':Hp} {h h':Heap} {a:Addr} {o:HO}
end
section
variable {P:Program} {w:World} {H:Hp} {h h':Heap} {x e:Addr} {o':HO}
end
section
variable {fs fs' ex ex':List Addr} {H H1 H2:Hp} {h h1 h2 h':Heap} {a x e:Addr} {o:HO}
end
end L2
namespace L2
open PySem PySem.Spec PyProof.Rows
section
variable {X:Cx} {pins:List (Addr × Obj)} {σ:List (Option V)} {H H':Hp} {s:Shared} {h':Heap}
end
end L2
namespace L2
open PySem PySem.Spec PyProof.Rows
section
variable {X:Cx}
variable {a b:Expr} {ta tb:TE} {pos:Pos}
variable {tA tB':TT} {ai:List Expr}
end
end L2
namespace L2
open PySem PySem.Spec PyProof.Rows
section
variable {X:Cx} {pins:List (Addr × Obj)} {σ:St} {H:Hp} {s:Shared} {a:Addr} {xs ys:List V}
end
section
variable {X:Cx} {pins:List (Addr × Obj)} {σ:St} {H:Hp} {s:Shared} {E:Value->Shared->Prop}
end
section
variable {X:Cx} {st:Stmt} {ai:List Stmt} {t u:TS} {e:Expr} {te:TE} {pos:Pos}
end
section
variable {X:Cx} {pos:Pos}
end
section
variable {X:Cx} {pos:Pos}
end
end L2
namespace L2
open PySem PySem.Spec PyProof.Rows
section
variable {X:Cx} {tg:Expr}
end
end L2
namespace L2
open PySem PySem.Spec PyProof.Rows
section
variable {X:Cx} {a b c:Expr} {ta tb tc:TE} {pos:Pos}
end
section
variable {X:Cx} {a b c:Expr} {ta tb tc:TE} {pos:Pos}
end
end L2
namespace L2
open PySem PySem.Spec PyProof.Rows
section
variable {prog:Program} {w:World} {A:Around} {E:Value->Shared->Prop} {s:Shared} {K:PySem.W.Frag} {x dx C f:Addr} {mA:Str->Option Value} {name:Str} {v:Value}
end
section
variable {P:Program} {w:World} {H H':Hp} {h h':Heap} {a C dx:Addr} {fs fs':List (Str × V)}
end
section
variable {X:Cx} {pins:List (Addr × Obj)} {σ:St} {H:Hp} {s:Shared} {a C dx:Addr} {fs:List (Str × V)} {f:Str} {v:V} {A:Around} {E:Value->Shared->Prop}
end
section
variable {X:Cx} {o e value:Expr} {f:Str} {pos pos' tpos:Pos} {ta tv:TE}
end
section
variable {X:Cx} {pins:List (Addr × Obj)} {σ:St} {H:Hp} {s:Shared} {A:Around} {E:Value->Shared->Prop} {Q:Value->Shared->Prop} {c:Value} {b:Bool}
end
end L2
namespace L2
open PySem PySem.Spec PyProof.Rows
section
variable {X:Cx} {e:Expr} {es:List Expr} {te:TE} {t:TA} {pos:Pos}
end
section
variable {X:Cx} {pins:List (Addr × Obj)} {σ:St} {H:Hp} {s s':Shared}
end
section
variable {X:Cx} {CX:CXT} {k:Nat} {f C:Addr} {fd:FuncData} {ps:List Str} {sp:Sp} {dvs:List V} {ds:List Value} {E:XK} {x m:Str} {p pos apos:Pos} {e o:Expr} {es:List Expr} {ta:TE} {t:TA}
end
section
variable {X:Cx} {CX:CXT} {k:Nat} {f C:Addr} {fd:FuncData} {ps ks:List Str} {sp:Sp} {E:XK} {x m:Str} {p pos apos kpos:Pos} {e o:Expr} {es:List Expr} {kws:List Keyword} {te ta:TE} {t tk:TA} {nm:Option Str}
variable {g:List Value->List Value->List Value} {gV:List V->List V->List V}
end
end L2
namespace L2
open PySem PySem.Spec PyProof.Rows
section
variable {X:Cx} {x:Str} {p pos:Pos} {e:Expr} {es:List Expr} {t:TA} {id T:String} {r:List V->Hp->VK->Prop}
end
end L2
namespace L2
open PySem PySem.Spec PyProof.Rows
section
variable {κ:Type} [DecidableEq κ]
def bn(kvs:List (κ × V))(k:κ):Option V:=(kvs.find? fun kv=>decide (kv.1=k)).map (·.2)
def bb(kvs:List (κ × V))(k:κ)(v:V):List (κ × V) :=
  if (kvs.any fun kv=>decide (kv.1=k))=true then kvs.map (fun kv=>if kv.1=k then (kv.1,v) else kv) else kvs++[(k,v)]
def me(kvs:List (κ × V))(k:κ):List (κ × V):=kvs.filter fun kv=>decide (kv.1 ≠ k)
theorem sk{k:κ}:bn ([]:List (κ × V)) k=none:=rfl
theorem gS{p:κ × V}{r:List (κ × V)}{k:κ}(e:p.1=k):bn (p::r) k=some p.2:=by simp[bn,List.find?_cons,e]
theorem gT{p:κ × V}{r:List (κ × V)}{k:κ}(e:¬ p.1=k):bn (p::r) k=bn r k:=by simp[bn,List.find?_cons,e]
theorem j7(k:κ):∀ kvs:List (κ × V),(kvs.any fun kv=>decide (kv.1=k))=(bn kvs k).isSome
  | []=>rfl
  | p::r=>by
    rw[List.any_cons]
    by_cases e:p.1=k
    · simp only[gS e,decide_eq_true e,Bool.true_or,Option.isSome_some]
    · rw[gT e,decide_eq_false e,Bool.false_or];exact j7 k r
theorem j8(kvs:List (κ × V))(k:κ)(v:V):(bb kvs k v).length<=kvs.length+1:=by
  unfold bb
  split
  · rw[List.length_map];omega
  · rw[List.length_append,List.length_cons,List.length_nil];omega
theorem so{kvs:List (κ × V)}{k:κ}(v:V)(h:bn kvs k=none):bb kvs k v=kvs++[(k,v)]:=by
  unfold bb
  rw[j7,h]
  exact if_neg (by decide)
theorem RelO.isSome_eq{o:Option V}{u:Option Value}(r:RelO o u):o.isSome=u.isSome:=by
  cases o with
  | none=>cases u with
    | none=>rfl
    | some _=>exact (show False from r).elim
  | some _=>cases u with
    | none=>exact (show False from r).elim
    | some _=>rfl
theorem RelO.getD{o:Option V}{u:Option Value}{d:V}{d':Value}(r:RelO o u)(rd:RelV d d'):RelV (o.getD d) (u.getD d'):=by
  cases o with
  | none=>cases u with
    | none=>exact rd
    | some _=>exact (show False from r).elim
  | some _=>cases u with
    | none=>exact (show False from r).elim
    | some _=>exact r
theorem KV.val{kvs:List (κ × V)}{vs:List (κ × Value)}(r:KV kvs vs)(k:κ):RelO (bn kvs k) (valueAt vs k):=by
  unfold KV at r
  induction r with
  | nil=>exact True.intro
  | @cons p q ps qs h t ih =>
    obtain⟨h1,h2⟩:=h
    by_cases e:p.1=k
    · have e':q.1=k:=h1.symm.trans e
      have b:valueAt (q::qs) k=some q.2:=by simp[valueAt,List.find?_cons,e']
      rw[gS e,b];exact h2
    · have e':¬ q.1=k:=fun z=>e (h1.trans z)
      have b:valueAt (q::qs) k=valueAt qs k:=by simp[valueAt,List.find?_cons,e']
      rw[gT e,b];exact ih
theorem KV.any{kvs:List (κ × V)}{vs:List (κ × Value)}(r:KV kvs vs)(k:κ):(kvs.any fun kv=>decide (kv.1=k))=vs.any fun kv=>decide (kv.1=k):=by
  unfold KV at r
  induction r with
  | nil=>rfl
  | cons h t ih=>rw[List.any_cons,List.any_cons,ih,h.1]
theorem KV.repl{kvs:List (κ × V)}{vs:List (κ × Value)}(r:KV kvs vs)(k:κ){y:V}{u:Value}(ry:RelV y u):
    KV (kvs.map fun kv=>if kv.1=k then (kv.1,y) else kv) (vs.map fun kv=>if kv.1=k then (kv.1,u) else kv):=by
  unfold KV at r ⊢
  induction r with
  | nil=>exact .nil
  | @cons p q ps qs h t ih =>
    rw[List.map_cons,List.map_cons]
    refine .cons ?_ ih
    obtain⟨h1,h2⟩:=h
    by_cases e:p.1=k
    · rw[if_pos e,if_pos (h1.symm.trans e)];exact⟨h1,ry⟩
    · rw[if_neg e,if_neg (fun z=>e (h1.trans z))];exact⟨h1,h2⟩
theorem KV.put{kvs:List (κ × V)}{vs:List (κ × Value)}(r:KV kvs vs)(k:κ){y:V}{u:Value}(ry:RelV y u):KV (bb kvs k y) (stored vs k u):=by
  unfold bb stored
  rw[r.any k]
  by_cases e:(vs.any fun kv=>decide (kv.1=k))=true
  · rw[if_pos e,if_pos e];exact r.repl k ry
  · rw[if_neg e,if_neg e];exact Paired.snoc r ⟨rfl,ry⟩
theorem KV.drop{kvs:List (κ × V)}{vs:List (κ × Value)}(r:KV kvs vs)(k:κ):KV (me kvs k) (without vs k):=by
  unfold KV at r ⊢
  unfold me without
  induction r with
  | nil=>exact .nil
  | @cons p q ps qs h t ih =>
    obtain⟨h1,h2⟩:=h
    rw[List.filter_cons,List.filter_cons]
    by_cases e:p.1=k
    · have a:¬ decide (p.1 ≠ k)=true:=by simp[e]
      have b:¬ decide (q.1 ≠ k)=true:=by simp[h1.symm.trans e]
      rw[if_neg a,if_neg b];exact ih
    · have e':¬ q.1=k:=fun z=>e (h1.trans z)
      have a:decide (p.1 ≠ k)=true:=by simp[e]
      have b:decide (q.1 ≠ k)=true:=by simp[e']
      rw[if_pos a,if_pos b];exact .cons ⟨h1,h2⟩ ih
theorem KV.keys{kvs:List (κ × V)}{vs:List (κ × Value)}(r:KV kvs vs):kvs.map (·.1)=vs.map (·.1):=by
  unfold KV at r
  induction r with
  | nil=>rfl
  | cons h t ih=>rw[List.map_cons,List.map_cons,ih,h.1]
theorem KV.length{kvs:List (κ × V)}{vs:List (κ × Value)}(r:KV kvs vs):kvs.length=vs.length:=Paired.length r
end
theorem gU{P:Program}{w:World}{k:Key}{u:Value}(r:RelV (kV k) u):(bz P w).is k u=true:=by
  cases k with
  | inl i=>obtain⟨t,e⟩:=(show ∃ t,u=Value.int i t from r);subst e;exact qd P w i t
  | inr x=>obtain⟨t,e⟩:=(show ∃ t,u=Value.str x t from r);subst e;exact qe P w x t
theorem mf{P:Program}{w:World}:∀ {ks:List Key} {us:List Value},Vals (ks.map kV) us->ItemsAre (bz P w) ks us
  | [],_,r=>by rw[List.map_nil] at r;cases r;exact .nil
  | k::ks,_,r=>by
    rw[List.map_cons] at r
    cases r with
    | cons h t=>exact .cons (gU h) (mf t)
abbrev KT(H:Hp):List (List Key × V)->List (List Key × Addr × Value)->Prop:=Paired fun p q=>p.1=q.1/\H q.2.1=some (.tup (p.1.map kV))/\RelV p.2 q.2.2
theorem KT.val{H:Hp}{kvs:List (List Key × V)}{xs:List (List Key × Addr × Value)}(r:KT H kvs xs)(k:List Key):RelO (bn kvs k) ((atKey xs k).map (·.2)):=by
  induction r with
  | nil=>exact True.intro
  | @cons p q ps qs h t ih =>
    obtain⟨h1,_,h2⟩:=h
    by_cases e:p.1=k
    · have e':q.1=k:=h1.symm.trans e
      have b:atKey (q::qs) k=some q.2:=by simp[atKey,List.find?_cons,e']
      rw[gS e,b];exact h2
    · have e':¬ q.1=k:=fun z=>e (h1.trans z)
      have b:atKey (q::qs) k=atKey qs k:=by simp[atKey,List.find?_cons,e']
      rw[gT e,b];exact ih
theorem KT.repl{H:Hp}{kvs:List (List Key × V)}{xs:List (List Key × Addr × Value)}(r:KT H kvs xs)(k:List Key){y:V}{u:Value}(ry:RelV y u):
    KT H (kvs.map fun kv=>if kv.1=k then (kv.1,y) else kv) (xs.map (putAt k u)):=by
  induction r with
  | nil=>exact .nil
  | @cons p q ps qs h t ih =>
    rw[List.map_cons,List.map_cons]
    refine .cons ?_ ih
    obtain⟨h1,h2,h3⟩:=h
    unfold putAt
    by_cases e:p.1=k
    · rw[if_pos e,if_pos (h1.symm.trans e)];exact⟨h1,h2,ry⟩
    · rw[if_neg e,if_neg (fun z=>e (h1.trans z))];exact⟨h1,h2,h3⟩
theorem KT.put{H:Hp}{kvs:List (List Key × V)}{xs:List (List Key × Addr × Value)}(r:KT H kvs xs)(k:List Key){b:Addr}{y:V}{u:Value}(hb:H b=some (.tup (k.map kV)))(ry:RelV y u):
    KT H (bb kvs k y) (storedH xs k b u):=by
  have e:(kvs.any fun kv=>decide (kv.1=k))=(atKey xs k).isSome:=by
    rw[j7,(r.val k).isSome_eq,Option.isSome_map]
  unfold bb storedH
  rw[e]
  by_cases q:(atKey xs k).isSome=true
  · rw[if_pos q,if_pos q];exact r.repl k ry
  · rw[if_neg q,if_neg q];exact Paired.snoc r ⟨rfl,hb,ry⟩
theorem KT.keeps{H H':Hp}{kvs:List (List Key × V)}{xs:List (List Key × Addr × Value)}(r:KT H kvs xs)(ht:∀ b ys,H b=some (.tup ys)->H' b=some (.tup ys)):KT H' kvs xs :=
  Paired.mapP r fun _ _ z=>⟨z.1,ht _ _ z.2.1,z.2.2⟩
section
variable {P:Program} {w:World} {H:Hp} {h:Heap} {a:Addr}
theorem mh{u:HO}(ok:HOk P w H h)(e:Rd H a u):ObjOk P w H h a u:=e.ok ok
theorem gW{kvs:List (Key × V)}(ok:HOk P w H h)(e:Rd H a (.dK kvs)):kvs.length<=sizeLine/\(a == sysModules)=false/\∃ vs,KV kvs vs/\h.DictOf (bz P w) a vs :=
  show ObjOk P w H h a (.dK kvs) from mh ok e
theorem mj{kvs:List (Key × V)}(ok:HOk P w H h)(e:H a=some (.dK kvs)):kvs.length<=sizeLine/\(a == sysModules)=false/\∃ vs,KV kvs vs/\h.DictOf (bz P w) a vs:=gW ok (.inl e)
theorem j9{ks:List Key}(ok:HOk P w H h)(e:H a=some (.tup (ks.map kV))):(tupleKind (bz P w)).is h ks a:=by
  obtain⟨_,its,r,o,h1,h2,n,h3⟩:=(show ObjOk P w H h a (.tup (ks.map kV)) from ok a _ e)
  exact⟨o,its.toArray,n,h1,h2,h3,by simpa using mf r⟩
theorem ja{kvs:List (List Key × V)}(ok:HOk P w H h)(e:Rd H a (.dT kvs)):kvs.length<=sizeLine/\(a == sysModules)=false /\
    ∃ xs,KT H kvs xs/\h.DictOfH (tupleKind (bz P w)) a xs:=by
  obtain⟨z,y,xs,r,o,es,ep,h1,h2,h3,h4,h5⟩:=(show ObjOk P w H h a (.dT kvs) from mh ok e)
  refine⟨z,y,xs,r,o,es,ep,h1,h2,h3,h4,fun x hx=>?_,h5⟩
  have all:∀ {l:List (List Key × V)} {m:List (List Key × Addr × Value)},KT H l m->∀ x ∈ m,(tupleKind (bz P w)).is h x.1 x.2.1:=by
    intro l m q
    induction q with
    | nil=>intro x hx;exact nomatch hx
    | @cons p q ps qs hq t ih =>
      intro x hx
      rcases List.mem_cons.mp hx with e | hx
      · subst e
        exact j9 ok (by rw[<- hq.1];exact hq.2.1)
      · exact ih x hx
  exact all r x hx
theorem sq{kvs:List (List Key × V)}(ok:HOk P w H h)(e:H a=some (.dT kvs)):kvs.length<=sizeLine/\(a == sysModules)=false /\
    ∃ xs,KT H kvs xs/\h.DictOfH (tupleKind (bz P w)) a xs:=ja ok (.inl e)
end
def DGet(H:Hp)(a:Addr)(y:V)(r:Option V):Prop :=
  (∃ kvs k,Rd H a (.dK kvs)/\y=kV k/\r=bn kvs k)\/∃ kvs k b,Rd H a (.dT kvs)/\y=.ref b/\H b=some (.tup (k.map kV))/\r=bn kvs k
def DPut(H:Hp)(a:Addr)(y v:V)(H':Hp):Prop :=
  (∃ kvs k,H a=some (.dK kvs)/\y=kV k/\kvs.length < sizeLine/\H'=upd H a (.dK (bb kvs k v))) \/
  ∃ kvs k b,H a=some (.dT kvs)/\y=.ref b/\H b=some (.tup (k.map kV))/\kvs.length < sizeLine/\H'=upd H a (.dT (bb kvs k v))
theorem DGet.k{H:Hp}{a:Addr}{kvs:List (Key × V)}{k:Key}(e:H a=some (.dK kvs)):DGet H a (kV k) (bn kvs k):=.inl ⟨kvs,k,.inl e,rfl,rfl⟩
theorem DGet.t{H:Hp}{a b:Addr}{kvs:List (List Key × V)}{k:List Key}(e:H a=some (.dT kvs))(eb:H b=some (.tup (k.map kV))):DGet H a (.ref b) (bn kvs k):=.inr ⟨kvs,k,b,.inl e,rfl,eb,rfl⟩
theorem DPut.k{H:Hp}{a:Addr}{kvs:List (Key × V)}{k:Key}{v:V}(e:H a=some (.dK kvs))(hl:kvs.length < sizeLine):DPut H a (kV k) v (upd H a (.dK (bb kvs k v))):=.inl ⟨kvs,k,e,rfl,hl,rfl⟩
theorem DPut.t{H:Hp}{a b:Addr}{kvs:List (List Key × V)}{k:List Key}{v:V}(e:H a=some (.dT kvs))(eb:H b=some (.tup (k.map kV)))(hl:kvs.length < sizeLine):
    DPut H a (.ref b) v (upd H a (.dT (bb kvs k v))):=.inr ⟨kvs,k,b,e,rfl,eb,hl,rfl⟩
section
variable {X:Cx} {pins:List (Addr × Obj)} {σ:St} {H:Hp} {s:Shared} {a:Addr} {y v:V} {u r:Value} {o:Option V} {A:Around} {E:Value->Shared->Prop}
theorem Inv.big(I:Inv X pins σ H s):sysModules < s.heap.objs.size:=by
  have h:mainGlobals < s.heap.objs.size:=(I.mod.glob.keeps I.bk).lt
  exact Nat.lt_trans (by decide) h
theorem sr{Q:Value->Shared->Prop}(hu:A.units+1 < cLine)(I:Inv X pins σ H s)(g:DGet H a y (some v))(ry:RelV y u)(h:∀ w' s',Inv X pins σ H s'->RelV v w'->Q w' s'):
    wpAny (model X.prog X.w) A (getItem (.ref a) u) Q E s:=by
  rcases g with⟨kvs,k,e,ey,l⟩ | ⟨kvs,k,b,e,ey,eb,l⟩
  · subst ey
    obtain⟨z,hd,vs,rel,dd⟩:=gW I.hok e
    obtain⟨w',hw,rw'⟩:=RelO.some_of (v:=v) (o:=valueAt vs k) (by rw[l];exact rel.val k)
    exact wpAny_getItem_of (gU ry) dd.mapOf hw (h w' _ (I.tok _) rw')
  · subst ey
    cases (show u=Value.ref b from ry)
    obtain⟨z,hd,xs,rel,dd⟩:=ja I.hok e
    obtain⟨w',hw,rw'⟩:=RelO.some_of (v:=v) (o:=(atKey xs k).map (·.2)) (by rw[l];exact rel.val k)
    obtain⟨p,hp,hp2⟩:=Option.map_eq_some_iff.mp hw
    refine wpAny_getItem_heap (tupleKind_room_in1 hu) (j9 I.hok eb) dd hp ?_
    rw[hp2]
    exact h w' _ (I.tok _) rw'
theorem jb{h':Heap}{t':Nat}{ob:HO}(I:Inv X pins σ H s)(mu:Mut (H a))(hs:Heap.SameBut a s.heap h')(he:∃ q,h'.get? a=some q)(new:ObjOk X.prog X.w (upd H a ob) h' a ob):
    Inv X pins σ (upd H a ob) { s with heap:=h',toks:=t' } :=
  I.write (x:=a) (e:=a) mu (.inl rfl) (fun b q hb z=>(hs.2 b hb).trans z) he new
theorem mm{P:Program}{w:World}{H':Hp}{h':Heap}{kvs:List (Key × V)}{vs:List (Key × Value)}(z:kvs.length<=sizeLine)(hd:(a == sysModules)=false)(rel:KV kvs vs)(dd:h'.DictOf (bz P w) a vs):
    ObjOk P w H' h' a (.dK kvs):=⟨z,hd,vs,rel,dd⟩
theorem su{H':Hp}{Q:Unit->Shared->Prop}(hu:A.units+1 < cLine)(I:Inv X pins σ H s)(g:DPut H a y v H')(ry:RelV y u)(rv:RelV v r)(h:∀ s',Inv X pins σ H' s'->Q () s'):
    wpAny (model X.prog X.w) A (setItem (.ref a) u r) Q E s:=by
  rcases g with⟨kvs,k,e,ey,l,eH⟩ | ⟨kvs,k,b,e,ey,eb,l,eH⟩
  · subst ey eH
    obtain⟨z,hd,vs,rel,dd⟩:=mj I.hok e
    have hz:vs.length<=sizeLine:=by rw[<- rel.length];exact z
    have hl:(bb kvs k v).length<=sizeLine:=by have:=j8 kvs k v;omega
    refine wpAny_setItem_pairs (hsz:=hz) (gU ry) dd fun h' dd' hs=>h _ ?_
    have he:∃ q,h'.get? a=some q:=let ⟨q,_,_,hq,_⟩:=dd';⟨q,hq⟩
    exact jb I (by rw[e];exact True.intro) hs he (mm hl hd (rel.put k rv) dd')
  · subst ey eH
    cases (show u=Value.ref b from ry)
    obtain⟨z,hd,xs,rel,dd⟩:=sq I.hok e
    have hz:xs.length<=sizeLine:=by rw[<- Paired.length rel];exact z
    have hl:(bb kvs k v).length<=sizeLine:=by have:=j8 kvs k v;omega
    refine wpAny_setItem_heap (hsz:=hz) (tupleKind_room_in1 hu) (j9 I.hok eb) dd fun h' dd' hs=>h _ ?_
    obtain⟨q,es,ep,hq,h2,h3,h4,_,h5⟩:=dd'
    refine jb I (by rw[e];exact True.intro) hs ⟨q,hq⟩ ⟨hl,hd,_,(rel.put k eb rv).keeps fun c ys ec=>?_,q,es,ep,hq,h2,h3,h4,h5⟩
    rw[au (qf ec e (fun z=>nomatch z))]
    exact ec
end
section
variable {X:Cx} {pins:List (Addr × Obj)} {σ:St} {H:Hp} {s:Shared} {a:Addr} {kvs:List (Key × V)} {k:Key} {u:Value} {A:Around} {E:Value->Shared->Prop}
end
def gX(i:Expr):Prop:=∀ ov iv,subscripted i false ov iv=operate [ov,iv] (getItem ov iv)
theorem sv{prog:Program}{w:World}{A:Around}{E:Value->Shared->Prop}{s:Shared}{env:Env}{value slice:Expr}{pos:Pos}{T id:String}{Q:Value->Shared->Prop}(hl:typeLookup (.type T) "__getitem__" = pure (some (.builtin id)))(hs:gX slice)(h:wpAny (model prog w) A (eval value env) (fun o s₁=>wpAny (model prog w) A (eval slice env) (fun i s₂=>s₂.TypeIs o T/\wpAny (model prog w) A (getItem o i) Q E s₂) E s₁) E s):
    wpAny (model prog w) A (eval (.Subscript value slice pos) env) Q E s:=by
  refine Subscript_ (wpAny_mono h (fun o s₁ h₁=>wpAny_mono h₁ (fun i s₂ h₂=>?_) fun _ _ x=>x) fun _ _ x=>x)
  obtain⟨hT,h₂⟩:=h₂
  unfold subscriptTail
  refine wpAny_bind ?_
  rw[getitemInPython_of_ne hT.not_modules]
  refine wpAny_bind (wpAny_specialOf hT hl ?_)
  have fin:wpAny (model prog w) A (subscripted slice false o i) (fun r s₃=>wpAny (model prog w) A (letTemporaryGo value o r >>= fun _=>pure r) Q E s₃) E s₂:=by
    rw[hs o i]
    exact wpAny_operating (wpAny_mono h₂ (fun r s₃ h₃=>wpAny_bind (wpAny_letTemporaryGo (wpAny_pure h₃))) fun _ _ x=>x)
  first
    | exact wpAny_pure (wpAny_bind fin)
    | exact wpAny_bind (wpAny_pure (wpAny_bind fin))
    | exact wpAny_bind fin
theorem sw{X:Cx}{pins:List (Addr × Obj)}{σ:St}{H:Hp}{s:Shared}{a:Addr}{y:V}{o:Option V}(I:Inv X pins σ H s)(g:DGet H a y o):s.TypeIs (.ref a) "dict":=by
  rcases g with⟨kvs,k,e,_,_⟩ | ⟨kvs,k,b,e,_,_,_⟩
  · obtain⟨_,_,vs,_,dd⟩:=gW I.hok e
    exact dd.typeIs
  · obtain⟨_,_,xs,_,dd⟩:=ja I.hok e
    exact dd.typeIs
def sx(td ty:TE):TE:=fun σ H Q=>td σ H fun x H1=>ty σ H1 fun y H2=>∃ a v,x=.ref a/\DGet H2 a y (some v)/\Q v H2
def sy(td ty tv:TE):TS:=fun D σ H=>tv σ H fun v H1=>td σ H1 fun x H2=>ty σ H2 fun y H3=>∃ a H4,x=.ref a/\DPut H3 a y v H4/\D.nx σ H4
section
variable {X:Cx} {o i e value:Expr} {pos pos' tpos:Pos} {td ty tv:TE}
theorem sA(hu:X.A.units+1 < cLine)(ho:PE X o td)(hi:PE X i ty)(hs:gX i):PE X (.Subscript o i pos) (sx td ty):=by
  intro pins s σ H Q I h
  refine sv PySem.F.slot_dict_getitem.lookup hs (thn (ho pins s σ H _ I h) fun u s1 ⟨x,H1,I1,rx,q1⟩=>thn (hi pins s1 σ H1 _ I1 q1) fun iv s2 ⟨y,H2,I2,ry,a,v,ex,g,q2⟩=>?_)
  subst ex
  obtain rfl:u=Value.ref a:=rx
  exact⟨sw I2 g,sr hu I2 g ry fun w' s3 I3 rw'=>⟨v,H2,I3,rw',q2⟩⟩
theorem sB(hu:X.A.units+1 < cLine)(ho:PE X o td)(hi:PE X i ty)(hv:PE X value tv)(hs:swapsWith value (some (.Subscript o i pos')) pos.line X.env=pure false):
    PS X (.Assign [.Subscript o i pos'] value pos) (sy td ty tv):=by
  intro pins s σ H D I h
  refine wpAny_Assign_Subscript (thn (hv pins s σ H _ I h) fun r s1 ⟨v,H1,I1,rv,q1⟩=>thn (ho pins s1 σ H1 _ I1 q1) fun u s2 ⟨x,H2,I2,rx,q2⟩=>thn (hi pins s2 σ H2 _ I2 q2) fun iv s3 ⟨y,H3,I3,ry,a,H4,ex,g,q3⟩=>?_) hs
  subst ex
  obtain rfl:u=Value.ref a:=rx
  exact su hu I3 g ry rv fun s4 I4=>⟨σ,H4,I4,q3⟩
end
theorem sC{P:Program}{w:World}{H:Hp}(h:Heap)(hb:sysModules < h.objs.size):ObjOk P w H (h.push { cls:=.type "dict",data:=.dict #[] }) h.objs.size (.dK []) :=
  ⟨Nat.zero_le _,beq_eq_false_iff_ne.mpr (Ne.symm (Nat.ne_of_lt hb)),[],.nil,Heap.DictOf.new h⟩
section
variable {X:Cx} {pos:Pos}
end
def gY:List (TE × TE)->St->Hp->(List (V × V)->Hp->Prop)->Prop
  | [],_,H,Q=>Q [] H
  | (tk,tv)::r,σ,H,Q=>tk σ H fun x H1=>tv σ H1 fun y H2=>gY r σ H2 fun ps H3=>Q ((x,y)::ps) H3
abbrev VV:List (V × V)->List (Value × Value)->Prop:=Paired fun p q=>RelV p.1 q.1/\RelV p.2 q.2
def PPs(X:Cx)(pos:Pos)(keys:List (Option Expr))(values:List Expr)(trs:List (TE × TE)):Prop :=
  ∀ (pins:List (Addr × Obj)) (s:Shared) (σ:St) (H:Hp) (Q:List (V × V)->Hp->Prop),Inv X pins σ H s->gY trs σ H Q ->
    wpAny (model X.prog X.w) X.A (evalPairs (pairTrees keys values X.env pos)) (fun vs s'=>∃ ps H',Inv X pins σ H' s'/\VV ps vs/\Q ps H') X.xe s
theorem sD{X:Cx}{pos:Pos}:PPs X pos [] [] []:=fun pins s σ H Q I h=>pairTrees_nil_walk ⟨[],H,I,.nil,h⟩
theorem sE{X:Cx}{pos:Pos}{k v:Expr}{ks:List (Option Expr)}{vs:List Expr}{tk tv:TE}{trs:List (TE × TE)}(hk:PE X k tk)(hv:PE X v tv)(hr:PPs X pos ks vs trs):
    PPs X pos (some k::ks) (v::vs) ((tk,tv)::trs):=fun pins s σ H Q I h =>
  pairTrees_cons_walk (thn (hk pins s σ H _ I h) fun u s1 ⟨x,H1,I1,rx,q1⟩=>thn (hv pins s1 σ H1 _ I1 q1) fun w2 s2 ⟨y,H2,I2,ry,q2⟩ =>
    thn (hr pins s2 σ H2 _ I2 q2) fun ws s3 ⟨ps,H3,I3,rel,q3⟩=>⟨(x,y)::ps,H3,I3,.cons ⟨rx,ry⟩ rel,q3⟩)
def cP(kvs more:List (Key × V)):List (Key × V):=more.foldl (fun acc kv=>bb acc kv.1 kv.2) kvs
theorem KV.merge:∀ {more:List (Key × V)} {rs:List (Key × Value)} {kvs:List (Key × V)} {vs:List (Key × Value)},KV more rs->KV kvs vs->KV (cP kvs more) (merged vs rs):=by
  intro more rs kvs vs r
  unfold KV at r
  induction r generalizing kvs vs with
  | nil=>intro q;exact q
  | @cons p q ps qs h t ih =>
    intro r0
    have e:KV (bb kvs p.1 p.2) (stored vs q.1 q.2):=by
      have:=r0.put p.1 h.2
      rw[<- h.1];exact this
    exact ih e
theorem mn:∀ (more kvs:List (Key × V)),(cP kvs more).length<=kvs.length+more.length
  | [],kvs=>by show kvs.length<=kvs.length+0;omega
  | p::r,kvs=>by
    have h1:=mn r (bb kvs p.1 p.2)
    have h2:=j8 kvs p.1 p.2
    show (cP (bb kvs p.1 p.2) r).length<=_
    rw[List.length_cons];omega
theorem mo{P:Program}{w:World}:∀ {kvs:List (Key × V)} {ws:List (Value × Value)},VV (kvs.map fun kv=>(kV kv.1,kv.2)) ws->∃ rs,Carries (bz P w) ws rs/\KV kvs rs
  | [],_,r=>by rw[List.map_nil] at r;cases r;exact⟨[],True.intro,.nil⟩
  | p :: kvs,_,r=>by
    rw[List.map_cons] at r
    cases r with
    | @cons a b as bs h t =>
      obtain⟨rs,c,q⟩:=mo (P:=P) (w:=w) t
      obtain⟨b1,b2⟩:=b
      exact⟨(p.1,b2)::rs,⟨gU h.1,rfl,c⟩,.cons ⟨rfl,h.2⟩ q⟩
def sF(trs:List (TE × TE)):TE:=fun σ H Q=>∀ p,H p=none->gY trs σ (upd H p (.dK [])) fun ps H2=>H2 p=some (.dK [])/\∃ kvs:List (Key × V),ps=kvs.map (fun kv=>(kV kv.1,kv.2))/\kvs.length<=15/\Q (.ref p) (upd H2 p (.dK (cP [] kvs)))
theorem sG{X:Cx}{pos:Pos}{keys:List (Option Expr)}{values:List Expr}{trs:List (TE × TE)}(h:PPs X pos keys values trs)(hall:keys.all (·.isSome)=true)(hl:keys.length=values.length)(h0:keys ≠ [])(h15:keys.length<=15):PE X (.Dict keys values pos) (sF trs):=by
  intro pins s σ H Q I q
  have hn:=I.hok.fresh (Nat.le_refl s.heap.objs.size)
  have I1:=I.laid (a:=s.heap.objs.size) (o:=.dK []) (h':=s.heap.push { cls:=.type "dict",data:=.dict #[] }) (t':=s.toks) (fun _ _ q=>Heap.get?_push_of_some _ q) (Nat.le_refl _) (sC s.heap I.big)
  refine wpAny_Dict_walk (knd:=bz X.prog X.w) hall hl h0 h15 (thn (h pins _ σ _ _ I1 (q _ hn)) fun ws s2 ⟨ps,H2,I2,rel,e,kvs,ep,lk,q2⟩=>?_)
  subst ep
  obtain⟨rs,c,rk⟩:=mo (P:=X.prog) (w:=X.w) rel
  obtain⟨z,hd,vs0,r0,dd⟩:=mj I2.hok e
  cases r0
  refine⟨rs,c,dd,fun h' dd' hs=>⟨.ref s.heap.objs.size,_,?_,rfl,q2⟩⟩
  have hz:(cP [] kvs).length<=sizeLine:=by
    have h1:=mn kvs []
    rw[List.length_nil] at h1
    rw[sizeLine_eq];omega
  have he:∃ q,h'.get? s.heap.objs.size=some q:=let ⟨q,_,_,hq,_⟩:=dd';⟨q,hq⟩
  exact jb I2 (by rw[e];exact True.intro) hs he (mm hz hd (rk.merge .nil) dd')
structure M1 (X:Cx) (o:Expr) (m:Str) (apos:Pos) (e:Expr) (cpos:Pos):Prop where
  base:attributeBase o m X.env (eval o X.env)=eval o X.env
  few:((backTo cpos (starEach [e] X.env)).all (fun x=>!x.1) && (backToKw cpos (keywordEach [] X.env)).all (fun x=>x.1.isSome)
    && decide (([e]:List Expr).length+([]:List Keyword).length+(if ([]:List Keyword).isEmpty then 0 else 1) < 30))=true
  line:(apos.endLine == cpos.line)=true
  trees:backTo cpos (starEach [e] X.env)=[(false,eval e X.env)]
structure M2 (X:Cx) (o:Expr) (m:Str) (apos:Pos) (e f:Expr) (cpos:Pos):Prop where
  base:attributeBase o m X.env (eval o X.env)=eval o X.env
  few:((backTo cpos (starEach [e,f] X.env)).all (fun x=>!x.1) && (backToKw cpos (keywordEach [] X.env)).all (fun x=>x.1.isSome)
    && decide (([e,f]:List Expr).length+([]:List Keyword).length+(if ([]:List Keyword).isEmpty then 0 else 1) < 30))=true
  line:(apos.endLine == cpos.line)=true
  trees:backTo cpos (starEach [e,f] X.env)=[(false,eval e X.env),(false,eval f X.env)]
section
variable {X:Cx} {pins:List (Addr × Obj)} {σ:St} {H:Hp} {s:Shared} {a:Addr} {y d:V} {u r:Value} {o:Option V} {A:Around} {E:Value->Shared->Prop}
end
section
variable {X:Cx} {o e f:Expr} {apos cpos:Pos} {td ty tx:TE}
end
section
variable {X:Cx} {pins:List (Addr × Obj)} {σ:St} {H:Hp} {s:Shared} {a:Addr} {kvs:List (Key × V)} {A:Around} {E:Value->Shared->Prop}
end
section
variable {X:Cx} {pins:List (Addr × Obj)} {σ:St} {H:Hp} {s:Shared} {a:Addr} {y:V} {u:Value} {A:Around} {E:Value->Shared->Prop}
end
end L2
namespace Att
open PySem PySem.W PySem.Calls PyProof.Rows
section
variable {prog:Program} {w:World} {A:Around} {E:Value->Shared->Prop} {s:Shared} {K:Frag}
end
end Att
namespace L2
open PySem PySem.Spec PyProof.Rows
end L2
namespace L2
open PySem PySem.Spec PyProof.Rows
end L2
namespace L2
open PySem PySem.Spec PyProof.Rows
section
variable {P:Program} {w:World} {K:PySem.W.Frag} {mg:Str->Option Value} {base:Heap}
end
section
variable {X:Cx}
end
section
variable {κ:Type} [DecidableEq κ]
end
end L2
namespace VL
open PySem PySem.Spec PyProof.Rows L2
abbrev St:=L2.St
inductive D where
  | non | bl (b:Bool) | int (i:Int) | str (x:Str) | lst (xs:List D) | tup (xs:List D)
  | scr (ns:List Int)
  | dct (fz:Bool) (kvs:List (Int × Int))
  | ptr (a:Nat)
def gZ(kvs:List (Int × Int)):List (Key × V):=kvs.map fun p=>(Sum.inl p.1,V.int p.2)
def DRd(H:Hp)(a:Addr)(fz:Bool)(kvs:List (Int × Int)):Prop:=(fz=true/\∃ o,H a=some (.frz o (.dK (gZ kvs))))\/(fz=false/\H a=some (.dK (gZ kvs)))
theorem DRd.same{H H':Hp}{a:Addr}{fz:Bool}{kvs:List (Int × Int)}(e:Same H H')(h:DRd H a fz kvs):DRd H' a fz kvs:=by
  rcases h with⟨z,o,h⟩ | ⟨z,h⟩
  · exact .inl ⟨z,o,e _ _ h⟩
  · exact .inr ⟨z,e _ _ h⟩
theorem DRd.rd{H:Hp}{a:Addr}{fz:Bool}{kvs:List (Int × Int)}(h:DRd H a fz kvs):Rd H a (.dK (gZ kvs)):=by
  rcases h with⟨_,o,h⟩ | ⟨_,h⟩
  · exact .inr ⟨o,h⟩
  · exact .inl h
mutual
inductive Rep (K:PySem.W.Frag) (H:Hp):V->D->Prop where
  | non:Rep K H V.non D.non
  | bl (b:Bool):Rep K H (V.bl b) (D.bl b)
  | int (i:Int):Rep K H (V.int i) (D.int i)
  | str (x:Str):Rep K H (V.str x) (D.str x)
  | lst {a:Addr} {xs:List V} {ds:List D}:Rd H a (.lst xs)->Reps K H xs ds->Rep K H (V.ref a) (D.lst ds)
  | tup {a:Addr} {xs:List V} {ds:List D}:H a=some (.tup xs)->Reps K H xs ds->Rep K H (V.ref a) (D.tup ds)
  | scr {a:Addr} {ns:List Int}:SqL K H a (ns.map V.int)->Rep K H (V.ref a) (D.scr ns)
  | dct {a:Addr} {fz:Bool} {kvs:List (Int × Int)}:DRd H a fz kvs->Rep K H (V.ref a) (D.dct fz kvs)
  | ptr (a:Addr):Rep K H (V.ref a) (D.ptr a)
inductive Reps (K:PySem.W.Frag) (H:Hp):List V->List D->Prop where
  | nil:Reps K H [] []
  | cons {v:V} {d:D} {vs:List V} {ds:List D}:Rep K H v d->Reps K H vs ds->Reps K H (v::vs) (d::ds)
end
theorem cz{H H':Hp}{a:Addr}{u:HO}(e:Same H H')(h:Rd H a u):Rd H' a u:=by
  rcases h with h | ⟨o,h⟩
  · exact .inl (e _ _ h)
  · exact .inr ⟨o,e _ _ h⟩
theorem bU{H:Hp}{a:Addr}{u:HO}(h:H a=some u):Rd H a u:=.inl h
theorem d7{H:Hp}{a:Addr}{xs ys:List V}(h:Rd H a (.lst xs))(h':Rd H a (.lst ys)):xs=ys:=by
  rcases h with h | ⟨o,h⟩ <;> rcases h' with h' | ⟨o',h'⟩ <;> rw[h] at h' <;> cases h' <;> rfl
theorem hG{H:Hp}{a:Addr}{xs ys:List V}(h:Rd H a (.tup xs))(h':Rd H a (.tup ys)):xs=ys:=by
  rcases h with h | ⟨o,h⟩ <;> rcases h' with h' | ⟨o',h'⟩ <;> rw[h] at h' <;> cases h' <;> rfl
theorem mq{H:Hp}{a:Addr}{xs ys:List V}(h:Rd H a (.lst xs))(h':Rd H a (.tup ys)):False:=by
  rcases h with h | ⟨o,h⟩ <;> rcases h' with h' | ⟨o',h'⟩ <;> rw[h] at h' <;> cases h'
theorem ar{K:PySem.W.Frag}{H H':Hp}(e:Same H H'){v:V}{d:D}(h:Rep K H v d):Rep K H' v d :=
  Rep.rec (motive_1:=fun v d _=>Rep K H' v d) (motive_2:=fun vs ds _=>Reps K H' vs ds)
    .non (fun b=>.bl b) (fun i=>.int i) (fun x=>.str x) (fun h _ ih=>.lst (cz e h) ih) (fun h _ ih=>.tup (e _ _ h) ih) (fun h=>.scr (e.seq h)) (fun h=>.dct (h.same e)) (fun a=>.ptr a)
    .nil (fun _ _ ih1 ih2=>.cons ih1 ih2) h
theorem aK{K:PySem.W.Frag}{H H':Hp}(e:Same H H'){vs:List V}{ds:List D}(h:Reps K H vs ds):Reps K H' vs ds :=
  Reps.rec (motive_1:=fun v d _=>Rep K H' v d) (motive_2:=fun vs ds _=>Reps K H' vs ds)
    .non (fun b=>.bl b) (fun i=>.int i) (fun x=>.str x) (fun h _ ih=>.lst (cz e h) ih) (fun h _ ih=>.tup (e _ _ h) ih) (fun h=>.scr (e.seq h)) (fun h=>.dct (h.same e)) (fun a=>.ptr a)
    .nil (fun _ _ ih1 ih2=>.cons ih1 ih2) h
section
variable {K:PySem.W.Frag} {H:Hp}
theorem Reps.length:∀ {vs:List V} {ds:List D},Reps K H vs ds->vs.length=ds.length
  | [],_,h=>by cases h;rfl
  | _::vs,_,h=>by cases h with | cons _ t=>simp[Reps.length t]
theorem Reps.append:∀ {vs ws:List V} {ds es:List D},Reps K H vs ds->Reps K H ws es->Reps K H (vs++ws) (ds++es)
  | [],_,_,_,h,h2=>by cases h;exact h2
  | _::_,_,_,_,h,h2=>by cases h with | cons a t=>exact .cons a (Reps.append t h2)
theorem Reps.get:∀ {vs:List V} {ds:List D} {i:Nat} {d:D},Reps K H vs ds->ds[i]?=some d->∃ v,vs[i]?=some v/\Rep K H v d
  | [],_,_,_,h,e=>by cases h;simp at e
  | _::_,_,0,_,h,e=>by cases h with | cons a t=>simp at e;subst e;exact⟨_,rfl,a⟩
  | _ :: _,_,i+1,_,h,e=>by
    cases h with
    | cons a t =>
      obtain⟨v,e1,r⟩:=Reps.get (i:=i) t (by simpa using e)
      exact⟨v,by simpa using e1,r⟩
theorem Reps.getV:∀ {vs:List V} {ds:List D} {i:Nat} {v:V},Reps K H vs ds->vs[i]?=some v->∃ d,ds[i]?=some d/\Rep K H v d
  | [],_,_,_,h,e=>by simp at e
  | _::_,_,0,_,h,e=>by cases h with | cons a t=>simp at e;subst e;exact⟨_,rfl,a⟩
  | _ :: _,_,i+1,_,h,e=>by
    cases h with
    | cons a t =>
      obtain⟨v,e1,r⟩:=Reps.getV (i:=i) t (by simpa using e)
      exact⟨v,by simpa using e1,r⟩
theorem Reps.take:∀ {vs:List V} {ds:List D} (n:Nat),Reps K H vs ds->Reps K H (vs.take n) (ds.take n)
  | _,_,0,_=>by simpa using Reps.nil
  | [],_,n+1,h=>by cases h;simpa using Reps.nil
  | _::_,_,n+1,h=>by cases h with | cons a t=>exact .cons a (Reps.take n t)
theorem Reps.drop:∀ {vs:List V} {ds:List D} (n:Nat),Reps K H vs ds->Reps K H (vs.drop n) (ds.drop n)
  | _,_,0,h=>by simpa using h
  | [],_,n+1,h=>by cases h;simpa using Reps.nil
  | _::_,_,n+1,h=>by cases h with | cons a t=>exact Reps.drop n t
theorem Reps.set{v:V}{d:D}(r:Rep K H v d):∀ {vs:List V} {ds:List D} (i:Nat),Reps K H vs ds->Reps K H (vs.set i v) (ds.set i d)
  | [],_,_,h=>by cases h;simpa using Reps.nil
  | _::_,_,0,h=>by cases h with | cons a t=>exact .cons r t
  | _::_,_,i+1,h=>by cases h with | cons a t=>exact .cons a (Reps.set r i t)
theorem Reps.reverse:∀ {vs:List V} {ds:List D},Reps K H vs ds->Reps K H vs.reverse ds.reverse
  | [],_,h=>by cases h;exact .nil
  | _::_,_,h=>by
    cases h with
    | cons a t=>rw[List.reverse_cons,List.reverse_cons];exact Reps.append (Reps.reverse t) (.cons a .nil)
theorem Reps.ints:∀ ns:List Int,Reps K H (ns.map V.int) (ns.map D.int)
  | []=>.nil
  | n::ns=>.cons (.int n) (Reps.ints ns)
theorem Reps.rep{vs:List V}{ds:List D}(h:Reps K H vs ds):∀ k:Nat,Reps K H (List.replicate k vs).flatten (List.replicate k ds).flatten
  | 0=>.nil
  | k+1=>by rw[List.replicate_succ,List.replicate_succ,List.flatten_cons,List.flatten_cons];exact h.append (Reps.rep h k)
end
noncomputable def ah(H:Hp)(A:Addr->Prop):Hp:=fun b=>@ite _ (A b) (Classical.propDecidable _) none (H b)
theorem sH{H:Hp}{A:Addr->Prop}{b:Addr}(h:A b):ah H A b=none:=by unfold ah;rw[if_pos h]
theorem b7{H:Hp}{A:Addr->Prop}{b:Addr}(h:¬ A b):ah H A b=H b:=by unfold ah;rw[if_neg h]
theorem bV{H:Hp}{A:Addr->Prop}{b:Addr}{o:HO}(h:ah H A b=some o):¬ A b/\H b=some o:=by
  by_cases q:A b
  · rw[sH q] at h;cases h
  · rw[b7 q] at h;exact⟨q,h⟩
theorem aF(H:Hp)(A:Addr->Prop):Same (ah H A) H:=fun _ _ h=>(bV h).2
theorem cb{H H':Hp}{A B:Addr->Prop}(e:Same H H')(s:∀ b,B b->A b):Same (ah H A) (ah H' B):=fun b o h=>by
  obtain⟨n,h⟩:=bV h
  rw[b7 fun q=>n (s b q)]
  exact e b o h
theorem mw{H H':Hp}{A:Addr->Prop}(e:Same H H')(n:∀ b,A b->H b=none):Same H (ah H' A):=fun b o h=>by
  rw[b7 fun q=>by rw[n b q] at h;cases h]
  exact e b o h
abbrev cQ:Addr->Prop:=fun _=>False
theorem jc(H:Hp):Same H (ah H cQ):=mw (fun _ _ h=>h) fun _ h=>h.elim
theorem bC{H:Hp}{p:Addr}(h:H p=none)(o:HO):Same H (upd H p o):=fun b u q=>by rw[au (bt q h)];exact q
def Dom(H:Hp)(A:Addr->Prop):Prop:=∀ b,A b->H b ≠ none
theorem Dom.mono{H H':Hp}{A:Addr->Prop}(d:Dom H A)(e:Same H H'):Dom H' A:=fun b h n=>d b h (e.free n)
theorem Dom.none(H:Hp):Dom H cQ:=fun _ h=>h.elim
theorem Dom.not_new{H:Hp}{A:Addr->Prop}{l:Addr}(d:Dom H A)(h:H l=Option.none):¬ A l:=fun q=>d l q h
def aG:D->Bool
  | .lst _=>false
  | .tup _=>false
  | .scr _=>false
  | .dct _ _=>false
  | .ptr _=>false
  | _=>true
theorem hJ{K:PySem.W.Frag}{H H':Hp}{v:V}{d:D}(s:aG d=true)(h:Rep K H v d):Rep K H' v d:=by
  cases h with
  | non=>exact .non
  | bl b=>exact .bl b
  | int i=>exact .int i
  | str x=>exact .str x
  | lst _ _=>cases s
  | tup _ _=>cases s
  | scr _=>cases s
  | dct _=>cases s
  | ptr a=>cases s
end VL
namespace VL
open PySem PySem.Spec PyProof.Rows L2
abbrev ae:=List (Option D)
abbrev FE:=ae->Option D
inductive Es where
  | full (j:Nat)
  | el (j:Nat)
def EnvR(K:PySem.W.Frag)(H:Hp)(σ:St)(ρ:ae):Prop:=∀ (i:Nat) (d:D),ρ[i]?=some (some d)->∃ v,σ[i]?=some (some v)/\Rep K H v d
theorem EnvR.mono{K:PySem.W.Frag}{H H':Hp}{σ:St}{ρ:ae}(h:EnvR K H σ ρ)(e:Same H H'):EnvR K H' σ ρ:=fun i d q=>by
  obtain⟨v,h1,h2⟩:=h i d q
  exact⟨v,h1,ar e h2⟩
def sI:D->Option Unit
  | .scr _=>some ()
  | .dct _ _=>some ()
  | .ptr _=>some ()
  | _=>none
def ElR(K:PySem.W.Frag)(H:Hp)(A:Addr->Prop)(v:V)(d:D):Prop :=
  (aG d=true\/∃ u,sI d=some u)\/∃ p xs ds,v=V.ref p/\((d=.lst ds/\Rd H p (.lst xs))\/(d=.tup ds/\Rd H p (.tup xs)))/\Reps K (ah H A) xs ds
def Av(K:PySem.W.Frag)(H:Hp)(σ:St)(ρ:ae)(A:Addr->Prop):Es->Prop
  | .full j=>∀ v d,σ[j]?=some (some v)->ρ[j]?=some (some d)->Rep K (ah H A) v d
  | .el j=>∀ v d,σ[j]?=some (some v)->ρ[j]?=some (some d)->ElR K H A v d
theorem bw{H H':Hp}{A:Addr->Prop}(e:Same H H'):Same (ah H A) (ah H' A):=cb e fun _ h=>h
theorem ElR.mono{K:PySem.W.Frag}{H H':Hp}{A:Addr->Prop}{v:V}{d:D}(e:Same H H')(h:ElR K H A v d):ElR K H' A v d:=by
  rcases h with h | ⟨p,xs,ds,h1,h2,h3⟩
  · exact .inl h
  · refine .inr ⟨p,xs,ds,h1,?_,aK (bw e) h3⟩
    rcases h2 with⟨h2,h4⟩ | ⟨h2,h4⟩
    · exact .inl ⟨h2,cz e h4⟩
    · exact .inr ⟨h2,cz e h4⟩
theorem Av.mono{K:PySem.W.Frag}{H H':Hp}{σ:St}{ρ:ae}{A:Addr->Prop}{x:Es}(e:Same H H')(h:Av K H σ ρ A x):Av K H' σ ρ A x:=by
  cases x with
  | full j=>exact fun v d h1 h2=>ar (bw e) (h v d h1 h2)
  | el j=>exact fun v d h1 h2=>(h v d h1 h2).mono e
theorem Rep.el{K:PySem.W.Frag}{H:Hp}{A:Addr->Prop}{v:V}{d:D}(h:Rep K (ah H A) v d):ElR K H A v d:=by
  cases h with
  | non=>exact .inl (.inl rfl)
  | bl b=>exact .inl (.inl rfl)
  | int i=>exact .inl (.inl rfl)
  | str x=>exact .inl (.inl rfl)
  | lst h1 h2=>exact .inr ⟨_,_,_,rfl,.inl ⟨rfl,cz (aF H A) h1⟩,h2⟩
  | tup h1 h2=>exact .inr ⟨_,_,_,rfl,.inr ⟨rfl,cz (aF H A) (bU h1)⟩,h2⟩
  | scr h1=>exact .inl (.inr ⟨_,rfl⟩)
  | dct h1=>exact .inl (.inr ⟨_,rfl⟩)
  | ptr a=>exact .inl (.inr ⟨_,rfl⟩)
structure Post (K:PySem.W.Frag) (σ:St) (ρ:ae) (H:Hp) (es:List Es) (d:D) (v:V) (H':Hp):Prop where
  same:Same H H'
  rep:Rep K H' v d
  av:∀ A,Dom H A->(∀ e ∈ es,Av K H σ ρ A e)->Rep K (ah H' A) v d
structure PostF (K:PySem.W.Frag) (σ:St) (ρ:ae) (H:Hp) (es:List Es) (d:D) (v:V) (H':Hp):Prop where
  same:Same H H'
  new:∃ l xs ds,v=V.ref l/\d=.lst ds/\H l=none/\H' l=some (.lst xs)/\∀ A,Dom H A->(∀ e ∈ es,Av K H σ ρ A e)->Reps K (ah H' fun b=>A b\/b=l) xs ds
theorem Av.none{K:PySem.W.Frag}{H:Hp}{σ:St}{ρ:ae}(hE:EnvR K H σ ρ)(e:Es):Av K H σ ρ cQ e:=by
  have full:∀ (j:Nat) (v:V) (d:D),σ[j]?=some (some v)->ρ[j]?=some (some d)->Rep K (ah H cQ) v d:=fun j v d h1 h2=>by
    obtain⟨v',h3,h4⟩:=hE j d h2
    rw[h1] at h3;cases h3
    exact ar (jc H) h4
  cases e with
  | full j=>exact full j
  | el j=>exact fun v d h1 h2=>(full j v d h1 h2).el
theorem PostF.post{K:PySem.W.Frag}{σ:St}{ρ:ae}{H:Hp}{es:List Es}{d:D}{v:V}{H':Hp}(h:PostF K σ ρ H es d v H')(hE:EnvR K H σ ρ):Post K σ ρ H es d v H':=by
  obtain⟨l,xs,ds,rfl,rfl,hl,hl',h3⟩:=h.new
  have av:∀ A,Dom H A->(∀ e ∈ es,Av K H σ ρ A e)->Rep K (ah H' A) (V.ref l) (.lst ds):=fun A hA ha =>
    .lst (.inl (by rw[b7 (hA.not_new hl)];exact hl')) (aK (cb (fun _ _ q=>q) fun b q=>.inl q) (h3 A hA ha))
  exact⟨h.same,ar (aF H' _) (av cQ (Dom.none H) fun e _=>Av.none hE e),av⟩
def tv(K:PySem.W.Frag)(f:FE)(es:List Es):TE:=fun σ H Q=>∃ ρ d,EnvR K H σ ρ/\f ρ=some d/\∀ v H',Post K σ ρ H es d v H'->Q v H'
def tvF(K:PySem.W.Frag)(f:FE)(es:List Es):TE:=fun σ H Q=>∃ ρ d,EnvR K H σ ρ/\f ρ=some d/\∀ v H',PostF K σ ρ H es d v H'->Q v H'
def tvT(K:PySem.W.Frag)(f:ae->Option Bool):TT:=fun σ H Q=>∃ ρ b,EnvR K H σ ρ/\f ρ=some b/\∀ H',Same H H'->Q b H'
abbrev FEs:=ae->Option (List D)
structure Posts (K:PySem.W.Frag) (σ:St) (ρ:ae) (H:Hp) (es:List Es) (ds:List D) (vs:List V) (H':Hp):Prop where
  same:Same H H'
  rep:Reps K H' vs ds
  av:∀ A,Dom H A->(∀ e ∈ es,Av K H σ ρ A e)->Reps K (ah H' A) vs ds
def tvA(K:PySem.W.Frag)(f:FEs)(es:List Es):TA:=fun σ H Q=>∃ ρ ds,EnvR K H σ ρ/\f ρ=some ds/\∀ vs H',Posts K σ ρ H es ds vs H'->Q vs H'
abbrev VE(X:Cx)(e:Expr)(f:FE)(es:List Es):Prop:=PE X e (tv X.K f es)
abbrev VF(X:Cx)(e:Expr)(f:FE)(es:List Es):Prop:=PE X e (tvF X.K f es)
abbrev VT(X:Cx)(e:Expr)(f:ae->Option Bool):Prop:=PT X e (tvT X.K f)
abbrev VW(X:Cx)(e:Expr)(f:ae->Option Bool):Prop:=PW X e (tvT X.K f)
abbrev VA(X:Cx)(e:List Expr)(f:FEs)(es:List Es):Prop:=PA X e (tvA X.K f es)
theorem aE{X:Cx}{e:Expr}{t t':TE}(h:PE X e t)(i:∀ σ H Q,t' σ H Q->t σ H Q):PE X e t':=fun pins s σ H Q I q=>h pins s σ H Q I (i σ H Q q)
theorem d8{X:Cx}{e:Expr}{t t':TT}(h:PT X e t)(i:∀ σ H Q,t' σ H Q->t σ H Q):PT X e t':=fun pins s σ H Q I q=>h pins s σ H Q I (i σ H Q q)
theorem jd{X:Cx}{e:Expr}{t t':TT}(h:PW X e t)(i:∀ σ H Q,t' σ H Q->t σ H Q):PW X e t':=fun w pins s σ H Q I q=>h w pins s σ H Q I (i σ H Q q)
theorem hU{X:Cx}{e:List Expr}{t t':TA}(h:PA X e t)(i:∀ σ H Q,t' σ H Q->t σ H Q):PA X e t':=fun pos pins s σ H Q I q=>h pos pins s σ H Q I (i σ H Q q)
section
variable {X:Cx} {a b c:Expr} {es ea eb ec:List Es} {fa fb fc:FE} {pos:Pos}
theorem VF.ve{f:FE}(h:VF X a f es):VE X a f es:=aE h fun σ H Q ⟨ρ,d,hE,hf,hQ⟩=>⟨ρ,d,hE,hf,fun v H' p=>hQ v H' (p.post hE)⟩
def aa(i:Nat):FE:=fun ρ=>(ρ[i]?).getD none
theorem mz{i:Nat}{ρ:ae}{d:D}(h:aa i ρ=some d):ρ[i]?=some (some d):=by
  unfold aa at h
  cases e:ρ[i]? with
  | none=>rw[e] at h;cases h
  | some o=>rw[e] at h;simp only[Option.getD_some] at h;rw[h]
theorem sJ(i:Nat){x:Str}{pos:Pos}(hN:X.N[i]?=some x:=by rfl)(hv:Vis X.env.scope x:=by first | exact Or.inl rfl | exact Or.inr (Or.inl rfl) | exact Or.inr (Or.inr rfl))(hd:(x == ("__debug__" : Str))=false:=by decide)(hcd:(x == ("__classdict__" : Str))=false:=by decide):VE X (.Name x pos) (aa i) [.full i] :=
  aE (iO hN hv hd hcd) fun σ H Q ⟨ρ,d,hE,hf,hQ⟩=>by
    have h:=mz hf
    obtain⟨v,hv,r⟩:=hE i d h
    exact⟨v,hv,hQ v H ⟨Same.refl H,r,fun A _ av=>av (.full i) (List.mem_singleton.mpr rfl) v d hv h⟩⟩
def eC(d:D):FE:=fun _=>some d
theorem eG{e:Expr}{v:V}{d:D}(h:PE X e (tC v))(r:∀ H,Rep X.K H v d):VE X e (eC d) [] :=
  aE h fun σ H Q ⟨ρ,d',hE,hf,hQ⟩=>by
    cases hf
    exact hQ v H ⟨Same.refl H,r H,fun A _ _=>r _⟩
theorem sK{i j pos}:VE X (.Constant (.int i) j pos) (eC (.int i)) []:=eG qm fun _=>.int i
theorem sL{i j pos}:VE X (.Constant (.bool i) j pos) (eC (.bl i)) []:=eG qo fun _=>.bl i
theorem mB{j pos}:VE X (.Constant .none j pos) (eC .non) []:=eG qp fun _=>.non
theorem sM{x j pos}:VE X (.Constant (.str x) j pos) (eC (.str x)) []:=eG dE fun _=>.str x
theorem sO{x:Str}{i:Int}{t:Tok}{pos:Pos}(hm:X.mg x=some (.int i t))(hg:Gl X x:=by rfl)(hd:(x == ("__debug__" : Str))=false:=by decide):VE X (.Name x pos) (eC (.int i)) [] :=
  eG (iP (v:=.int i) hg hm ⟨t,rfl⟩ hd) fun _=>.int i
def e2(g:D->D->Option D)(a b:FE):FE:=fun ρ=>(a ρ).bind fun x=>(b ρ).bind fun y=>g x y
def e1(g:D->Option D)(a:FE):FE:=fun ρ=>(a ρ).bind g
theorem bind_some{α β:Type}{o:Option α}{f:α->Option β}{b:β}(h:o.bind f=some b):∃ a,o=some a/\f a=some b:=by
  cases o with
  | none=>cases h
  | some a=>exact⟨a,rfl,h⟩
theorem Post.up{K:PySem.W.Frag}{σ:St}{ρ:ae}{H H1 H2:Hp}{es:List Es}{d:D}{v:V}(h:Post K σ ρ H es d v H1)(e:Same H1 H2):Post K σ ρ H es d v H2 :=
  ⟨h.same.trans e,ar e h.rep,fun A hA ha=>ar (bw e) (h.av A hA ha)⟩
theorem Post.down{K:PySem.W.Frag}{σ:St}{ρ:ae}{H H1 H2:Hp}{es:List Es}{d:D}{v:V}(h:Post K σ ρ H1 es d v H2)(e:Same H H1):Post K σ ρ H es d v H2 :=
  ⟨e.trans h.same,h.rep,fun A hA ha=>h.av A (hA.mono e) fun x hx=>(ha x hx).mono e⟩
def OpV(K:PySem.W.Frag)(r:R2)(g:D->D->Option D):Prop :=
  ∀ (x y:V) (H:Hp) (dx dy d:D) (Q:VK),Rep K H x dx->Rep K H y dy->g dx dy=some d ->
    (∀ v H',Same H H'->Rep K H' v d->(∀ A,Dom H A->Rep K (ah H A) x dx->Rep K (ah H A) y dy->Rep K (ah H' A) v d)->Q v H')->r x y H Q
theorem hV{K:PySem.W.Frag}{r:R2}{g:D->D->Option D}(hr:OpV K r g){σ:St}{H:Hp}{Q:VK}(h:tv K (e2 g fa fb) (ea++eb) σ H Q):tOp r (tv K fa ea) (tv K fb eb) σ H Q:=by
  obtain⟨ρ,d,hE,hf,hQ⟩:=h
  obtain⟨dx,h1,hf⟩:=bind_some hf
  obtain⟨dy,h2,hf⟩:=bind_some hf
  refine⟨ρ,dx,hE,h1,fun x H1 p1=>⟨ρ,dy,hE.mono p1.same,h2,fun y H2 p2=>?_⟩⟩
  have q1:=p1.up p2.same
  have q2:=p2.down p1.same
  refine hr x y H2 dx dy d Q q1.rep q2.rep hf fun v H' e r' av=>hQ v H' ⟨q1.same.trans e,r',fun A hA ha=>?_⟩
  exact av A (hA.mono q1.same) (q1.av A hA fun z hz=>ha z (List.mem_append_left _ hz)) (q2.av A hA fun z hz=>ha z (List.mem_append_right _ hz))
theorem je{op:Operator}{r:R2}{g:D->D->Option D}(ho:OpR X (binaryOp op) r)(hr:OpV X.K r g)(ha:VE X a fa ea)(hb:VE X b fb eb):VE X (.BinOp a op b pos) (e2 g fa fb) (ea++eb) :=
  aE (gN ho ha hb) fun _ _ _ h=>hV hr h
theorem eI{f:FE}(h:VE X a f es)(hs:∀ ρ d,f ρ=some d->aG d=true):VE X a f [] :=
  aE h fun σ H Q ⟨ρ,d,hE,hf,hQ⟩=>⟨ρ,d,hE,hf,fun v H' p=>hQ v H' ⟨p.same,p.rep,fun A _ _=>hJ (hs ρ d hf) p.rep⟩⟩
theorem fS{g:D->D->Option D}(h:∀ x y d,g x y=some d->aG d=true)(fa fb:FE)(ρ:ae)(d:D)(e:e2 g fa fb ρ=some d):aG d=true:=by
  obtain⟨x,_,e⟩:=bind_some e
  obtain⟨y,_,e⟩:=bind_some e
  exact h x y d e
def gI(C:Int->Int->Prop)[∀ i j,Decidable (C i j)](k:Int->Int->D):D->D->Option D
  | .int i,.int j=>if C i j then some (k i j) else none
  | _,_=>none
theorem hW{C C':Int->Int->Prop}[∀ i j,Decidable (C' i j)]{k:Int->Int->D}{kv:Int->Int->V}(K:PySem.W.Frag)(hC:∀ i j,C' i j->C i j)(hk:∀ i j H,Rep K H (kv i j) (k i j)):OpV K (rI C kv) (gI C' k):=by
  intro x y H dx dy d Q rx ry hg hQ
  cases rx <;> cases ry <;> try (unfold gI at hg;cases hg;done)
  rename_i i j
  by_cases c:C' i j
  · simp only[gI,if_pos c] at hg
    cases hg
    exact⟨i,j,rfl,rfl,hC i j c,hQ _ H (Same.refl H) (hk i j H) fun A _ _ _=>hk i j _⟩
  · simp only[gI,if_neg c] at hg
    cases hg
theorem hZ{C':Int->Int->Prop}[∀ i j,Decidable (C' i j)]{k:Int->Int->D}{kv:Int->Int->V}(K:PySem.W.Frag)(hk:∀ i j H,Rep K H (kv i j) (k i j)):OpV K (rI0 kv) (gI C' k):=by
  intro x y H dx dy d Q rx ry hg hQ
  cases rx <;> cases ry <;> try (unfold gI at hg;cases hg;done)
  rename_i i j
  by_cases c:C' i j
  · simp only[gI,if_pos c] at hg
    cases hg
    exact⟨i,j,rfl,rfl,hQ _ H (Same.refl H) (hk i j H) fun A _ _ _=>hk i j _⟩
  · simp only[gI,if_neg c] at hg
    cases hg
abbrev i4(_ _:Int):Prop:=True
def jf(i:Int):Prop:=-18446744073709551616 < i/\i < 18446744073709551616
instance (i:Int):Decidable (jf i):=inferInstanceAs (Decidable (_/\_))
def mid(i:Int):Prop:=i.natAbs.log2 < 4000
instance (i:Int):Decidable (mid i):=inferInstanceAs (Decidable (_ < _))
def okMul(i j:Int):Prop:=jf i\/jf j\/(mid i/\mid j)
instance (i j:Int):Decidable (okMul i j):=inferInstanceAs (Decidable (_\/_))
def fT(_ j:Int):Prop:=0 < j/\mid j
instance (i j:Int):Decidable (fT i j):=inferInstanceAs (Decidable (_/\_))
def i5(_ j:Int):Prop:=0 < j
instance (i j:Int):Decidable (i5 i j):=inferInstanceAs (Decidable (_ < _))
theorem mC{i:Int}(h:mid i):Builtin.Int.intBits i<=4000:=by
  unfold Builtin.Int.intBits
  split
  · exact Nat.zero_le _
  · exact h
theorem okMul.ok{i j:Int}(h:okMul i j):IntMulOk i j:=by
  rcases h with h | h | ⟨h1,h2⟩
  · exact .of_left (intBits_le_64 h.1 h.2)
  · exact .of_right (intBits_le_64 h.1 h.2)
  · exact PyProof.Rows.mulOk_of_bits (mC h1) (mC h2) (by decide)
abbrev bH:=gI i4 fun i j=>.int (i+j)
abbrev fU:=gI i4 fun i j=>.int (i - j)
abbrev d9:=gI okMul fun i j=>.int (i * j)
abbrev eJ:=gI fT fun i j=>.int (i / j)
abbrev cR:=gI i5 fun i j=>.int (i % j)
theorem jh{C:Int->Int->Prop}[∀ i j,Decidable (C i j)]{k:Int->Int->D}(hk:∀ i j,aG (k i j)=true)(x y d:D)(h:gI C k x y=some d):aG d=true:=by
  unfold gI at h
  split at h
  · split at h
    · cases h;exact hk _ _
    · cases h
  · cases h
theorem mD:OpR X (binaryOp .Mult) (rI okMul fun i j=>.int (i * j)):=opI fun _ _ _ _ _ _ _ hc q=>mul_int q hc.ok
theorem sP:OpR X (binaryOp .FloorDiv) (rI fT fun i j=>.int (i / j)):=opI fun i j _ _ _ _ _ hc q=>by
  have h1:(0:Int) < j:=hc.1
  have h2:j.natAbs.log2 < 4000:=hc.2
  exact floordiv_int (by omega) (by rw[Int.fdiv_eq_ediv_of_nonneg i (by omega)];exact q) (.inl (PyProof.noPylong_of_log2 (by omega)))
theorem fV{op:Operator}{r:R2}{C:Int->Int->Prop}[∀ i j,Decidable (C i j)]{k:Int->Int->D}(ho:OpR X (binaryOp op) r)(hr:OpV X.K r (gI C k))(hk:∀ i j,aG (k i j)=true)(ha:VE X a fa ea)(hb:VE X b fb eb):
    VE X (.BinOp a op b pos) (e2 (gI C k) fa fb) []:=eI (je ho hr ha hb) (fS (jh hk) fa fb)
theorem sQ(ha:VE X a fa ea)(hb:VE X b fb eb):VE X (.BinOp a .Add b pos) (e2 bH fa fb) []:=fV lH (hZ X.K fun _ _ _=>.int _) (fun _ _=>rfl) ha hb
theorem sR(ha:VE X a fa ea)(hb:VE X b fb eb):VE X (.BinOp a .Sub b pos) (e2 fU fa fb) []:=fV qT (hZ X.K fun _ _ _=>.int _) (fun _ _=>rfl) ha hb
theorem sS(ha:VE X a fa ea)(hb:VE X b fb eb):VE X (.BinOp a .Mult b pos) (e2 d9 fa fb) []:=fV mD (hW X.K (fun _ _ h=>h) fun _ _ _=>.int _) (fun _ _=>rfl) ha hb
theorem sT(ha:VE X a fa ea)(hb:VE X b fb eb):VE X (.BinOp a .FloorDiv b pos) (e2 eJ fa fb) []:=fV sP (hW X.K (fun _ _ h=>h) fun _ _ _=>.int _) (fun _ _=>rfl) ha hb
theorem sU(ha:VE X a fa ea)(hb:VE X b fb eb):VE X (.BinOp a .Mod b pos) (e2 cR fa fb) []:=fV qU (hW X.K (fun _ _ h=>h) fun _ _ _=>.int _) (fun _ _=>rfl) ha hb
abbrev ltI:=gI i4 fun i j=>.bl (decide (i < j))
abbrev leI:=gI i4 fun i j=>.bl (decide (i<=j))
theorem eK{op:CmpOp}{r:R2}{g:D->D->Option D}(ho:OpR X (compareOp op) r)(hr:OpV X.K r g)(ha:VE X a fa ea)(hb:VE X b fb eb)(hm:behindInMarks op b=false)(hs:∀ x y d,g x y=some d->aG d=true):
    VE X (.Compare a [op] [b] pos) (e2 g fa fb) []:=eI (es:=ea++eb) (aE (iY ho ha hb hm) fun _ _ _ h=>hV hr h) (fS hs fa fb)
def tru:D->Option Bool
  | .bl b=>some b
  | .int i=>some (i != 0)
  | .non=>some false
  | .lst xs=>some (!xs.isEmpty)
  | .tup xs=>some (!xs.isEmpty)
  | .str _=>none
  | .scr ns=>some (!ns.isEmpty)
  | .dct _ _=>none
  | .ptr _=>none
def eT(f:FE):ae->Option Bool:=fun ρ=>(f ρ).bind fun d=>match d with | .bl b=>some b | _=>none
theorem fW{op:CmpOp}{r:R2}{g:D->D->Option D}(ho:OpR X (compareOp op) r)(hr:OpV X.K r g)(ha:VE X a fa ea)(hb:VE X b fb eb)(hm:behindInMarks op b=false):VT X (.Compare a [op] [b] pos) (eT (e2 g fa fb)) :=
  d8 (iZ ho ha hb hm) fun σ H Q ⟨ρ,b,hE,hf,hQ⟩=>by
    obtain⟨d,h1,h2⟩:=bind_some hf
    refine hV hr ⟨ρ,d,hE,h1,fun v H' p=>?_⟩
    cases d <;> simp only at h2 <;> cases h2
    cases p.rep
    exact⟨b,rfl,hQ H' p.same⟩
theorem ji{C':Int->Int->Prop}[∀ i j,Decidable (C' i j)]{k:Int->Int->Bool}(K:PySem.W.Frag):OpV K (rI0 fun i j=>.bl (k i j)) (gI C' fun i j=>.bl (k i j)):=hZ K fun _ _ _=>.bl _
theorem sV(ha:VE X a fa ea)(hb:VE X b fb eb):VE X (.Compare a [.Lt] [b] pos) (e2 ltI fa fb) []:=eK qV (ji X.K) ha hb (cu _) (jh fun _ _=>rfl)
def e3c(g g':D->D->Option D)(a b c:FE):FE:=fun ρ=>(a ρ).bind fun x=>(b ρ).bind fun y=>(g x y).bind fun z=>match z with
  | .bl true=>(c ρ).bind fun w=>g' y w
  | .bl false=>some (.bl false)
  | _=>none
theorem sW{K:PySem.W.Frag}{r r':R2}{g g':D->D->Option D}(hr:OpV K r g)(hr':OpV K r' g')(hs:∀ x y d,g' x y=some d->aG d=true){σ:St}{H:Hp}{Q:VK}(h:tv K (e3c g g' fa fb fc) [] σ H Q):
    lM r r' (tv K fa ea) (tv K fb eb) (tv K fc ec) σ H Q:=by
  obtain⟨ρ,d,hE,hf,hQ⟩:=h
  obtain⟨dx,h1,hf⟩:=bind_some hf
  obtain⟨dy,h2,hf⟩:=bind_some hf
  obtain⟨dz,h3,hf⟩:=bind_some hf
  refine⟨ρ,dx,hE,h1,fun x H1 p1=>⟨ρ,dy,hE.mono p1.same,h2,fun y H2 p2=>?_⟩⟩
  have q1:=p1.up p2.same
  have q2:=p2.down p1.same
  refine hr x y H2 dx dy dz _ q1.rep q2.rep h3 fun v H3 e3 r3 _=>?_
  have e03:=q1.same.trans e3
  cases dz with
  | bl k =>
    cases r3
    refine⟨k,rfl,?_⟩
    cases k with
    | false=>cases hf;exact cx (hQ _ H3 ⟨e03,.bl _,fun A _ _=>.bl _⟩)
    | true =>
      obtain⟨dw,h4,hf⟩:=bind_some hf
      refine cy ⟨ρ,dw,hE.mono e03,h4,fun w H4 p4=>?_⟩
      refine hr' y w H4 dy dw d Q (ar (e3.trans p4.same) q2.rep) p4.rep hf fun v' H' e r' _=>hQ v' H' ⟨(e03.trans p4.same).trans e,r',fun A _ _=>hJ (hs _ _ _ hf) r'⟩
  | _=>cases hf
theorem sX{op op':CmpOp}{r r':R2}{g g':D->D->Option D}(ho:OpR X (compareOp op) r)(ho':OpR X (compareOp op') r')(hr:OpV X.K r g)(hr':OpV X.K r' g')(hs:∀ x y d,g' x y=some d->aG d=true)(ha:VE X a fa ea)(hb:VE X b fb eb)(hc:VE X c fc ec)(hm:lastMarks [op,op'] [b,c]=false:=by with_unfolding_all rfl):VE X (.Compare a [op,op'] [b,c] pos) (e3c g g' fa fb fc) [] :=
  aE (qZ ho ho' ha hb hc hm) fun _ _ _ h=>sW hr hr' hs h
theorem sY(ha:VE X a fa ea)(hb:VE X b fb eb)(hc:VE X c fc ec)(hm:lastMarks [.LtE,.LtE] [b,c]=false:=by with_unfolding_all rfl):VE X (.Compare a [.LtE,.LtE] [b,c] pos) (e3c leI leI fa fb fc) []:=sX lI lI (ji X.K) (ji X.K) (jh fun _ _=>rfl) ha hb hc hm
def cA(f:FE):ae->Option Bool:=fun ρ=>(f ρ).bind tru
theorem mE{K:PySem.W.Frag}{H:Hp}{v:V}{d:D}{k:Bool}(r:Rep K H v d)(h:tru d=some k):j4 K v H k:=by
  cases r with
  | non=>cases h;rfl
  | bl b=>cases h;rfl
  | int i=>cases h;rfl
  | str x=>cases h
  | lst h1 h2 =>
    cases h
    refine .inl ⟨_,.inl h1,?_⟩
    cases h2 <;> rfl
  | tup h1 h2 =>
    cases h
    refine .inr (.inl ⟨_,.inl (bU h1),?_⟩)
    cases h2 <;> rfl
  | @scr a ns h1 =>
    cases h
    exact .inl ⟨_,h1,by cases ns <;> rfl⟩
  | dct h1=>cases h
  | ptr a=>cases h
theorem sZ{f:FE}(h:VE X a f es)(he:∀ whole,isTrue a X.env whole=(do let v <- whole;standAt a.pos;holding [v] (truthy v)):=by intro _;rfl):VT X a (cA f) :=
  d8 (lO h he) fun σ H Q ⟨ρ,b,hE,hf,hQ⟩=>by
    obtain⟨d,h1,h2⟩:=bind_some hf
    exact⟨ρ,d,hE,h1,fun v H' p=>⟨b,mE p.rep h2,hQ H' p.same⟩⟩
def eL(f g:ae->Option Bool):ae->Option Bool:=fun ρ=>(f ρ).bind fun b=>if b=true then g ρ else some false
def bOr(f g:ae->Option Bool):ae->Option Bool:=fun ρ=>(f ρ).bind fun b=>if b=true then some true else g ρ
def cc(f:ae->Option Bool):ae->Option Bool:=fun ρ=>(f ρ).map (!·)
variable {ta tb:ae->Option Bool} {ai:List Expr}
theorem t0(ha:VT X a ta):VW X (.BoolOp .And [a] pos) ta:=qt ha
theorem t3(ha:VT X a ta):VW X (.BoolOp .Or [a] pos) ta:=lh ha
theorem t4(ha:VT X a ta)(hb:VW X (.BoolOp .And (b::ai) pos) tb):VW X (.BoolOp .And (a::b::ai) pos) (eL ta tb) :=
  jd (qu ha hb) fun σ H Q ⟨ρ,b,hE,hf,hQ⟩=>by
    obtain⟨k,h1,h2⟩:=bind_some hf
    refine⟨ρ,k,hE,h1,fun H1 e1=>?_⟩
    cases k with
    | true=>exact cy ⟨ρ,b,hE.mono e1,h2,fun H2 e2=>hQ H2 (e1.trans e2)⟩
    | false=>cases h2;exact cx (hQ H1 e1)
theorem t5(ha:VT X a ta)(hb:VW X (.BoolOp .Or (b::ai) pos) tb):VW X (.BoolOp .Or (a::b::ai) pos) (bOr ta tb) :=
  jd (li ha hb) fun σ H Q ⟨ρ,b,hE,hf,hQ⟩=>by
    obtain⟨k,h1,h2⟩:=bind_some hf
    refine⟨ρ,k,hE,h1,fun H1 e1=>?_⟩
    cases k with
    | false=>exact cx ⟨ρ,b,hE.mono e1,h2,fun H2 e2=>hQ H2 (e1.trans e2)⟩
    | true=>cases h2;exact cy (hQ H1 e1)
theorem t6(h:VW X a ta):VT X a ta:=h.pt
theorem t7(ha:VT X a ta):VT X (.UnaryOp .Not a pos) (cc ta) :=
  d8 (lm ha) fun σ H Q ⟨ρ,b,hE,hf,hQ⟩=>by
    unfold cc at hf
    cases h1:ta ρ with
    | none=>rw[h1] at hf;cases hf
    | some k=>rw[h1] at hf;cases hf;exact⟨ρ,k,hE,h1,hQ⟩
def bc(f g:FE):FE:=fun ρ=>(f ρ).bind fun d=>match d with | .bl true=>g ρ | .bl false=>some (.bl false) | _=>none
def eOr(f g:FE):FE:=fun ρ=>(f ρ).bind fun d=>match d with | .bl false=>g ρ | .bl true=>some (.bl true) | _=>none
theorem t8{op}{f:FE}(h:VE X a f es):VE X (.BoolOp op [a] pos) f es:=ln h
theorem t9(ha:VE X a fa ea)(hb:VE X (.BoolOp .And (b::ai) pos) fb eb):VE X (.BoolOp .And (a::b::ai) pos) (bc fa fb) eb :=
  aE (lp ha hb) fun σ H Q ⟨ρ,d,hE,hf,hQ⟩=>by
    obtain⟨k,h1,h2⟩:=bind_some hf
    refine⟨ρ,k,hE,h1,fun x H1 p1=>?_⟩
    cases k with
    | bl b =>
      cases p1.rep
      refine⟨b,rfl,?_⟩
      cases b with
      | true=>exact cy ⟨ρ,d,hE.mono p1.same,h2,fun v H2 p2=>hQ v H2 (p2.down p1.same)⟩
      | false=>cases h2;exact cx (hQ _ H1 ⟨p1.same,.bl _,fun A _ _=>.bl _⟩)
    | _=>cases h2
theorem tf(ha:VE X a fa ea)(hb:VE X (.BoolOp .Or (b::ai) pos) fb eb):VE X (.BoolOp .Or (a::b::ai) pos) (eOr fa fb) eb :=
  aE (qA ha hb) fun σ H Q ⟨ρ,d,hE,hf,hQ⟩=>by
    obtain⟨k,h1,h2⟩:=bind_some hf
    refine⟨ρ,k,hE,h1,fun x H1 p1=>?_⟩
    cases k with
    | bl b =>
      cases p1.rep
      refine⟨b,rfl,?_⟩
      cases b with
      | false=>exact cx ⟨ρ,d,hE.mono p1.same,h2,fun v H2 p2=>hQ v H2 (p2.down p1.same)⟩
      | true=>cases h2;exact cy (hQ _ H1 ⟨p1.same,.bl _,fun A _ _=>.bl _⟩)
    | _=>cases h2
def aB:FEs:=fun _=>some []
def aj(f:FE)(g:FEs):FEs:=fun ρ=>(f ρ).bind fun d=>(g ρ).bind fun ds=>some (d::ds)
theorem tj:VA X [] aB []:=hU bT fun σ H Q ⟨ρ,ds,hE,hf,hQ⟩=>by
  cases hf
  exact hQ [] H ⟨Same.refl H,.nil,fun _ _ _=>.nil⟩
theorem tm{xs:List Expr}{fs:FEs}(ha:VE X a fa ea)(hr:VA X xs fs eb)(hs:starEach (a::xs) X.env=(false,eval a X.env)::starEach xs X.env:=by rfl):VA X (a::xs) (aj fa fs) (ea++eb) :=
  hU (bB ha hr hs) fun σ H Q ⟨ρ,ds,hE,hf,hQ⟩=>by
    obtain⟨d,h1,hf⟩:=bind_some hf
    obtain⟨dr,h2,hf⟩:=bind_some hf
    cases hf
    refine⟨ρ,d,hE,h1,fun v H1 p1=>⟨ρ,dr,hE.mono p1.same,h2,fun vs H2 p2=>hQ _ H2 ⟨p1.same.trans p2.same,.cons (ar p2.same p1.rep) p2.rep,fun A hA hz=>?_⟩⟩⟩
    exact .cons (ar (bw p2.same) (p1.av A hA fun z q=>hz z (List.mem_append_left _ q))) (p2.av A (hA.mono p1.same) fun z q=>(hz z (List.mem_append_right _ q)).mono p1.same)
def bv(f:FEs):FE:=fun ρ=>(f ρ).bind fun ds=>if ds.length<=1000 then some (.lst ds) else none
theorem mF{n:Nat}(h:n<=1000):n<=sizeLine:=Nat.le_of_lt (sj h)
theorem b6{α:Type}{c:Prop}[Decidable c]{a b:α}(h:(if c then some a else none)=some b):c/\a=b:=by
  by_cases q:c
  · rw[if_pos q] at h;exact⟨q,Option.some.inj h⟩
  · rw[if_neg q] at h;cases h
theorem tq{xs:List Expr}{fs:FEs}(h:VA X xs fs es):VF X (.List xs pos) (bv fs) es :=
  aE (lS h) fun σ H Q ⟨ρ,d,hE,hf,hQ⟩=>by
    obtain⟨ds,h1,hf⟩:=bind_some hf
    obtain⟨hl,rfl⟩:=b6 hf
    refine⟨ρ,ds,hE,h1,fun vs H1 p=>⟨by rw[p.rep.length];exact mF hl,fun l hl1=>hQ _ _ ⟨p.same.trans (bC hl1 _),⟨l,vs,ds,rfl,rfl,p.same.free hl1,ba,fun A hA hz=>?_⟩⟩⟩⟩
    refine aK (fun b o q=>?_) (p.av A hA hz)
    obtain⟨n,q⟩:=bV q
    have ne:b ≠ l:=bt q hl1
    rw[b7 (fun z=>z.elim n ne),au ne]
    exact q
end
end VL
namespace VL
open PySem PySem.Spec PyProof.Rows L2
structure PostB (K:PySem.W.Frag) (σ:St) (ρ:ae) (H:Hp) (es:List Es) (d:D) (v:V) (H':Hp):Prop where
  same:Same H H'
  rep:Rep K H' v d
  av:∀ A,Dom H A->(∀ e ∈ es,Av K H σ ρ A e)->ElR K H' A v d
def tvB(K:PySem.W.Frag)(f:FE)(es:List Es):TE:=fun σ H Q=>∃ ρ d,EnvR K H σ ρ/\f ρ=some d/\∀ v H',PostB K σ ρ H es d v H'->Q v H'
abbrev VB(X:Cx)(e:Expr)(f:FE)(es:List Es):Prop:=PE X e (tvB X.K f es)
theorem PostB.up{K:PySem.W.Frag}{σ:St}{ρ:ae}{H H1 H2:Hp}{es:List Es}{d:D}{v:V}(h:PostB K σ ρ H es d v H1)(e:Same H1 H2):PostB K σ ρ H es d v H2 :=
  ⟨h.same.trans e,ar e h.rep,fun A hA ha=>(h.av A hA ha).mono e⟩
theorem PostB.down{K:PySem.W.Frag}{σ:St}{ρ:ae}{H H1 H2:Hp}{es:List Es}{d:D}{v:V}(h:PostB K σ ρ H1 es d v H2)(e:Same H H1):PostB K σ ρ H es d v H2 :=
  ⟨e.trans h.same,h.rep,fun A hA ha=>h.av A (hA.mono e) fun x hx=>(ha x hx).mono e⟩
section
variable {X:Cx} {a b c:Expr} {es ea eb ec:List Es} {fa fb fc:FE} {pos p2:Pos}
theorem VE.vb(h:VE X a fa es):VB X a fa es:=aE h fun σ H Q ⟨ρ,d,hE,hf,hQ⟩=>⟨ρ,d,hE,hf,fun v H' p=>hQ v H' ⟨p.same,p.rep,fun A hA ha=>(p.av A hA ha).el⟩⟩
theorem tu(i:Nat){x:Str}{pos:Pos}(hN:X.N[i]?=some x:=by rfl)(hv:Vis X.env.scope x:=by first | exact Or.inl rfl | exact Or.inr (Or.inl rfl) | exact Or.inr (Or.inr rfl))(hd:(x == ("__debug__" : Str))=false:=by decide)(hcd:(x == ("__classdict__" : Str))=false:=by decide):VB X (.Name x pos) (aa i) [.el i] :=
  aE (iO hN hv hd hcd) fun σ H Q ⟨ρ,d,hE,hf,hQ⟩=>by
    have h:=mz hf
    obtain⟨v,hv,r⟩:=hE i d h
    exact⟨v,hv,hQ v H ⟨Same.refl H,r,fun A _ av=>av (.el i) (List.mem_singleton.mpr rfl) v d hv h⟩⟩
def items:D->Option (List D)
  | .lst ds=>some ds
  | .tup ds=>some ds
  | .scr ns=>some (ns.map .int)
  | _=>none
theorem fX{K:PySem.W.Frag}{H:Hp}{v:V}{d:D}{ds:List D}(r:Rep K H v d)(h:items d=some ds):∃ p xs,v=V.ref p/\(SqL K H p xs\/SqT K H p xs)/\Reps K H xs ds/\∀ A,ElR K H A v d->Reps K (ah H A) xs ds:=by
  cases r with
  | @lst p xs ds' h1 h2 =>
    cases h
    refine⟨p,xs,rfl,.inl (.inl h1),h2,fun A e=>?_⟩
    rcases e with (e | ⟨_,e⟩) | ⟨q,ys,es',e,⟨e1,e2⟩ | ⟨e1,e2⟩,e3⟩
    · cases e
    · cases e
    · cases e;cases e1;rw[d7 h1 e2];exact e3
    · cases e1
  | @tup p xs ds' h1 h2 =>
    cases h
    have h1:=bU h1
    refine⟨p,xs,rfl,.inr (.inl h1),h2,fun A e=>?_⟩
    rcases e with (e | ⟨_,e⟩) | ⟨q,ys,es',e,⟨e1,e2⟩ | ⟨e1,e2⟩,e3⟩
    · cases e
    · cases e
    · cases e1
    · cases e;cases e1;rw[hG h1 e2];exact e3
  | @scr p ns h1=>cases h;exact⟨p,_,rfl,.inl h1,Reps.ints ns,fun A _=>Reps.ints ns⟩
  | _=>cases h
def cS:D->Bool
  | .tup _=>true
  | _=>false
theorem jj{K:PySem.W.Frag}{H:Hp}{v:V}{d:D}{ds:List D}(r:Rep K H v d)(h:items d=some ds)(n:cS d=false):∃ p xs,v=V.ref p/\SqL K H p xs/\Reps K H xs ds/\∀ A,ElR K H A v d->Reps K (ah H A) xs ds:=by
  cases r with
  | @lst p xs ds' h1 h2 =>
    cases h
    refine⟨p,xs,rfl,.inl h1,h2,fun A e=>?_⟩
    rcases e with (e | ⟨_,e⟩) | ⟨q,ys,es',e,⟨e1,e2⟩ | ⟨e1,e2⟩,e3⟩
    · cases e
    · cases e
    · cases e;cases e1;rw[d7 h1 e2];exact e3
    · cases e1
  | @scr p ns h1=>cases h;exact⟨p,_,rfl,h1,Reps.ints ns,fun A _=>Reps.ints ns⟩
  | tup _ _=>cases n
  | _=>cases h
theorem eM{K:PySem.W.Frag}{H:Hp}{v:V}{ds:List D}(r:Rep K H v (.lst ds)):∃ p xs,v=V.ref p/\Rd H p (.lst xs)/\Reps K H xs ds/\∀ A,ElR K H A v (.lst ds)->Reps K (ah H A) xs ds:=by
  cases r with
  | @lst p xs _ h1 h2 =>
    refine⟨p,xs,rfl,h1,h2,fun A e=>?_⟩
    rcases e with (e | ⟨_,e⟩) | ⟨q,ys,es',e,⟨e1,e2⟩ | ⟨e1,e2⟩,e3⟩
    · cases e
    · cases e
    · cases e;cases e1;rw[d7 h1 e2];exact e3
    · cases e1
def ixD:D->D->Option D
  | x,.int i=>(items x).bind fun ds=>atI ds i
  | _,_=>none
theorem jk{K:PySem.W.Frag}{H:Hp}{xs:List V}{ds:List D}{i:Int}{d:D}(r:Reps K H xs ds)(h:atI ds i=some d):∃ v,atI xs i=some v/\Rep K H v d:=by
  unfold atI at h ⊢
  rw[r.length]
  obtain⟨j,h1,h2⟩:=bind_some h
  obtain⟨v,h3,h4⟩:=r.get h2
  exact⟨v,by rw[h1];exact h3,h4⟩
theorem tz(ha:VB X a fa ea)(hb:VE X b fb eb)(hs:dF b):VE X (.Subscript a b pos) (e2 ixD fa fb) ea :=
  aE (gR (ix_list.or m6) ha hb hs) fun σ H Q ⟨ρ,d,hE,hf,hQ⟩=>by
    obtain⟨dx,h1,hf⟩:=bind_some hf
    obtain⟨dy,h2,hf⟩:=bind_some hf
    refine⟨ρ,dx,hE,h1,fun x H1 p1=>⟨ρ,dy,hE.mono p1.same,h2,fun y H2 p2=>?_⟩⟩
    have q1:=p1.up p2.same
    cases dy with
    | int i =>
      cases p2.rep
      obtain⟨ds,h3,h4⟩:=bind_some hf
      obtain⟨p,xs,rfl,hp,hx,hA⟩:=fX q1.rep h3
      obtain⟨v,h5,h6⟩:=jk hx h4
      have fin:Q v H2:=hQ v H2 ⟨q1.same,h6,fun A hD hz=>by
        obtain⟨v',h7,h8⟩:=jk (hA A (q1.av A hD hz)) h4
        rw[h5] at h7;cases h7;exact h8⟩
      rcases hp with hp | hp
      · exact .inl ⟨p,xs,i,v,rfl,rfl,hp,h5,fin⟩
      · exact .inr ⟨p,xs,i,v,rfl,rfl,hp,h5,fin⟩
    | _=>cases hf
theorem fY{K:PySem.W.Frag}{σ:St}{ρ:ae}{H H1:Hp}{es:List Es}{xs:List V}{ds:List D}{l:Addr}(e:Same H H1)(hl:H1 l=none)(h:∀ A,Dom H A->(∀ z ∈ es,Av K H σ ρ A z)->Reps K (ah H1 A) xs ds):PostF K σ ρ H es (.lst ds) (.ref l) (upd H1 l (.lst xs)):=by
  refine⟨e.trans (bC hl _),⟨l,xs,ds,rfl,rfl,e.free hl,ba,fun A hA hz=>?_⟩⟩
  refine aK (fun b o q=>?_) (h A hA hz)
  obtain⟨n,q⟩:=bV q
  have ne:b ≠ l:=bt q hl
  rw[b7 (fun z=>z.elim n ne),au ne]
  exact q
def da{α:Type}(xs:List α)(lo hi:Option Int):List α:=(xs.drop (HT.sIx xs.length 0 lo)).take (HT.sIx xs.length xs.length hi - HT.sIx xs.length 0 lo)
theorem tB{K:PySem.W.Frag}{H:Hp}{xs:List V}{ds:List D}(r:Reps K H xs ds)(lo hi:Option Int):Reps K H (eE xs lo hi) (da ds lo hi):=by
  unfold eE da
  rw[r.length]
  exact (r.drop _).take _
abbrev FO:=ae->Option (Option Int)
def tvO(K:PySem.W.Frag)(f:FO):TO:=fun σ H Q=>∃ ρ o,EnvR K H σ ρ/\f ρ=some o/\∀ H',Same H H'->Q o H'
abbrev VO(X:Cx)(e:Option Expr)(f:FO):Prop:=PO X e (tvO X.K f)
theorem mG{e:Option Expr}{t t':TO}(h:PO X e t)(i:∀ σ H Q,t' σ H Q->t σ H Q):PO X e t':=fun pins s σ H Q I q=>h pins s σ H Q I (i σ H Q q)
def ce:FO:=fun _=>some none
def bI(f:FE):FO:=fun ρ=>(f ρ).bind fun d=>match d with | .int i=>some (some i) | _=>none
theorem tD:VO X none ce:=mG rC fun σ H Q ⟨ρ,o,hE,hf,hQ⟩=>by cases hf;exact hQ H (Same.refl H)
theorem tE(h:VE X a fa ea):VO X (some a) (bI fa):=mG (rD h) fun σ H Q ⟨ρ,o,hE,hf,hQ⟩=>by
  obtain⟨d,h1,hf⟩:=bind_some hf
  refine⟨ρ,d,hE,h1,fun v H' p=>?_⟩
  cases d <;> simp only at hf <;> cases hf
  cases p.rep
  exact⟨_,rfl,hQ H' p.same⟩
def eSl(fa:FE)(lo hi:FO):FE:=fun ρ=>(fa ρ).bind fun x=>(lo ρ).bind fun l=>(hi ρ).bind fun h=>if cS x=true then none else (items x).bind fun ds=>some (.lst (da ds l h))
theorem tF{lo hi:Option Expr}{flo fhi:FO}(ha:VB X a fa ea)(hl:VO X lo flo)(hh:VO X hi fhi):VF X (.Subscript a (.Slice lo hi none p2) pos) (eSl fa flo fhi) ea :=
  aE (m4 rM ha hl hh) fun σ H Q ⟨ρ,d,hE,hf,hQ⟩=>by
    obtain⟨dx,h1,hf⟩:=bind_some hf
    obtain⟨l,h2,hf⟩:=bind_some hf
    obtain⟨h,h3,hf⟩:=bind_some hf
    refine⟨ρ,dx,hE,h1,fun x H1 p1=>⟨ρ,l,hE.mono p1.same,h2,fun H2 e2=>⟨ρ,h,hE.mono (p1.same.trans e2),h3,fun H3 e3=>?_⟩⟩⟩
    have q:=p1.up (e2.trans e3)
    cases ht:cS dx with
    | true=>rw[if_pos ht] at hf;cases hf
    | false =>
      rw[if_neg (by rw[ht];exact Bool.false_ne_true)] at hf
      obtain⟨ds,h4,hf⟩:=bind_some hf
      cases hf
      obtain⟨p,xs,rfl,hp,hx,hA⟩:=jj q.rep h4 ht
      exact⟨p,xs,rfl,hp,fun r hr=>hQ _ _ (fY q.same hr fun A hD hz=>tB (hA A (q.av A hD hz)) l h)⟩
def mH:R2:=fun x y H Q=>∃ l b xs zs,x=.ref l/\y=.ref b/\Rd H l (.lst xs)/\Rd H b (.lst zs)/\xs.length+zs.length<=sizeLine/\∀ p,H p=none->Q (.ref p) (upd H p (.lst (xs++zs)))
theorem jm{pins:List (Addr × Obj)}{σ:St}{H:Hp}{s:Shared}{l:Addr}{xs:List V}(I:Inv X pins σ H s)(h:Rd H l (.lst xs)):xs.length<=sizeLine/\∃ (its:List Value) (n:Nat),Vals xs its/\xs.length=its.length/\s.heap.get? l=some { cls:=.type "list",data:=.seq its.toArray n }:=by
  obtain⟨z,its,n,r,e⟩:=h.ok I.hok
  exact⟨z,its,n,r,r.length,e⟩
theorem mI:OpR X (binaryOp .Add) mH:=by
  intro pins s σ H x y v u Q I rx ry h
  obtain⟨l,b,xs,zs,rfl,rfl,hH,hB,hz,q⟩:=h
  cases rx
  cases ry
  obtain⟨z,its,n,r,hl,e⟩:=jm I hH
  obtain⟨z2,its2,n2,r2,hl2,e2⟩:=jm I hB
  refine PySem.P.add_list e e2 ?_ (by rw[List.size_toArray,List.size_toArray];omega)
  have ea:its.toArray++its2.toArray=(its++its2).toArray:=by simp
  rw[ea]
  exact⟨.ref _,_,I.lnew (t':=s.toks) (r.append r2) (by rw[List.length_append];omega),rfl,q _ I.fresh⟩
def cg:D->D->Option D
  | .lst xs,.lst ys=>if xs.length+ys.length<=100000 then some (.lst (xs++ys)) else none
  | _,_=>none
theorem bN{n:Nat}(h:n<=100000):n<=sizeLine:=Nat.le_trans h (by decide)
theorem tG(ha:VB X a fa ea)(hb:VB X b fb eb):VF X (.BinOp a .Add b pos) (e2 cg fa fb) (ea++eb) :=
  aE (gN mI ha hb) fun σ H Q ⟨ρ,d,hE,hf,hQ⟩=>by
    obtain⟨dx,h1,hf⟩:=bind_some hf
    obtain⟨dy,h2,hf⟩:=bind_some hf
    refine⟨ρ,dx,hE,h1,fun x H1 p1=>⟨ρ,dy,hE.mono p1.same,h2,fun y H2 p2=>?_⟩⟩
    have q1:=p1.up p2.same
    have q2:=p2.down p1.same
    cases dx with
    | lst ds =>
      cases dy with
      | lst es' =>
        obtain⟨hl,rfl⟩:=b6 hf
        obtain⟨p,xs,rfl,hp,hx,hA⟩:=eM q1.rep
        obtain⟨p',ys,rfl,hp',hy,hA'⟩:=eM q2.rep
        refine⟨p,p',xs,ys,rfl,rfl,hp,hp',by rw[hx.length,hy.length];exact bN hl,fun r hr=>hQ _ _ (fY q1.same hr fun A hD hz=>?_)⟩
        exact (hA A (q1.av A hD fun z w=>hz z (List.mem_append_left _ w))).append (hA' A (q2.av A hD fun z w=>hz z (List.mem_append_right _ w)))
      | _=>cases hf
    | _=>cases hf
def jn:D->D->Option D
  | .lst xs,.int k=>if xs.length * k.toNat<=100000/\k < 100000/\-100000 < k then some (.lst (List.replicate k.toNat xs).flatten) else none
  | _,_=>none
theorem tH(ha:VF X a fa ea)(hb:VE X b fb eb):VF X (.BinOp a .Mult b pos) (e2 jn fa fb) ea :=
  aE (gN rZ ha hb) fun σ H Q ⟨ρ,d,hE,hf,hQ⟩=>by
    obtain⟨dx,h1,hf⟩:=bind_some hf
    obtain⟨dy,h2,hf⟩:=bind_some hf
    refine⟨ρ,dx,hE,h1,fun x H1 p1=>⟨ρ,dy,hE.mono p1.same,h2,fun y H2 p2=>?_⟩⟩
    obtain⟨l,xs,ds,rfl,rfl,hl0,hl1,hA⟩:=p1.new
    cases dy with
    | int k =>
      cases p2.rep
      obtain⟨⟨hl,hk1,hk2⟩,rfl⟩:=b6 hf
      have hx:Reps X.K H1 xs ds:=aK (aF _ _) (hA cQ (Dom.none H) fun e _=>Av.none hE e)
      refine⟨l,k,xs,rfl,rfl,p2.same _ _ hl1,by omega,by omega,by rw[hx.length];exact bN hl,fun r hr=>hQ _ _ (fY (p1.same.trans p2.same) hr fun A hD hz=>?_)⟩
      exact (aK (cb p2.same fun _ q=>.inl q) (hA A hD hz)).rep k.toNat
    | _=>cases hf
def eN:D->Option D:=fun d=>(items d).bind fun ds=>some (.int ds.length)
def aA(g:D->Option D):List D->Option D
  | [x]=>g x
  | _=>none
def eO(g:D->D->Option D):List D->Option D
  | [x,y]=>g x y
  | _=>none
def eA(f:List D->Option D)(as:FEs):FE:=fun ρ=>(as ρ).bind f
def dG(K:PySem.W.Frag)(r:List V->Hp->VK->Prop)(g:List D->Option D):Prop :=
  ∀ (xs:List V) (H:Hp) (ds:List D) (d:D) (Q:VK),Reps K H xs ds->g ds=some d->(∀ v,(∀ H',Rep K H' v d)->Q v H)->r xs H Q
theorem i6{x:Str}{p:Pos}{id:String}{r:List V->Hp->VK->Prop}{g:List D->Option D}{xs:List Expr}{as:FEs}(hc:CallR X (.builtin id) r)(hv:dG X.K r g)(hm:X.mg x=none)(hb:bootBuiltins x=some (.builtin id))(ha:VA X (a::xs) as es)(hg:Gl X x:=by rfl)(hn:x ≠ "__name__":=by decide)(hdb:(x == ("__debug__" : Str))=false:=by decide)(he:starEach (a::xs) X.env=(false,eval a X.env)::starEach xs X.env:=by rfl)(hpl:(backTo pos (starEach xs X.env)).any (·.1)=false:=by rfl):
    VE X (.Call (.Name x p) (a::xs) [] pos) (eA g as) [] :=
  aE (fP hc hg hm hb ha hn hdb he hpl) fun σ H Q ⟨ρ,d,hE,hf,hQ⟩=>by
    obtain⟨ds,h1,hf⟩:=bind_some hf
    exact⟨ρ,ds,hE,h1,fun vs H1 p=>hv vs H1 ds d Q p.rep hf fun v hr=>hQ v H1 ⟨p.same,hr _,fun A _ _=>hr _⟩⟩
theorem dH{K:PySem.W.Frag}{H:Hp}{vs:List V}{d:D}(h:Reps K H vs [d]):∃ v,vs=[v]/\Rep K H v d:=by
  cases h with
  | cons h1 h2=>cases h2;exact⟨_,rfl,h1⟩
theorem mJ{K:PySem.W.Frag}{H:Hp}{vs:List V}{d e:D}(h:Reps K H vs [d,e]):∃ v w,vs=[v,w]/\Rep K H v d/\Rep K H w e:=by
  cases h with
  | cons h1 h2 =>
    cases h2 with
    | cons h3 h4=>cases h4;exact⟨_,_,rfl,h1,h3⟩
theorem eP{g:D->Option D}{ds:List D}{d:D}(h:aA g ds=some d):∃ x,ds=[x]/\g x=some d:=by
  match ds,h with
  | [x],h=>exact⟨x,rfl,h⟩
theorem tI{g:D->D->Option D}{ds:List D}{d:D}(h:eO g ds=some d):∃ x y,ds=[x,y]/\g x y=some d:=by
  match ds,h with
  | [x,y],h=>exact⟨x,y,rfl,h⟩
theorem tJ:dG X.K (fun xs H Q=>∃ p ys,xs=[.ref p]/\(SqL X.K H p ys\/SqT X.K H p ys)/\Q (.int ys.length) H) (aA eN):=by
  intro xs H ds d Q r hg hQ
  obtain⟨x,rfl,hg1⟩:=eP hg
  obtain⟨v,rfl,r1⟩:=dH r
  obtain⟨es,h1,hg2⟩:=bind_some hg1
  cases hg2
  obtain⟨p,ys,rfl,hp,hx,_⟩:=fX r1 h1
  exact⟨p,ys,rfl,hp,hQ _ fun H'=>by rw[hx.length];exact .int _⟩
theorem tK{p:Pos}{as:FEs}(ml:X.mg "len" = none)(ha:VA X [a] as es)(hg:Gl X "len":=by rfl)(he:starEach [a] X.env=(false,eval a X.env)::starEach [] X.env:=by rfl)(hpl:(backTo pos (starEach [] X.env)).any (·.1)=false:=by rfl):
    VE X (.Call (.Name "len" p) [a] [] pos) (eA (aA eN) as) []:=i6 rQ tJ ml PySem.boot_len ha hg (by decide) (by decide) he hpl
def eQ:D->D->Option D
  | .int i,.int j=>some (.int (if j < i then j else i))
  | _,_=>none
theorem tL:dG X.K (fun xs H Q=>∃ i j,xs=[.int i,.int j]/\Q (.int (if j < i then j else i)) H) (eO eQ):=by
  intro xs H ds d Q r hg hQ
  obtain⟨x,y,rfl,hg1⟩:=tI hg
  obtain⟨v,w,rfl,r1,r2⟩:=mJ r
  clear hg r
  cases r1 <;> cases r2 <;> simp only[eQ] at hg1 <;> cases hg1
  exact⟨_,_,rfl,hQ _ fun H'=>.int _⟩
theorem tM{p:Pos}{as:FEs}(hc:X.calm=true)(ml:X.mg "min" = none)(ha:VA X [a,b] as es)(hg:Gl X "min":=by rfl)(he:starEach [a,b] X.env=(false,eval a X.env)::starEach [b] X.env:=by rfl)(hpl:(backTo pos (starEach [b] X.env)).any (·.1)=false:=by rfl):
    VE X (.Call (.Name "min" p) [a,b] [] pos) (eA (eO eQ) as) []:=i6 (rf hc) tL ml PyProof.Rows.boot_min ha hg (by decide) (by decide) he hpl
def tyD:D->String
  | .non=>"NoneType" | .bl _=>"bool" | .int _=>"int" | .str _=>"str" | .lst _=>"list" | .tup _=>"tuple" | .scr _=>"list" | .dct _ _=>"dict" | .ptr _=>"list"
def bO(T:String)(t:String):Bool:=t == T || (T == "int" && t == "bool")
end
end VL
namespace VL
open PySem PySem.Spec PyProof.Rows L2
inductive Out where
  | nx (ρ:ae)
  | rt (d:D)
  | bk (ρ:ae)
  | ct (ρ:ae)
abbrev FS:=ae->Option Out
def tN(σ:St)(O:List Nat):Addr->Prop:=fun a=>∃ i ∈ O,σ[i]?=some (some (V.ref a))
structure Fr0 where
  H0:Hp
  PA:(Addr->Prop)->Prop
  n:Nat
  dom:∀ A,PA A->Dom H0 A
  none:PA cQ
structure Hd where
  P:Hp->Prop
  up:∀ H H',Same H H'->P H->P H'
def HdOk(K:PySem.W.Frag)(H:Hp)(p:Hd):Prop:=p.P H
theorem HdOk.mono{K:PySem.W.Frag}{H H':Hp}{p:Hd}(e:Same H H')(h:HdOk K H p):HdOk K H' p:=p.up H H' e h
def hdL(K:PySem.W.Frag)(q:Addr)(xs:List V)(ds:List D):Hd:=⟨fun H=>SqL K H q xs/\Reps K H xs ds,fun _ _ e h=>⟨e.seq h.1,aK e h.2⟩⟩
def OwnC(K:PySem.W.Frag)(H:Hp)(o:HO)(d:D):Prop:=(∃ xs ds,o=.lst xs/\d=.lst ds/\Reps K H xs ds)\/∃ kvs,o=.dK (gZ kvs)/\d=.dct false kvs
theorem OwnC.mono{K:PySem.W.Frag}{H H':Hp}{o:HO}{d:D}(e:Same H H')(h:OwnC K H o d):OwnC K H' o d:=by
  rcases h with⟨xs,ds,h1,h2,h3⟩ | h
  · exact .inl ⟨xs,ds,h1,h2,aK e h3⟩
  · exact .inr h
theorem OwnC.rep{K:PySem.W.Frag}{H H':Hp}{a:Addr}{o:HO}{d:D}(ha:H a=some o)(h:OwnC K H' o d)(e:Same H' H):Rep K H (.ref a) d:=by
  rcases h with⟨xs,ds,rfl,rfl,h3⟩ | ⟨kvs,rfl,rfl⟩
  · exact .lst (.inl ha) (aK e h3)
  · exact .dct (.inr ⟨rfl,ha⟩)
theorem OwnC.el{K:PySem.W.Frag}{H:Hp}{A:Addr->Prop}{a:Addr}{o:HO}{d:D}(ha:H a=some o)(h:OwnC K (ah H A) o d):ElR K H A (.ref a) d:=by
  rcases h with⟨xs,ds,rfl,rfl,h3⟩ | ⟨kvs,rfl,rfl⟩
  · exact .inr ⟨a,xs,ds,rfl,.inl ⟨rfl,.inl ha⟩,h3⟩
  · exact .inl (.inr ⟨_,rfl⟩)
def Off(σ:St)(O:List Nat)(A:Addr->Prop):Addr->Prop:=fun b=>tN σ O b\/A b
structure EnvO (K:PySem.W.Frag) (F:Fr0) (held:List Hd) (O:List Nat) (σ:St) (ρ:ae) (H:Hp):Prop where
  same:Same F.H0 H
  lσ:σ.length=F.n
  lρ:ρ.length=F.n
  val:∀ i d,ρ[i]?=some (some d)->i ∉ O->∃ v,σ[i]?=some (some v)/\∀ A,F.PA A->Rep K (ah H (Off σ O A)) v d
  hld:∀ p ∈ held,∀ A,F.PA A->HdOk K (ah H (Off σ O A)) p
  own:∀ i ∈ O,∃ a o d,σ[i]?=some (some (V.ref a))/\ρ[i]?=some (some d)/\H a=some o/\F.H0 a=Option.none/\∀ A,F.PA A->OwnC K (ah H (Off σ O A)) o d
  inj:∀ i ∈ O,∀ j ∈ O,∀ a,σ[i]?=some (some (V.ref a))->σ[j]?=some (some (V.ref a))->i=j
section
variable {K:PySem.W.Frag} {F:Fr0} {held:List Hd} {O O':List Nat} {σ:St} {ρ:ae} {H H':Hp}
theorem EnvO.envR(h:EnvO K F held O σ ρ H):EnvR K H σ ρ:=fun i d e=>by
  by_cases hi:i ∈ O
  · obtain⟨a,xs,ds,h1,h2,h3,_,h5⟩:=h.own i hi
    rw[h2] at e;cases e
    exact⟨_,h1,(h5 _ F.none).rep h3 (aF _ _)⟩
  · obtain⟨v,h1,h2⟩:=h.val i d e hi
    exact⟨v,h1,ar (aF _ _) (h2 _ F.none)⟩
theorem mK(hs:∀ i ∈ O',i ∈ O){A:Addr->Prop}:∀ b,Off σ O' A b->Off σ O A b:=fun b h=>by
  rcases h with⟨i,hi,e⟩ | h
  · exact .inl ⟨i,hs i hi,e⟩
  · exact .inr h
theorem EnvO.weaken(h:EnvO K F held O σ ρ H)(hs:∀ i ∈ O',i ∈ O):EnvO K F held O' σ ρ H:=by
  have up:∀ {A:Addr->Prop},Same (ah H (Off σ O A)) (ah H (Off σ O' A)):=cb (fun _ _ q=>q) (mK hs)
  refine⟨h.same,h.lσ,h.lρ,fun i d e hi=>?_,fun p hp A hA=>(h.hld p hp A hA).mono up,fun i hi=>?_,fun i hi j hj=>h.inj i (hs i hi) j (hs j hj)⟩
  · by_cases hi':i ∈ O
    · obtain⟨a,xs,ds,h1,h2,h3,h4,h5⟩:=h.own i hi'
      rw[h2] at e;cases e
      refine⟨_,h1,fun A hA=>(h5 A hA).rep ?_ up⟩
      rw[b7]
      · exact h3
      · rintro (⟨j,hj,ej⟩ | q)
        · exact hi (h.inj i hi' j (hs j hj) a h1 ej ▸ hj)
        · exact F.dom A hA a q h4
    · obtain⟨v,h1,h2⟩:=h.val i d e hi'
      exact⟨v,h1,fun A hA=>ar up (h2 A hA)⟩
  · obtain⟨a,xs,ds,h1,h2,h3,h4,h5⟩:=h.own i (hs i hi)
    exact⟨a,xs,ds,h1,h2,h3,h4,fun A hA=>(h5 A hA).mono up⟩
theorem EnvO.up(h:EnvO K F held O σ ρ H)(e:Same H H'):EnvO K F held O σ ρ H' :=
  ⟨h.same.trans e,h.lσ,h.lρ,fun i d q hi=>let ⟨v,h1,h2⟩:=h.val i d q hi;⟨v,h1,fun A hA=>ar (bw e) (h2 A hA)⟩,fun p hp A hA=>(h.hld p hp A hA).mono (bw e),
    fun i hi=>let ⟨a,xs,ds,h1,h2,h3,h4,h5⟩:=h.own i hi;⟨a,xs,ds,h1,h2,e _ _ h3,h4,fun A hA=>(h5 A hA).mono (bw e)⟩,h.inj⟩
theorem EnvO.dom(h:EnvO K F held O σ ρ H){A:Addr->Prop}(hA:F.PA A):Dom H (Off σ O A):=fun b q=>by
  rcases q with⟨i,hi,e⟩ | q
  · obtain⟨a,xs,ds,h1,h2,h3,_⟩:=h.own i hi
    rw[e] at h1;cases h1
    rw[h3];exact fun z=>nomatch z
  · exact ((F.dom A hA).mono h.same) b q
def fZ(O:List Nat):Es->Bool
  | .full j=>!O.contains j
  | .el _=>true
theorem EnvO.av(h:EnvO K F held O σ ρ H){A:Addr->Prop}(hA:F.PA A){e:Es}(he:fZ O e=true):Av K H σ ρ (Off σ O A) e:=by
  have out:∀ (j:Nat) (v:V) (d:D),j ∉ O->σ[j]?=some (some v)->ρ[j]?=some (some d)->Rep K (ah H (Off σ O A)) v d:=fun j v d hj h1 h2=>by
    obtain⟨v',h3,h4⟩:=h.val j d h2 hj
    rw[h1] at h3;cases h3
    exact h4 A hA
  cases e with
  | full j=>exact fun v d=>out j v d (by simpa [fZ] using he)
  | el j =>
    intro v d h1 h2
    by_cases hj:j ∈ O
    · obtain⟨a,xs,ds,h3,h4,h5,_,h6⟩:=h.own j hj
      rw[h1] at h3;cases h3
      rw[h2] at h4;cases h4
      exact (h6 A hA).el h5
    · exact (out j v d hj h1 h2).el
def db(O:List Nat)(es:List Es):List Nat:=O.filter fun i=>es.all (fZ [i])
theorem tO{es:List Es}:∀ i ∈ db O es,i ∈ O:=fun i h=>(List.mem_filter.mp h).1
theorem tP{es:List Es}{e:Es}(he:e ∈ es):fZ (db O es) e=true:=by
  cases e with
  | el j=>rfl
  | full j =>
    show (!(db O es).contains j)=true
    rw[Bool.not_eq_true',Bool.eq_false_iff]
    intro q
    have q':=List.contains_iff_mem.mp q
    have:=List.all_eq_true.mp (List.mem_filter.mp q').2 _ he
    simp[fZ] at this
theorem EnvO.eval(h:EnvO K F held O σ ρ H){es:List Es}{d:D}{v:V}(p:Post K σ ρ H es d v H'):EnvO K F held (db O es) σ ρ H'/\∀ A,F.PA A->Rep K (ah H' (Off σ (db O es) A)) v d:=by
  have h1:=h.weaken (O':=db O es) tO
  exact⟨h1.up p.same,fun A hA=>p.av _ (h1.dom hA) fun e he=>h1.av hA (tP he)⟩
theorem tQ{i:Nat}{v:Option V}{A:Addr->Prop}(hi:i ∉ O)(b:Addr):Off (σ.set i v) O A b ↔ Off σ O A b:=by
  have:∀ j ∈ O,(σ.set i v)[j]?=σ[j]?:=fun j hj=>List.getElem?_set_ne (fun (e:i=j)=>hi (e ▸ hj))
  constructor
  · rintro (⟨j,hj,e⟩ | q)
    · exact .inl ⟨j,hj,by rw[this j hj] at e;exact e⟩
    · exact .inr q
  · rintro (⟨j,hj,e⟩ | q)
    · exact .inl ⟨j,hj,by rw[this j hj];exact e⟩
    · exact .inr q
theorem EnvO.set(h:EnvO K F held O σ ρ H){i:Nat}{v:V}{d:D}(hi:i ∉ O)(hv:∀ A,F.PA A->Rep K (ah H (Off σ O A)) v d):EnvO K F held O (σ.set i (some v)) (ρ.set i (some d)) H:=by
  have ne:∀ {j:Nat},j ∈ O->i ≠ j:=fun hj e=>hi (e ▸ hj)
  have up:∀ {A:Addr->Prop},Same (ah H (Off σ O A)) (ah H (Off (σ.set i (some v)) O A)):=cb (fun _ _ q=>q) fun b q=>(tQ hi b).mp q
  refine⟨h.same,by rw[List.length_set];exact h.lσ,by rw[List.length_set];exact h.lρ,fun j e q hj=>?_,fun p hp A hA=>(h.hld p hp A hA).mono up,fun j hj=>?_,fun j hj k hk a e1 e2=>?_⟩
  · by_cases e1:j=i
    · subst e1
      have hl:j < ρ.length:=by
        have:=(List.getElem?_eq_some_iff.mp q).1
        rwa [List.length_set] at this
      rw[List.getElem?_set_self hl] at q
      cases q
      exact⟨v,List.getElem?_set_self (by rw[h.lσ,<- h.lρ];exact hl),fun A hA=>ar up (hv A hA)⟩
    · rw[List.getElem?_set_ne (Ne.symm e1)] at q
      obtain⟨v',h1,h2⟩:=h.val j e q hj
      exact⟨v',by rw[List.getElem?_set_ne (Ne.symm e1)];exact h1,fun A hA=>ar up (h2 A hA)⟩
  · obtain⟨a,xs,ds,h1,h2,h3,h4,h5⟩:=h.own j hj
    exact⟨a,xs,ds,by rw[List.getElem?_set_ne (ne hj)];exact h1,by rw[List.getElem?_set_ne (ne hj)];exact h2,h3,h4,fun A hA=>(h5 A hA).mono up⟩
  · rw[List.getElem?_set_ne (ne hj)] at e1
    rw[List.getElem?_set_ne (ne hk)] at e2
    exact h.inj j hj k hk a e1 e2
theorem EnvO.putC(h:EnvO K F held O σ ρ H){i:Nat}{a:Addr}{o':HO}{d':D}(hi:i ∈ O)(ha:σ[i]?=some (some (V.ref a)))(hr:∀ A,F.PA A->OwnC K (ah H (Off σ O A)) o' d'):
    EnvO K F held O σ (ρ.set i (some d')) (upd H a o'):=by
  obtain⟨a',xs,ds,h1,h2,h3,h4,h5⟩:=h.own i hi
  rw[ha] at h1;cases h1
  have up:∀ {A:Addr->Prop},Same (ah H (Off σ O A)) (ah (upd H a o') (Off σ O A)):=fun {A} b o q=>by
    obtain⟨n,q⟩:=bV q
    have ne:b ≠ a:=fun e=>n (.inl ⟨i,hi,e ▸ ha⟩)
    rw[b7 n,au ne]
    exact q
  have hl:i < ρ.length:=(List.getElem?_eq_some_iff.mp h2).1
  refine⟨fun b o q=>?_,h.lσ,by rw[List.length_set];exact h.lρ,fun j e q hj=>?_,fun p hp A hA=>(h.hld p hp A hA).mono up,fun j hj=>?_,h.inj⟩
  · rw[au (bt q h4)]
    exact h.same b o q
  · have e1:j ≠ i:=fun e=>hj (e ▸ hi)
    rw[List.getElem?_set_ne (Ne.symm e1)] at q
    obtain⟨v',k1,k2⟩:=h.val j e q hj
    exact⟨v',k1,fun A hA=>ar up (k2 A hA)⟩
  · by_cases e1:j=i
    · subst e1
      exact⟨a,_,_,ha,List.getElem?_set_self hl,ba,h4,fun A hA=>(hr A hA).mono up⟩
    · obtain⟨b,zs,es',k1,k2,k3,k4,k5⟩:=h.own j hj
      have ne:b ≠ a:=fun e=>e1 (h.inj j hj i hi a (e ▸ k1) ha)
      exact⟨b,zs,es',k1,by rw[List.getElem?_set_ne (Ne.symm e1)];exact k2,by rw[au ne];exact k3,k4,fun A hA=>(k5 A hA).mono up⟩
theorem EnvO.put(h:EnvO K F held O σ ρ H){i:Nat}{a:Addr}{ys:List V}{es:List D}(hi:i ∈ O)(ha:σ[i]?=some (some (V.ref a)))(hr:∀ A,F.PA A->Reps K (ah H (Off σ O A)) ys es):
    EnvO K F held O σ (ρ.set i (some (.lst es))) (upd H a (.lst ys)):=h.putC hi ha fun A hA=>.inl ⟨ys,es,rfl,rfl,hr A hA⟩
theorem EnvO.hold{p:Hd}(h:EnvO K F held O σ ρ H)(hv:∀ A,F.PA A->HdOk K (ah H (Off σ O A)) p):EnvO K F (p::held) O σ ρ H :=
  ⟨h.same,h.lσ,h.lρ,h.val,fun q hq=>(List.mem_cons.mp hq).elim (fun e=>e ▸ hv) (h.hld q),h.own,h.inj⟩
theorem EnvO.unhold{p:Hd}(h:EnvO K F (p::held) O σ ρ H):EnvO K F held O σ ρ H:=⟨h.same,h.lσ,h.lρ,h.val,fun q hq=>h.hld q (List.mem_cons_of_mem _ hq),h.own,h.inj⟩
end
structure Ret (K:PySem.W.Frag) (F:Fr0) (fr:Bool) (d:D) (v:V) (H':Hp):Prop where
  same:Same F.H0 H'
  rep:∀ A,F.PA A->Rep K (ah H' A) v d
  new:fr=true->∃ l xs ds,v=V.ref l/\d=.lst ds/\F.H0 l=none/\H' l=some (.lst xs)/\∀ A,F.PA A->Reps K (ah H' fun b=>A b\/b=l) xs ds
def tsP(K:PySem.W.Frag)(F:Fr0)(held:List Hd)(O' OL:List Nat)(fr:Bool)(De:Ends):Out->Prop
  | .nx ρ'=>∀ σ' H',EnvO K F held O' σ' ρ' H'->De.nx σ' H'
  | .bk ρ'=>∀ σ' H',EnvO K F held OL σ' ρ' H'->De.bk σ' H'
  | .ct ρ'=>∀ σ' H',EnvO K F held OL σ' ρ' H'->De.ct σ' H'
  | .rt d=>∀ v H',Ret K F fr d v H'->De.rt v H'
def ts(K:PySem.W.Frag)(F:Fr0)(held:List Hd)(O O' OL:List Nat)(fr:Bool)(f:FS):TS:=fun De σ H=>∃ ρ o,EnvO K F held O σ ρ H/\f ρ=some o/\tsP K F held O' OL fr De o
abbrev VS(X:Cx)(F:Fr0)(O:List Nat)(st:Stmt)(f:FS)(O' OL:List Nat)(fr:Bool):Prop:=∀ held,PS X st (ts X.K F held O O' OL fr f)
abbrev VSs(X:Cx)(F:Fr0)(O:List Nat)(st:List Stmt)(f:FS)(O' OL:List Nat)(fr:Bool):Prop:=∀ held,PSs X st (ts X.K F held O O' OL fr f)
theorem bW{X:Cx}{e:Stmt}{t t':TS}(h:PS X e t)(i:∀ De σ H,t' De σ H->t De σ H):PS X e t':=fun pins s σ H De I q=>h pins s σ H De I (i De σ H q)
theorem cT{X:Cx}{e:List Stmt}{t t':TS}(h:PSs X e t)(i:∀ De σ H,t' De σ H->t De σ H):PSs X e t':=fun pins s σ H De I q=>h pins s σ H De I (i De σ H q)
section
variable {X:Cx} {F:Fr0} {O O1 O2 O' OL:List Nat} {fr:Bool} {f g:FS} {st:Stmt} {ai:List Stmt} {pos:Pos} {e:Expr} {fe:FE} {es:List Es}
def dc(f g:FS):FS:=fun ρ=>(f ρ).bind fun o=>match o with
  | .nx ρ'=>g ρ'
  | .rt d=>some (.rt d)
  | .bk ρ'=>some (.bk ρ')
  | .ct ρ'=>some (.ct ρ')
theorem tR(h1:VS X F O st f O1 OL fr)(h2:VSs X F O1 ai g O2 OL fr):VSs X F O (st::ai) (dc f g) O2 OL fr:=fun held=>cT (iR (h1 held) (h2 held)) fun De σ H ⟨ρ,o,hE,hf,hQ⟩=>by
  obtain⟨o1,h1,hf⟩:=bind_some hf
  refine⟨ρ,o1,hE,h1,?_⟩
  cases o1 with
  | nx ρ'=>exact fun σ' H' hE'=>⟨ρ',o,hE',hf,hQ⟩
  | rt d=>cases hf;exact hQ
  | bk ρ'=>cases hf;exact hQ
  | ct ρ'=>cases hf;exact hQ
theorem tS(h1:VS X F O st f O1 OL fr):VSs X F O [st] f O1 OL fr:=fun held=>cT (gL (h1 held)) fun De σ H h=>h
theorem tT(h:VSs X F O ai f O1 OL fr)(hs:∀ i ∈ O',i ∈ O1):VSs X F O ai f O' OL fr:=fun held=>cT (h held) fun De σ H ⟨ρ,o,hE,hf,hQ⟩=>⟨ρ,o,hE,hf,by
  cases o with
  | nx ρ'=>exact fun σ' H' hE'=>hQ σ' H' (hE'.weaken hs)
  | rt d=>exact hQ
  | bk ρ'=>exact hQ
  | ct ρ'=>exact hQ⟩
def cU(f:FE):FS:=fun ρ=>(f ρ).map .rt
theorem tU{f:FE}{ρ:ae}{o:Out}(h:cU f ρ=some o):∃ d,f ρ=some d/\o=.rt d:=by
  unfold cU at h
  cases e:f ρ with
  | none=>rw[e] at h;cases h
  | some d=>rw[e] at h;cases h;exact⟨d,rfl,rfl⟩
theorem tV{σ:St}{A:Addr->Prop}{H:Hp}:Same (ah H (Off σ O A)) (ah H A):=cb (fun _ _ q=>q) fun _ q=>.inr q
theorem tW(he:VE X e fe es):VS X F O (.Return (some e) pos) (cU fe) O' OL false:=fun held=>bW (lr he) fun De σ H ⟨ρ,o,hE,hf,hQ⟩=>by
  obtain⟨d,h1,rfl⟩:=tU hf
  refine⟨ρ,d,hE.envR,h1,fun v H' p=>hQ v H' ?_⟩
  obtain⟨hE',hr⟩:=hE.eval p
  exact⟨hE'.same,fun A hA=>ar tV (hr A hA),fun z=>nomatch z⟩
end
end VL
namespace VL
open PySem PySem.Spec PyProof.Rows L2
section
variable {X:Cx} {F:Fr0} {O O1 O2 O' OL:List Nat} {fr:Bool} {f g:FS} {st:Stmt} {ai:List Stmt} {pos p2 p3:Pos} {e a b:Expr} {fe fa fb:FE} {es ea eb:List Es}
inductive Tgs (X:Cx):List Expr->List Nat->Prop where
  | nil:Tgs X [] []
  | cons {i:Nat} {x:Str} {p:Pos} {es:List Expr} {is:List Nat} (hi:X.N[i]?=some x) (hx:Loc X.env.scope x) (hf:X.fn x=true\/X.env.scope.names.lookup x=some .local) (t:Tgs X es is)
      (hs:(assignEach (.Name x p::es) X.env).map (·.2)=assign (.Name x p) X.env::(assignEach es X.env).map (·.2)):Tgs X (.Name x p::es) (i::is)
def mL:List Nat->TGs
  | []=>lw
  | i::is=>lz (bD i) (mL is)
theorem Tgs.ok(hN:X.N.Nodup):∀ {es:List Expr} {is:List Nat},Tgs X es is->PGs X es (mL is)
  | _,_,.nil=>qJ
  | _,_,.cons hi hx hf t hs=>qK (cO hN hi hx hf) (Tgs.ok hN t) hs
theorem mM{K:PySem.W.Frag}{H:Hp}{A:Addr->Prop}{p:Addr}{xs:List V}{ds:List D}(h1:Rd H p (.lst xs))(r:Rep K (ah H A) (.ref p) (.lst ds)):Reps K (ah H A) xs ds:=by
  cases r with
  | lst h2 h3=>rw[d7 h1 (cz (aF H A) h2)];exact h3
def cB(body:D->FS):List D->FS
  | [],ρ=>some (.nx ρ)
  | x::r,ρ=>(body x ρ).bind fun o=>match o with
    | .nx ρ'=>cB body r ρ'
    | .ct ρ'=>cB body r ρ'
    | .bk ρ'=>some (.nx ρ')
    | .rt d=>some (.rt d)
theorem mO{body:D->FS}{x:D}{r:List D}{ρ:ae}:cB body (x::r) ρ=(body x ρ).bind fun o=>match o with
    | .nx ρ'=>cB body r ρ'
    | .ct ρ'=>cB body r ρ'
    | .bk ρ'=>some (.nx ρ')
    | .rt d=>some (.rt d):=rfl
theorem tX{K:PySem.W.Frag}{held held':List Hd}{De:Ends}{d:D}{ds:List D}{o:Out}{ρ:ae}{body:D->FS}{N:St->Hp->Prop}{o1:Out}{OL':List Nat}(h1:body d ρ=some o1)(hf:cB body (d::ds) ρ=some o)(hQ:tsP K F held OL OL' fr De o)(hh:∀ σ ρ H,EnvO K F held' OL σ ρ H->EnvO K F held OL σ ρ H)(hN:∀ σ' H' ρ',EnvO K F held' OL σ' ρ' H'->cB body ds ρ'=some o->N σ' H'):tsP K F held' OL OL fr { De with nx:=N,ct:=N,bk:=De.nx } o1:=by
  rw[mO,h1] at hf
  cases o1 with
  | nx ρ'=>exact fun σ' H' hE'=>hN σ' H' ρ' hE' hf
  | ct ρ'=>exact fun σ' H' hE'=>hN σ' H' ρ' hE' hf
  | bk ρ'=>cases hf;exact fun σ' H' hE'=>hQ σ' H' (hh _ _ _ hE')
  | rt d'=>cases hf;exact hQ
theorem tY{K:PySem.W.Frag}{H:Hp}{v:V}{d:D}{ds:List D}{σ:St}(hr:∀ A,F.PA A->Rep K (ah H (Off σ O A)) v d)(hds:items d=some ds)(ht:cS d=false):
    ∃ q xs,v=V.ref q/\∀ A,F.PA A->HdOk K (ah H (Off σ O A)) (hdL K q xs ds):=by
  have h0:=hr _ F.none
  cases h0 with
  | @lst q xs ds' h1 h2 =>
    cases hds
    refine⟨q,xs,rfl,fun A hA=>?_⟩
    cases hr A hA with
    | @lst _ ys _ h3 h4 =>
      have e:=d7 (cz (aF _ _) h1) (cz (aF _ _) h3)
      subst e
      exact⟨.inl h3,h4⟩
  | @scr q ns h1 =>
    cases hds
    refine⟨q,ns.map V.int,rfl,fun A hA=>?_⟩
    cases hr A hA with
    | scr h3=>exact⟨h3,Reps.ints ns⟩
  | tup _ _=>cases ht
  | _=>cases hds
def g4(t:Nat)(it:FE)(tb:FS):FS:=fun ρ=>(it ρ).bind fun d=>if cS d=true then none else (items d).bind fun ds=>cB (fun x ρ=>tb (ρ.set t (some x))) ds ρ
theorem tZ(t:Nat){x:Str}{iter:Expr}{body:List Stmt}{fi:FE}{ei:List Es}{tb:FS}(Ol:List Nat)(hN:X.N.Nodup)(hc:X.calm=true)(hi:VE X iter fi ei)(hb:VSs X F Ol body tb O2 Ol fr)(h1:∀ i ∈ Ol,i ∈ db O ei:=by decide)(h2:∀ i ∈ Ol,i ∈ O2:=by decide)(h3:t ∉ Ol:=by decide)(hp:PassesOwn (model X.prog X.w) X.A X.env X.xe:=by exact PassesOwn.never)(hxN:X.N[t]?=some x:=by rfl)(hx:Loc X.env.scope x:=by first | exact Or.inl rfl | exact Or.inr rfl)(hfn:X.fn x=true\/X.env.scope.names.lookup x=some .local:=by first | exact .inl rfl | exact .inr rfl)(hs:∀ x,foldedSetIterable iter X.env x=pure x:=by intro _;rfl):VS X F O (.For (.Name x p2) iter body [] pos) (g4 t fi tb) Ol OL fr:=fun held=>by
  have hb':PSs X body (fun De σ H=>∃ p:Hd,ts X.K F (p::held) Ol Ol Ol fr tb De σ H):=fun pins s σ H De I ⟨p,h⟩=>tT hb h2 (p::held) pins s σ H De I h
  refine bW (iU hp hc (iT hi) (cO hN hxN hx hfn) hb' hs) fun De σ H h=>?_
  obtain⟨ρ,o,hE,hf,hQ⟩:=h
  obtain⟨d,hd,hf⟩:=bind_some hf
  cases ht:cS d with
  | true=>rw[if_pos ht] at hf;cases hf
  | false =>
    rw[if_neg (by rw[ht];exact Bool.false_ne_true)] at hf
    obtain⟨ds,hds,hf⟩:=bind_some hf
    refine⟨ρ,d,hE.envR,hd,fun v H1 p=>?_⟩
    obtain⟨hE1,hr⟩:=hE.eval p
    have hE2:=hE1.weaken h1
    have hr2:∀ A,F.PA A->Rep X.K (ah H1 (Off σ Ol A)) v d:=fun A hA=>ar (cb (fun _ _ q=>q) (mK h1)) (hr A hA)
    obtain⟨q,xs,rfl,hq⟩:=tY hr2 hds ht
    have len:xs.length=ds.length:=(hq _ F.none).2.length
    refine⟨q,rfl,⟨xs,(aF _ _).seq (hq _ F.none).1⟩,?_⟩
    refine iV (K:=X.K) (a:=q) (xs:=xs) (g:=bD t) (tb:=fun De σ H=>∃ p:Hd,ts X.K F (p::held) Ol Ol Ol fr tb De σ H) (D:=De) (fun i σ' H'=>∃ ρ',EnvO X.K F (hdL X.K q xs ds::held) Ol σ' ρ' H'/\cB (fun x ρ=>tb (ρ.set t (some x))) (ds.drop i) ρ'=some o) ⟨ρ,hE2.hold hq,by simpa using hf⟩ ?_ ?_ ?_
    · rintro i σ' H' _ ⟨ρ',hE',_⟩
      exact (aF _ _).seq (hE'.hld _ List.mem_cons_self _ F.none).1
    · rintro i y σ' H' hy ⟨ρ',hE',hf'⟩
      obtain⟨dy,h4,_⟩:=(hE'.hld _ List.mem_cons_self _ F.none).2.getV hy
      have h5:∀ A,F.PA A->Rep X.K (ah H' (Off σ' Ol A)) y dy:=fun A hA=>by
        obtain⟨dy',h6,h7⟩:=(hE'.hld _ List.mem_cons_self A hA).2.getV hy
        rw[h4] at h6;cases h6;exact h7
      have hi':i < ds.length:=(List.getElem?_eq_some_iff.mp h4).1
      have ed:ds.drop i=dy::ds.drop (i+1):=by
        rw[List.drop_eq_getElem_cons hi']
        have e2:ds[i]=dy:=(List.getElem?_eq_some_iff.mp h4).2
        rw[e2]
      rw[ed] at hf'
      have hf2:=hf'
      rw[mO] at hf2
      obtain⟨o1,h8,_⟩:=bind_some hf2
      refine⟨hdL X.K q xs ds,ρ'.set t (some dy),o1,hE'.set h3 h5,h8,?_⟩
      exact tX h8 hf' hQ (fun _ _ _ z=>z.unhold) fun σ'' H'' ρ'' hE'' hf''=>⟨ρ'',hE'',hf''⟩
    · rintro σ' H' ⟨ρ',hE',hf'⟩
      rw[len,List.drop_length] at hf'
      cases hf'
      exact hQ σ' H' hE'.unhold
def okR(j:Int):Prop:=-4611686018427387904<=j/\j < 4611686018427387904
end
structure RetC (K:PySem.W.Frag) (H:Hp) (vs:List V) (ds:List D) (fr:Bool) (d:D) (v:V) (H':Hp):Prop where
  same:Same H H'
  rep:∀ A,Dom H A->Reps K (ah H A) vs ds->Rep K (ah H' A) v d
  new:fr=true->∃ l xs es,v=V.ref l/\d=.lst es/\H l=none/\H' l=some (.lst xs)/\∀ A,Dom H A->Reps K (ah H A) vs ds->Reps K (ah H' fun b=>A b\/b=l) xs es
def spF(K:PySem.W.Frag)(G:List D->Option D)(fr:Bool):Sp:=fun vs H Q _=>∃ ds d,Reps K H vs ds/\G ds=some d/\∀ v H',RetC K H vs ds fr d v H'->Q v H'
def mkF(fr:Bool)(np n:Nat)(body:FS):List D->Option D:=fun ds=>if ds.length=np then (body (ds.map some++List.replicate (n - np) none)).bind fun o=>match o with
  | .rt d=>some d
  | .nx _=>if fr=true then none else some .non
  | _=>none
  else none
theorem u0{P:Program}{w:World}{K:PySem.W.Frag}{mg:Str->Option Value}{base:Heap}{x qual:Str}{st:Stmt}{f:Addr}{fd:FuncData}{N ps:List Str}{k:Nat}{fr:Bool}{body:FS}{O' OL:List Nat}(Fn:Fun K x qual st f fd)(S:FnScope N ps (ak st))(h:∀ (cdv:Value) (A:Around) (outer:List PySem.Env) (s:Shared) (H:Hp) (E:XK) (F:Fr0),F.n=N.length->Room k (A.deeper (envOfC qual (ak st) s.heap.objs.size f cdv)) ->
      VSs (bu CX0 P w K mg base N qual (ak st) f cdv A outer s H E).nox F [] (aU st) body O' OL fr):
    FnOk P w K mg base CX0 (k+1) f fd ps (spF K (mkF fr ps.length N.length body) fr):=by
  have hpl:ps.length<=N.length:=by have:=congrArg List.length S.pre;rw[List.length_take] at this;omega
  refine Fn.ok S (fun vs H Q E h=>?_) (fun cdv A outer s H vs Q E hr h'=>?_)
  · obtain⟨ds,d,r,hg,_⟩:=h
    unfold mkF at hg
    by_cases hl:ds.length=ps.length
    · rw[r.length,hl]
    · rw[if_neg hl] at hg;cases hg
  · obtain⟨ds,d,r,hg,hQ⟩:=h'
    unfold mkF at hg
    by_cases hl:ds.length=ps.length
    · rw[if_pos hl] at hg
      obtain⟨o,ho,hg⟩:=bind_some hg
      let F:Fr0:=⟨H,fun A=>Dom H A/\Reps K (ah H A) vs ds,N.length,fun A h=>h.1,⟨Dom.none H,aK (jc H) r⟩⟩
      refine⟨_,h cdv A outer s H E F rfl hr [],ds.map some++List.replicate (N.length - ps.length) none,o,?_,ho,?_⟩
      · have lv:=r.length
        have get:∀ (i:Nat) (d:D),(ds.map some++List.replicate (N.length - ps.length) none)[i]?=some (some d)->ds[i]?=some d:=fun i d q=>by
          by_cases hi:i < ds.length
          · rw[List.getElem?_append_left (by simpa using hi),List.getElem?_map] at q
            cases e:ds[i]? with
            | none=>rw[e] at q;cases q
            | some z=>rw[e] at q;simpa using q
          · rw[List.getElem?_append_right (by simpa using hi),List.getElem?_replicate] at q
            split at q <;> cases q
        refine⟨Same.refl H,?_,?_,fun i d q _=>?_,fun p hp=>absurd hp (by simp),fun i hi=>absurd hi (by simp),fun i hi=>absurd hi (by simp)⟩
        · show (L2.start N vs).length=N.length
          unfold L2.start
          rw[List.length_append,List.length_map,List.length_replicate]
          omega
        · show _=N.length
          rw[List.length_append,List.length_map,List.length_replicate]
          omega
        · have h1:=get i d q
          obtain⟨v,h2,_⟩:=r.get h1
          refine⟨v,?_,fun A hA=>?_⟩
          · unfold L2.start
            have hi:i < vs.length:=(List.getElem?_eq_some_iff.mp h2).1
            rw[List.getElem?_append_left (by simpa using hi),List.getElem?_map,h2]
            rfl
          · obtain⟨v',h3,h4⟩:=hA.2.get h1
            rw[h2] at h3;cases h3
            exact ar (cb (fun _ _ z=>z) fun b z=>z.elim (fun⟨_,hj,_⟩=>absurd hj (by simp)) id) h4
      · cases o with
        | rt d' =>
          cases hg
          exact fun v H' rt=>hQ v H' ⟨rt.same,fun A hA hr=>rt.rep A ⟨hA,hr⟩,fun e=>let ⟨l,xs,es,e1,e2,e3,e4,e5⟩:=rt.new e;⟨l,xs,es,e1,e2,e3,e4,fun A hA hr=>e5 A ⟨hA,hr⟩⟩⟩
        | nx ρ' =>
          cases fr with
          | true=>cases hg
          | false =>
            cases hg
            exact fun σ' H' hE=>hQ _ H' ⟨hE.same,fun A hA hr=>.non,fun e=>nomatch e⟩
        | _=>cases hg
    · rw[if_neg hl] at hg;cases hg
section
variable {X:Cx} {k:Nat} {f:Addr} {fd:FuncData} {ps:List Str} {G:List D->Option D} {fr:Bool} {x:Str} {p pos:Pos} {e:Expr} {es':List Expr} {as:FEs} {es:List Es}
theorem u1(Gk:FnOk X.prog X.w X.K X.mg X.base CX0 k f fd ps (spF X.K G fr))(hr:Room k X.A)(hm:X.mg x=some (.ref f))(hk:PySem.W.keepIn X.K (.ref f)=true)(hb:Binds X.K fd ps [])(ha:VA X (e::es') as es)(hg:Gl X x:=by rfl)(hdb:(x == ("__debug__" : Str))=false:=by decide)(he:starEach (e::es') X.env=(false,eval e X.env)::starEach es' X.env:=by rfl)(hpl:(backTo pos (starEach es' X.env)).any (·.1)=false:=by rfl):
    VE X (.Call (.Name x p) (e::es') [] pos) (eA G as) es :=
  aE (lT Gk hr hg hm hk hb .nil md ha hdb he hpl) fun σ H Q ⟨ρ,d,hE,hf,hQ⟩=>by
    obtain⟨ds,h1,hf⟩:=bind_some hf
    refine⟨ρ,ds,hE,h1,fun vs H1 p=>?_⟩
    show spF X.K G fr (vs++[]) H1 Q E0
    rw[List.append_nil]
    refine⟨ds,d,p.rep,hf,fun v H' r=>hQ v H' ⟨p.same.trans r.same,ar (aF _ _) (r.rep cQ (Dom.none _) (aK (jc _) p.rep)),fun A hA hz=>r.rep A (hA.mono p.same) (p.av A hA hz)⟩⟩
end
end VL
namespace VL
open PySem PySem.Spec PyProof.Rows L2
theorem jo(env:PySem.Env):∀ (names:List (Str × NameKind)) (acc:List (Str × Addr)),(∀ x ∈ names,x.2=.free->∃ c,env.cells.lookup x.1=some c) ->
    ∃ cl,(forIn names acc fun x r=>(if (x.2 == NameKind.free)=true then (do let c <- cellOf env x.1;pure (ForInStep.yield ((x.1,c)::r))) else pure (ForInStep.yield r):Sem (ForInStep (List (Str × Addr)))))=pure cl /\
      (∀ x c,cl.lookup x=some c->acc.lookup x=some c\/env.cells.lookup x=some c)/\(∀ x,(∃ c,acc.lookup x=some c)->∃ c,cl.lookup x=some c)/\(∀ x ∈ names,x.2=.free->∃ c,cl.lookup x.1=some c)
  | [],acc,_=>⟨acc,rfl,fun _ _ h=>.inl h,fun _ h=>h,fun _ h=>nomatch h⟩
  | (n, k)::r,acc,h=>by
    have hr:∀ x ∈ r,x.2=.free->∃ c,env.cells.lookup x.1=some c:=fun x hx=>h x (List.mem_cons_of_mem _ hx)
    by_cases hk:k=.free
    · subst hk
      obtain⟨c,hc⟩:=h (n,.free) List.mem_cons_self rfl
      obtain⟨cl,e,h1,h2,h3⟩:=jo env r ((n,c)::acc) hr
      refine⟨cl,?_,fun x c' hx=>?_,fun x ⟨c',hx⟩=>?_,fun x hx hf=>?_⟩
      · rw[List.forIn_cons]
        have e1:cellOf env n=pure c:=by unfold cellOf;rw[hc]
        simp only[beq_self_eq_true,if_true,e1,pure_bind]
        exact e
      · rcases h1 x c' hx with q | q
        · rw[List.lookup_cons] at q
          cases hxn:x == n with
          | true =>
            rw[hxn] at q
            have e2:x=n:=by simpa using hxn
            cases q
            rw[e2]
            exact .inr hc
          | false=>rw[hxn] at q;exact .inl q
        · exact .inr q
      · refine h2 x ?_
        rw[List.lookup_cons]
        cases x == n with
        | true=>exact⟨_,rfl⟩
        | false=>exact⟨c',hx⟩
      · rcases List.mem_cons.mp hx with q | q
        · subst q
          refine h2 n ⟨c,?_⟩
          rw[List.lookup_cons]
          simp
        · exact h3 x q hf
    · obtain⟨cl,e,h1,h2,h3⟩:=jo env r acc hr
      refine⟨cl,?_,h1,h2,fun x hx hf=>?_⟩
      · rw[List.forIn_cons]
        have e1:(k == NameKind.free)=false:=by simpa using hk
        simp only[e1,Bool.false_eq_true,if_false,pure_bind]
        exact e
      · rcases List.mem_cons.mp hx with q | q
        · subst q;exact absurd hf hk
        · exact h3 x q hf
theorem jp{scope:Scope}{env:PySem.Env}(h:∀ x ∈ scope.names,x.2=.free->∃ c,env.cells.lookup x.1=some c):
    ∃ cl,closureFor scope env=pure cl/\(∀ x c,cl.lookup x=some c->env.cells.lookup x=some c)/\(∀ x ∈ scope.names,x.2=.free->∃ c,cl.lookup x.1=some c):=by
  obtain⟨cl,e,h1,h2,h3⟩:=jo env scope.names [] h
  refine⟨cl,?_,fun x c q=>(h1 x c q).resolve_left (fun z=>by simp at z),h3⟩
  simp only[closureFor]
  rw[e]
  first | rfl | simp
section
variable {prog:Program} {w:World} {A:Around} {R:Result->Shared->Prop} {s:Shared}
theorem u2{elt target iter:Expr}{ifs:List Expr}{scope:Scope}{pos:Pos}{it acc:Value}{env:PySem.Env}(I:Nat->Shared->Prop)(turn : ∀ n s,I n s->wpAny (model prog w) A (pyNext it) (fun r s₁=>match r with
      | none=>R (.ok .next) s₁
      | some v=>wpAny (model prog w) A (letOwnedTupleGo target it v) (fun _ s₁'=>wpAny (model prog w) A (assign target env v) (fun _ s₂ =>
          wpAny (model prog w) A (forIn ifs true fun c r=>if r=true then do let ok <- isTrue c env (eval c env);pure (ForInStep.yield ok) else pure (ForInStep.yield r)) (fun ok s₃ =>
            if ok=true then wpAny (model prog w) A (eval elt env) (fun x s₄ =>
              wpAny (model prog w) A (call (.builtin "list.append") [acc,x]) (fun _ s₅=>∃ m,m < n/\I m s₅) (fun _ _=>False) s₄) (fun _ _=>False) s₃
            else ∃ m,m < n/\I m s₃) (fun _ _=>False) s₂) (fun _ _=>False) s₁') (fun _ _=>False) s₁) (fun _ _=>False) s)(n:Nat)(h:I n s):codeAny (model prog w) A (.compLoop (.ListComp elt [⟨target,iter,ifs,0⟩] scope pos) 0 it acc env) R s:=by
  refine codeAny_loop rfl I (fun n s hI=>?_) n h
  show wpAny _ A ((compTurn (.ListComp elt [⟨target,iter,ifs,0⟩] scope pos) 0 it acc env).onRaise (fun x=>do noteFrame x env;theTreesLotGoes x)) _ _ s
  refine wpAny_noted ?_
  rw[compTurn_list]
  refine wpAny_bind (wpAny_standAt (wpAny_bind (wpAny_mono (turn n s hI) (fun r s₁ h₁=>?_) fun _ _ h'=>h'.elim)))
  cases r with
  | none=>exact wpAny_pure h₁
  | some v =>
    refine wpAny_bind (wpAny_mono h₁ (fun _ s₁' h₁'=>?_) fun _ _ h'=>h'.elim)
    refine wpAny_bind (wpAny_mono h₁' (fun _ s₂ h₂=>wpAny_bind (wpAny_mono h₂ (fun ok s₃ h₃=>?_) fun _ _ h'=>h'.elim)) fun _ _ h'=>h'.elim)
    cases ok with
    | false=>exact wpAny_pure ⟨rfl,h₃⟩
    | true =>
      exact wpAny_bind (wpAny_bind (wpAny_mono h₃ (fun x s₄ h₄=>wpAny_bind (wpAny_mono h₄ (fun _ s₅ h₅=>wpAny_pure (wpAny_pure ⟨rfl,h₅⟩)) fun _ _ h'=>h'.elim)) fun _ _ h'=>h'.elim))
end
def blk(X:Cx)(N:List Str)(s:Shared)(H:Hp)(scope:Scope)(cl:List (Str × Addr))(ex:List Addr):Cx :=
  { X with N:=N,s₀:=s,H₀:=H,env:=compEnvC scope cl s.heap.objs.size X.env,outer:=X.stack,ex:=ex,fn:=fun _=>false,pn:=[],xe:=fun _ _=>False }
structure BlkOk (X:Cx) (scope:Scope) (own:List Str) (caps:List Nat) (cn:List Str):Prop where
  kind:scope.kind=.function
  nocell:∀ x ∈ scope.names,x.2 ≠ .cell
  locals:∀ x ∈ scope.names,x.2=.local->scope.names.lookup x.1=some .local
  free:∀ x ∈ scope.names,x.2=.free->(X.env.kindOf x.1=some .cell\/X.env.kindOf x.1=some .free)
  names:caps.map (fun j=>X.N[j]?)=cn.map some
  capf:∀ x ∈ cn,scope.names.lookup x=some .free
  nd:(own++cn).Nodup
theorem jq{env:PySem.Env}:∀ {names:List (Str × NameKind)} {x:Str} {k:NameKind},(names.map fun (n,k)=>if (k == NameKind.free && env.scope.kind == .function && env.kindOf n == some .cell) then (n,NameKind.cell) else (n,k)).lookup x=some k ->
    (∀ y ∈ names,y.2 ≠ .cell)->(k=.cell\/k=.free)->(x,NameKind.free) ∈ names
  | [],_,_,h,_,_=>by simp at h
  | (n, k')::r,x,k,h,hc,hk=>by
    have ih:=@jq env r x k
    have h:List.lookup x ((if (k' == NameKind.free && env.scope.kind == .function && env.kindOf n == some .cell)=true then (n,NameKind.cell) else (n,k'))::(r.map fun (n,k)=>if (k == NameKind.free && env.scope.kind == .function && env.kindOf n == some .cell) then (n,NameKind.cell) else (n,k)))=some k:=h
    have hr:∀ y ∈ r,y.2 ≠ .cell:=fun y hy=>hc y (List.mem_cons_of_mem _ hy)
    by_cases hcd:(k' == NameKind.free && env.scope.kind == .function && env.kindOf n == some .cell)=true
    · have hk':k'=.free:=by
        rw[Bool.and_eq_true,Bool.and_eq_true] at hcd
        simpa using hcd.1.1
      rw[if_pos hcd,List.lookup_cons] at h
      cases hx:x == n with
      | true =>
        have e:x=n:=by simpa using hx
        rw[e,hk'];exact List.mem_cons_self
      | false=>rw[hx] at h;exact List.mem_cons_of_mem _ (ih h hr hk)
    · rw[if_neg hcd,List.lookup_cons] at h
      cases hx:x == n with
      | true =>
        have e:x=n:=by simpa using hx
        rw[hx] at h
        cases h
        rcases hk with hk | hk
        · exact absurd hk (hc (n,k') List.mem_cons_self)
        · rw[e,<- hk];exact List.mem_cons_self
      | false=>rw[hx] at h;exact List.mem_cons_of_mem _ (ih h hr hk)
theorem mP{env:PySem.Env}:∀ {names:List (Str × NameKind)} {x:Str},names.lookup x=some .free ->
    (names.map fun (n,k)=>if (k == NameKind.free && env.scope.kind == .function && env.kindOf n == some .cell) then (n,NameKind.cell) else (n,k)).lookup x ≠ some .local
  | [],_,h=>by simp at h
  | (n,k)::r,x,h=>by
    have ih:=@mP env r x
    show List.lookup x ((if (k == NameKind.free && env.scope.kind == .function && env.kindOf n == some .cell)=true then (n,NameKind.cell) else (n,k))::(r.map fun (n,k)=>if (k == NameKind.free && env.scope.kind == .function && env.kindOf n == some .cell) then (n,NameKind.cell) else (n,k))) ≠ some .local
    rw[List.lookup_cons] at h
    by_cases hcd:(k == NameKind.free && env.scope.kind == .function && env.kindOf n == some .cell)=true
    · rw[if_pos hcd,List.lookup_cons]
      cases hx:x == n with
      | true=>exact fun z=>by cases z
      | false=>rw[hx] at h;exact ih h
    · rw[if_neg hcd,List.lookup_cons]
      cases hx:x == n with
      | true=>rw[hx] at h;cases h;exact fun z=>by cases z
      | false=>rw[hx] at h;exact ih h
section
variable {X:Cx} {pins:List (Addr × Obj)} {σ:St} {H:Hp} {s:Shared} {scope:Scope} {own cn:List Str} {caps:List Nat} {cl:List (Str × Addr)} {ex:List Addr}
def bx(σ:St)(caps:List Nat):St:=caps.map fun j=>(σ[j]?).getD none
theorem u6(I:L2.Inv X pins σ H s)(B:BlkOk X scope own caps cn)(hcl:∀ x c,cl.lookup x=some c->X.env.cells.lookup x=some c)(hha:∀ x ∈ scope.names,x.2=.free->∃ c,cl.lookup x.1=some c)(hex:∀ b ∈ ex,bA X pins H b/\b < s.heap.objs.size){h₁:Heap}{tk:Nat}(hns:h₁.Ns s.heap.objs.size (fun _=>none))(hk:∀ b o,s.heap.get? b=some o->h₁.get? b=some o):
    L2.Inv (blk X (own++cn) s H scope cl ex) [] (List.replicate own.length none++bx σ caps) H { s with heap:=h₁,toks:=tk }:=by
  have hcap:cn.length=caps.length:=by have:=congrArg List.length B.names;simpa using this.symm
  refine⟨⟨I.ok.mod,B.kind,I.ok.glob,I.ok.blt,Nat.le_refl _,fun x y c h1 h2=>I.ok.inj x y c (hcl x c h1) (hcl y c h2),fun x hx=>?_,fun x c h=>(nomatch h),I.ok.hd,I.ok.frames,.inl rfl,fun b hb=>?_,fun b o e=>I.bs b o e,Nat.le_trans I.ok.bsz I.sz,fun b o e hb=>?_,fun b hb hfs=>?_,I.stack,I.stkFree⟩,
    rfl,I.bare,Un.kept hk,⟨_,hns,fun i x v h1 h2 h3=>?_⟩,fun x c h=>?_,I.hok.fresh (Nat.le_refl _),fun x c h=>I.freeC x c (hcl x c h),fun p hp=>absurd hp (by simp[blk]),I.hok.kept hk,?_⟩
  · have hx':(relabel scope X.env).names.lookup x=some .cell\/(relabel scope X.env).names.lookup x=some .free:=hx
    have m:(x,NameKind.free) ∈ scope.names:=by
      rcases hx' with q | q
      · exact jq q B.nocell (.inl rfl)
      · exact jq q B.nocell (.inr rfl)
    exact hha _ m rfl
  · obtain⟨f,lt⟩:=hex b hb
    exact⟨Nat.ne_of_lt lt,fun x c h=>f.2.2.2.2.1 x c (hcl x c h)⟩
  · obtain⟨f,lt⟩:=hex b hb
    rcases f.2.2.2.1 with q | q
    · exact I.ok.noex b o e q
    · exact absurd (Nat.lt_of_lt_of_le (Heap.lt_size e) I.ok.bsz) (Nat.not_lt.mpr q)
  · obtain⟨f,lt⟩:=hex b hb
    rcases List.mem_cons.mp (I.stkSub b hfs) with q | q
    · exact f.2.1 q
    · exact f.2.2.1 q
  ·
    have hlen:(List.replicate own.length (none:Option V)).length=own.length:=List.length_replicate
    by_cases hi:i < own.length
    · rw[List.getElem?_append_left (by rw[hlen];exact hi),List.getElem?_replicate,if_pos hi] at h2
      cases h2
    · rw[List.getElem?_append_right (by rw[hlen];omega),hlen] at h2
      have h1':cn[i - own.length]?=some x:=by
        have h1'':(own++cn)[i]?=some x:=h1
        rwa [List.getElem?_append_right (by omega)] at h1''
      unfold bx at h2
      rw[List.getElem?_map] at h2
      cases hj:caps[i - own.length]? with
      | none=>rw[hj] at h2;cases h2
      | some j =>
        rw[hj] at h2
        have hN:X.N[j]?=some x:=by
          have q:=congrArg (fun l=>l[i - own.length]?) B.names
          simp only[List.getElem?_map,hj,h1',Option.map_some] at q
          exact Option.some.inj q
        have hσ:σ[j]?=some (some v):=by
          simp only[Option.map_some,Option.some.injEq] at h2
          cases e:σ[j]? with
          | none=>rw[e] at h2;cases h2
          | some o=>rw[e] at h2;simp only[Option.getD_some] at h2;rw[h2]
        have hxf:scope.names.lookup x=some .free:=B.capf x (List.mem_of_getElem? h1')
        have hkind:=B.free (x,.free) (PySem.mem_of_lookup hxf) rfl
        have hvis:Vis X.env.scope x:=hkind.elim (fun q=>.inr (.inl q)) fun q=>.inr (.inr q)
        obtain⟨m,hm,hl⟩:=I.loc
        obtain⟨u,r,look⟩:=hl j x v hN hσ hvis
        rcases look with⟨hloc,_⟩ | ⟨_,c,hc,hcell⟩
        · rcases hkind with q | q <;> rw[q] at hloc <;> cases hloc
        · obtain⟨c',hc'⟩:=hha (x,.free) (PySem.mem_of_lookup hxf) rfl
          have e:=hcl x c' hc'
          rw[hc] at e;cases e
          refine⟨u,r,.inr ⟨?_,c,hc',?_⟩⟩
          · rcases h3 with q | q | q
            · exfalso
              have:(relabel scope X.env).names.lookup x=some .local:=q
              unfold relabel at this
              have z:=@mP X.env scope.names x hxf
              exact z this
            · exact .inl q
            · exact .inr q
          · obtain⟨oc,ho,hd⟩:=hcell
            exact⟨oc,hk _ _ ho,hd⟩
  · obtain⟨v,oc,ho,hd⟩:=I.cell x c (hcl x c h)
    exact⟨v,oc,hk _ _ ho,hd⟩
  · show (List.replicate own.length none++bx σ caps).length=(own++cn).length
    simp[bx,hcap]
end
end VL
namespace VL
open PySem PySem.Spec PyProof.Rows L2
theorem Inv.track{X:Cx}{pins:List (Addr × Obj)}{σ:St}{H:Hp}{s:Shared}{d:Addr}{ys:List V}{its:List Value}{n:Nat}(I:L2.Inv X pins σ H s)(e:s.heap.get? d=some { cls:=.type "list",data:=.seq its.toArray n })(hv:Vals ys its)(hz:ys.length<=sizeLine)(f:bA X pins H d)(f3:X.s₀.heap.objs.size<=d):L2.Inv X pins σ (upd H d (.lst ys)) s:=by
  obtain⟨f0,f1,f2,_,f4,f5⟩:=f
  have old:∀ b o,X.s₀.heap.get? b=some o->b ≠ d:=fun b o q z=>absurd (Nat.lt_of_lt_of_le (Heap.lt_size q) (by rw[z];exact f3)) (Nat.lt_irrefl _)
  have nd:∀ b u,H b=some u->b ≠ d:=fun b u q z=>by rw[z,f0] at q;cases q
  refine⟨I.ok,I.os,I.bare,⟨I.base.keep,I.base.slot,fun b o q n hx=>?_,I.base.there,fun b xs q=>?_,fun b o u q=>?_,fun b ps q=>?_⟩,I.loc,I.cell,?_,fun x c q=>?_,fun p hp=>?_,fun b o q=>?_,I.len⟩
  · rw[au (old b o q)];exact I.base.free b o q n hx
  · have z:=I.base.tups b xs q;rw[au (nd b _ z)];exact z
  · have z:=I.base.frzs b o u q;rw[au (nd b _ z)];exact z
  · obtain⟨more,z⟩:=I.base.tbls b ps q;exact⟨more,by rw[au (nd b _ z)];exact z⟩
  · rw[au (Ne.symm f1)];exact I.free
  · rw[au (f4 x c q)];exact I.freeC x c q
  · obtain⟨k1,k2,k3,k4,k5⟩:=I.pin p hp
    exact⟨k1,by rw[au (f5 p hp)];exact k2,k3,k4,k5⟩
  · by_cases hb:b=d
    · subst hb
      rw[ba] at q;cases q
      exact⟨hz,its,n,hv,e⟩
    · rw[au hb] at q
      refine (I.hok b o q).stay (fun c v _ z=>z) (fun c z=>?_) fun c xs z=>?_
      · rw[au (nd c _ z)];exact z
      · rw[au (nd c _ z)];exact z
def PTs(X:Cx)(ifs:List Expr)(t:TT):Prop :=
  ∀ (pins:List (Addr × Obj)) (s:Shared) (σ:St) (H:Hp) (Q:Bool->Hp->Prop),L2.Inv X pins σ H s->t σ H Q ->
    wpAny (model X.prog X.w) X.A (forIn ifs true fun c r=>if r=true then do let ok <- isTrue c X.env (eval c X.env);pure (ForInStep.yield ok) else pure (ForInStep.yield r)) (TP X pins σ Q) X.xe s
theorem jr{X:Cx}:PTs X [] (fun _ H Q=>Q true H):=fun pins s σ H Q I h=>wpAny_tests_nil ⟨H,I,h⟩
theorem u7{X:Cx}{c:Expr}{t:TT}(h:PT X c t):PTs X [c] t:=fun pins s σ H Q I hq=>wpAny_tests_one (h pins s σ H Q I hq)
def eR(nown:Nat)(caps:List Nat)(wi:TI)(g:TG)(tt:TT)(te:TE):TE:=fun σ H Q=>wi σ H fun J H1=>∃ W:Nat->Nat->List V->St->Hp->Prop,
  (∃ m, W 0 m [] (List.replicate nown none++bx σ caps) H1)/\∀ i m ys σb H2,W i m ys σb H2->ys.length < sizeLine /\
    ((J.stop i H2/\∀ d,H2 d=none->Q (.ref d) (upd H2 d (.lst ys))) \/
     (J.go i H2/\∀ x H3,J.yld i H2 x H3->g x σb H3 fun σb' H4=>tt σb' H4 fun b H5 =>
        if b=true then te σb' H5 fun y H6=>∃ m',m' < m/\W (i+1) m' (ys++[y]) σb' H6 else ∃ m',m' < m/\W (i+1) m' ys σb' H5))
section
variable {X:Cx} {elt tg iter:Expr} {ifs:List Expr} {scope:Scope} {own cn:List Str} {caps:List Nat} {wi:TI} {g:TG} {tt:TT} {te:TE} {pos:Pos}
structure After (X:Cx) (pins:List (Addr × Obj)) (σ:St) (H:Hp) (d c:Addr) (ys:List V) (s:Shared):Prop where
  inv:L2.Inv X pins σ (upd H d (.lst ys)) s
  ns:∃ m,s.heap.Ns c m
  new:H d=none
  cf:bA X pins (upd H d (.lst ys)) c
theorem u8(B:BlkOk X scope own caps cn)(hc:X.calm=true)(hg:∀ s H cl ex,PG (blk X (own++cn) s H scope cl ex) tg g)(ht:∀ s H cl ex,PTs (blk X (own++cn) s H scope cl ex) ifs tt)(he:∀ s H cl ex,PE (blk X (own++cn) s H scope cl ex) elt te){pins:List (Addr × Obj)}{s3:Shared}{σ:St}{H2:Hp}{Q:VK}{it d:Addr}{fp:List Addr}{tn:Nat->Heap->Prop}{J:It}{W:Nat->Nat->List V->St->Hp->Prop}{m0 tk:Nat}{h₁:Heap}(I3:L2.Inv X pins σ H2 s3){cl:List (Str × Addr)}(hcl:∀ x c,cl.lookup x=some c->X.env.cells.lookup x=some c)(hha:∀ x ∈ scope.names,x.2=.free->∃ c,cl.lookup x.1=some c)(T:Turn X.prog X.w X.K tg J fp it tn)(st:tn 0 s3.heap)(f2:∀ b ∈ fp,bA X pins H2 b)(fpd:bA X pins H2 d)(fd3:X.s₀.heap.objs.size<=d)(dnf:∀ b ∈ fp,b ≠ d)(hd3:s3.heap.get? d=some { cls:=.type "list",data:=.seq #[] 0 })(w0:W 0 m0 [] (List.replicate own.length none++bx σ caps) H2)(turn : ∀ i m ys σb H2,W i m ys σb H2->ys.length < sizeLine /\
      ((J.stop i H2/\∀ d,H2 d=none->Q (.ref d) (upd H2 d (.lst ys))) \/
       (J.go i H2/\∀ x H3,J.yld i H2 x H3->g x σb H3 fun σb' H4=>tt σb' H4 fun b H5 =>
          if b=true then te σb' H5 fun y H6=>∃ m',m' < m/\W (i+1) m' (ys++[y]) σb' H6 else ∃ m',m' < m/\W (i+1) m' ys σb' H5)))(hns:h₁.Ns s3.heap.objs.size (fun _=>none))(hk:∀ b o,s3.heap.get? b=some o->h₁.get? b=some o){RR:Value->Addr->Result->Shared->Prop}(hRR:∀ d c ys H' s',After X pins σ H' d c ys s'->Q (.ref d) (upd H' d (.lst ys))->RR (.ref d) c (.ok .next) s'):
    codeAny (model X.prog X.w) X.A (.compStart (.ListComp elt [⟨tg,iter,ifs,0⟩] scope pos) 0 (.ref it) (.ref d) (compEnvC scope cl s3.heap.objs.size X.env)) (RR (.ref d) s3.heap.objs.size) { s3 with heap:=h₁,toks:=tk }:=by
  have lt3:∀ b ∈ d::fp,b < s3.heap.objs.size:=fun b hb=>by
    rcases List.mem_cons.mp hb with e | hb
    · rw[e];exact Heap.lt_size hd3
    · obtain⟨o,e,_⟩:=T.obj _ _ st b hb;exact Heap.lt_size e
  have fex:∀ b ∈ d::fp,bA X pins H2 b:=fun b hb=>(List.mem_cons.mp hb).elim (fun e=>e ▸ fpd) (f2 b)
  have IB:=u6 (ex:=d::fp) (tk:=tk) I3 B hcl hha (fun b hb=>⟨fex b hb,lt3 b hb⟩) hns hk
  have fpB:∀ {P:List (Addr × Obj)} {H':Hp},(∀ b ∈ fp,H' b=none)->(∀ p ∈ P,p.1=d)->∀ b ∈ fp,bA (blk X (own++cn) s3 H2 scope cl (d::fp)) P H' b:=fun {P H'} hn hP b hb=>by
    refine⟨hn b hb,Nat.ne_of_lt (lt3 b (List.mem_cons_of_mem _ hb)),fun z=>?_,.inl (List.mem_cons_of_mem _ hb),fun x c q=>(f2 b hb).2.2.2.2.1 x c (hcl x c q),fun p hp=>?_⟩
    · rcases List.mem_cons.mp (I3.stkSub b z) with q | q
      · exact (f2 b hb).2.1 q
      · exact (f2 b hb).2.2.1 q
    · have hp':p ∈ P:=by simpa [blk] using hp
      rw[hP p hp'];exact Ne.symm (dnf b hb)
  have dB:∀ {P:List (Addr × Obj)} {H':Hp},H' d=none->(∀ p ∈ P,p.1 ∈ fp)->bA (blk X (own++cn) s3 H2 scope cl (d::fp)) P H' d:=fun {P H'} hn hP=>by
    refine⟨hn,Nat.ne_of_lt (lt3 d List.mem_cons_self),fun z=>?_,.inl List.mem_cons_self,fun x c q=>fpd.2.2.2.2.1 x c (hcl x c q),fun p hp=>?_⟩
    · rcases List.mem_cons.mp (I3.stkSub d z) with q | q
      · exact fpd.2.1 q
      · exact fpd.2.2.1 q
    · have hp':p ∈ P:=by simpa [blk] using hp
      exact fun e=>dnf p.1 (hP p hp') e
  have loop:∀ s':Shared,s'={ s3 with heap:=h₁,toks:=tk }->codeAny (model X.prog X.w) X.A (.compLoop (.ListComp elt [⟨tg,iter,ifs,0⟩] scope pos) 0 (.ref it) (.ref d) (compEnvC scope cl s3.heap.objs.size X.env)) (RR (.ref d) s3.heap.objs.size) s':=by
    rintro s' rfl
    refine u2 (fun n s'=>∃ (i:Nat) (ys:List V) (σb:St) (H':Hp) (its:List Value) (nn:Nat),L2.Inv (blk X (own++cn) s3 H2 scope cl (d::fp)) [] σb H' s'/\tn i s'.heap/\(∀ b ∈ fp,H' b=none)/\H' d=none/\s'.heap.get? d=some { cls:=.type "list",data:=.seq its.toArray nn }/\Vals ys its/\W i n ys σb H') ?_ m0
      ⟨0,[],_,H2,[],0,IB,T.keep _ _ _ st fun b _ o e=>hk b o e,fun b hb=>(f2 b hb).1,fpd.1,hk _ _ hd3,.nil,w0⟩
    rintro n s4 ⟨i,ys,σb,H',its,nn,I4,st4,fr4,hd4,o4,r4,w4⟩
    have I4p:L2.Inv (blk X (own++cn) s3 H2 scope cl (d::fp)) [(d,{ cls:=.type "list",data:=.seq its.toArray nn })] σb H' s4:=I4.pins_of fun p hp=>by
      have e:p=(d,{ cls:=.type "list",data:=.seq its.toArray nn }):=by simpa using hp
      subst e
      obtain⟨a0,a1,a2,_⟩:=dB (P:=[]) hd4 (by simp)
      exact⟨o4,a0,a1,a2,fun v z=>by cases z⟩
    obtain⟨hys,alt⟩:=turn i n ys σb H' w4
    rcases alt with⟨stop,q⟩ | ⟨go,step⟩
    · refine thn (T.done (blk X (own++cn) s3 H2 scope cl (d::fp)) rfl rfl rfl hc i [(d,{ cls:=.type "list",data:=.seq its.toArray nn })] s4 σb H' _ I4p (fpB fr4 (by simp)) st4 stop) fun r s5 ⟨hr,I5⟩=>?_
      subst hr
      obtain⟨o5,_⟩:=I5.pin (d,{ cls:=.type "list",data:=.seq its.toArray nn }) (by simp[blk])
      have IX:L2.Inv X pins σ H' s5:=I3.call' (ch:=d::fp) I5.os I5.base I5.hok I5.bare fun b hb=>⟨(fex b hb).2.2.2.1,(fex b hb).2.1,(fex b hb).2.2.2.2.1,(fex b hb).2.2.2.2.2⟩
      have fpd':bA X pins H' d:=⟨hd4,fpd.2⟩
      have IT:=Inv.track IX o5 r4 (Nat.le_of_lt hys) fpd' fd3
      refine hRR d s3.heap.objs.size ys H' s5 ⟨IT,?_,hd4,?_⟩ (q d hd4)
      · obtain⟨m,hm,_⟩:=I5.loc;exact⟨m,hm⟩
      · have cf:H' s3.heap.objs.size=none:=I5.free
        refine I3.fpOk (Nat.le_refl _) ?_
        rw[au (Ne.symm (Nat.ne_of_lt (lt3 d List.mem_cons_self)))]
        exact cf
    · refine thn (T.item (blk X (own++cn) s3 H2 scope cl (d::fp)) rfl rfl rfl hc i [(d,{ cls:=.type "list",data:=.seq its.toArray nn })] s4 σb H' _ I4p (fpB fr4 (by simp)) st4 go) fun r s5 ⟨u,hr,h5⟩=>?_
      subst hr
      refine thn h5 fun _ s6 ⟨x,H6,I6,r6,y6,st6,fr6⟩=>?_
      have I6':=I6.pinned (fpB fr6 (by simp)) (T.obj _ _ st6)
      refine thn (hg s3 H2 cl (d::fp) _ s6 σb H6 x u _ I6' r6 (step x H6 y6)) fun _ s7 ⟨σ7,H7,I7,q7⟩=>?_
      refine thn (ht s3 H2 cl (d::fp) _ s7 σ7 H7 _ I7 q7) fun b s8 ⟨H8,I8,q8⟩=>?_
      have fin:∀ {H9:Hp} {s9:Shared},L2.Inv (blk X (own++cn) s3 H2 scope cl (d::fp)) ([(d,{ cls:=.type "list",data:=.seq its.toArray nn })]++fO fp s6.heap) σ7 H9 s9 ->
          L2.Inv (blk X (own++cn) s3 H2 scope cl (d::fp)) [] σ7 H9 s9/\tn (i+1) s9.heap/\(∀ b ∈ fp,H9 b=none)/\H9 d=none/\s9.heap.get? d=some { cls:=.type "list",data:=.seq its.toArray nn }:=fun {H9 s9} I9=>by
        have pd:=I9.pin (d,{ cls:=.type "list",data:=.seq its.toArray nn }) (by simp[blk])
        refine⟨I9.pins_of fun p hp=>absurd hp (by simp),T.keep _ _ _ st6 fun b hb o e=>(I9.pin (b,o) (List.mem_append_right _ (List.mem_append_right _ (gM hb e)))).1,fun b hb=>?_,pd.2.1,pd.1⟩
        obtain⟨o,e,_⟩:=T.obj _ _ st6 b hb
        exact (I9.pin (b,o) (List.mem_append_right _ (List.mem_append_right _ (gM hb e)))).2.1
      cases b with
      | false =>
        obtain⟨m',hm,w'⟩:=q8
        obtain⟨k1,k2,k3,k4,k5⟩:=fin I8
        exact⟨m',hm,i+1,ys,σ7,H8,its,nn,k1,k2,k3,k4,k5,r4,w'⟩
      | true =>
        refine thn (he s3 H2 cl (d::fp) _ s8 σ7 H8 _ I8 q8) fun v s9 ⟨y,H9,I9,r9,m',hm,w'⟩=>?_
        obtain⟨k1,k2,k3,k4,k5⟩:=fin I9
        have lv:=r4.length
        refine call_meets F.slot_list_append ⟨_,k5,rfl⟩ F.entry_list_append (F.args_list_append_2 _ _) (PySem.list_append d its.toArray nn v (by rw[List.size_toArray];omega)) ⟨k5,?_⟩
        have up:=PySem.IsL.update k5 (fun a=>a.push v)
        have ep:its.toArray.push v=(its++[v]).toArray:=by simp
        rw[ep] at up
        refine⟨m',hm,i+1,ys++[y],σ7,H9,its++[v],_,?_,?_,k3,k4,up,r4.append (.cons r9 .nil),w'⟩
        · exact k1.turned (it:=d) (fun b o hb e=>(Heap.get?_update_other s9.heap _ (Ne.symm hb)).trans e) k4 (dB (P:=[]) k4 (by simp)).2.1 (.inl List.mem_cons_self) (dB (P:=[]) k4 (by simp)).2.2.2.2.1 fun p hp=>absurd hp (by simp[blk])
        · exact T.keep _ _ _ k2 fun b hb o e=>(Heap.get?_update_other s9.heap _ (Ne.symm (dnf b hb))).trans e
  exact codeAny_compStart_list (loop _ rfl) (T.self X.A 0 _ _ _ (T.keep _ _ _ st fun b _ o e=>hk b o e) (loop _ rfl))
theorem js(B:BlkOk X scope own caps cn)(hc:X.calm=true)(hi:PI X tg iter wi)(hg:∀ s H cl ex,PG (blk X (own++cn) s H scope cl ex) tg g)(ht:∀ s H cl ex,PTs (blk X (own++cn) s H scope cl ex) ifs tt)(he:∀ s H cl ex,PE (blk X (own++cn) s H scope cl ex) elt te){pins:List (Addr × Obj)}{s:Shared}{σ:St}{H:Hp}{Q:VK}(I:L2.Inv X pins σ H s)(h:eR own.length caps wi g tt te σ H Q){cl:List (Str × Addr)}(hcl:∀ x c,cl.lookup x=some c->X.env.cells.lookup x=some c)(hha:∀ x ∈ scope.names,x.2=.free->∃ c,cl.lookup x.1=some c){RR:Value->Addr->Result->Shared->Prop}(hRR:∀ d c ys H' s',After X pins σ H' d c ys s'->Q (.ref d) (upd H' d (.lst ys))->RR (.ref d) c (.ok .next) s'):
    wpAny (model X.prog X.w) X.A (eval iter X.env) (fun x s₁=>wpAny (model X.prog X.w) X.A (pyIter x) (fun it s₂=>wpAny (model X.prog X.w) X.A (newList []) (fun acc s₃ =>
      wpAny (model X.prog X.w) X.A (newFunctionEnv scope X.env.globals cl [] X.env.qual none .none (some X.env)) (fun cenv s₄ =>
        codeAny (model X.prog X.w) X.A (.compStart (.ListComp elt [⟨tg,iter,ifs,0⟩] scope pos) 0 it acc { cenv with scope:=relabel scope X.env }) (RR acc cenv.locals) s₄) X.xe s₃) X.xe s₂) X.xe s₁) X.xe s:=by
  refine thn (hi pins s σ H _ I h) fun x s1 h1=>thn h1 fun itv s2 h2=>?_
  obtain⟨it,fp,tn,J,H2,rfl,I2,T,st2,f2,W,⟨m0,w0⟩,turn⟩:=h2
  refine wpAny_newObj_type (wpAny_newFunctionEnv B.nocell (by intro y hy;simp at hy) (fun h₁ hns₁ hsb₁=>?_) B.kind)
  dsimp only at hns₁ hsb₁ ⊢
  generalize hd:s2.heap.objs.size=d at hns₁ hsb₁ ⊢
  have hfd:H2 d=none:=by rw[<- hd];exact I2.hok.fresh (Nat.le_refl _)
  have fpd:bA X pins H2 d:=I2.fpOk (by rw[hd];exact Nat.le_refl _) hfd
  have fpl:∀ b ∈ fp,b < s2.heap.objs.size:=fun b hb=>by obtain⟨o,e,_⟩:=T.obj _ _ st2 b hb;exact Heap.lt_size e
  have dnf:∀ b ∈ fp,b ≠ d:=fun b hb e=>absurd (fpl b hb) (by rw[e,hd];exact Nat.lt_irrefl _)
  have I3:L2.Inv X pins σ H2 { s2 with heap:=s2.heap.push { cls:=.type "list",dict:=none,data:=.seq ([]:List Value).toArray } }:=I2.kept (t':=s2.toks) fun b o e=>Heap.get?_push_of_some _ e
  exact u8 (s3:={ s2 with heap:=s2.heap.push { cls:=.type "list",dict:=none,data:=.seq ([]:List Value).toArray } }) B hc hg ht he I3 hcl hha T (T.keep _ _ _ st2 fun b _ o e=>Heap.get?_push_of_some _ e) f2 fpd (by rw[<- hd];exact I2.sz) dnf
    (by rw[<- hd];exact Heap.get?_push_size _ rfl) w0 turn hns₁ (fun b o e=>hsb₁.extBut b o (Nat.ne_of_lt (Heap.lt_size e)) (Heap.get?_push_of_some _ e)) hRR
end
end VL
namespace VL
open PySem PySem.Spec PyProof.Rows L2
structure PostI (K:PySem.W.Frag) (σ:St) (ρ:ae) (H:Hp) (es:List Es) (ds:List D) (J:It) (H1:Hp):Prop where
  same:Same H H1
  go:∀ (i:Nat) (d:D) (H':Hp),ds[i]?=some d->Same H1 H'->J.go i H'/\∀ x H'',J.yld i H' x H''->Same H' H''/\Rep K H'' x d/\∀ A,Dom H A->(∀ e ∈ es,Av K H σ ρ A e)->Rep K (ah H'' A) x d
  stop:∀ H',Same H1 H'->J.stop ds.length H'
def tvI(K:PySem.W.Frag)(f:FEs)(es:List Es):TI:=fun σ H R=>∃ ρ ds,EnvR K H σ ρ/\f ρ=some ds/\∀ J H1,PostI K σ ρ H es ds J H1->R J H1
abbrev VI(X:Cx)(tg iter:Expr)(f:FEs)(es:List Es):Prop:=PI X tg iter (tvI X.K f es)
theorem u9{X:Cx}{tg e:Expr}{t t':TI}(h:PI X tg e t)(i:∀ σ H R,t' σ H R->t σ H R):PI X tg e t':=fun pins s σ H R I q=>h pins s σ H R I (i σ H R q)
section
variable {X:Cx} {tg iter a b:Expr} {fa fi:FE} {as:FEs} {es ea ei:List Es} {pr pn:Pos}
end
def aQ{α:Type}(σ:List (Option α))(is:List Nat)(xs:List α):List (Option α):=(is.zip xs).foldl (fun r p=>r.set p.1 (some p.2)) σ
structure TgV (K:PySem.W.Frag) (g:TG) (is:List Nat) (un:D->Option (List D)):Prop where
  ok:∀ (x:V) (σ:St) (H:Hp) (Q:St->Hp->Prop) (d:D) (ds:List D),Rep K H x d->un d=some ds->(∀ xs:List V,Reps K H xs ds->(∀ A,Rep K (ah H A) x d->Reps K (ah H A) xs ds)->Q (aQ σ is xs) H)->g x σ H Q
  len:∀ d ds,un d=some ds->ds.length=is.length
def un1(d:D):Option (List D):=some [d]
theorem jt{K:PySem.W.Frag}(t:Nat):TgV K (bD t) [t] un1 where
  ok:=fun x σ H Q d ds r hd h=>by
    cases hd
    exact h [x] (.cons r .nil) fun A r'=>.cons r' .nil
  len:=fun d ds h=>by cases h;rfl
def aT(nown:Nat)(caps:List Nat)(ρ:ae):ae:=List.replicate nown none++caps.map fun j=>(ρ[j]?).getD none
theorem i7{P:Nat->V->D->Prop}:∀ {is:List Nat} {xs:List V} {ds:List D} {σ:St} {ρ:ae},σ.length=ρ.length->xs.length=ds.length->(∀ (j:Nat) v d,σ[j]?=some (some v)->ρ[j]?=some (some d)->P j v d) ->
    (∀ (k:Nat) j v d,is[k]?=some j->xs[k]?=some v->ds[k]?=some d->P j v d)->∀ (j:Nat) v d,(aQ σ is xs)[j]?=some (some v)->(aQ ρ is ds)[j]?=some (some d)->P j v d
  | [],_,_,_,_,_,_,h0,_=>by simpa [aQ] using h0
  | i::is,[],[],_,_,_,_,h0,_=>by simpa [aQ] using h0
  | i::is,[],_::_,_,_,_,h,_,_=>by cases h
  | i::is,_::_,[],_,_,_,h,_,_=>by cases h
  | i :: is,x::xs,d::ds,σ,ρ,hl,hx,h0,h1=>by
    refine i7 (is:=is) (xs:=xs) (ds:=ds) (σ:=σ.set i (some x)) (ρ:=ρ.set i (some d)) (by simpa using hl) (by simpa using hx) (fun j v d' e1 e2=>?_) fun k j v d' a1 a2 a3=>h1 (k+1) j v d' (by simpa using a1) (by simpa using a2) (by simpa using a3)
    by_cases hj:j=i
    · subst hj
      have l1:j < σ.length:=by have:=(List.getElem?_eq_some_iff.mp e1).1;simpa using this
      rw[List.getElem?_set_self l1] at e1
      rw[List.getElem?_set_self (by omega)] at e2
      cases e1;cases e2
      exact h1 0 j x d rfl rfl rfl
    · rw[List.getElem?_set_ne (Ne.symm hj)] at e1 e2
      exact h0 j v d' e1 e2
theorem mQ{α β:Type}:∀ {is:List Nat} {xs:List α} {ds:List β} {σ:List (Option α)} {ρ:List (Option β)},σ.length=ρ.length->xs.length=ds.length->(∀ (j:Nat) d,ρ[j]?=some (some d)->∃ v,σ[j]?=some (some v)) ->
    ∀ (j:Nat) d,(aQ ρ is ds)[j]?=some (some d)->∃ v,(aQ σ is xs)[j]?=some (some v)
  | [],_,_,_,_,_,_,h0=>by simpa [aQ] using h0
  | i::is,[],[],_,_,_,_,h0=>by simpa [aQ] using h0
  | i::is,[],_::_,_,_,_,h,_=>by cases h
  | i::is,_::_,[],_,_,_,h,_=>by cases h
  | i :: is,x::xs,d::ds,σ,ρ,hl,hx,h0=>by
    refine mQ (is:=is) (xs:=xs) (ds:=ds) (σ:=σ.set i (some x)) (ρ:=ρ.set i (some d)) (by simpa using hl) (by simpa using hx) fun j d' e2=>?_
    by_cases hj:j=i
    · subst hj
      have l1:j < ρ.length:=by have:=(List.getElem?_eq_some_iff.mp e2).1;simpa using this
      exact⟨x,List.getElem?_set_self (by omega)⟩
    · rw[List.getElem?_set_ne (Ne.symm hj)] at e2 ⊢
      exact h0 j d' e2
theorem mR{α:Type}:∀ {is:List Nat} {xs:List α} {σ:List (Option α)},(aQ σ is xs).length=σ.length
  | [],_,_=>by simp[aQ]
  | _::_,[],_=>by simp[aQ]
  | i::is,x::xs,σ=>by
    have:=mR (is:=is) (xs:=xs) (σ:=σ.set i (some x))
    simpa [aQ] using this
theorem mS{α:Type}{n:Nat}:∀ {is:List Nat} {xs:List α} {σ:List (Option α)},(∀ i ∈ is,i < n)->∀ j,n<=j->(aQ σ is xs)[j]?=σ[j]?
  | [],_,_,_,_,_=>by simp[aQ]
  | _::_,[],_,_,_,_=>by simp[aQ]
  | i::is,x::xs,σ,h,j,hj=>by
    have:=mS (is:=is) (xs:=xs) (σ:=σ.set i (some x)) (fun k hk=>h k (List.mem_cons_of_mem _ hk)) j hj
    have hi:=h i List.mem_cons_self
    rw[List.getElem?_set_ne (by omega)] at this
    simpa [aQ] using this
def esC(nown:Nat)(caps:List Nat)(ei:List Es):List Es->List Es
  | []=>[]
  | .full j::r=>(if j < nown then ei else [.full (caps.getD (j - nown) 0)])++esC nown caps ei r
  | .el j::r=>(if j < nown then ei else [.el (caps.getD (j - nown) 0)])++esC nown caps ei r
theorem i8{nown:Nat}{caps:List Nat}{ei:List Es}:∀ {ee:List Es} {e:Es},e ∈ ee->(∀ j,e=.full j\/e=.el j->j < nown)->∀ z ∈ ei,z ∈ esC nown caps ei ee
  | .full j::r,e,he,hj,z,hz=>by
    rcases List.mem_cons.mp he with q | q
    · have:=hj j (.inl q)
      show z ∈ (if j < nown then ei else _)++_
      rw[if_pos this];exact List.mem_append_left _ hz
    · exact List.mem_append_right _ (i8 q hj z hz)
  | .el j::r,e,he,hj,z,hz=>by
    rcases List.mem_cons.mp he with q | q
    · have:=hj j (.inr q)
      show z ∈ (if j < nown then ei else _)++_
      rw[if_pos this];exact List.mem_append_left _ hz
    · exact List.mem_append_right _ (i8 q hj z hz)
theorem ju{nown:Nat}{caps:List Nat}{ei:List Es}{j:Nat}(hj:¬ j < nown):∀ {ee:List Es},Es.full j ∈ ee->Es.full (caps.getD (j - nown) 0) ∈ esC nown caps ei ee
  | .full k::r,he=>by
    rcases List.mem_cons.mp he with q | q
    · cases q
      show _ ∈ (if j < nown then ei else _)++_
      rw[if_neg hj];exact List.mem_append_left _ List.mem_cons_self
    · exact List.mem_append_right _ (ju hj q)
  | .el k::r,he=>by
    rcases List.mem_cons.mp he with q | q
    · cases q
    · exact List.mem_append_right _ (ju hj q)
theorem jv{nown:Nat}{caps:List Nat}{ei:List Es}{j:Nat}(hj:¬ j < nown):∀ {ee:List Es},Es.el j ∈ ee->Es.el (caps.getD (j - nown) 0) ∈ esC nown caps ei ee
  | .full k::r,he=>by
    rcases List.mem_cons.mp he with q | q
    · cases q
    · exact List.mem_append_right _ (jv hj q)
  | .el k::r,he=>by
    rcases List.mem_cons.mp he with q | q
    · cases q
      show _ ∈ (if j < nown then ei else _)++_
      rw[if_neg hj];exact List.mem_append_left _ List.mem_cons_self
    · exact List.mem_append_right _ (jv hj q)
def cV(g:D->Option (Option D)):List D->Option (List D)
  | []=>some []
  | x::r=>(g x).bind fun o=>(cV g r).bind fun ds=>some (match o with | some d=>d::ds | none=>ds)
def de(is:List Nat)(un:D->Option (List D))(c:ae->Option Bool)(fe:FE)(ρ:ae):D->Option (Option D):=fun d=>(un d).bind fun ds=>(c (aQ ρ is ds)).bind fun b=>if b=true then (fe (aQ ρ is ds)).map some else some none
def ci(nown:Nat)(caps:List Nat)(is:List Nat)(un:D->Option (List D))(fi:FEs)(c:ae->Option Bool)(fe:FE):FE:=fun ρ=>(fi ρ).bind fun ds=>if ds.length < 100000 then (cV (de is un c fe (aT nown caps ρ)) ds).map .lst else none
def g5:ae->Option Bool:=fun _=>some true
theorem ua{K:PySem.W.Frag}{nown:Nat}{caps is:List Nat}{un:D->Option (List D)}{fi:FEs}{ei ee:List Es}{g:TG}{c:ae->Option Bool}{fe:FE}(hg:TgV K g is un)(his:∀ i ∈ is,i < nown){σ:St}{H:Hp}{Q:VK}(h:tvF K (ci nown caps is un fi c fe) (esC nown caps ei ee) σ H Q):eR nown caps (tvI K fi ei) g (tvT K c) (tv K fe ee) σ H Q:=by
  obtain⟨ρ,dd,hE,hf,hQ⟩:=h
  obtain⟨ds,h1,hf⟩:=bind_some hf
  by_cases hl:ds.length < 100000
  · rw[if_pos hl] at hf
    cases htot:cV (de is un c fe (aT nown caps ρ)) ds with
    | none=>rw[htot] at hf;cases hf
    | some tot =>
      rw[htot] at hf
      cases hf
      refine⟨ρ,ds,hE,h1,fun J H1 p=>?_⟩
      refine⟨fun i m ys σb H2=>m=ds.length - i/\i<=ds.length/\Same H1 H2/\(σb.length=nown+caps.length/\∀ k,nown<=k->σb[k]?=(bx σ caps)[k - nown]?) /\
        ∃ done ai,cV (de is un c fe (aT nown caps ρ)) (ds.drop i)=some ai/\tot=done++ai/\done.length<=i/\Reps K H2 ys done/\∀ A,Dom H A->(∀ e ∈ esC nown caps ei ee,Av K H σ ρ A e)->Reps K (ah H2 A) ys done,?_,?_⟩
      · refine⟨ds.length,by simp,Nat.zero_le _,Same.refl _,⟨by simp[bx],fun k hk=>?_⟩,[],tot,by simpa using htot,rfl,Nat.le_refl _,.nil,fun _ _ _=>.nil⟩
        rw[List.getElem?_append_right (by simpa using hk)]
        simp
      · rintro i m ys σb H2 ⟨rfl,hi,e2,⟨hlen,hcap⟩,done,ai,hgo,htot',hdl,hr,hA⟩
        have lys:=hr.length
        refine⟨Nat.lt_of_lt_of_le (show ys.length < 100000 by omega) (by decide),?_⟩
        by_cases hlt:i < ds.length
        · obtain⟨d,hd⟩:∃ d,ds[i]?=some d:=⟨ds[i],by simp[hlt]⟩
          have ed:ds.drop i=d::ds.drop (i+1):=by
            rw[List.drop_eq_getElem_cons hlt]
            have q:=(List.getElem?_eq_some_iff.mp hd).2
            rw[q]
          rw[ed] at hgo
          obtain⟨o,ho,hgo⟩:=bind_some hgo
          obtain⟨rest',hgo',hgo⟩:=bind_some hgo
          cases hgo
          obtain⟨ts,hun,ho⟩:=bind_some ho
          obtain⟨b,hb,ho⟩:=bind_some ho
          obtain⟨jg,jy⟩:=p.go i d H2 hd e2
          refine .inr ⟨jg,fun x H3 y=>?_⟩
          obtain⟨e3,rx,ax⟩:=jy x H3 y
          refine hg.ok x σb H3 _ d ts rx hun fun xs rxs axs=>?_
          have e13:Same H H3:=(p.same.trans e2).trans e3
          have lx:=rxs.length
          have lts:=hg.len d ts hun
          have lb:σb.length=(aT nown caps ρ).length:=by rw[hlen];simp[aT]
          have base:∀ (j:Nat) v d',σb[j]?=some (some v)->(aT nown caps ρ)[j]?=some (some d')->¬ j < nown/\∃ k,caps[j - nown]?=some k/\σ[k]?=some (some v)/\ρ[k]?=some (some d'):=fun j v d' q1 q2=>by
            by_cases hj:j < nown
            · unfold aT at q2
              rw[List.getElem?_append_left (by simpa using hj),List.getElem?_replicate,if_pos hj] at q2
              cases q2
            · rw[hcap j (by omega)] at q1
              unfold aT at q2
              rw[List.getElem?_append_right (by simp;omega)] at q2
              simp only[List.length_replicate,List.getElem?_map] at q2
              unfold bx at q1
              rw[List.getElem?_map] at q1
              cases hk:caps[j - nown]? with
              | none=>rw[hk] at q1;cases q1
              | some k =>
                rw[hk] at q1 q2
                refine⟨hj,k,rfl,?_,?_⟩
                · simp only[Option.map_some,Option.some.injEq] at q1
                  cases e:σ[k]? with
                  | none=>rw[e] at q1;cases q1
                  | some o'=>rw[e] at q1;simp only[Option.getD_some] at q1;rw[q1]
                · simp only[Option.map_some,Option.some.injEq] at q2
                  cases e:ρ[k]? with
                  | none=>rw[e] at q2;cases q2
                  | some o'=>rw[e] at q2;simp only[Option.getD_some] at q2;rw[q2]
          have hE':EnvR K H3 (aQ σb is xs) (aQ (aT nown caps ρ) is ts):=fun j d' q=>by
            obtain⟨v,hv⟩:=mQ lb lx (fun j' d'' q'=>by
              by_cases hj:j' < nown
              · unfold aT at q'
                rw[List.getElem?_append_left (by simpa using hj),List.getElem?_replicate,if_pos hj] at q'
                cases q'
              · have q0:=q'
                unfold aT at q'
                rw[List.getElem?_append_right (by simp;omega)] at q'
                simp only[List.length_replicate,List.getElem?_map] at q'
                cases hk:caps[j' - nown]? with
                | none=>rw[hk] at q';cases q'
                | some k =>
                  rw[hk] at q'
                  simp only[Option.map_some,Option.some.injEq] at q'
                  cases e:ρ[k]? with
                  | none=>rw[e] at q';cases q'
                  | some o' =>
                    rw[e] at q'
                    simp only[Option.getD_some] at q'
                    subst q'
                    obtain⟨v,hv,_⟩:=hE k d'' e
                    refine⟨v,?_⟩
                    rw[hcap j' (by omega)]
                    unfold bx
                    rw[List.getElem?_map,hk]
                    simp[hv]) j d' q
            refine⟨v,hv,i7 (P:=fun _ v d=>Rep K H3 v d) lb lx (fun j v d' q1 q2=>?_) (fun k j v d' a1 a2 a3=>?_) j v d' hv q⟩
            · obtain⟨_,k,_,k1,k2⟩:=base j v d' q1 q2
              obtain⟨v',k3,k4⟩:=hE k d' k2
              rw[k1] at k3;cases k3
              exact ar e13 k4
            · obtain⟨v',k3,k4⟩:=rxs.get a3
              rw[a2] at k3;cases k3
              exact k4
          have av:∀ A,Dom H A->(∀ e ∈ esC nown caps ei ee,Av K H σ ρ A e)->∀ H5,Same H3 H5->∀ e ∈ ee,Av K H5 (aQ σb is xs) (aQ (aT nown caps ρ) is ts) A e:=fun A hD hz H5 e5 e he=>by
            have item:(∀ z ∈ ei,z ∈ esC nown caps ei ee)->Reps K (ah H3 A) xs ts:=fun hsub=>axs A (ax A hD fun z hz'=>hz z (hsub z hz'))
            refine Av.mono e5 ?_
            cases e with
            | full j0 =>
              intro v d' q1 q2
              refine i7 (P:=fun j v d=>j=j0->Rep K (ah H3 A) v d) lb lx (fun j v d' q3 q4 ej=>?_) (fun k j v d' a1 a2 a3 ej=>?_) j0 v d' q1 q2 rfl
              · rw[<- ej] at he
                obtain⟨hj,k,hk,k1,k2⟩:=base j v d' q3 q4
                have:=hz _ (ju hj he)
                rw[List.getD_eq_getElem?_getD,hk] at this
                exact ar (bw e13) (this v d' k1 k2)
              · rw[<- ej] at he
                have hj:=his j (List.mem_of_getElem? a1)
                obtain⟨v',k3,k4⟩:=(item (i8 he fun j' hj'=>by rcases hj' with q | q <;> cases q;exact hj)).get a3
                rw[a2] at k3;cases k3
                exact k4
            | el j0 =>
              intro v d' q1 q2
              refine i7 (P:=fun j v d=>j=j0->ElR K H3 A v d) lb lx (fun j v d' q3 q4 ej=>?_) (fun k j v d' a1 a2 a3 ej=>?_) j0 v d' q1 q2 rfl
              · rw[<- ej] at he
                obtain⟨hj,k,hk,k1,k2⟩:=base j v d' q3 q4
                have:=hz _ (jv hj he)
                rw[List.getD_eq_getElem?_getD,hk] at this
                exact (this v d' k1 k2).mono e13
              · rw[<- ej] at he
                have hj:=his j (List.mem_of_getElem? a1)
                obtain⟨v',k3,k4⟩:=(item (i8 he fun j' hj'=>by rcases hj' with q | q <;> cases q;exact hj)).get a3
                rw[a2] at k3;cases k3
                exact k4.el
          have shape:(aQ σb is xs).length=nown+caps.length/\∀ k,nown<=k->(aQ σb is xs)[k]?=(bx σ caps)[k - nown]?:=⟨by rw[mR];exact hlen,fun k hk=>by rw[mS his k hk];exact hcap k hk⟩
          refine⟨_,b,hE',hb,fun H5 e5=>?_⟩
          have e25:Same H2 H5:=e3.trans e5
          cases b with
          | false =>
            cases ho
            refine cx ⟨ds.length - (i+1),by omega,rfl,hlt,e2.trans e25,shape,done,rest',hgo',htot',by omega,aK e25 hr,fun A hD hz=>aK (bw e25) (hA A hD hz)⟩
          | true =>
            have ho':(fe (aQ (aT nown caps ρ) is ts)).map some=some o:=ho
            cases hfe:fe (aQ (aT nown caps ρ) is ts) with
            | none=>rw[hfe] at ho';cases ho'
            | some dv =>
              rw[hfe] at ho'
              cases ho'
              refine cy ⟨_,dv,hE'.mono e5,hfe,fun v H6 p6=>?_⟩
              have e26:Same H2 H6:=e25.trans p6.same
              refine⟨ds.length - (i+1),by omega,rfl,hlt,e2.trans e26,shape,done++[dv],rest',hgo',by rw[htot'];simp,by simp;omega,(aK e26 hr).append (.cons p6.rep .nil),fun A hD hz=>?_⟩
              exact (aK (bw e26) (hA A hD hz)).append (.cons (p6.av A (hD.mono (e13.trans e5)) (av A hD hz H5 e5)) .nil)
        · have ei':i=ds.length:=by omega
          subst ei'
          rw[List.drop_length] at hgo
          cases hgo
          rw[List.append_nil] at htot'
          subst htot'
          exact .inl ⟨p.stop H2 e2,fun d hd=>hQ _ _ (fY (p.same.trans e2) hd fun A hD hz=>hA A hD hz)⟩
  · rw[if_neg hl] at hf;cases hf
end VL
namespace VL
open PySem PySem.Spec PyProof.Rows L2
def b2z(b:Bool):Int:=if b then 1 else 0
def bX:D->D->Bool
  | .non,.non=>true
  | .bl a,.bl b=>a == b
  | .int i,.int j=>i == j
  | .str x,.str y=>x == y
  | .bl a,.int j=>b2z a == j
  | .int i,.bl b=>i == b2z b
  | _,_=>false
def aJ:Nat->D->D->Bool
  | k+1,.lst xs,.lst ys=>xs.length == ys.length && (xs.zip ys).all fun p=>aJ k p.1 p.2
  | k+1,.tup xs,.tup ys=>xs.length == ys.length && (xs.zip ys).all fun p=>aJ k p.1 p.2
  | _,d,e=>bX d e
def aN:Nat->D->Bool
  | _,.scr _=>false
  | _,.dct _ _=>false
  | _,.ptr _=>false
  | 0,.lst _=>false
  | 0,.tup _=>false
  | k+1,.lst xs=>xs.all (aN k)
  | k+1,.tup xs=>xs.all (aN k)
  | _,_=>true
structure Cmp3 (A:Around) (s:Shared) (v u:Value) (b:Bool):Prop where
  eq:SeqAt.EqAt A s v u b
  rc:SeqAt.RcAt A s v u b
  ne:SeqAt.RcNeAt A s v u (!b)
theorem jw(f:D->D->Bool):∀ (xs ys:List D),xs.length=ys.length ->
    (List.range xs.length).all (fun j=>match xs[j]?,ys[j]? with | some a,some b=>f a b | _,_=>false)=(xs.zip ys).all fun p=>f p.1 p.2
  | [],[],_=>rfl
  | [],_::_,h=>by cases h
  | _::_,[],h=>by cases h
  | x::xs,y::ys,h=>by
    have ih:=jw f xs ys (by simpa using h)
    rw[List.length_cons,List.range_succ_eq_map,List.all_cons,List.all_map,List.zip_cons_cons,List.all_cons,<- ih]
    simp[Function.comp_def]
def jx:D->Bool
  | .scr _=>true
  | .dct _ _=>true
  | .ptr _=>true
  | _=>false
def i9:D->D->Bool
  | .lst _,.lst _=>true
  | .tup _,.tup _=>true
  | _,_=>false
theorem mT{X:Cx}{pins:List (Addr × Obj)}{σ:St}{H:Hp}{s:Shared}(I:L2.Inv X pins σ H s)(A:Around)(v u:V)(vv uu:Value)(d e:D)(hu:A.units < cLine)(nd:jx d=false)(ne:jx e=false)(nl:i9 d e=false)(rd:Rep X.K H v d)(re:Rep X.K H u e)(rv:RelV v vv)(ru:RelV u uu):Cmp3 A s vv uu (bX d e):=by
  cases rd with
  | scr _=>cases nd
  | dct _=>cases nd
  | ptr _=>cases nd
  | non =>
    cases rv
    cases re with
    | scr _=>cases ne
    | dct _=>cases ne
    | ptr _=>cases ne
    | non =>
      cases ru
      exact⟨.same _,.none_none,.none_none⟩
    | bl b2 =>
      cases ru
      exact⟨.none_bool b2,.none_bool b2,.none_bool b2⟩
    | int i2 =>
      obtain⟨t2,rfl⟩:=ru
      exact⟨.none_int i2 t2,.none_int i2 t2,.none_int i2 t2⟩
    | str x2 =>
      obtain⟨t2,rfl⟩:=ru
      exact⟨.none_str x2 t2,.none_str x2 t2,.none_str x2 t2⟩
    | @lst p2 xs2 ds2 h2 r2 =>
      cases ru;obtain⟨its2,q2,pl2,z2⟩:=I.list (.inl h2);have l2:=pl2.isList
      exact⟨.none_list l2 hu,.none_list l2 hu,.none_list l2 hu⟩
    | @tup p2 xs2 ds2 h2 r2 =>
      have h2:=bU h2
      cases ru;obtain⟨its2,q2,l2,z2⟩:=I.tuple (.inl h2)
      exact⟨.none_tuple l2 hu,.none_tuple l2 hu,.none_tuple l2 hu⟩
  | bl b1 =>
    cases rv
    cases re with
    | scr _=>cases ne
    | dct _=>cases ne
    | ptr _=>cases ne
    | non =>
      cases ru
      exact⟨.bool_none b1,.bool_none b1,.bool_none b1⟩
    | bl b2 =>
      cases ru
      exact⟨.bool_bool b1 b2,.bool_bool b1 b2,.bool_bool b1 b2⟩
    | int i2 =>
      obtain⟨t2,rfl⟩:=ru
      exact⟨.bool_int b1 i2 t2,.bool_int b1 i2 t2,.bool_int b1 i2 t2⟩
    | str x2 =>
      obtain⟨t2,rfl⟩:=ru
      exact⟨.bool_str b1 x2 t2,.bool_str b1 x2 t2,.bool_str b1 x2 t2⟩
    | @lst p2 xs2 ds2 h2 r2 =>
      cases ru;obtain⟨its2,q2,pl2,z2⟩:=I.list (.inl h2);have l2:=pl2.isList
      exact⟨.bool_list b1 l2 hu,.bool_list b1 l2 hu,.bool_list b1 l2 hu⟩
    | @tup p2 xs2 ds2 h2 r2 =>
      have h2:=bU h2
      cases ru;obtain⟨its2,q2,l2,z2⟩:=I.tuple (.inl h2)
      exact⟨.bool_tuple b1 l2 hu,.bool_tuple b1 l2 hu,.bool_tuple b1 l2 hu⟩
  | int i1 =>
    obtain⟨t1,rfl⟩:=rv
    cases re with
    | scr _=>cases ne
    | dct _=>cases ne
    | ptr _=>cases ne
    | non =>
      cases ru
      exact⟨.int_none i1 t1,.int_none i1 t1,.int_none i1 t1⟩
    | bl b2 =>
      cases ru
      exact⟨.int_bool i1 t1 b2,.int_bool i1 t1 b2,.int_bool i1 t1 b2⟩
    | int i2 =>
      obtain⟨t2,rfl⟩:=ru
      exact⟨.int_int i1 t1 i2 t2,.int_int i1 t1 i2 t2,.int_int i1 t1 i2 t2⟩
    | str x2 =>
      obtain⟨t2,rfl⟩:=ru
      exact⟨.int_str i1 t1 x2 t2,.int_str i1 t1 x2 t2,.int_str i1 t1 x2 t2⟩
    | @lst p2 xs2 ds2 h2 r2 =>
      cases ru;obtain⟨its2,q2,pl2,z2⟩:=I.list (.inl h2);have l2:=pl2.isList
      exact⟨.int_list i1 t1 l2 hu,.int_list i1 t1 l2 hu,.int_list i1 t1 l2 hu⟩
    | @tup p2 xs2 ds2 h2 r2 =>
      have h2:=bU h2
      cases ru;obtain⟨its2,q2,l2,z2⟩:=I.tuple (.inl h2)
      exact⟨.int_tuple i1 t1 l2 hu,.int_tuple i1 t1 l2 hu,.int_tuple i1 t1 l2 hu⟩
  | str x1 =>
    obtain⟨t1,rfl⟩:=rv
    cases re with
    | scr _=>cases ne
    | dct _=>cases ne
    | ptr _=>cases ne
    | non =>
      cases ru
      exact⟨.str_none x1 t1,.str_none x1 t1,.str_none x1 t1⟩
    | bl b2 =>
      cases ru
      exact⟨.str_bool x1 t1 b2,.str_bool x1 t1 b2,.str_bool x1 t1 b2⟩
    | int i2 =>
      obtain⟨t2,rfl⟩:=ru
      exact⟨.str_int x1 t1 i2 t2,.str_int x1 t1 i2 t2,.str_int x1 t1 i2 t2⟩
    | str x2 =>
      obtain⟨t2,rfl⟩:=ru
      exact⟨.str_str x1 t1 x2 t2,.str_str x1 t1 x2 t2,.str_str x1 t1 x2 t2⟩
    | @lst p2 xs2 ds2 h2 r2 =>
      cases ru;obtain⟨its2,q2,pl2,z2⟩:=I.list (.inl h2);have l2:=pl2.isList
      exact⟨.str_list x1 t1 l2 hu,.str_list x1 t1 l2 hu,.str_list x1 t1 l2 hu⟩
    | @tup p2 xs2 ds2 h2 r2 =>
      have h2:=bU h2
      cases ru;obtain⟨its2,q2,l2,z2⟩:=I.tuple (.inl h2)
      exact⟨.str_tuple x1 t1 l2 hu,.str_tuple x1 t1 l2 hu,.str_tuple x1 t1 l2 hu⟩
  | @lst p1 xs1 ds1 h1 r1 =>
    cases rv;obtain⟨its1,q1,pl1,z1⟩:=I.list (.inl h1);have l1:=pl1.isList
    cases re with
    | scr _=>cases ne
    | dct _=>cases ne
    | ptr _=>cases ne
    | non =>
      cases ru
      exact⟨.list_none l1 hu,.list_none l1 hu,.list_none l1 hu⟩
    | bl b2 =>
      cases ru
      exact⟨.list_bool b2 l1 hu,.list_bool b2 l1 hu,.list_bool b2 l1 hu⟩
    | int i2 =>
      obtain⟨t2,rfl⟩:=ru
      exact⟨.list_int i2 t2 l1 hu,.list_int i2 t2 l1 hu,.list_int i2 t2 l1 hu⟩
    | str x2 =>
      obtain⟨t2,rfl⟩:=ru
      exact⟨.list_str x2 t2 l1 hu,.list_str x2 t2 l1 hu,.list_str x2 t2 l1 hu⟩
    | lst _ _=>cases nl
    | @tup p2 xs2 ds2 h2 r2 =>
      have h2:=bU h2
      cases ru;obtain⟨its2,q2,l2,z2⟩:=I.tuple (.inl h2)
      exact⟨.list_tuple l1 l2 hu,.list_tuple l1 l2 hu,.list_tuple l1 l2 hu⟩
  | @tup p1 xs1 ds1 h1 r1 =>
    have h1:=bU h1
    cases rv;obtain⟨its1,q1,l1,z1⟩:=I.tuple (.inl h1)
    cases re with
    | scr _=>cases ne
    | dct _=>cases ne
    | ptr _=>cases ne
    | non =>
      cases ru
      exact⟨.tuple_none l1 hu,.tuple_none l1 hu,.tuple_none l1 hu⟩
    | bl b2 =>
      cases ru
      exact⟨.tuple_bool b2 l1 hu,.tuple_bool b2 l1 hu,.tuple_bool b2 l1 hu⟩
    | int i2 =>
      obtain⟨t2,rfl⟩:=ru
      exact⟨.tuple_int i2 t2 l1 hu,.tuple_int i2 t2 l1 hu,.tuple_int i2 t2 l1 hu⟩
    | str x2 =>
      obtain⟨t2,rfl⟩:=ru
      exact⟨.tuple_str x2 t2 l1 hu,.tuple_str x2 t2 l1 hu,.tuple_str x2 t2 l1 hu⟩
    | @lst p2 xs2 ds2 h2 r2 =>
      cases ru;obtain⟨its2,q2,pl2,z2⟩:=I.list (.inl h2);have l2:=pl2.isList
      exact⟨.tuple_list l1 l2 hu,.tuple_list l1 l2 hu,.tuple_list l1 l2 hu⟩
    | tup _ _=>cases nl
theorem mU{K:PySem.W.Frag}:∀ (k:Nat) (H:Hp) {xs:List V} {j:Nat} {d e:D},(∃ v,xs[j]?=some v/\Rep K H v d)->(∃ v,xs[j]?=some v/\Rep K H v e)->aN k d=true->aN k e=true->aJ k d e=true:=by
  intro k H
  have main:∀ (k:Nat) {v:V} {d e:D},Rep K H v d->Rep K H v e->aN k d=true->aN k e=true->aJ k d e=true:=by
    intro k
    induction k with
    | zero =>
      intro v d e h1 h2 f1 f2
      cases h1 <;> cases h2 <;> first | (cases f1;done) | (cases f2;done) | simp[aJ,bX]
    | succ k ih =>
      intro v d e h1 h2 f1 f2
      have seq:∀ {xs:List V} {ds es:List D},Reps K H xs ds->Reps K H xs es->ds.all (aN k)=true->es.all (aN k)=true->(ds.length == es.length && (ds.zip es).all fun p=>aJ k p.1 p.2)=true:=by
        intro xs ds es r1 r2 g1 g2
        rw[Bool.and_eq_true]
        refine⟨by rw[<- r1.length,r2.length];simp,List.all_eq_true.mpr fun z hz=>?_⟩
        obtain⟨j,hj,ej⟩:=List.getElem_of_mem hz
        have ej':(ds.zip es)[j]?=some z:=by rw[List.getElem?_eq_getElem hj,ej]
        rw[List.getElem?_zip_eq_some] at ej'
        obtain⟨a,a1,a2⟩:=r1.get ej'.1
        obtain⟨b,b1,b2⟩:=r2.get ej'.2
        rw[a1] at b1;cases b1
        exact ih a2 b2 (List.all_eq_true.mp g1 _ (List.mem_of_getElem? ej'.1)) (List.all_eq_true.mp g2 _ (List.mem_of_getElem? ej'.2))
      cases h1 with
      | lst a1 a2 =>
        cases h2 with
        | lst b1 b2=>rw[d7 a1 b1] at a2;exact seq a2 b2 f1 f2
        | tup b1 b2=>exact (mq a1 (.inl b1)).elim
        | scr _=>cases f2
        | dct _=>cases f2
        | ptr _=>cases f2
      | tup a1 a2 =>
        cases h2 with
        | tup b1 b2=>rw[hG (.inl a1) (.inl b1)] at a2;exact seq a2 b2 f1 f2
        | lst b1 b2=>exact (mq b1 (.inl a1)).elim
        | scr _=>cases f2
        | dct _=>cases f2
        | ptr _=>cases f2
      | scr _=>cases f1
      | dct _=>cases f1
      | ptr _=>cases f1
      | _=>cases h2;simp[aJ,bX]
  intro xs j d e ⟨v,h1,r1⟩ ⟨w,h2,r2⟩ f1 f2
  rw[h1] at h2;cases h2
  exact main k r1 r2 f1 f2
theorem mV{k:Nat}{d e:D}(h:i9 d e=false):aJ k d e=bX d e:=by
  cases k <;> cases d <;> cases e <;> first | rfl | cases h
theorem ia{k:Nat}{d:D}(h:aN k d=true):jx d=false:=by
  cases d <;> first | rfl | (cases k <;> cases h)
theorem mW{X : Cx}{pins:List (Addr × Obj)}{σ:St}{H:Hp}{s:Shared}(I:L2.Inv X pins σ H s):∀ (k:Nat) (A:Around) (v u:V) (vv uu:Value) (d e:D),A.units+k < cLine->aN k d=true->aN k e=true ->
    Rep X.K H v d->Rep X.K H u e->RelV v vv->RelV u uu->Cmp3 A s vv uu (aJ k d e):=by
  intro k
  induction k with
  | zero =>
    intro A v u vv uu d e hA fd fe rd re rv ru
    have nb:i9 d e=false:=by
      cases d <;> cases e <;> first | rfl | cases fd
    rw[mV nb]
    exact mT I A v u vv uu d e (by omega) (ia fd) (ia fe) nb rd re rv ru
  | succ k ih =>
    intro A v u vv uu d e hA fd fe rd re rv ru
    have hu:A.units < cLine:=by omega
    have hin:A.in1.units+k < cLine:=by show A.units+1+k < cLine;omega
    cases nb:i9 d e with
    | false =>
      rw[mV nb]
      exact mT I A v u vv uu d e hu (ia fd) (ia fe) nb rd re rv ru
    | true =>
      have items:∀ {ds es:List D} {xs ys:List V} {its its2:List Value},ds.all (aN k)=true->es.all (aN k)=true->Reps X.K H xs ds->Reps X.K H ys es->Vals xs its->Vals ys its2 ->
          ∀ j (h1:j < its.toArray.size) (h2:j < its2.toArray.size),SeqAt.EqAt A.in1 s its.toArray[j] its2.toArray[j] (match ds[j]?,es[j]? with | some a,some b=>aJ k a b | _,_=>false):=by
        intro ds es xs ys its its2 hd he rx ry vx vy j h1 h2
        have lx:=rx.length
        have ly:=ry.length
        have mx:=vx.length
        have my:=vy.length
        have k1:j < ds.length:=by simp only[List.size_toArray] at h1;omega
        have k2:j < es.length:=by simp only[List.size_toArray] at h2;omega
        obtain⟨a,ea⟩:∃ a,ds[j]?=some a:=⟨_,List.getElem?_eq_getElem k1⟩
        obtain⟨b,eb⟩:∃ b,es[j]?=some b:=⟨_,List.getElem?_eq_getElem k2⟩
        obtain⟨x,ex,qx⟩:=rx.get ea
        obtain⟨y,ey,qy⟩:=ry.get eb
        obtain⟨w1,e1,r1⟩:=vx.get ex
        obtain⟨w2,e2,r2⟩:=vy.get ey
        have f1:its.toArray[j]=w1:=by have:=(List.getElem?_eq_some_iff.mp e1).2;simpa using this
        have f2:its2.toArray[j]=w2:=by have:=(List.getElem?_eq_some_iff.mp e2).2;simpa using this
        rw[f1,f2,ea,eb]
        exact (ih A.in1 x y w1 w2 a b hin (List.all_eq_true.mp hd a (List.mem_of_getElem? ea)) (List.all_eq_true.mp he b (List.mem_of_getElem? eb)) qx qy r1 r2).eq
      cases rd with
      | @lst p xs ds h1 h2 =>
        cases rv
        cases re with
        | @lst q ys es h3 h4 =>
          cases ru
          obtain⟨its,vx,pl,hz⟩:=I.list (.inl h1)
          obtain⟨its2,vy,pl2,hz2⟩:=I.list (.inl h3)
          have e1:its.toArray.size=ds.length:=by rw[List.size_toArray,<- vx.length,h2.length]
          have e2:its2.toArray.size=es.length:=by rw[List.size_toArray,<- vy.length,h4.length]
          have core:SeqAt.RcAt A s (.ref p) (.ref q) (aJ (k+1) (.lst ds) (.lst es))/\SeqAt.RcNeAt A s (.ref p) (.ref q) (!aJ (k+1) (.lst ds) (.lst es)):=by
            by_cases hl:ds.length=es.length
            · have val:aJ (k+1) (.lst ds) (.lst es)=(List.range its.toArray.size).all (fun j=>match ds[j]?,es[j]? with | some a,some b=>aJ k a b | _,_=>false):=by
                rw[e1,jw (aJ k) ds es hl]
                show (ds.length == es.length && _)=_
                rw[hl];simp
              rw[val]
              exact⟨.lists pl.isList pl2.isList (by omega) hu (items fd fe h2 h4 vx vy),.lists pl.isList pl2.isList (by omega) hu (items fd fe h2 h4 vx vy)⟩
            · have val:aJ (k+1) (.lst ds) (.lst es)=false:=by
                show (ds.length == es.length && _)=false
                rw[show (ds.length == es.length)=false by simpa using hl];rfl
              rw[val]
              have hne:(its.toArray.size != its2.toArray.size)=true:=by rw[e1,e2];simpa using hl
              exact⟨.lists_lengths pl.isList pl2.isList hne hu,.lists_lengths pl.isList pl2.isList hne hu⟩
          refine⟨?_,core.1,core.2⟩
          by_cases hpq:p=q
          · subst hpq
            have ev:aJ (k+1) (.lst ds) (.lst es)=true:=by
              have exy:=d7 h1 h3
              subst exy
              show (ds.length == es.length && (ds.zip es).all fun p=>aJ k p.1 p.2)=true
              rw[Bool.and_eq_true]
              refine⟨by rw[<- h2.length,h4.length];simp,List.all_eq_true.mpr fun z hz=>?_⟩
              obtain⟨j,hj,ej⟩:=List.getElem_of_mem hz
              have ej':(ds.zip es)[j]?=some z:=by rw[List.getElem?_eq_getElem hj,ej]
              rw[List.getElem?_zip_eq_some] at ej'
              exact mU k H (h2.get ej'.1) (h4.get ej'.2) (List.all_eq_true.mp fd _ (List.mem_of_getElem? ej'.1)) (List.all_eq_true.mp fe _ (List.mem_of_getElem? ej'.2))
            rw[ev]
            exact .same _
          · exact .of_refs hpq core.1
        | tup _ _=>cases nb
        | _=>cases nb
      | @tup p xs ds h1 h2 =>
        have h1:=bU h1
        cases rv
        cases re with
        | @tup q ys es h3 h4 =>
          have h3:=bU h3
          cases ru
          obtain⟨its,vx,pl,hz⟩:=I.tuple (.inl h1)
          obtain⟨its2,vy,pl2,hz2⟩:=I.tuple (.inl h3)
          have e1:its.toArray.size=ds.length:=by rw[List.size_toArray,<- vx.length,h2.length]
          have e2:its2.toArray.size=es.length:=by rw[List.size_toArray,<- vy.length,h4.length]
          have core:SeqAt.RcAt A s (.ref p) (.ref q) (aJ (k+1) (.tup ds) (.tup es))/\SeqAt.RcNeAt A s (.ref p) (.ref q) (!aJ (k+1) (.tup ds) (.tup es)):=by
            have val:aJ (k+1) (.tup ds) (.tup es)=((List.range (min its.toArray.size its2.toArray.size)).all (fun j=>match ds[j]?,es[j]? with | some a,some b=>aJ k a b | _,_=>false) && its.toArray.size == its2.toArray.size):=by
              rw[e1,e2]
              by_cases hl:ds.length=es.length
              · rw[<- hl,Nat.min_self,jw (aJ k) ds es hl]
                show (ds.length == es.length && _)=_
                rw[hl];simp
              · show (ds.length == es.length && _)=_
                rw[show (ds.length == es.length)=false by simpa using hl];simp
            rw[val]
            exact⟨.tuples pl pl2 hu (items fd fe h2 h4 vx vy),.tuples pl pl2 hu (items fd fe h2 h4 vx vy)⟩
          refine⟨?_,core.1,core.2⟩
          by_cases hpq:p=q
          · subst hpq
            have ev:aJ (k+1) (.tup ds) (.tup es)=true:=by
              have exy:=hG h1 h3
              subst exy
              show (ds.length == es.length && (ds.zip es).all fun p=>aJ k p.1 p.2)=true
              rw[Bool.and_eq_true]
              refine⟨by rw[<- h2.length,h4.length];simp,List.all_eq_true.mpr fun z hz=>?_⟩
              obtain⟨j,hj,ej⟩:=List.getElem_of_mem hz
              have ej':(ds.zip es)[j]?=some z:=by rw[List.getElem?_eq_getElem hj,ej]
              rw[List.getElem?_zip_eq_some] at ej'
              exact mU k H (h2.get ej'.1) (h4.get ej'.2) (List.all_eq_true.mp fd _ (List.mem_of_getElem? ej'.1)) (List.all_eq_true.mp fe _ (List.mem_of_getElem? ej'.2))
            rw[ev]
            exact .same _
          · exact .of_refs hpq core.1
        | lst _ _=>cases nb
        | _=>cases nb
      | _=>cases e <;> cases nb
end VL
namespace VL
open PySem PySem.Spec PyProof.Rows L2
section
variable {X:Cx} {a b c:Expr} {es ea eb:List Es} {fa fb:FE} {pos p p2:Pos} {k:Nat}
def mX(K:PySem.W.Frag):R2:=fun x y H Q=>∃ d e,Rep K H x d/\Rep K H y e/\aN 4 d=true/\aN 4 e=true/\Q (.bl (aJ 4 d e)) H
def mY(K:PySem.W.Frag):R2:=fun x y H Q=>∃ d e,Rep K H x d/\Rep K H y e/\aN 4 d=true/\aN 4 e=true/\Q (.bl (!aJ 4 d e)) H
theorem g6(hr:Room k X.A):OpR X (compareOp .Eq) (mX X.K):=by
  intro pins s σ H x y v u Q I rx ry h
  obtain⟨d,e,r1,r2,f1,f2,q⟩:=h
  have hu:=hr.units
  exact (mW I 4 X.A x y v u d e (by omega) f1 f2 r1 r2 rx ry).rc X.prog X.w X.xe _ ⟨.bl _,H,I,rfl,q⟩
theorem jz(hr:Room k X.A):OpR X (compareOp .NotEq) (mY X.K):=by
  intro pins s σ H x y v u Q I rx ry h
  obtain⟨d,e,r1,r2,f1,f2,q⟩:=h
  have hu:=hr.units
  exact (mW I 4 X.A x y v u d e (by omega) f1 f2 r1 r2 rx ry).ne X.prog X.w X.xe _ ⟨.bl _,H,I,rfl,q⟩
def eqD(d e:D):Option D:=if aN 4 d=true/\aN 4 e=true then some (.bl (aJ 4 d e)) else none
def neD(d e:D):Option D:=if aN 4 d=true/\aN 4 e=true then some (.bl (!aJ 4 d e)) else none
theorem g7(K:PySem.W.Frag):OpV K (mX K) eqD:=by
  intro x y H dx dy d Q rx ry hg hQ
  obtain⟨⟨h1,h2⟩,rfl⟩:=b6 hg
  exact⟨dx,dy,rx,ry,h1,h2,hQ _ H (Same.refl H) (.bl _) fun A _ _ _=>.bl _⟩
theorem jA(K:PySem.W.Frag):OpV K (mY K) neD:=by
  intro x y H dx dy d Q rx ry hg hQ
  obtain⟨⟨h1,h2⟩,rfl⟩:=b6 hg
  exact⟨dx,dy,rx,ry,h1,h2,hQ _ H (Same.refl H) (.bl _) fun A _ _ _=>.bl _⟩
theorem ub(x y d:D)(h:eqD x y=some d):aG d=true:=by obtain⟨_,rfl⟩:=b6 h;rfl
theorem uc(x y d:D)(h:neD x y=some d):aG d=true:=by obtain⟨_,rfl⟩:=b6 h;rfl
theorem ud(hr:Room k X.A)(ha:VE X a fa ea)(hb:VE X b fb eb):VE X (.Compare a [.Eq] [b] pos) (e2 eqD fa fb) []:=eK (g6 hr) (g7 X.K) ha hb (cu _) ub
theorem ue(hr:Room k X.A)(ha:VE X a fa ea)(hb:VE X b fb eb):VE X (.Compare a [.NotEq] [b] pos) (e2 neD fa fb) []:=eK (jz hr) (jA X.K) ha hb (cu _) uc
theorem uf(hr:Room k X.A)(ha:VE X a fa ea)(hb:VE X b fb eb):VT X (.Compare a [.Eq] [b] pos) (eT (e2 eqD fa fb)):=fW (g6 hr) (g7 X.K) ha hb (cu _)
theorem ug(hr:Room k X.A)(ha:VE X a fa ea)(hb:VE X b fb eb):VT X (.Compare a [.NotEq] [b] pos) (eT (e2 neD fa fb)):=fW (jz hr) (jA X.K) ha hb (cu _)
theorem uh(K:PySem.W.Frag)(d:D):PySem.W.kitOne K (.type (tyD d)) (.type "int")=some (bO "int" (tyD d)):=by
  cases d <;> first | rfl | kernel_rfl
theorem ui(K:PySem.W.Frag)(d:D):PySem.W.kitOne K (.type (tyD d)) (.type "bool")=some (bO "bool" (tyD d)):=by
  cases d <;> first | rfl | kernel_rfl
theorem uj(K:PySem.W.Frag)(d:D):PySem.W.kitOne K (.type (tyD d)) (.type "list")=some (bO "list" (tyD d)):=by
  cases d <;> first | rfl | kernel_rfl
theorem uk(K:PySem.W.Frag)(d:D):PySem.W.kitOne K (.type (tyD d)) (.type "str")=some (bO "str" (tyD d)):=by
  cases d <;> first | rfl | kernel_rfl
def g8:D->Bool
  | .ptr _=>true
  | _=>false
theorem mZ{T:String}(hk:∀ K d,PySem.W.kitOne K (.type (tyD d)) (.type T)=some (bO T (tyD d))):CallR X (.builtin "isinstance") (fun xs H Q=>∃ x d,xs=[x,.ty T]/\Rep X.K H x d/\g8 d=false/\Q (.bl (bO T (tyD d))) H):=by
  intro pins s σ H xs us Q I r h
  obtain⟨x,d,rfl,rx,np,q⟩:=h
  obtain⟨u,w,rfl,ru,rw'⟩:=gO r
  cases rw'
  have fin:∀ tk,EP X pins σ Q (.bool (bO T (tyD d))) { s with toks:=tk }:=fun tk=>⟨.bl _,H,I.tok tk,rfl,q⟩
  have e:=hk X.K d
  cases rx with
  | non=>cases ru;exact PySem.W.kia_one PySem.W.kitx_none I.kIn True.intro e (fun z=>nomatch z) fin
  | bl b=>cases ru;exact PySem.W.kia_one PySem.W.kitx_bool I.kIn True.intro e (fun z=>nomatch z) fin
  | int i=>obtain⟨t,rfl⟩:=ru;exact PySem.W.kia_one PySem.W.kitx_int I.kIn True.intro e (fun z=>nomatch z) fin
  | str i=>obtain⟨t,rfl⟩:=ru;exact PySem.W.kia_one PySem.W.kitx_str I.kIn True.intro e (fun z=>nomatch z) fin
  | lst h1 h2 =>
    cases ru
    obtain⟨its,_,⟨o,n,e1,e2,_⟩,_⟩:=I.list (.inl h1)
    exact PySem.W.kia_one PySem.W.kitx_list I.kIn ⟨o,e1,e2⟩ e (fun z=>nomatch z) fin
  | scr h1 =>
    cases ru
    obtain⟨its,_,⟨o,n,e1,e2,_⟩,_⟩:=I.list h1
    exact PySem.W.kia_one PySem.W.kitx_list I.kIn ⟨o,e1,e2⟩ e (fun z=>nomatch z) fin
  | tup h1 h2 =>
    cases ru
    obtain⟨its,_,⟨o,e1,e2,_⟩,_⟩:=I.tuple (.inl (bU h1))
    exact PySem.W.kia_one PySem.W.kitx_tuple I.kIn ⟨o,e1,e2⟩ e (fun z=>nomatch z) fin
  | dct h1 =>
    cases ru
    obtain⟨_,_,vs,_,o,es,ep,e1,e2,_⟩:=gW I.hok h1.rd
    exact PySem.W.kia_one PySem.W.kitx_dict I.kIn ⟨o,e1,e2.1⟩ e (fun z=>nomatch z) fin
  | ptr a=>cases np
def bJ(T:String):D->Option D:=fun d=>if g8 d=true then none else some (.bl (bO T (tyD d)))
theorem ul{T:Str}{TS:String}(hk:∀ K d,PySem.W.kitOne K (.type (tyD d)) (.type TS)=some (bO TS (tyD d)))(hT:bootBuiltins T=some (.type TS))(mi:X.mg "isinstance" = none)(mt:X.mg T=none)(ha:VE X a fa ea)(hg:Gl X "isinstance":=by rfl)(hgT:Gl X T:=by rfl)(hn:T ≠ "__name__":=by decide)(hd:(T == ("__debug__" : Str))=false:=by decide)(hs:starEach [a,.Name T p2] X.env=(false,eval a X.env)::starEach [.Name T p2] X.env:=by rfl)(hs2:starEach [.Name T p2] X.env=(false,eval (.Name T p2) X.env)::starEach [] X.env:=by rfl)(hpl:(backTo pos (starEach [.Name T p2] X.env)).any (·.1)=false:=by rfl):
    VE X (.Call (.Name "isinstance" p) [a,.Name T p2] [] pos) (e1 (bJ TS) fa) [] :=
  aE (fP (mZ hk) hg mi (by decide +kernel) (bB ha (bB (iQ (v:=.ty TS) hgT mt hT rfl hn hd) bT hs2) hs) (by decide) (by decide) hs hpl) fun σ H Q ⟨ρ,d,hE,hf,hQ⟩=>by
    obtain⟨dx,h1,hf⟩:=bind_some hf
    cases np:g8 dx with
    | true=>simp only[bJ,np] at hf;cases hf
    | false =>
    simp only[bJ,np] at hf
    cases hf
    exact⟨ρ,dx,hE,h1,fun x H1 p1=>⟨x,dx,rfl,p1.rep,np,hQ _ H1 ⟨p1.same,.bl _,fun A _ _=>.bl _⟩⟩⟩
def dI:List D->Option (List Bool)
  | []=>some []
  | .bl b::r=>(dI r).map (b::·)
  | _::_=>none
theorem n0:∀ {ds:List D} {bs:List Bool},dI ds=some bs->ds=bs.map D.bl
  | [],bs,h=>by cases h;rfl
  | .bl i::r,bs,h=>by
    simp only[dI] at h
    cases e:dI r with
    | none=>rw[e] at h;cases h
    | some ms=>rw[e] at h;cases h;rw[n0 e];rfl
  | .non::_,_,h=>by cases h
  | .int _::_,_,h=>by cases h
  | .str _::_,_,h=>by cases h
  | .lst _::_,_,h=>by cases h
  | .tup _::_,_,h=>by cases h
  | .scr _::_,_,h=>by cases h
theorem n3{K:PySem.W.Frag}{H:Hp}:∀ {bs:List Bool} {xs:List V},Reps K H xs (bs.map D.bl)->xs=bs.map V.bl
  | [],xs,h=>by cases h;rfl
  | n::ns,xs,h=>by
    cases h with
    | cons h1 h2=>cases h1;rw[n3 h2];rfl
theorem um{bs:List Bool}{us:List Value}(h:Vals (bs.map V.bl) us):us=bs.map Value.bool:=by
  induction bs generalizing us with
  | nil=>cases h;rfl
  | cons b r ih =>
    cases h with
    | cons h1 h2=>cases h1;rw[ih h2];rfl
theorem uo(bs:List Bool):((List.range bs.length).all fun i=>(bs[i]?).getD true)=bs.all id:=by
  rw[Bool.eq_iff_iff,List.all_eq_true,List.all_eq_true]
  constructor
  · intro h b hb
    obtain⟨i,hi,rfl⟩:=List.getElem_of_mem hb
    have:=h i (List.mem_range.mpr hi)
    simpa [List.getElem?_eq_getElem hi] using this
  · intro h i hi
    have hi':=List.mem_range.mp hi
    simpa [List.getElem?_eq_getElem hi'] using h _ (List.getElem_mem hi')
theorem uq(hc:X.calm=true):CallR X (.builtin "all") (fun xs H Q=>∃ (q:Addr) (bs:List Bool),xs=[.ref q]/\SqL X.K H q (bs.map V.bl)/\Q (.bl (bs.all id)) H):=by
  intro pins s σ H xs us Q I r h
  obtain⟨q,bs,rfl,hq,hQ⟩:=h
  obtain⟨u,rfl,ru⟩:=cv r
  cases ru
  obtain⟨its,rv,pl,hz⟩:=I.list hq
  have ei:=um rv
  have hl:=pl.isList
  have hlt:q < s.heap.objs.size:=by obtain⟨_,e,_⟩:=hl;exact Heap.lt_size e
  refine call_all_walk (wpAny_pyIter_list hl ⟨s.heap.objs.size,[s.heap.objs.size,q],[s.heap.objs.size],its.toArray.size,_,_,fun i=>(bs[i]?).getD true,rfl,Walks.list (A:=X.A.in1) (I.ok.hd hc) _ q (Nat.ne_of_lt hlt) its.toArray,
    ⟨⟨_,Heap.get?_push_size _ rfl,rfl,rfl⟩,hl.push _⟩,fun i v s' Q' E' hP hQ'=>?_,fun h' tk hk=>?_⟩)
  · have hP':its[i]?=some v:=by simpa using hP
    rw[ei,List.getElem?_map] at hP'
    cases e:bs[i]? with
    | none=>rw[e] at hP';cases hP'
    | some b =>
      rw[e] at hP'
      cases hP'
      simp only[e,Option.getD_some] at hQ'
      exact wpAny_truthy_bool hQ'
  · have e:its.toArray.size=bs.length:=by rw[List.size_toArray,ei,List.length_map]
    rw[e,uo]
    refine⟨.bl _,H,I.kept (t':=tk) fun b o z=>hk b o (fun hm=>?_) (Heap.get?_push_of_some _ z),rfl,hQ⟩
    rw[List.mem_singleton.mp hm] at z
    exact Nat.lt_irrefl _ (Heap.lt_size z)
def eS(g:List Bool->Bool):D->Option D
  | .lst ds=>(dI ds).bind fun bs=>some (.bl (g bs))
  | _=>none
theorem ur(g:List Bool->Bool):dG X.K (fun xs H Q=>∃ (q:Addr) (bs:List Bool),xs=[.ref q]/\SqL X.K H q (bs.map V.bl)/\Q (.bl (g bs)) H) (aA (eS g)):=by
  intro xs H ds d Q r hg hQ
  obtain⟨x,rfl,hg1⟩:=eP hg
  obtain⟨v,rfl,r1⟩:=dH r
  cases x with
  | lst es =>
    obtain⟨bs,h2,hg3⟩:=bind_some hg1
    cases hg3
    obtain⟨q,ys,rfl,hq,hx,_⟩:=eM r1
    rw[n0 h2] at hx
    rw[n3 hx] at hq
    exact⟨q,bs,rfl,.inl hq,hQ _ fun H'=>.bl _⟩
  | _=>cases hg1
theorem ut{as:FEs}(hc:X.calm=true)(ml:X.mg "all" = none)(ha:VA X [a] as es)(hg:Gl X "all":=by rfl)(he:starEach [a] X.env=(false,eval a X.env)::starEach [] X.env:=by rfl)(hpl:(backTo pos (starEach [] X.env)).any (·.1)=false:=by rfl):
    VE X (.Call (.Name "all" p) [a] [] pos) (eA (aA (eS fun bs=>bs.all id)) as) []:=i6 (uq hc) (ur _) ml PyProof.Rows.boot_all ha hg (by decide) (by decide) he hpl
end
section
variable {X:Cx} {elt tg iter:Expr} {ifs:List Expr} {scope:Scope} {own cn:List Str} {caps is:List Nat} {g:TG} {un:D->Option (List D)} {fi:FEs} {ei ee:List Es} {c:ae->Option Bool} {fe:FE} {pos spos p2:Pos}
theorem uv{X:Cx}:PTs X [] (tvT X.K g5):=fun pins s σ H Q I h=>by
  obtain⟨ρ,b,_,hb,hQ⟩:=h
  cases hb
  exact jr pins s σ H Q I (hQ H (Same.refl H))
theorem uw{X:Cx}{e:Expr}{f:ae->Option Bool}(h:VT X e f):PTs X [e] (tvT X.K f):=u7 h
theorem ux(B:BlkOk X scope own caps cn)(hc:X.calm=true)(hi:VI X tg iter fi ei)(hg:∀ s H cl ex,PG (blk X (own++cn) s H scope cl ex) tg g)(hgv:TgV X.K g is un)(his:∀ i ∈ is,i < own.length)(ht:∀ s H cl ex,PTs (blk X (own++cn) s H scope cl ex) ifs (tvT X.K c))(he:∀ s H cl ex,VE (blk X (own++cn) s H scope cl ex) elt fe ee)(hs:∀ x,foldedSetIterable iter X.env x=pure x:=by intro _;rfl):
    VF X (.ListComp elt [⟨tg,iter,ifs,0⟩] scope pos) (ci own.length caps is un fi c fe) (esC own.length caps ei ee):=by
  intro pins s σ H Q I h
  obtain⟨cl,hclos,hcl,hha⟩:=jp (scope:=scope) (env:=X.env) fun x hx hf=>I.ok.has x.1 (B.free x hx hf)
  rw[eval_ListComp]
  refine wpAny_comprehension_free (use:=none) rfl hs hclos B.kind B.locals (js B hc hi hg ht he I (ua hgv his h) hcl hha (RR:=fun acc C=>compPost (model X.prog X.w) X.A X.xe none (EP X pins σ Q) acc C) fun d c ys H' s' af q=>?_)
  obtain⟨m,hm⟩:=af.ns
  obtain⟨f0,f1,_,f3,f4,f5⟩:=af.cf
  refine⟨m,hm,fun h' sb=>⟨.ref d,_,af.inv.turned (t':=s'.toks) (it:=c) (fun b o hb e=>(sb.2 b hb).trans e) f0 f1 f3 f4 f5,rfl,q⟩⟩
end
end VL
namespace VL
open PySem PySem.Spec PyProof.Rows L2
def Def(P:Program)(w:World)(K:PySem.W.Frag)(mg:Str->Option Value)(base:Heap)(x:Str)(k:Nat)(ps:List Str)(G:List D->Option D)(fr:Bool):Prop :=
  ∃ f fd,FnOk P w K mg base CX0 k f fd ps (spF K G fr)/\mg x=some (.ref f)/\PySem.W.keepIn K (.ref f)=true/\Binds K fd ps []
def scF(G:List D->Option D):List D->Option D:=fun ds=>(G ds).bind fun d=>if aG d=true then some d else none
theorem n4{G:List D->Option D}{ds:List D}{d:D}(h:scF G ds=some d):G ds=some d/\aG d=true:=by
  obtain⟨e,h1,h2⟩:=bind_some h
  obtain⟨h3,rfl⟩:=b6 h2
  exact⟨h1,h3⟩
section
variable {P:Program} {w:World} {K:PySem.W.Frag} {mg:Str->Option Value} {base:Heap} {x:Str} {j k:Nat} {ps:List Str} {G:List D->Option D} {fr:Bool}
theorem Def.sc(h:Def P w K mg base x k ps G fr):Def P w K mg base x k ps (scF G) fr :=
  let ⟨f,fd,F,m,kp,b⟩:=h
  ⟨f,fd,F.imp fun vs H Q E ⟨ds,d,r,hg,q⟩=>⟨ds,d,r,(n4 hg).1,q⟩,m,kp,b⟩
theorem Def.mono(h:Def P w K mg base x j ps G fr)(hk:j<=k:=by decide):Def P w K mg base x k ps G fr :=
  let ⟨f,fd,F,m,kp,b⟩:=h
  ⟨f,fd,F.mono hk,m,kp,b⟩
theorem uy{np n:Nat}{qual:Str}{st:Stmt}{f:Addr}{fd:FuncData}{N:List Str}{body:FS}(O' OL:List Nat)(h1:ps.length=np)(h2:N.length=n)(h3:G=mkF fr np n body)(Fn:Fun K x qual st f fd)(S:FnScope N ps (ak st))(h:∀ (cdv:Value) (A:Around) (outer:List PySem.Env) (s:Shared) (H:Hp) (E:XK) (F:Fr0),F.n=n->Room k (A.deeper (envOfC qual (ak st) s.heap.objs.size f cdv)) ->
      VSs (bu CX0 P w K mg base N qual (ak st) f cdv A outer s H E).nox F [] (aU st) body O' OL fr):
    FnOk P w K mg base CX0 (k+1) f fd ps (spF K G fr):=by
  subst h1 h2 h3
  exact u0 Fn S h
end
section
variable {X:Cx} {k:Nat} {ps:List Str} {G:List D->Option D} {fr:Bool} {x:Str} {p pos:Pos} {e:Expr} {es':List Expr} {as:FEs} {es:List Es}
theorem uz(d:Def X.prog X.w X.K X.mg X.base x k ps G fr)(hr:Room k X.A)(ha:VA X (e::es') as es)(hg:Gl X x:=by rfl)(hdb:(x == ("__debug__" : Str))=false:=by decide)(he:starEach (e::es') X.env=(false,eval e X.env)::starEach es' X.env:=by rfl)(hpl:(backTo pos (starEach es' X.env)).any (·.1)=false:=by rfl):
    VE X (.Call (.Name x p) (e::es') [] pos) (eA G as) es :=
  let ⟨_,_,F,m,kp,b⟩:=d
  u1 F hr m kp b ha hg hdb he hpl
theorem uA(d:Def X.prog X.w X.K X.mg X.base x k ps (scF G) fr)(hr:Room k X.A)(ha:VA X (e::es') as es)(hg:Gl X x:=by rfl)(hdb:(x == ("__debug__" : Str))=false:=by decide)(he:starEach (e::es') X.env=(false,eval e X.env)::starEach es' X.env:=by rfl)(hpl:(backTo pos (starEach es' X.env)).any (·.1)=false:=by rfl):
    VE X (.Call (.Name x p) (e::es') [] pos) (eA (scF G) as) [] :=
  eI (uz d hr ha hg hdb he hpl) fun ρ d h=>by
    obtain⟨ds,_,h2⟩:=bind_some h
    exact (n4 h2).2
end
def n5:D->Bool
  | .non=>true
  | _=>false
def dJ:D->Option D:=fun d=>some (.bl (n5 d))
def n6:D->D->Option D
  | d,.non=>dJ d
  | _,_=>none
theorem uB{K:PySem.W.Frag}{H:Hp}{v:V}{d:D}(r:Rep K H v d):decide (v=.non)=n5 d:=by
  cases r <;> rfl
theorem uC(K:PySem.W.Frag):OpV K (fun x y H Q=>y=.non/\Q (.bl (decide (x=.non))) H) n6:=fun x y H dx dy d Q rx ry hg q=>by
  cases dy <;> first | (cases hg;done) | skip
  cases ry
  have hg:some (D.bl _)=some d:=hg
  cases hg
  refine⟨rfl,q _ _ (Same.refl H) ?_ fun A _ _ _=>?_⟩ <;> (rw[uB rx];exact .bl _)
section
variable {X:Cx} {a b:Expr} {fa fb:FE} {ea eb:List Es} {pos p2:Pos}
theorem uD(fa:FE):e2 n6 fa (eC .non)=e1 dJ fa:=by
  funext ρ
  unfold e2 e1 eC
  cases fa ρ <;> rfl
theorem uE{j}(ha:VE X a fa ea):VT X (.Compare a [.Is] [.Constant .none j p2] pos) (eT (e1 dJ fa)):=by
  rw[<- uD];exact fW qW (uC X.K) ha mB (cu _)
end
end VL
namespace VL
open PySem PySem.Spec PyProof.Rows L2
def eU(d:D):Option (List D):=if cS d=true then none else items d
end VL
namespace VL
open PySem PySem.Spec PyProof.Rows L2
section
variable {X:Cx} {tg a b:Expr} {elts:List Expr} {ek:Nat} {ep pn pr:Pos} {ta:TA}
end
end VL
namespace VL
open PySem PySem.Spec PyProof.Rows L2
section
variable {X:Cx} {tg a b:Expr} {elts:List Expr} {ek:Nat} {ep pn pr:Pos} {fa fb:FE} {ea eb:List Es}
end
end VL
namespace VL
open PySem PySem.Spec PyProof.Rows L2
section
variable {X:Cx} {F:Fr0} {O O2 OL:List Nat} {fr:Bool} {a b:Expr} {body:List Stmt} {fa fb:FE} {ea eb:List Es} {tb:FS} {p2 pos pn pr:Pos}
end
end VL
namespace VL
open PySem PySem.Spec PyProof.Rows L2
section
variable {prog:Program} {w:World} {A:Around} {s:Shared} {R:Result->Shared->Prop}
variable {I:Addr} {fp wr:List Addr} {G:Array GenState->Array GenState->Prop} {n:Nat} {P:Nat->Value->Prop} {St:Nat->Shared->Prop}
end
section
variable {prog:Program} {w:World} {A:Around} {E:Value->Shared->Prop} {s:Shared}
end
section
variable {X:Cx} {a b e ix:Expr} {fa fb fe fx:FE} {ea eb es ei:List Es} {pos pos2 p p2:Pos} {ta:TA}
end
section
variable {X:Cx} {F:Fr0} {O OL:List Nat} {fr:Bool} {e ix:Expr} {fe fx:FE} {es ei:List Es} {pos p2:Pos}
end
def uF(sc:Scope)(names:List (Str × NameKind)):Bool:=names.all fun x=>!(x.2 == .free) || sc.names.lookup x.1 == some .cell || sc.names.lookup x.1 == some .free
theorem g9{X:Cx}{names:List (Str × NameKind)}(sc:Scope)(hs:X.env.scope=sc)(h:uF sc names=true):∀ x ∈ names,x.2=.free->(X.env.kindOf x.1=some .cell\/X.env.kindOf x.1=some .free):=fun x hx hf=>by
  have:=List.all_eq_true.mp h x hx
  unfold PySem.Env.kindOf
  rw[hs]
  simp only[hf,beq_self_eq_true,Bool.not_true,Bool.false_or,Bool.or_eq_true,beq_iff_eq] at this
  exact this
end VL
namespace VL
open PySem PySem.Spec PyProof.Rows L2
section
variable {X:Cx} {a b e:Expr} {te:TE} {fa fb:FE} {ea eb:List Es} {pos p p2:Pos} {lo hi:Option Expr} {ke:Expr} {tl th tk:TO} {flo fhi fst:FO}
def inD:D->D->Option D:=fun x y=>(items y).bind fun ds=>if aG x=true/\ds.all aG=true then some (.bl (ds.any fun d=>bX d x)) else none
def gb:D->D->Option D:=fun x y=>(items y).bind fun ds=>if aG x=true/\ds.all aG=true then some (.bl (!ds.any fun d=>bX d x)) else none
theorem jB{K:PySem.W.Frag}{H:Hp}{v:V}{d:D}(r:Rep K H v d)(h:aG d=true):cw v=true:=by
  cases r <;> first | rfl | cases h
theorem jC{K:PySem.W.Frag}{H:Hp}:∀ {vs:List V} {ds:List D},Reps K H vs ds->ds.all aG=true->vs.all cw=true
  | [],_,h,_=>by cases h;rfl
  | _ :: _,_,h,hs=>by
    cases h with
    | cons a t =>
      rw[List.all_cons,Bool.and_eq_true] at hs
      rw[List.all_cons,jB a hs.1,jC t hs.2];rfl
theorem uG{K:PySem.W.Frag}{H:Hp}{v w:V}{d e:D}(r:Rep K H v d)(r':Rep K H w e)(h:aG d=true)(h':aG e=true):eqV v w=bX d e:=by
  cases r <;> cases r' <;> first | rfl | cases h | cases h'
theorem jD{K:PySem.W.Frag}{H:Hp}{w:V}{e:D}(r':Rep K H w e)(h':aG e=true):∀ {vs:List V} {ds:List D},Reps K H vs ds->ds.all aG=true->inV w vs=ds.any fun d=>bX d e
  | [],_,h,_=>by cases h;rfl
  | _ :: _,_,h,hs=>by
    cases h with
    | cons a t =>
      rw[List.all_cons,Bool.and_eq_true] at hs
      have ih:=jD r' h' t hs.2
      unfold inV at ih ⊢
      rw[List.any_cons,List.any_cons,uG a r' hs.1 h',ih]
theorem uH(K:PySem.W.Frag):OpV K (rIn K false) inD:=fun x y H dx dy d Q rx ry hg q=>by
  obtain⟨ds,h1,hg⟩:=bind_some hg
  obtain⟨⟨hx,hs⟩,rfl⟩:=b6 hg
  obtain⟨p,xs,rfl,hp,hr,_⟩:=fX ry h1
  refine⟨p,xs,rfl,hp,jB rx hx,jC hr hs,?_⟩
  rw[jD rx hx hr hs]
  exact q _ _ (Same.refl H) (.bl _) fun A _ _ _=>.bl _
theorem uI(K:PySem.W.Frag):OpV K (rIn K true) gb:=fun x y H dx dy d Q rx ry hg q=>by
  obtain⟨ds,h1,hg⟩:=bind_some hg
  obtain⟨⟨hx,hs⟩,rfl⟩:=b6 hg
  obtain⟨p,xs,rfl,hp,hr,_⟩:=fX ry h1
  refine⟨p,xs,rfl,hp,jB rx hx,jC hr hs,?_⟩
  rw[jD rx hx hr hs]
  exact q _ _ (Same.refl H) (.bl _) fun A _ _ _=>.bl _
theorem uJ(x y d:D)(h:gb x y=some d):aG d=true:=by
  obtain⟨ds,_,h⟩:=bind_some h
  obtain⟨_,rfl⟩:=b6 h
  rfl
theorem uK(ha:VE X a fa ea)(hb:VE X b fb eb)(hm:behindInMarks .NotIn b=false:=by with_unfolding_all rfl):VE X (.Compare a [.NotIn] [b] pos) (e2 gb fa fb) []:=eK rP (uI X.K) ha hb hm uJ
end
end VL
namespace VL
open PySem PySem.Spec PyProof.Rows L2
section
variable {X:Cx} {tg:Expr}
end
section
variable {X:Cx} {F:Fr0} {O O2 OL:List Nat} {fr:Bool} {a b c:Expr} {body:List Stmt} {as:FEs} {ei:List Es} {tb:FS} {p2 pos pn pr:Pos}
end
section
variable {X:Cx} {a b:Expr} {fa fb:FE} {ea eb es:List Es} {as:FEs} {pos p kp cp:Pos}
def ib:D->Option D
  | .int i=>some (.int i)
  | .bl k=>some (.int (if k then 1 else 0))
  | _=>none
end
end VL
namespace VL
open PySem PySem.Spec PyProof.Rows L2
end VL
namespace VL
open PySem PySem.Spec PyProof.Rows L2
end VL
namespace VL
open PySem PySem.Spec PyProof.Rows L2
section
variable {X:Cx} {a b c:Expr} {as:FEs} {es:List Es} {pos p:Pos}
end
section
variable {X:Cx}
end
section
variable {X:Cx} {F:Fr0} {O OL:List Nat} {fr:Bool} {e:Expr} {fe:FE} {es:List Es} {pos p2:Pos}
end
end VL
namespace VL
open PySem PySem.Spec PyProof.Rows L2
abbrev AA(A:Addr->Prop)(a:Addr)(bs:List Addr):Addr->Prop:=fun b=>A b\/b=a\/b ∈ bs
def InR(K:PySem.W.Frag)(H:Hp)(A:Addr->Prop)(bs:List Addr)(dss:List (List D)):Prop :=
  bs.length=dss.length/\∀ (k:Nat) b ds,bs[k]?=some b->dss[k]?=some ds->∃ ys,H b=some (.lst ys)/\Reps K (ah H A) ys ds
section
variable {K:PySem.W.Frag} {H H':Hp} {A A':Addr->Prop} {bs:List Addr} {dss:List (List D)}
theorem InR.mono(e:Same H H')(h:InR K H A bs dss):InR K H' A bs dss:=⟨h.1,fun k b ds h1 h2=>by
  obtain⟨ys,h3,h4⟩:=h.2 k b ds h1 h2
  exact⟨ys,e _ _ h3,aK (bw e) h4⟩⟩
theorem InR.change(e:Same (ah H A) (ah H' A'))(h0:∀ b ∈ bs,H' b=H b)(h:InR K H A bs dss):InR K H' A' bs dss:=⟨h.1,fun k b ds h1 h2=>by
  obtain⟨ys,h3,h4⟩:=h.2 k b ds h1 h2
  exact⟨ys,by rw[h0 b (List.mem_of_getElem? h1)];exact h3,aK e h4⟩⟩
theorem InR.at(h:InR K H A bs dss){k:Nat}{b:Addr}(hb:bs[k]?=some b):∃ ds ys,dss[k]?=some ds/\H b=some (.lst ys)/\Reps K (ah H A) ys ds:=by
  have hk:k < dss.length:=by have:=(List.getElem?_eq_some_iff.mp hb).1;have:=h.1;omega
  obtain⟨ys,h3,h4⟩:=h.2 k b dss[k] hb (List.getElem?_eq_getElem hk)
  exact⟨_,ys,List.getElem?_eq_getElem hk,h3,h4⟩
theorem ic:∀ {vs:List V} {ds:List D},vs.length=ds.length->(∀ (k:Nat) v d,vs[k]?=some v->ds[k]?=some d->Rep K H v d)->Reps K H vs ds
  | [],[],_,_=>.nil
  | [],_::_,h,_=>by cases h
  | _::_,[],h,_=>by cases h
  | v::vs,d::ds,h,k=>.cons (k 0 v d rfl rfl) (ic (by simpa using h) fun m v' d' h1 h2=>k (m+1) v' d' (by simpa using h1) (by simpa using h2))
theorem InR.reps(h:InR K H A bs dss)(hA:∀ b,A' b->A b)(hb:∀ b ∈ bs,¬ A' b):Reps K (ah H A') (bs.map V.ref) (dss.map D.lst):=by
  refine ic (by simpa using h.1) fun k v d h1 h2=>?_
  rw[List.getElem?_map] at h1 h2
  cases e1:bs[k]? with
  | none=>rw[e1] at h1;cases h1
  | some b =>
    cases e2:dss[k]? with
    | none=>rw[e2] at h2;cases h2
    | some ds =>
      rw[e1] at h1;rw[e2] at h2
      cases h1;cases h2
      obtain⟨ys,h3,h4⟩:=h.2 k b ds e1 e2
      refine .lst (.inl ?_) (aK (cb (fun _ _ q=>q) hA) h4)
      rw[b7 (hb b (List.mem_of_getElem? e1))]
      exact h3
theorem uL{α:Type}{xs:List α}(h:xs.Nodup){i j:Nat}{x:α}(h1:xs[i]?=some x)(h2:xs[j]?=some x):i=j :=
  (List.getElem?_inj (List.getElem?_eq_some_iff.mp h1).1 h).mp (h1.trans h2.symm)
theorem InR.put(h:InR K H A bs dss)(hn:bs.Nodup){k:Nat}{b:Addr}(hb:bs[k]?=some b)(hA:A b){ys:List V}{ds:List D}(hr:Reps K (ah H A) ys ds):InR K (upd H b (.lst ys)) A bs (dss.set k ds):=by
  have up:Same (ah H A) (ah (upd H b (.lst ys)) A):=fun c o q=>by
    obtain⟨n,q⟩:=bV q
    rw[b7 n,au (show c ≠ b from fun e=>n (by rw[e];exact hA))]
    exact q
  refine⟨by rw[List.length_set];exact h.1,fun m c es h1 h2=>?_⟩
  by_cases e:m=k
  · subst e
    rw[hb] at h1;cases h1
    have hm:m < dss.length:=by have:=(List.getElem?_eq_some_iff.mp h2).1;simpa using this
    rw[List.getElem?_set_self hm] at h2;cases h2
    exact⟨ys,ba,aK up hr⟩
  · rw[List.getElem?_set_ne (Ne.symm e)] at h2
    obtain⟨zs,h3,h4⟩:=h.2 m c es h1 h2
    have ne:c ≠ b:=fun q=>e (uL hn (q ▸ h1) hb)
    exact⟨zs,by rw[au ne];exact h3,aK up h4⟩
theorem InR.snoc(h:InR K H A bs dss){b:Addr}{ys:List V}{ds:List D}(hb:H b=some (.lst ys))(hr:Reps K (ah H A) ys ds):InR K H A (bs++[b]) (dss++[ds]):=by
  refine⟨by simp[h.1],fun k c es h1 h2=>?_⟩
  by_cases e:k < bs.length
  · rw[List.getElem?_append_left e] at h1
    rw[List.getElem?_append_left (by rw[<- h.1];exact e)] at h2
    exact h.2 k c es h1 h2
  · have:k=bs.length:=by have:=(List.getElem?_eq_some_iff.mp h1).1;simp at this;omega
    subst this
    rw[List.getElem?_append_right (Nat.le_refl _),Nat.sub_self] at h1
    rw[h.1,List.getElem?_append_right (Nat.le_refl _),Nat.sub_self] at h2
    cases h1;cases h2
    exact⟨ys,hb,hr⟩
end
def lkD(ρ:ae)(i r:Nat):Option D:=(aa r ρ).bind fun k=>(aa i ρ).bind fun x=>match k,x with
  | .int k,.lst ds=>ds[k.toNat]?
  | _,_=>none
def vw(i:Nat):Option Nat->ae->ae
  | none,ρ=>ρ
  | some r,ρ=>ρ.set r (lkD ρ i r)
structure EnvD (K:PySem.W.Frag) (F:Fr0) (held:List Hd) (i:Nat) (al:Option Nat) (a:Addr) (bs:List Addr) (dss:List (List D)) (σ:St) (ρ:ae) (H:Hp):Prop where
  same:Same F.H0 H
  lσ:σ.length=F.n
  lρ:ρ.length=F.n
  si:σ[i]?=some (some (V.ref a))
  ri:ρ[i]?=some (some (.lst (dss.map .lst)))
  ha:H a=some (.lst (bs.map V.ref))
  nd:(a::bs).Nodup
  new:∀ b,b=a\/b ∈ bs->F.H0 b=Option.none
  inn:∀ A,F.PA A->InR K H (AA A a bs) bs dss
  val:∀ j d,ρ[j]?=some (some d)->j ≠ i->al ≠ some j->∃ v,σ[j]?=some (some v)/\∀ A,F.PA A->Rep K (ah H (AA A a bs)) v d
  hld:∀ p ∈ held,∀ A,F.PA A->HdOk K (ah H (AA A a bs)) p
  als:∀ r,al=some r->r ≠ i/\∃ (k:Nat) (b:Addr),ρ[r]?=some (some (.int (k:Nat)))/\bs[k]?=some b/\σ[r]?=some (some (V.ref b))
section
variable {K:PySem.W.Frag} {F:Fr0} {held:List Hd} {i:Nat} {al:Option Nat} {a:Addr} {bs:List Addr} {dss:List (List D)} {σ:St} {ρ:ae} {H H':Hp}
theorem EnvD.up(h:EnvD K F held i al a bs dss σ ρ H)(e:Same H H'):EnvD K F held i al a bs dss σ ρ H' :=
  ⟨h.same.trans e,h.lσ,h.lρ,h.si,h.ri,e _ _ h.ha,h.nd,h.new,fun A hA=>(h.inn A hA).mono e,fun j d q h1 h2=>let ⟨v,h3,h4⟩:=h.val j d q h1 h2;⟨v,h3,fun A hA=>ar (bw e) (h4 A hA)⟩,fun p hp A hA=>(h.hld p hp A hA).mono (bw e),h.als⟩
theorem EnvD.out(h:EnvD K F held i al a bs dss σ ρ H){A:Addr->Prop}(hA:F.PA A){b:Addr}(hb:b=a\/b ∈ bs):¬ A b:=fun q=>F.dom A hA b q (h.new b hb)
theorem EnvD.dom(h:EnvD K F held i al a bs dss σ ρ H){A:Addr->Prop}(hA:F.PA A):Dom H (AA A a bs):=fun b q=>by
  rcases q with q | rfl | q
  · exact ((F.dom A hA).mono h.same) b q
  · rw[h.ha];exact fun z=>nomatch z
  · obtain⟨k,hk⟩:=List.getElem?_of_mem q
    obtain⟨_,ys,_,h2,_⟩:=(h.inn A hA).at hk
    rw[h2];exact fun z=>nomatch z
theorem EnvD.repI(h:EnvD K F held i al a bs dss σ ρ H){A:Addr->Prop}(hA:F.PA A):Rep K (ah H A) (V.ref a) (.lst (dss.map .lst)):=by
  refine .lst (.inl ?_) ((h.inn A hA).reps (fun b q=>.inl q) fun b hb=>h.out hA (.inr hb))
  rw[b7 (h.out hA (.inl rfl))]
  exact h.ha
theorem uM{k:Nat}{r:Nat}(hr:ρ[r]?=some (some (.int (k:Nat))))(hi:ρ[i]?=some (some (.lst (dss.map .lst)))):lkD ρ i r=(dss[k]?).map D.lst:=by
  unfold lkD aa
  rw[hr,hi]
  simp
theorem EnvD.envR(h:EnvD K F held i al a bs dss σ ρ H):EnvR K H σ (vw i al ρ):=fun j d e=>by
  have plain:ρ[j]?=some (some d)->al ≠ some j->∃ v,σ[j]?=some (some v)/\Rep K H v d:=fun e' hj=>by
    by_cases hi:j=i
    · subst hi
      rw[h.ri] at e';cases e'
      exact⟨_,h.si,ar (aF _ _) (h.repI F.none)⟩
    · obtain⟨v,h1,h2⟩:=h.val j d e' hi hj
      exact⟨v,h1,ar (aF _ _) (h2 _ F.none)⟩
  cases al with
  | none=>exact plain e fun z=>nomatch z
  | some r =>
    obtain⟨hri,k,b,h1,h2,h3⟩:=h.als r rfl
    by_cases hj:j=r
    · subst hj
      have hl:j < ρ.length:=(List.getElem?_eq_some_iff.mp h1).1
      unfold vw at e
      rw[List.getElem?_set_self hl,uM h1 h.ri] at e
      obtain⟨ds,ys,h4,h5,h6⟩:=(h.inn _ F.none).at h2
      rw[h4] at e;cases e
      exact⟨_,h3,.lst (.inl h5) (aK (aF _ _) h6)⟩
    · unfold vw at e
      rw[List.getElem?_set_ne (Ne.symm hj)] at e
      exact plain e fun z=>hj (Option.some.inj z).symm
def apD(i:Nat)(al:Option Nat):Es->Bool
  | .full j=>j != i && al != some j
  | .el j=>j != i && al != some j
theorem uN{j:Nat}(h:al ≠ some j):(vw i al ρ)[j]?=ρ[j]?:=by
  cases al with
  | none=>rfl
  | some r=>exact List.getElem?_set_ne (show r ≠ j from fun e=>h (by rw[e]))
theorem EnvD.av(h:EnvD K F held i al a bs dss σ ρ H){A:Addr->Prop}(hA:F.PA A){e:Es}(he:apD i al e=true):Av K H σ (vw i al ρ) (AA A a bs) e:=by
  have out:∀ (j:Nat) (v:V) (d:D),j ≠ i->al ≠ some j->σ[j]?=some (some v)->(vw i al ρ)[j]?=some (some d)->Rep K (ah H (AA A a bs)) v d:=fun j v d h1 h2 h3 h4=>by
    rw[uN h2] at h4
    obtain⟨v',h5,h6⟩:=h.val j d h4 h1 h2
    rw[h3] at h5;cases h5
    exact h6 A hA
  cases e with
  | full j =>
    simp only[apD,Bool.and_eq_true,bne_iff_ne,ne_eq] at he
    exact fun v d h1 h2=>out j v d he.1 he.2 h1 h2
  | el j =>
    simp only[apD,Bool.and_eq_true,bne_iff_ne,ne_eq] at he
    exact fun v d h1 h2=>(out j v d he.1 he.2 h1 h2).el
theorem EnvD.eval(h:EnvD K F held i al a bs dss σ ρ H){es:List Es}{d:D}{v:V}(hes:es.all (apD i al)=true)(p:Post K σ (vw i al ρ) H es d v H'){A:Addr->Prop}(hA:F.PA A):Rep K (ah H' (AA A a bs)) v d :=
  p.av _ (h.dom hA) fun e he=>h.av hA (List.all_eq_true.mp hes e he)
theorem EnvD.set(h:EnvD K F held i al a bs dss σ ρ H){j:Nat}{v:V}{d:D}(hj:j ≠ i)(hal:al ≠ some j)(hv:∀ A,F.PA A->Rep K (ah H (AA A a bs)) v d):EnvD K F held i al a bs dss (σ.set j (some v)) (ρ.set j (some d)) H:=by
  refine⟨h.same,by rw[List.length_set];exact h.lσ,by rw[List.length_set];exact h.lρ,?_,?_,h.ha,h.nd,h.new,h.inn,fun m e q h1 h2=>?_,h.hld,fun r hr=>?_⟩
  · rw[List.getElem?_set_ne hj];exact h.si
  · rw[List.getElem?_set_ne hj];exact h.ri
  · by_cases e1:m=j
    · subst e1
      have l1:m < ρ.length:=by have:=(List.getElem?_eq_some_iff.mp q).1;simpa using this
      rw[List.getElem?_set_self l1] at q;cases q
      exact⟨v,List.getElem?_set_self (by rw[h.lσ,<- h.lρ];exact l1),hv⟩
    · rw[List.getElem?_set_ne (Ne.symm e1)] at q ⊢
      exact h.val m e q h1 h2
  · obtain⟨h1,k,b,h2,h3,h4⟩:=h.als r hr
    have ne:j ≠ r:=fun e=>hal (e ▸ hr)
    exact⟨h1,k,b,by rw[List.getElem?_set_ne ne];exact h2,h3,by rw[List.getElem?_set_ne ne];exact h4⟩
theorem EnvD.put(h:EnvD K F held i al a bs dss σ ρ H){k:Nat}{b:Addr}(hb:bs[k]?=some b){ys:List V}{ds:List D}(hr:∀ A,F.PA A->Reps K (ah H (AA A a bs)) ys ds):
    EnvD K F held i al a bs (dss.set k ds) σ (ρ.set i (some (.lst ((dss.set k ds).map .lst)))) (upd H b (.lst ys)):=by
  have hm:=List.mem_of_getElem? hb
  have up:∀ {A:Addr->Prop},Same (ah H (AA A a bs)) (ah (upd H b (.lst ys)) (AA A a bs)):=fun {A} c o q=>by
    obtain⟨n,q⟩:=bV q
    rw[b7 n,au (show c ≠ b from fun e=>n (.inr (.inr (by rw[e];exact hm))))]
    exact q
  have nd:=List.nodup_cons.mp h.nd
  have hl:i < ρ.length:=(List.getElem?_eq_some_iff.mp h.ri).1
  refine⟨fun c o q=>?_,h.lσ,by rw[List.length_set];exact h.lρ,h.si,List.getElem?_set_self hl,?_,h.nd,h.new,fun A hA=>(h.inn A hA).put nd.2 hb (.inr (.inr hm)) (hr A hA),fun j e q h1 h2=>?_,fun p hp A hA=>(h.hld p hp A hA).mono up,fun r hr=>?_⟩
  · rw[au (show c ≠ b from fun e=>by subst e;rw[h.new c (.inr hm)] at q;cases q)]
    exact h.same c o q
  · rw[au (show a ≠ b from fun e=>nd.1 (by rw[e];exact hm))]
    exact h.ha
  · rw[List.getElem?_set_ne (Ne.symm h1)] at q
    obtain⟨v,h3,h4⟩:=h.val j e q h1 h2
    exact⟨v,h3,fun A hA=>ar up (h4 A hA)⟩
  · obtain⟨h1,m,c,h2,h3,h4⟩:=h.als r hr
    exact⟨h1,m,c,by rw[List.getElem?_set_ne (Ne.symm h1)];exact h2,h3,h4⟩
end
end VL
namespace VL
open PySem PySem.Spec PyProof.Rows L2
def uO(K:PySem.W.Frag)(F:Fr0)(held:List Hd)(i:Nat)(al':Option Nat)(fr:Bool)(De:Ends):Out->Prop
  | .nx ρ'=>∀ a bs dss σ' H',EnvD K F held i al' a bs dss σ' ρ' H'->De.nx σ' H'
  | .rt d=>∀ v H',Ret K F fr d v H'->De.rt v H'
  | .bk _=>True
  | .ct _=>True
def tsD(K:PySem.W.Frag)(F:Fr0)(held:List Hd)(i:Nat)(al al':Option Nat)(fr:Bool)(f:FS):TS:=fun De σ H=>∃ a bs dss ρ o,EnvD K F held i al a bs dss σ ρ H/\f ρ=some o/\uO K F held i al' fr De o
abbrev VD(X:Cx)(F:Fr0)(i:Nat)(al:Option Nat)(st:Stmt)(f:FS)(al':Option Nat)(fr:Bool):Prop:=∀ held,PS X st (tsD X.K F held i al al' fr f)
abbrev VDs(X:Cx)(F:Fr0)(i:Nat)(al:Option Nat)(st:List Stmt)(f:FS)(al':Option Nat)(fr:Bool):Prop:=∀ held,PSs X st (tsD X.K F held i al al' fr f)
section
variable {X:Cx} {F:Fr0} {i:Nat} {al al1 al2:Option Nat} {fr:Bool} {f g:FS} {st:Stmt} {ai:List Stmt} {pos p2 p3 p4:Pos} {e b1 b2:Expr} {fe f1 f2:FE} {es e1 e2:List Es}
theorem ie{K:PySem.W.Frag}{H H':Hp}:∀ {vs:List V} {ds:List D},ds.all aG=true->Reps K H vs ds->Reps K H' vs ds
  | [],_,_,h=>by cases h;exact .nil
  | _ :: _,_,s,h=>by
    cases h with
    | cons h1 h2 =>
      rw[List.all_cons,Bool.and_eq_true] at s
      exact .cons (hJ s.1 h1) (ie s.2 h2)
end
end VL
namespace VL
open PySem PySem.Spec PyProof.Rows L2
structure PostD (K:PySem.W.Frag) (σ:St) (ρ:ae) (H:Hp) (es:List Es) (d:D) (v:V) (H':Hp):Prop where
  same:Same H H'
  new:∃ l bs dss,v=V.ref l/\d=.lst (dss.map .lst)/\(l::bs).Nodup/\(∀ b,b=l\/b ∈ bs->H b=none)/\H' l=some (.lst (bs.map V.ref))/\∀ A,Dom H A->(∀ e ∈ es,Av K H σ ρ A e)->InR K H' (AA A l bs) bs dss
def uP(K:PySem.W.Frag)(σ:St)(ρ:ae)(H:Hp)(es:List Es)(ds:List D)(J:It)(H1:Hp):Prop:=∀ (i:Nat) (d:D) (H':Hp) x H'',ds[i]?=some d->Same H1 H'->J.yld i H' x H''->∀ A,Dom H A->(∀ e ∈ es,Av K H σ ρ A e)->Rep K (ah H1 A) x d
def uQ(K:PySem.W.Frag)(f:FEs)(es:List Es):TI:=fun σ H R=>∃ ρ ds,EnvR K H σ ρ/\f ρ=some ds/\∀ J H1,PostI K σ ρ H es ds J H1->uP K σ ρ H es ds J H1->R J H1
abbrev VIL(X:Cx)(tg iter:Expr)(f:FEs)(es:List Es):Prop:=PI X tg iter (uQ X.K f es)
section
variable {X:Cx} {elt tg iter:Expr} {ifs:List Expr} {scope:Scope} {own cn:List Str} {caps is:List Nat} {g:TG} {un:D->Option (List D)} {fi:FEs} {ei ee:List Es} {c:ae->Option Bool} {fe:FE} {pos spos p2:Pos}
end
end VL
namespace VL
open PySem PySem.Spec PyProof.Rows L2
section
variable {prog:Program} {w:World} {A:Around} {E:Value->Shared->Prop} {s:Shared}
end
section
variable {X:Cx} {tg a:Expr} {ta:TA} {p p2 pos pos2:Pos}
end
section
variable {X:Cx} {F:Fr0} {O O2 OL:List Nat} {fr:Bool} {a:Expr} {body:List Stmt} {as:FEs} {ei:List Es} {tb:FS} {p2 pos pn pr pm pq:Pos}
end
section
variable {X:Cx} {a b c:Expr} {fa fb fc:FE} {ea eb ec:List Es} {pos:Pos}
end
end VL
namespace VL
open PySem PySem.Spec PyProof.Rows L2
section
variable {K:PySem.W.Frag} {F:Fr0} {held:List Hd} {i r:Nat} {al:Option Nat} {a:Addr} {bs:List Addr} {dss:List (List D)} {σ:St} {ρ:ae} {H H':Hp}
end
def uR(K:PySem.W.Frag)(F:Fr0)(held:List Hd)(i:Nat)(al':Option Nat)(a:Addr)(bs:List Addr)(fr:Bool)(De:Ends):Out->Prop
  | .nx ρ'=>∀ dss σ' H',EnvD K F held i al' a bs dss σ' ρ' H'->De.nx σ' H'
  | .rt d=>∀ v H',Ret K F fr d v H'->De.rt v H'
  | .bk _=>True
  | .ct _=>True
def tsK(K:PySem.W.Frag)(F:Fr0)(held:List Hd)(i:Nat)(al al':Option Nat)(a:Addr)(bs:List Addr)(fr:Bool)(f:FS):TS:=fun De σ H=>∃ dss ρ o,EnvD K F held i al a bs dss σ ρ H/\f ρ=some o/\uR K F held i al' a bs fr De o
abbrev VJ(X:Cx)(F:Fr0)(i:Nat)(al:Option Nat)(st:Stmt)(f:FS)(al':Option Nat)(fr:Bool):Prop:=∀ held a bs,PS X st (tsK X.K F held i al al' a bs fr f)
abbrev VJs(X:Cx)(F:Fr0)(i:Nat)(al:Option Nat)(st:List Stmt)(f:FS)(al':Option Nat)(fr:Bool):Prop:=∀ held a bs,PSs X st (tsK X.K F held i al al' a bs fr f)
section
variable {X:Cx} {F:Fr0} {i r:Nat} {al al1 al2:Option Nat} {fr:Bool} {f g:FS} {st:Stmt} {ai:List Stmt} {pos p2 p3 p4:Pos} {e b1 b2:Expr} {fe f1 f2:FE} {es e1 e2:List Es}
end
end VL
namespace VL
open PySem PySem.Spec PyProof.Rows L2
structure RetX (K:PySem.W.Frag) (H0:Hp) (d:D) (v:V) (H':Hp):Prop where
  same:Same H0 H'
  new:∃ l bs dss,v=V.ref l/\d=.lst (dss.map .lst)/\(l::bs).Nodup/\(∀ b,b=l\/b ∈ bs->H0 b=none)/\H' l=some (.lst (bs.map V.ref))/\∀ A,InR K H' A bs dss
section
variable {K:PySem.W.Frag} {F:Fr0} {held:List Hd} {i:Nat} {a:Addr} {bs:List Addr} {dss:List (List D)} {σ:St} {ρ:ae} {H H':Hp}
theorem EnvD.push(h:EnvD K F held i none a bs dss σ ρ H)(e:Same H H'){l:Addr}(hl:H l=none){ys:List V}{ds:List D}(hl':H' l=some (.lst ys))(hr:∀ H'',Reps K H'' ys ds):
    EnvD K F held i none a (bs++[l]) (dss++[ds]) σ (ρ.set i (some (.lst ((dss++[ds]).map .lst)))) (upd H' a (.lst ((bs++[l]).map V.ref))):=by
  have hE:=h.up e
  have nd:=List.nodup_cons.mp h.nd
  have hla:l ≠ a:=fun q=>by subst q;rw[h.ha] at hl;cases hl
  have hlb:l ∉ bs:=fun q=>h.dom F.none l (.inr (.inr q)) hl
  have hpl:i < ρ.length:=(List.getElem?_eq_some_iff.mp h.ri).1
  have sub:∀ {c:Addr},c ∈ bs++[l]->c ∈ bs\/c=l:=fun {c} q=>(List.mem_append.mp q).imp id List.mem_singleton.mp
  have up:∀ {A:Addr->Prop},Same (ah H (AA A a bs)) (ah (upd H' a (.lst ((bs++[l]).map V.ref))) (AA A a (bs++[l]))):=fun {A} c o q=>by
    obtain⟨n,q⟩:=bV q
    have ne:c ≠ a:=fun z=>n (.inr (.inl z))
    have nl:c ≠ l:=bt q hl
    rw[b7,au ne]
    · exact e c o q
    · rintro (z | z | z)
      · exact n (.inl z)
      · exact ne z
      · rcases sub z with z | z
        · exact n (.inr (.inr z))
        · exact nl z
  refine⟨fun c o q=>?_,h.lσ,by rw[List.length_set];exact h.lρ,h.si,List.getElem?_set_self hpl,ba,?_,fun c hc=>?_,fun A hA=>InR.snoc ⟨(h.inn A hA).1,fun m c es h1 h2=>?_⟩ ?_ (hr _),fun j d q h1 h2=>?_,fun p hp A hA=>(h.hld p hp A hA).mono up,fun r hr=>nomatch hr⟩
  · rw[au (show c ≠ a from fun z=>by subst z;rw[h.new c (.inl rfl)] at q;cases q)]
    exact hE.same c o q
  · refine List.nodup_cons.mpr ⟨fun z=>?_,?_⟩
    · rcases sub z with z | z
      · exact nd.1 z
      · exact hla z.symm
    · rw[List.nodup_append]
      exact⟨nd.2,by simp,fun x hx y hy=>by rw[List.mem_singleton] at hy;subst hy;exact fun q=>hlb (q ▸ hx)⟩
  · rcases hc with rfl | hc
    · exact h.new c (.inl rfl)
    · rcases sub hc with hc | rfl
      · exact h.new c (.inr hc)
      · cases q:F.H0 c with
        | none=>rfl
        | some o=>rw[h.same c o q] at hl;cases hl
  · obtain⟨zs,h3,h4⟩:=(h.inn A hA).2 m c es h1 h2
    have ne:c ≠ a:=fun z=>nd.1 (z ▸ List.mem_of_getElem? h1)
    exact⟨zs,by rw[au ne];exact e _ _ h3,aK up h4⟩
  · rw[au hla];exact hl'
  · rw[List.getElem?_set_ne (Ne.symm h1)] at q
    obtain⟨v,h3,h4⟩:=h.val j d q h1 h2
    exact⟨v,h3,fun A hA=>ar up (h4 A hA)⟩
end
def uS(K:PySem.W.Frag)(F:Fr0)(held:List Hd)(i:Nat)(De:Ends):Out->Prop
  | .nx ρ'=>∀ a bs dss σ' H',EnvD K F held i none a bs dss σ' ρ' H'->De.nx σ' H'
  | .rt d=>∀ v H',RetX K F.H0 d v H'->De.rt v H'
  | .bk _=>True
  | .ct _=>True
def tsX(K:PySem.W.Frag)(F:Fr0)(held:List Hd)(i:Nat)(f:FS):TS:=fun De σ H=>∃ a bs dss ρ o,EnvD K F held i none a bs dss σ ρ H/\f ρ=some o/\uS K F held i De o
abbrev VX(X:Cx)(F:Fr0)(i:Nat)(st:Stmt)(f:FS):Prop:=∀ held,PS X st (tsX X.K F held i f)
abbrev VXs(X:Cx)(F:Fr0)(i:Nat)(st:List Stmt)(f:FS):Prop:=∀ held,PSs X st (tsX X.K F held i f)
def uT(K:PySem.W.Frag)(F:Fr0)(held:List Hd)(O':List Nat)(De:Ends):Out->Prop
  | .nx ρ'=>∀ σ' H',EnvO K F held O' σ' ρ' H'->De.nx σ' H'
  | .rt d=>∀ v H',RetX K F.H0 d v H'->De.rt v H'
  | .bk _=>True
  | .ct _=>True
def tsR(K:PySem.W.Frag)(F:Fr0)(held:List Hd)(O O':List Nat)(f:FS):TS:=fun De σ H=>∃ ρ o,EnvO K F held O σ ρ H/\f ρ=some o/\uT K F held O' De o
abbrev VRs(X:Cx)(F:Fr0)(O:List Nat)(st:List Stmt)(f:FS)(O':List Nat):Prop:=∀ held,PSs X st (tsR X.K F held O O' f)
section
variable {X:Cx} {F:Fr0} {O O1 O2 O' OL:List Nat} {i:Nat} {fr:Bool} {f g:FS} {st:Stmt} {ai:List Stmt} {pos p2 p3 p4:Pos} {e:Expr} {fe:FE} {es:List Es}
end
def spX(K:PySem.W.Frag)(G:List D->Option D):Sp:=fun vs H Q _=>∃ ds d,Reps K H vs ds/\G ds=some d/\∀ v H',RetX K H d v H'->Q v H'
theorem RetX.retC{K:PySem.W.Frag}{H:Hp}{vs:List V}{ds:List D}{d:D}{v:V}{H':Hp}(h:RetX K H d v H'):RetC K H vs ds true d v H':=by
  obtain⟨l,bs,dss,rfl,rfl,hnd,hnew,hl,hin⟩:=h.new
  have out:∀ {A:Addr->Prop},Dom H A->∀ b,b=l\/b ∈ bs->¬ A b:=fun {A} hA b hb q=>hA b q (hnew b hb)
  refine⟨h.same,fun A hA _=>.lst (.inl ?_) ((hin A).reps (fun _ q=>q) fun b hb=>out hA b (.inr hb)),fun _=>⟨l,_,_,rfl,rfl,hnew l (.inl rfl),hl,fun A hA _=>?_⟩⟩
  · rw[b7 (out hA l (.inl rfl))];exact hl
  · refine (hin fun b=>A b\/b=l).reps (fun _ q=>q) fun b hb q=>?_
    rcases q with q | q
    · exact out hA b (.inr hb) q
    · exact (List.nodup_cons.mp hnd).1 (q ▸ hb)
def DefX(P:Program)(w:World)(K:PySem.W.Frag)(mg:Str->Option Value)(base:Heap)(x:Str)(k:Nat)(ps:List Str)(G:List D->Option D):Prop :=
  ∃ f fd,FnOk P w K mg base CX0 k f fd ps (spX K G)/\mg x=some (.ref f)/\PySem.W.keepIn K (.ref f)=true/\Binds K fd ps []
section
variable {P:Program} {w:World} {K:PySem.W.Frag} {mg:Str->Option Value} {base:Heap} {x:Str} {j k:Nat} {ps:List Str} {G:List D->Option D}
theorem DefX.mono(h:DefX P w K mg base x j ps G)(hk:j<=k:=by decide):DefX P w K mg base x k ps G :=
  let ⟨f,fd,F,m,kp,b⟩:=h
  ⟨f,fd,F.mono hk,m,kp,b⟩
theorem DefX.d(h:DefX P w K mg base x k ps G):Def P w K mg base x k ps G true :=
  let ⟨f,fd,F,m,kp,b⟩:=h
  ⟨f,fd,F.imp fun vs H Q E ⟨ds,d,r,hg,q⟩=>⟨ds,d,r,hg,fun v H' rx=>q v H' rx.retC⟩,m,kp,b⟩
end
section
variable {X:Cx} {k:Nat} {ps:List Str} {G:List D->Option D} {F:Fr0} {O O' OL:List Nat} {fr:Bool} {x y:Str} {p p2 pos spos:Pos} {e:Expr} {es':List Expr} {as:FEs} {es:List Es} {ai:List Stmt} {fs:FS} {al':Option Nat}
end
section
variable {X:Cx} {elt tg iter:Expr} {ifs:List Expr} {scope:Scope} {own cn:List Str} {caps is:List Nat} {g:TG} {un:D->Option (List D)} {fi:FEs} {ei ee:List Es} {c:ae->Option Bool} {fe:FE} {pos spos p2:Pos} {F:Fr0} {i:Nat} {fr:Bool}
end
end VL
namespace VL
open PySem PySem.Spec PyProof.Rows L2
def All3(P:V->D->List Addr->Prop):List V->List D->List (List Addr)->Prop
  | [],[],[]=>True
  | v::vs,d::ds,S::Ss=>P v d S/\All3 P vs ds Ss
  | _,_,_=>False
section
variable {P Q:V->D->List Addr->Prop}
theorem All3.imp:∀ {vs:List V} {ds:List D} {Ss:List (List Addr)},(∀ v d S,S ∈ Ss->P v d S->Q v d S)->All3 P vs ds Ss->All3 Q vs ds Ss
  | [],[],[],_,_=>trivial
  | v::vs,d::ds,S::Ss,h,p=>⟨h v d S List.mem_cons_self p.1,All3.imp (fun v d S' hS=>h v d S' (List.mem_cons_of_mem _ hS)) p.2⟩
  | [],[],_::_,_,p=>p.elim
  | [],_::_,_,_,p=>p.elim
  | _::_,[],_,_,p=>p.elim
  | _::_,_::_,[],_,p=>p.elim
theorem All3.len:∀ {vs:List V} {ds:List D} {Ss:List (List Addr)},All3 P vs ds Ss->vs.length=ds.length/\Ss.length=ds.length
  | [],[],[],_=>⟨rfl,rfl⟩
  | v::vs,d::ds,S::Ss,p=>by have:=All3.len p.2;simp[this]
  | [],[],_::_,p=>p.elim
  | [],_::_,_,p=>p.elim
  | _::_,[],_,p=>p.elim
  | _::_,_::_,[],p=>p.elim
theorem All3.get:∀ {vs:List V} {ds:List D} {Ss:List (List Addr)} {k:Nat} {v:V},All3 P vs ds Ss->vs[k]?=some v->∃ d S,ds[k]?=some d/\Ss[k]?=some S/\P v d S
  | v::vs,d::ds,S::Ss,0,_,p,e=>by simp at e;subst e;exact⟨d,S,rfl,rfl,p.1⟩
  | v::vs,d::ds,S::Ss,k+1,_,p,e=>by
    obtain⟨d',S',h1,h2,h3⟩:=All3.get (k:=k) p.2 (by simpa using e)
    exact⟨d',S',by simpa using h1,by simpa using h2,h3⟩
  | [],_,_,_,_,_,e=>by simp at e
  | _::_,[],_,_,_,p,_=>p.elim
  | _::_,_::_,[],_,_,p,_=>p.elim
theorem All3.snoc{v:V}{d:D}{S:List Addr}:∀ {vs:List V} {ds:List D} {Ss:List (List Addr)},All3 P vs ds Ss->P v d S->All3 P (vs++[v]) (ds++[d]) (Ss++[S])
  | [],[],[],_,h=>⟨h,trivial⟩
  | v::vs,d::ds,S::Ss,p,h=>⟨p.1,All3.snoc p.2 h⟩
  | [],[],_::_,p,_=>p.elim
  | [],_::_,_,p,_=>p.elim
  | _::_,[],_,p,_=>p.elim
  | _::_,_::_,[],p,_=>p.elim
theorem All3.put{d':D}:∀ {vs:List V} {ds:List D} {Ss:List (List Addr)} {k:Nat} {v:V} {S:List Addr},All3 P vs ds Ss->vs[k]?=some v->Ss[k]?=some S->Q v d' S->(∀ j v d S',j ≠ k->Ss[j]?=some S'->P v d S'->Q v d S')->All3 Q vs (ds.set k d') Ss
  | v :: vs,d::ds,S::Ss,0,_,_,p,e1,e2,q,h=>by
    simp at e1 e2
    subst e1 e2
    refine⟨q,?_⟩
    have key:∀ {vs:List V} {ds:List D} {Ss':List (List Addr)} (off:Nat),0 < off->(∀ j,Ss'[j]?=(S::Ss)[j+off]?)->All3 P vs ds Ss'->All3 Q vs ds Ss':=by
      intro vs ds Ss'
      induction Ss' generalizing vs ds with
      | nil =>
        intro off _ _ p
        cases vs with
        | nil=>cases ds with
          | nil=>exact trivial
          | cons _ _=>exact p.elim
        | cons _ _=>cases ds with
          | nil=>exact p.elim
          | cons _ _=>exact p.elim
      | cons T Ts ih =>
        intro off ho he p
        cases vs with
        | nil=>cases ds <;> exact p.elim
        | cons v vs=>cases ds with
          | nil=>exact p.elim
          | cons d ds =>
          refine⟨h off v d T (by omega) (by have:=he 0;simpa using this.symm) p.1,ih (off+1) (by omega) (fun j=>?_) p.2⟩
          have:=he (j+1)
          rw[List.getElem?_cons_succ] at this
          rw[this];congr 1;omega
    exact key 1 (by omega) (fun j=>by simp) p.2
  | v::vs,d::ds,S::Ss,k+1,w,S',p,e1,e2,q,h=>by
    refine⟨h 0 v d S (by omega) rfl p.1,?_⟩
    exact All3.put (k:=k) p.2 (by simpa using e1) (by simpa using e2) q fun j v d T hj hT hp=>h (j+1) v d T (by omega) (by simpa using hT) hp
  | [],_,_,_,_,_,_,e,_,_,_=>by simp at e
  | _::_,[],_,_,_,_,p,_,_,_,_=>p.elim
  | _::_,_::_,[],_,_,_,p,_,_,_,_=>p.elim
end
def OwnN(K:PySem.W.Frag)(H:Hp):Nat->V->D->List Addr->Prop
  | 0,v,d,S=>∃ c ys ds,v=V.ref c/\d=.lst ds/\S=[c]/\H c=some (.lst ys)/\ds.all aG=true/\Reps K H ys ds
  | n+1,v,d,S=>∃ b vs dl Ss,v=V.ref b/\d=.lst dl/\S=b::Ss.flatten/\H b=some (.lst vs)/\All3 (OwnN K H n) vs dl Ss
section
variable {K:PySem.W.Frag} {H H':Hp}
theorem OwnN.frame:∀ {n:Nat} {v:V} {d:D} {S:List Addr},(∀ b ∈ S,∀ o,H b=some o->H' b=some o)->OwnN K H n v d S->OwnN K H' n v d S
  | 0,_,_,_,h,⟨c,ys,ds,e1,e2,e3,e4,e5,e6⟩=>⟨c,ys,ds,e1,e2,e3,h c (by rw[e3];exact List.mem_cons_self) _ e4,e5,ie e5 e6⟩
  | n+1,_,_,_,h,⟨b,vs,dl,Ss,e1,e2,e3,e4,e5⟩=>⟨b,vs,dl,Ss,e1,e2,e3,h b (by rw[e3];exact List.mem_cons_self) _ e4,All3.imp (fun v d S hS p=>OwnN.frame (n:=n) (fun b hb o=>h b (by rw[e3];exact List.mem_cons_of_mem _ (List.mem_flatten.mpr ⟨S,hS,hb⟩)) o) p) e5⟩
theorem OwnN.mono{n:Nat}{v:V}{d:D}{S:List Addr}(e:Same H H')(h:OwnN K H n v d S):OwnN K H' n v d S:=h.frame fun b _ o q=>e b o q
theorem OwnN.dom:∀ {n:Nat} {v:V} {d:D} {S:List Addr},OwnN K H n v d S->∀ b ∈ S,H b ≠ none
  | 0,_,_,_,⟨c,ys,ds,e1,e2,e3,e4,e5,e6⟩,b,hb=>by
    rw[e3,List.mem_singleton] at hb
    rw[hb,e4];exact fun z=>nomatch z
  | n + 1,_,_,_,⟨c,vs,dl,Ss,e1,e2,e3,e4,e5⟩,b,hb=>by
    rw[e3] at hb
    rcases List.mem_cons.mp hb with rfl | hb
    · rw[e4];exact fun z=>nomatch z
    · obtain⟨S,hS,hb⟩:=List.mem_flatten.mp hb
      obtain⟨k,hk⟩:=List.getElem?_of_mem hS
      have hl:=e5.len
      have hkv:k < vs.length:=by have:=(List.getElem?_eq_some_iff.mp hk).1;omega
      obtain⟨d,S',_,h2,h3⟩:=e5.get (List.getElem?_eq_getElem hkv)
      rw[hk] at h2;cases h2
      exact OwnN.dom h3 b hb
theorem OwnN.rep:∀ {n:Nat} {v:V} {d:D} {S:List Addr} {A:Addr->Prop},OwnN K H n v d S->(∀ b ∈ S,¬ A b)->Rep K (ah H A) v d
  | 0,_,_,_,A,⟨c,ys,ds,e1,e2,e3,e4,e5,e6⟩,h=>by
    subst e1 e2
    refine .lst (.inl ?_) (ie e5 e6)
    rw[b7 (h c (by rw[e3];exact List.mem_cons_self))]
    exact e4
  | n + 1,_,_,_,A,⟨b,vs,dl,Ss,e1,e2,e3,e4,e5⟩,h=>by
    subst e1 e2
    refine .lst (.inl ?_) (ic e5.len.1 fun k v d h1 h2=>?_)
    · rw[b7 (h b (by rw[e3];exact List.mem_cons_self))]
      exact e4
    · obtain⟨d',S,q1,q2,q3⟩:=e5.get h1
      rw[h2] at q1;cases q1
      exact OwnN.rep q3 fun c hc=>h c (by rw[e3];exact List.mem_cons_of_mem _ (List.mem_flatten.mpr ⟨S,List.mem_of_getElem? q2,hc⟩))
end
structure RetO (K:PySem.W.Frag) (H0:Hp) (n:Nat) (d:D) (v:V) (H':Hp):Prop where
  same:Same H0 H'
  new:∃ S,OwnN K H' n v d S/\S.Nodup/\∀ b ∈ S,H0 b=none
def tvG(K:PySem.W.Frag)(n:Nat)(f:FE):TE:=fun σ H Q=>∃ ρ d,EnvR K H σ ρ/\f ρ=some d/\∀ v H',RetO K H n d v H'->Q v H'
end VL
namespace VL
open PySem PySem.Spec PyProof.Rows L2
section
variable {X:Cx} {elt tg iter:Expr} {ifs:List Expr} {scope:Scope} {own cn:List Str} {n:Nat} {caps is:List Nat} {g:TG} {un:D->Option (List D)} {fi:FEs} {ei:List Es} {c:ae->Option Bool} {fe:FE} {pos:Pos}
end
def uU(K:PySem.W.Frag)(F:Fr0)(held:List Hd)(n:Nat)(O':List Nat)(De:Ends):Out->Prop
  | .nx ρ'=>∀ σ' H',EnvO K F held O' σ' ρ' H'->De.nx σ' H'
  | .rt d=>∀ v H',RetO K F.H0 n d v H'->De.rt v H'
  | .bk _=>True
  | .ct _=>True
def tsQ(K:PySem.W.Frag)(F:Fr0)(held:List Hd)(n:Nat)(O O':List Nat)(f:FS):TS:=fun De σ H=>∃ ρ o,EnvO K F held O σ ρ H/\f ρ=some o/\uU K F held n O' De o
abbrev VQs(X:Cx)(F:Fr0)(n:Nat)(O:List Nat)(st:List Stmt)(f:FS)(O':List Nat):Prop:=∀ held,PSs X st (tsQ X.K F held n O O' f)
section
variable {X:Cx} {F:Fr0} {n:Nat} {O O1 O2 O' OL:List Nat} {fr:Bool} {f g:FS} {st:Stmt} {ai:List Stmt} {pos:Pos} {e:Expr} {fe:FE}
end
def spG(K:PySem.W.Frag)(n:Nat)(G:List D->Option D):Sp:=fun vs H Q _=>∃ ds d,Reps K H vs ds/\G ds=some d/\∀ v H',RetO K H n d v H'->Q v H'
theorem RetO.retC{K:PySem.W.Frag}{H:Hp}{n:Nat}{vs:List V}{ds:List D}{d:D}{v:V}{H':Hp}(h:RetO K H n d v H'):RetC K H vs ds true d v H':=by
  obtain⟨S,s1,s2,s3⟩:=h.new
  have out:∀ {A:Addr->Prop},Dom H A->∀ b ∈ S,¬ A b:=fun {A} hA b hb q=>hA b q (s3 b hb)
  refine⟨h.same,fun A hA _=>s1.rep (out hA),fun _=>?_⟩
  cases n with
  | zero =>
    obtain⟨c,ys,ds',rfl,rfl,rfl,e4,e5,e6⟩:=s1
    exact⟨c,ys,ds',rfl,rfl,s3 c List.mem_cons_self,e4,fun A hA _=>ie e5 e6⟩
  | succ n =>
    obtain⟨b,vs',dl,Ss,rfl,rfl,rfl,e4,e5⟩:=s1
    refine⟨b,vs',dl,rfl,rfl,s3 b List.mem_cons_self,e4,fun A hA _=>ic e5.len.1 fun k v d h1 h2=>?_⟩
    obtain⟨d',S,q1,q2,q3⟩:=e5.get h1
    rw[h2] at q1;cases q1
    have hm:∀ c ∈ S,c ∈ Ss.flatten:=fun c hc=>List.mem_flatten.mpr ⟨S,List.mem_of_getElem? q2,hc⟩
    refine q3.rep fun c hc q=>?_
    rcases q with q | q
    · exact out hA c (List.mem_cons_of_mem _ (hm c hc)) q
    · exact (List.nodup_cons.mp s2).1 (q ▸ hm c hc)
def DefG(P:Program)(w:World)(K:PySem.W.Frag)(mg:Str->Option Value)(base:Heap)(x:Str)(k:Nat)(ps:List Str)(n:Nat)(G:List D->Option D):Prop :=
  ∃ f fd,FnOk P w K mg base CX0 k f fd ps (spG K n G)/\mg x=some (.ref f)/\PySem.W.keepIn K (.ref f)=true/\Binds K fd ps []
section
variable {P:Program} {w:World} {K:PySem.W.Frag} {mg:Str->Option Value} {base:Heap} {x:Str} {j k n:Nat} {ps:List Str} {G:List D->Option D}
theorem DefG.mono(h:DefG P w K mg base x j ps n G)(hk:j<=k:=by decide):DefG P w K mg base x k ps n G :=
  let ⟨f,fd,F,m,kp,b⟩:=h
  ⟨f,fd,F.mono hk,m,kp,b⟩
theorem DefG.d(h:DefG P w K mg base x k ps n G):Def P w K mg base x k ps G true :=
  let ⟨f,fd,F,m,kp,b⟩:=h
  ⟨f,fd,F.imp fun vs H Q E ⟨ds,d,r,hg,q⟩=>⟨ds,d,r,hg,fun v H' rx=>q v H' rx.retC⟩,m,kp,b⟩
end
section
variable {X:Cx} {k n:Nat} {ps:List Str} {G:List D->Option D} {x:Str} {p pos:Pos} {e:Expr} {es':List Expr} {as:FEs} {es:List Es}
end
end VL
namespace VL
open PySem PySem.Spec PyProof.Rows L2
abbrev AS(A:Addr->Prop)(S:List Addr):Addr->Prop:=fun b=>A b\/b ∈ S
structure EnvW (K:PySem.W.Frag) (F:Fr0) (held:List Hd) (i n:Nat) (S:List Addr) (v0:V) (d0:D) (σ:St) (ρ:ae) (H:Hp):Prop where
  same:Same F.H0 H
  lσ:σ.length=F.n
  lρ:ρ.length=F.n
  si:σ[i]?=some (some v0)
  ri:ρ[i]?=some (some d0)
  own:OwnN K H n v0 d0 S
  nd:S.Nodup
  new:∀ b ∈ S,F.H0 b=Option.none
  val:∀ j d,ρ[j]?=some (some d)->j ≠ i->∃ v,σ[j]?=some (some v)/\∀ A,F.PA A->Rep K (ah H (AS A S)) v d
  hld:∀ p ∈ held,∀ A,F.PA A->HdOk K (ah H (AS A S)) p
section
variable {K:PySem.W.Frag} {F:Fr0} {held:List Hd} {i n:Nat} {S:List Addr} {v0:V} {d0:D} {σ:St} {ρ:ae} {H H':Hp}
theorem EnvW.up(h:EnvW K F held i n S v0 d0 σ ρ H)(e:Same H H'):EnvW K F held i n S v0 d0 σ ρ H' :=
  ⟨h.same.trans e,h.lσ,h.lρ,h.si,h.ri,h.own.mono e,h.nd,h.new,fun j d q h1=>let ⟨v,h3,h4⟩:=h.val j d q h1;⟨v,h3,fun A hA=>ar (bw e) (h4 A hA)⟩,fun p hp A hA=>(h.hld p hp A hA).mono (bw e)⟩
theorem EnvW.envR(h:EnvW K F held i n S v0 d0 σ ρ H):EnvR K H σ ρ:=fun j d e=>by
  by_cases hi:j=i
  · subst hi
    rw[h.ri] at e;cases e
    exact⟨_,h.si,ar (aF H cQ) (h.own.rep fun _ _ q=>q)⟩
  · obtain⟨v,h1,h2⟩:=h.val j d e hi
    exact⟨v,h1,ar (aF _ _) (h2 _ F.none)⟩
theorem EnvW.dom(h:EnvW K F held i n S v0 d0 σ ρ H){A:Addr->Prop}(hA:F.PA A):Dom H (AS A S):=fun b q=>by
  rcases q with q | q
  · exact ((F.dom A hA).mono h.same) b q
  · exact h.own.dom b q
theorem EnvW.eval(h:EnvW K F held i n S v0 d0 σ ρ H){es:List Es}{d:D}{v:V}(hes:es.all (apD i none)=true)(p:Post K σ ρ H es d v H'){A:Addr->Prop}(hA:F.PA A):Rep K (ah H' (AS A S)) v d:=by
  refine p.av _ (h.dom hA) fun e he=>?_
  have hj:=List.all_eq_true.mp hes e he
  have out:∀ (j:Nat) (v:V) (d:D),j ≠ i->σ[j]?=some (some v)->ρ[j]?=some (some d)->Rep K (ah H (AS A S)) v d:=fun j v d h1 h3 h4=>by
    obtain⟨v',h5,h6⟩:=h.val j d h4 h1
    rw[h3] at h5;cases h5
    exact h6 A hA
  cases e with
  | full j =>
    simp only[apD,Bool.and_eq_true,bne_iff_ne,ne_eq] at hj
    exact fun v d h1 h2=>out j v d hj.1 h1 h2
  | el j =>
    simp only[apD,Bool.and_eq_true,bne_iff_ne,ne_eq] at hj
    exact fun v d h1 h2=>(out j v d hj.1 h1 h2).el
end
def uV(K:PySem.W.Frag)(F:Fr0)(held:List Hd)(i n:Nat)(fr:Bool)(De:Ends):Out->Prop
  | .nx ρ'=>∀ S v0 d0 σ' H',EnvW K F held i n S v0 d0 σ' ρ' H'->De.nx σ' H'
  | .rt d=>∀ v H',Ret K F fr d v H'->De.rt v H'
  | .bk _=>True
  | .ct _=>True
def tsG(K:PySem.W.Frag)(F:Fr0)(held:List Hd)(i n:Nat)(fr:Bool)(f:FS):TS:=fun De σ H=>∃ S v0 d0 ρ o,EnvW K F held i n S v0 d0 σ ρ H/\f ρ=some o/\uV K F held i n fr De o
abbrev VG(X:Cx)(F:Fr0)(i n:Nat)(st:Stmt)(f:FS)(fr:Bool):Prop:=∀ held,PS X st (tsG X.K F held i n fr f)
abbrev VGs(X:Cx)(F:Fr0)(i n:Nat)(st:List Stmt)(f:FS)(fr:Bool):Prop:=∀ held,PSs X st (tsG X.K F held i n fr f)
section
variable {X:Cx} {F:Fr0} {i n:Nat} {fr:Bool} {f g:FS} {st:Stmt} {ai:List Stmt} {pos p2 p3 p4:Pos} {e:Expr} {fe:FE} {es:List Es}
end
def Ext(S:List Addr)(H H':Hp):Prop:=∀ b o,H b=some o->b ∉ S->H' b=some o
theorem Ext.trans{S:List Addr}{H H1 H2:Hp}(h1:Ext S H H1)(h2:Ext S H1 H2):Ext S H H2:=fun b o q n=>h2 b o (h1 b o q n) n
theorem Ext.sub{S T:List Addr}{H H1:Hp}(h:Ext S H H1)(hs:∀ b ∈ S,b ∈ T):Ext T H H1:=fun b o q n=>h b o q fun z=>n (hs b z)
theorem Ext.refl(S:List Addr)(H:Hp):Ext S H H:=fun _ _ q _=>q
section
variable {X:Cx} {r:Nat} {y:Str} {e:Expr} {d:D} {es:List Es} {pos p2 ap cp:Pos}
end
section
variable {X:Cx} {r1 r2:Nat} {y1 y2:Str} {d:D} {body:List Stmt} {pos p1 p2:Pos}
end
section
variable {X:Cx} {F:Fr0} {i r1 r2:Nat} {x y1 y2:Str} {d:D} {e:Expr} {fe:FE} {es:List Es} {fr:Bool} {ai:List Stmt} {g:FS} {O' OL:List Nat} {pos px py1 py1' py2 pm pl pe2 ap cp:Pos}
theorem EnvW.ext{K:PySem.W.Frag}{held:List Hd}{n:Nat}{S:List Addr}{v0:V}{d0 d1:D}{σ σ':St}{ρ:ae}{H H':Hp}(h:EnvW K F held i n S v0 d0 σ ρ H)(h1:i ≠ r1)(h2:i ≠ r2)(hσ:∀ j,j ≠ r1->j ≠ r2->σ'[j]?=σ[j]?)(hl:σ'.length=σ.length)(hx:Ext S H H')(ho:OwnN K H' n v0 d1 S):
    EnvW K F held i n S v0 d1 σ' (((ρ.set i (some d1)).set r1 none).set r2 none) H':=by
  have up:∀ {A:Addr->Prop},Same (ah H (AS A S)) (ah H' (AS A S)):=fun {A} b o q=>by
    obtain⟨n,q⟩:=bV q
    rw[b7 n]
    exact hx b o q fun z=>n (.inr z)
  have hpl:i < ρ.length:=(List.getElem?_eq_some_iff.mp h.ri).1
  have get:∀ j d,(((ρ.set i (some d1)).set r1 none).set r2 none)[j]?=some (some d)->j ≠ i->j ≠ r1/\j ≠ r2/\ρ[j]?=some (some d):=fun j d q hj=>by
    by_cases e2:r2=j
    · subst e2
      have l1:r2 < ((ρ.set i (some d1)).set r1 none).length:=by have:=(List.getElem?_eq_some_iff.mp q).1;simpa using this
      rw[List.getElem?_set_self l1] at q;cases q
    · rw[List.getElem?_set_ne e2] at q
      by_cases e1:r1=j
      · subst e1
        have l1:r1 < (ρ.set i (some d1)).length:=by have:=(List.getElem?_eq_some_iff.mp q).1;simpa using this
        rw[List.getElem?_set_self l1] at q;cases q
      · rw[List.getElem?_set_ne e1,List.getElem?_set_ne (Ne.symm hj)] at q
        exact⟨Ne.symm e1,Ne.symm e2,q⟩
  refine⟨fun b o q=>hx b o (h.same b o q) fun z=>(by rw[h.new b z] at q;cases q),by rw[hl];exact h.lσ,by simp only[List.length_set];exact h.lρ,by rw[hσ i h1 h2];exact h.si,?_,ho,h.nd,h.new,fun j d q hj=>?_,fun p hp A hA=>(h.hld p hp A hA).mono up⟩
  · rw[List.getElem?_set_ne (Ne.symm h2),List.getElem?_set_ne (Ne.symm h1),List.getElem?_set_self hpl]
  · obtain⟨g1,g2,g3⟩:=get j d q hj
    obtain⟨v,k1,k2⟩:=h.val j d g3 hj
    exact⟨v,by rw[hσ j g1 g2];exact k1,fun A hA=>ar up (k2 A hA)⟩
end
section
variable {X:Cx} {k n:Nat} {ps:List Str} {G:List D->Option D} {F:Fr0} {O O' OL:List Nat} {fr:Bool} {x y:Str} {p p2 pos spos:Pos} {e:Expr} {es':List Expr} {as:FEs} {es:List Es} {ai:List Stmt} {fs:FS}
end
end VL
namespace VL
open PySem PySem.Spec PyProof.Rows L2
abbrev VY(X:Cx)(e:Expr)(n:Nat)(fe:FE):Prop:=PE X e (tvG X.K n fe)
section
variable {X:Cx} {F:Fr0} {O O':List Nat} {elt tg iter e:Expr} {ifs:List Expr} {scope:Scope} {own cn:List Str} {n k:Nat} {caps is:List Nat} {g:TG} {un:D->Option (List D)} {fi:FEs} {ei es:List Es} {c:ae->Option Bool} {fe:FE} {pos p:Pos} {ps:List Str} {G:List D->Option D} {x:Str} {es':List Expr} {as:FEs}
end
end VL
namespace VL
open PySem PySem.Spec PyProof.Rows L2
section
variable {X:Cx} {a b c:Expr} {es ea eb ec:List Es} {fa fb fc:FE} {pos p2:Pos} {k:Nat}
def e3(g:D->D->D->Option D)(a b c:FE):FE:=fun ρ=>(a ρ).bind fun x=>(b ρ).bind fun y=>(c ρ).bind fun z=>g x y z
end
section
variable {K:PySem.W.Frag} {F:Fr0} {held:List Hd} {O O':List Nat} {σ:St} {ρ:ae} {H H':Hp}
end
section
variable {X:Cx} {F:Fr0} {O O1 O2 O' OL:List Nat} {fr:Bool} {f g:FS} {st:Stmt} {pos p2 p3:Pos} {e b:Expr} {fe fb:FE} {es eb:List Es} {k:Nat}
end
end VL
namespace VL
open PySem PySem.Spec PyProof.Rows L2
section
variable {X:Cx} {a:Expr} {as:FEs} {es:List Es} {pos pos2 p p2:Pos} {ta:TA}
end
end VL
namespace VL
open PySem PySem.Spec PyProof.Rows L2
abbrev Cod:=Value->Int
def cat(c:Cod)(z:Array Keyed)(i:Nat):Int:=(z[i]?.map fun q=>c q.1).getD 0
def Ris(c:Cod)(z:Array Keyed)(n:Nat):Prop:=∀ u v,u<=v->v < n->cat c z u<=cat c z v
structure Srt (kd:SortKind) (z:Array Keyed) (st:SortSt):Prop where
  pm:(arrOf st).Perm z
  kd:kindOf st=kd
  fl:failedOf st=none
  pe:pendingOf st = #[]
theorem Srt.sz{kd:SortKind}{z:Array Keyed}{st:SortSt}(h:Srt kd z st):(arrOf st).size=z.size:=Array.Perm.size_eq h.pm
section
variable {prog:Program} {w:World} {A:Around} {E:Value->Shared->Prop} {s:Shared} {z:Array Keyed} {c:Cod} {kd:SortKind} {st:SortSt}
def uW(c:Cod)(z:Array Keyed)(t:SortSt):Prop:=(arrOf t).Perm z/\failedOf t=none/\pendingOf t = #[(0,z.size,0)]/\Ris c (arrOf t) z.size
theorem Srt.end(hS:Srt kd z st)(hr:Ris c (arrOf st) z.size):uW c z (setPending st ((pendingOf st).push (0,z.size,0))):=by
  refine⟨hS.pm,hS.fl,?_,hr⟩
  show (pendingOf st).push _=_
  rw[hS.pe];rfl
end
def PairAt(h:Heap)(v:Value)(a b:Int):Prop:=∃ q t u,v=.ref q/\IsTup h q #[.int a t,.int b u]
theorem PairAt.one{h:Heap}{v:Value}{a b a' b':Int}(x:PairAt h v a b)(y:PairAt h v a' b'):a=a'/\b=b':=by
  obtain⟨q,t,u,rfl,o,h1,h2,n,h3⟩:=x
  obtain⟨q',t',u',e,o',k1,k2,n',k3⟩:=y
  cases e
  rw[h1] at k1;cases k1
  rw[h3] at k3
  cases k3
  exact⟨rfl,rfl⟩
theorem PairAt.up{h h':Heap}{v:Value}{a b:Int}(x:PairAt h v a b)(k:∀ q o,h.get? q=some o->(∃ xs n,o.data=.seq xs n/\o.cls=.type "tuple")->h'.get? q=some o):PairAt h' v a b:=by
  obtain⟨q,t,u,rfl,o,h1,h2,n,h3⟩:=x
  exact⟨q,t,u,rfl,o,k q o h1 ⟨_,n,h3,h2⟩,h2,n,h3⟩
section
variable {prog:Program} {w:World} {A:Around} {E:Value->Shared->Prop} {s:Shared} {z:Array Keyed} {c:Cod}
end
section
variable {prog:Program} {w:World} {A:Around} {E:Value->Shared->Prop} {s:Shared} {c:Cod}
end
def PTq(K:PySem.W.Frag)(H:Hp)(v:V)(p:Int × Int):Prop:=∃ q,v=.ref q/\SqT K H q [.int p.1,.int p.2]
def gV:Value->V
  | .ref p=>.ref p
  | _=>.non
section
variable {X:Cx} {a:Expr} {p pos cp kp:Pos} {fa:FE} {ea:List Es}
theorem PTq.one{K:PySem.W.Frag}{H:Hp}{v:V}{x y:Int × Int}(h1:∃ q,v=.ref q/\Rd H q (.tup [.int x.1,.int x.2]))(h2:∃ q,v=.ref q/\Rd H q (.tup [.int y.1,.int y.2])):x=y:=by
  obtain⟨q,rfl,r1⟩:=h1
  obtain⟨q',e,r2⟩:=h2
  cases e
  have:=hG r1 r2
  simp at this
  exact Prod.ext this.1 this.2
end
section
variable {X:Cx} {a b:Expr} {pos:Pos} {fa fb:FE} {ea eb:List Es}
end
end VL
namespace VL
open PySem PySem.Spec PyProof.Rows L2
structure JE (X:Cx) (e:Expr) (f:FE) (es:List Es):Prop where
  h:VE X e f es
structure JF (X:Cx) (e:Expr) (f:FE) (es:List Es):Prop where
  h:VF X e f es
structure JB (X:Cx) (e:Expr) (f:FE) (es:List Es):Prop where
  h:VB X e f es
structure JT (X:Cx) (e:Expr) (f:ae->Option Bool):Prop where
  h:VT X e f
structure JW (X:Cx) (e:Expr) (f:ae->Option Bool):Prop where
  h:VW X e f
structure JA (X:Cx) (e:List Expr) (f:FEs) (es:List Es):Prop where
  h:VA X e f es
structure JO (X:Cx) (e:Option Expr) (f:FO):Prop where
  h:VO X e f
structure JI (X:Cx) (tg iter:Expr) (f:FEs) (es:List Es):Prop where
  h:VI X tg iter f es
structure JS (X:Cx) (F:Fr0) (O:List Nat) (st:Stmt) (f:FS) (O' OL:List Nat) (fr:Bool):Prop where
  h:VS X F O st f O' OL fr
structure JSs (X:Cx) (F:Fr0) (O:List Nat) (st:List Stmt) (f:FS) (O' OL:List Nat) (fr:Bool):Prop where
  h:VSs X F O st f O' OL fr
structure JIL (X:Cx) (tg iter:Expr) (f:FEs) (es:List Es):Prop where
  h:VIL X tg iter f es
structure JD (X:Cx) (F:Fr0) (i:Nat) (al:Option Nat) (st:Stmt) (f:FS) (al':Option Nat) (fr:Bool):Prop where
  h:VD X F i al st f al' fr
structure JDs (X:Cx) (F:Fr0) (i:Nat) (al:Option Nat) (st:List Stmt) (f:FS) (al':Option Nat) (fr:Bool):Prop where
  h:VDs X F i al st f al' fr
structure JK (X:Cx) (F:Fr0) (i:Nat) (al:Option Nat) (st:Stmt) (f:FS) (al':Option Nat) (fr:Bool):Prop where
  h:VJ X F i al st f al' fr
structure JKs (X:Cx) (F:Fr0) (i:Nat) (al:Option Nat) (st:List Stmt) (f:FS) (al':Option Nat) (fr:Bool):Prop where
  h:VJs X F i al st f al' fr
structure JX (X:Cx) (F:Fr0) (i:Nat) (st:Stmt) (f:FS):Prop where
  h:VX X F i st f
structure JXs (X:Cx) (F:Fr0) (i:Nat) (st:List Stmt) (f:FS):Prop where
  h:VXs X F i st f
structure JRs (X:Cx) (F:Fr0) (O:List Nat) (st:List Stmt) (f:FS) (O':List Nat):Prop where
  h:VRs X F O st f O'
structure JG (X:Cx) (F:Fr0) (i n:Nat) (st:Stmt) (f:FS) (fr:Bool):Prop where
  h:VG X F i n st f fr
structure JGs (X:Cx) (F:Fr0) (i n:Nat) (st:List Stmt) (f:FS) (fr:Bool):Prop where
  h:VGs X F i n st f fr
structure JQs (X:Cx) (F:Fr0) (n:Nat) (O:List Nat) (st:List Stmt) (f:FS) (O':List Nat):Prop where
  h:VQs X F n O st f O'
structure JY (X:Cx) (e:Expr) (n:Nat) (fe:FE):Prop where
  h:VY X e n fe
section
variable {X:Cx} {a b c:Expr} {es ea eb ec:List Es} {fa fb fc:FE} {pos:Pos}
theorem bo{f:FE}(h:JF X a f es):JE X a f es:=⟨VF.ve h.h⟩
theorem ad(i:Nat){x:Str}{pos:Pos}(hN:X.N[i]?=some x:=by rfl)(hv:Vis X.env.scope x:=by first | exact Or.inl rfl | exact Or.inr (Or.inl rfl) | exact Or.inr (Or.inr rfl))(hd:(x == ("__debug__" : Str))=false:=by decide)(hcd:(x == ("__classdict__" : Str))=false:=by decide):JE X (.Name x pos) (aa i) [.full i]:=⟨sJ i hN hv hd hcd⟩
theorem am{i j pos}:JE X (.Constant (.int i) j pos) (eC (.int i)) []:=⟨sK ⟩
theorem cC{i j pos}:JE X (.Constant (.bool i) j pos) (eC (.bl i)) []:=⟨sL ⟩
theorem n8{j pos}:JE X (.Constant .none j pos) (eC .non) []:=⟨mB ⟩
theorem aH{x j pos}:JE X (.Constant (.str x) j pos) (eC (.str x)) []:=⟨sM ⟩
theorem n9{x:Str}{i:Int}{t:Tok}{pos:Pos}(hm:X.mg x=some (.int i t))(hg:Gl X x:=by rfl)(hd:(x == ("__debug__" : Str))=false:=by decide):JE X (.Name x pos) (eC (.int i)) []:=⟨sO hm hg hd⟩
theorem eV(ha:JE X a fa ea)(hb:JE X b fb eb):JE X (.BinOp a .Add b pos) (e2 bH fa fb) []:=⟨sQ ha.h hb.h⟩
theorem uX(ha:JE X a fa ea)(hb:JE X b fb eb):JE X (.BinOp a .Sub b pos) (e2 fU fa fb) []:=⟨sR ha.h hb.h⟩
theorem nc(ha:JE X a fa ea)(hb:JE X b fb eb):JE X (.BinOp a .Mult b pos) (e2 d9 fa fb) []:=⟨sS ha.h hb.h⟩
theorem jE(ha:JE X a fa ea)(hb:JE X b fb eb):JE X (.BinOp a .FloorDiv b pos) (e2 eJ fa fb) []:=⟨sT ha.h hb.h⟩
theorem eW(ha:JE X a fa ea)(hb:JE X b fb eb):JE X (.BinOp a .Mod b pos) (e2 cR fa fb) []:=⟨sU ha.h hb.h⟩
theorem ig(ha:JE X a fa ea)(hb:JE X b fb eb):JE X (.Compare a [.Lt] [b] pos) (e2 ltI fa fb) []:=⟨sV ha.h hb.h⟩
theorem uY(ha:JE X a fa ea)(hb:JE X b fb eb)(hc:JE X c fc ec)(hm:lastMarks [.LtE,.LtE] [b,c]=false:=by with_unfolding_all rfl):JE X (.Compare a [.LtE,.LtE] [b,c] pos) (e3c leI leI fa fb fc) []:=⟨sY ha.h hb.h hc.h hm⟩
theorem eX{f:FE}(h:JE X a f es)(he:∀ whole,isTrue a X.env whole=(do let v <- whole;standAt a.pos;holding [v] (truthy v)):=by intro _;rfl):JT X a (cA f):=⟨sZ h.h he⟩
variable {ta tb:ae->Option Bool} {ai:List Expr}
theorem uZ(ha:JT X a ta):JW X (.BoolOp .And [a] pos) ta:=⟨t0 ha.h⟩
theorem ng(ha:JT X a ta):JW X (.BoolOp .Or [a] pos) ta:=⟨t3 ha.h⟩
theorem v3(ha:JT X a ta)(hb:JW X (.BoolOp .And (b::ai) pos) tb):JW X (.BoolOp .And (a::b::ai) pos) (eL ta tb):=⟨t4 ha.h hb.h⟩
theorem jF(ha:JT X a ta)(hb:JW X (.BoolOp .Or (b::ai) pos) tb):JW X (.BoolOp .Or (a::b::ai) pos) (bOr ta tb):=⟨t5 ha.h hb.h⟩
theorem jG(h:JW X a ta):JT X a ta:=⟨t6 h.h⟩
theorem eY(ha:JT X a ta):JT X (.UnaryOp .Not a pos) (cc ta):=⟨t7 ha.h⟩
theorem dL{op}{f:FE}(h:JE X a f es):JE X (.BoolOp op [a] pos) f es:=⟨t8 h.h⟩
theorem cW(ha:JE X a fa ea)(hb:JE X (.BoolOp .And (b::ai) pos) fb eb):JE X (.BoolOp .And (a::b::ai) pos) (bc fa fb) eb:=⟨t9 ha.h hb.h⟩
theorem v4(ha:JE X a fa ea)(hb:JE X (.BoolOp .Or (b::ai) pos) fb eb):JE X (.BoolOp .Or (a::b::ai) pos) (eOr fa fb) eb:=⟨tf ha.h hb.h⟩
theorem aO: JA X [] aB []:=⟨tj ⟩
theorem ao{xs:List Expr}{fs:FEs}(ha:JE X a fa ea)(hr:JA X xs fs eb)(hs:starEach (a::xs) X.env=(false,eval a X.env)::starEach xs X.env:=by rfl):JA X (a::xs) (aj fa fs) (ea++eb):=⟨tm ha.h hr.h hs⟩
theorem bP{xs:List Expr}{fs:FEs}(h:JA X xs fs es):JF X (.List xs pos) (bv fs) es:=⟨tq h.h⟩
end
section
variable {X:Cx} {a b c:Expr} {es ea eb ec:List Es} {fa fb fc:FE} {pos p2:Pos}
theorem jH(h:JE X a fa es):JB X a fa es:=⟨VE.vb h.h⟩
theorem jI(i:Nat){x:Str}{pos:Pos}(hN:X.N[i]?=some x:=by rfl)(hv:Vis X.env.scope x:=by first | exact Or.inl rfl | exact Or.inr (Or.inl rfl) | exact Or.inr (Or.inr rfl))(hd:(x == ("__debug__" : Str))=false:=by decide)(hcd:(x == ("__classdict__" : Str))=false:=by decide):JB X (.Name x pos) (aa i) [.el i]:=⟨tu i hN hv hd hcd⟩
theorem v5(ha:JB X a fa ea)(hb:JE X b fb eb)(hs:dF b):JE X (.Subscript a b pos) (e2 ixD fa fb) ea:=⟨tz ha.h hb.h hs⟩
theorem dM: JO X none ce:=⟨tD ⟩
theorem cX(h:JE X a fa ea):JO X (some a) (bI fa):=⟨tE h.h⟩
theorem v6{lo hi:Option Expr}{flo fhi:FO}(ha:JB X a fa ea)(hl:JO X lo flo)(hh:JO X hi fhi):JF X (.Subscript a (.Slice lo hi none p2) pos) (eSl fa flo fhi) ea:=⟨tF ha.h hl.h hh.h⟩
theorem nh(ha:JB X a fa ea)(hb:JB X b fb eb):JF X (.BinOp a .Add b pos) (e2 cg fa fb) (ea++eb):=⟨tG ha.h hb.h⟩
theorem v7(ha:JF X a fa ea)(hb:JE X b fb eb):JF X (.BinOp a .Mult b pos) (e2 jn fa fb) ea:=⟨tH ha.h hb.h⟩
theorem v8{p:Pos}{as:FEs}(ml:X.mg "len" = none)(ha:JA X [a] as es)(hg:Gl X "len":=by rfl)(he:starEach [a] X.env=(false,eval a X.env)::starEach [] X.env:=by rfl)(hpl:(backTo pos (starEach [] X.env)).any (·.1)=false:=by rfl):JE X (.Call (.Name "len" p) [a] [] pos) (eA (aA eN) as) []:=⟨tK ml ha.h hg he hpl⟩
theorem v9{p:Pos}{as:FEs}(hc:X.calm=true)(ml:X.mg "min" = none)(ha:JA X [a,b] as es)(hg:Gl X "min":=by rfl)(he:starEach [a,b] X.env=(false,eval a X.env)::starEach [b] X.env:=by rfl)(hpl:(backTo pos (starEach [b] X.env)).any (·.1)=false:=by rfl):JE X (.Call (.Name "min" p) [a,b] [] pos) (eA (eO eQ) as) []:=⟨tM hc ml ha.h hg he hpl⟩
end
section
variable {K:PySem.W.Frag} {F:Fr0} {held:List Hd} {O O':List Nat} {σ:St} {ρ:ae} {H H':Hp}
end
section
variable {X:Cx} {F:Fr0} {O O1 O2 O' OL:List Nat} {fr:Bool} {f g:FS} {st:Stmt} {ai:List Stmt} {pos:Pos} {e:Expr} {fe:FE} {es:List Es}
theorem va(h1:JS X F O st f O1 OL fr)(h2:JSs X F O1 ai g O2 OL fr):JSs X F O (st::ai) (dc f g) O2 OL fr:=⟨tR h1.h h2.h⟩
theorem jJ(h1:JS X F O st f O1 OL fr):JSs X F O [st] f O1 OL fr:=⟨tS h1.h⟩
theorem jK(he:JE X e fe es):JS X F O (.Return (some e) pos) (cU fe) O' OL false:=⟨tW he.h⟩
end
section
variable {X:Cx} {F:Fr0} {O O1 O2 O' OL:List Nat} {fr:Bool} {f g:FS} {st:Stmt} {ai:List Stmt} {pos p2 p3:Pos} {e a b:Expr} {fe fa fb:FE} {es ea eb:List Es}
theorem vc(t:Nat){x:Str}{iter:Expr}{body:List Stmt}{fi:FE}{ei:List Es}{tb:FS}(Ol:List Nat)(hN:X.N.Nodup)(hc:X.calm=true)(hi:JE X iter fi ei)(hb:JSs X F Ol body tb O2 Ol fr)(h1:∀ i ∈ Ol,i ∈ db O ei:=by decide)(h2:∀ i ∈ Ol,i ∈ O2:=by decide)(h3:t ∉ Ol:=by decide)(hp:PassesOwn (model X.prog X.w) X.A X.env X.xe:=by exact PassesOwn.never)(hxN:X.N[t]?=some x:=by rfl)(hx:Loc X.env.scope x:=by first | exact Or.inl rfl | exact Or.inr rfl)(hfn:X.fn x=true\/X.env.scope.names.lookup x=some .local:=by first | exact .inl rfl | exact .inr rfl)(hs:∀ x,foldedSetIterable iter X.env x=pure x:=by intro _;rfl):JS X F O (.For (.Name x p2) iter body [] pos) (g4 t fi tb) Ol OL fr:=⟨tZ t Ol hN hc hi.h hb.h h1 h2 h3 hp hxN hx hfn hs⟩
end
section
variable {X:Cx} {k:Nat} {f:Addr} {fd:FuncData} {ps:List Str} {G:List D->Option D} {fr:Bool} {x:Str} {p pos:Pos} {e:Expr} {es':List Expr} {as:FEs} {es:List Es}
end
section
variable {prog:Program} {w:World} {A:Around} {R:Result->Shared->Prop} {s:Shared}
end
section
variable {X:Cx} {pins:List (Addr × Obj)} {σ:St} {H:Hp} {s:Shared} {scope:Scope} {own cn:List Str} {caps:List Nat} {cl:List (Str × Addr)} {ex:List Addr}
end
section
variable {X:Cx} {elt tg iter:Expr} {ifs:List Expr} {scope:Scope} {own cn:List Str} {caps:List Nat} {wi:TI} {g:TG} {tt:TT} {te:TE} {pos:Pos}
end
section
variable {X:Cx} {tg iter a b:Expr} {fa fi:FE} {as:FEs} {es ea ei:List Es} {pr pn:Pos}
end
section
variable {X:Cx} {a b c:Expr} {es ea eb:List Es} {fa fb:FE} {pos p p2:Pos} {k:Nat}
theorem ii(hr:Room k X.A)(ha:JE X a fa ea)(hb:JE X b fb eb):JE X (.Compare a [.Eq] [b] pos) (e2 eqD fa fb) []:=⟨ud hr ha.h hb.h⟩
theorem ij(hr:Room k X.A)(ha:JE X a fa ea)(hb:JE X b fb eb):JE X (.Compare a [.NotEq] [b] pos) (e2 neD fa fb) []:=⟨ue hr ha.h hb.h⟩
theorem ik(hr:Room k X.A)(ha:JE X a fa ea)(hb:JE X b fb eb):JT X (.Compare a [.Eq] [b] pos) (eT (e2 eqD fa fb)):=⟨uf hr ha.h hb.h⟩
theorem vd(hr:Room k X.A)(ha:JE X a fa ea)(hb:JE X b fb eb):JT X (.Compare a [.NotEq] [b] pos) (eT (e2 neD fa fb)):=⟨ug hr ha.h hb.h⟩
theorem vf{T:Str}{TS:String}(hk:∀ K d,PySem.W.kitOne K (.type (tyD d)) (.type TS)=some (bO TS (tyD d)))(hT:bootBuiltins T=some (.type TS))(mi:X.mg "isinstance" = none)(mt:X.mg T=none)(ha:JE X a fa ea)(hg:Gl X "isinstance":=by rfl)(hgT:Gl X T:=by rfl)(hn:T ≠ "__name__":=by decide)(hd:(T == ("__debug__" : Str))=false:=by decide)(hs:starEach [a,.Name T p2] X.env=(false,eval a X.env)::starEach [.Name T p2] X.env:=by rfl)(hs2:starEach [.Name T p2] X.env=(false,eval (.Name T p2) X.env)::starEach [] X.env:=by rfl)(hpl:(backTo pos (starEach [.Name T p2] X.env)).any (·.1)=false:=by rfl):JE X (.Call (.Name "isinstance" p) [a,.Name T p2] [] pos) (e1 (bJ TS) fa) []:=⟨ul hk hT mi mt ha.h hg hgT hn hd hs hs2 hpl⟩
theorem vg{as:FEs}(hc:X.calm=true)(ml:X.mg "all" = none)(ha:JA X [a] as es)(hg:Gl X "all":=by rfl)(he:starEach [a] X.env=(false,eval a X.env)::starEach [] X.env:=by rfl)(hpl:(backTo pos (starEach [] X.env)).any (·.1)=false:=by rfl):JE X (.Call (.Name "all" p) [a] [] pos) (eA (aA (eS fun bs=>bs.all id)) as) []:=⟨ut hc ml ha.h hg he hpl⟩
end
section
variable {X:Cx} {elt tg iter:Expr} {ifs:List Expr} {scope:Scope} {own cn:List Str} {caps is:List Nat} {g:TG} {un:D->Option (List D)} {fi:FEs} {ei ee:List Es} {c:ae->Option Bool} {fe:FE} {pos spos p2:Pos}
theorem jL(B:BlkOk X scope own caps cn)(hc:X.calm=true)(hi:JI X tg iter fi ei)(hg:∀ s H cl ex,PG (blk X (own++cn) s H scope cl ex) tg g)(hgv:TgV X.K g is un)(his:∀ i ∈ is,i < own.length)(ht:∀ s H cl ex,PTs (blk X (own++cn) s H scope cl ex) ifs (tvT X.K c))(he:∀ s H cl ex,JE (blk X (own++cn) s H scope cl ex) elt fe ee)(hs:∀ x,foldedSetIterable iter X.env x=pure x:=by intro _;rfl):JF X (.ListComp elt [⟨tg,iter,ifs,0⟩] scope pos) (ci own.length caps is un fi c fe) (esC own.length caps ei ee):=⟨ux B hc hi.h hg hgv his ht (fun s H cl ex=>(he s H cl ex).h) hs⟩
end
section
variable {P:Program} {w:World} {K:PySem.W.Frag} {mg:Str->Option Value} {base:Heap} {x:Str} {j k:Nat} {ps:List Str} {G:List D->Option D} {fr:Bool}
end
section
variable {X:Cx} {k:Nat} {ps:List Str} {G:List D->Option D} {fr:Bool} {x:Str} {p pos:Pos} {e:Expr} {es':List Expr} {as:FEs} {es:List Es}
theorem gc(d:Def X.prog X.w X.K X.mg X.base x k ps (scF G) fr)(hr:Room k X.A)(ha:JA X (e::es') as es)(hg:Gl X x:=by rfl)(hdb:(x == ("__debug__" : Str))=false:=by decide)(he:starEach (e::es') X.env=(false,eval e X.env)::starEach es' X.env:=by rfl)(hpl:(backTo pos (starEach es' X.env)).any (·.1)=false:=by rfl):JE X (.Call (.Name x p) (e::es') [] pos) (eA (scF G) as) []:=⟨uA d hr ha.h hg hdb he hpl⟩
end
section
variable {X:Cx} {a b:Expr} {fa fb:FE} {ea eb:List Es} {pos p2:Pos}
theorem vh{j}(ha:JE X a fa ea):JT X (.Compare a [.Is] [.Constant .none j p2] pos) (eT (e1 dJ fa)):=⟨uE ha.h⟩
end
section
variable {X:Cx} {tg a b:Expr} {elts:List Expr} {ek:Nat} {ep pn pr:Pos} {ta:TA}
end
section
variable {X:Cx} {tg a b:Expr} {elts:List Expr} {ek:Nat} {ep pn pr:Pos} {fa fb:FE} {ea eb:List Es}
end
section
variable {X:Cx} {F:Fr0} {O O2 OL:List Nat} {fr:Bool} {a b:Expr} {body:List Stmt} {fa fb:FE} {ea eb:List Es} {tb:FS} {p2 pos pn pr:Pos}
end
section
variable {prog:Program} {w:World} {A:Around} {s:Shared} {R:Result->Shared->Prop}
variable {I:Addr} {fp wr:List Addr} {G:Array GenState->Array GenState->Prop} {n:Nat} {P:Nat->Value->Prop} {St:Nat->Shared->Prop}
end
section
variable {prog:Program} {w:World} {A:Around} {E:Value->Shared->Prop} {s:Shared}
end
section
variable {X:Cx} {a b e ix:Expr} {fa fb fe fx:FE} {ea eb es ei:List Es} {pos pos2 p p2:Pos} {ta:TA}
end
section
variable {X:Cx} {F:Fr0} {O OL:List Nat} {fr:Bool} {e ix:Expr} {fe fx:FE} {es ei:List Es} {pos p2:Pos}
end
section
variable {X:Cx} {a b e:Expr} {te:TE} {fa fb:FE} {ea eb:List Es} {pos p p2:Pos} {lo hi:Option Expr} {ke:Expr} {tl th tk:TO} {flo fhi fst:FO}
theorem vi(ha:JE X a fa ea)(hb:JE X b fb eb)(hm:behindInMarks .NotIn b=false:=by with_unfolding_all rfl):JE X (.Compare a [.NotIn] [b] pos) (e2 gb fa fb) []:=⟨uK ha.h hb.h hm⟩
end
section
variable {X:Cx} {tg:Expr}
end
section
variable {X:Cx} {F:Fr0} {O O2 OL:List Nat} {fr:Bool} {a b c:Expr} {body:List Stmt} {as:FEs} {ei:List Es} {tb:FS} {p2 pos pn pr:Pos}
end
section
variable {X:Cx} {a b:Expr} {fa fb:FE} {ea eb es:List Es} {as:FEs} {pos p kp cp:Pos}
end
section
variable {X:Cx} {a b c:Expr} {as:FEs} {es:List Es} {pos p:Pos}
end
section
variable {X:Cx}
end
section
variable {X:Cx} {F:Fr0} {O OL:List Nat} {fr:Bool} {e:Expr} {fe:FE} {es:List Es} {pos p2:Pos}
end
section
variable {X:Cx} {F:Fr0} {i:Nat} {al al1 al2:Option Nat} {fr:Bool} {f g:FS} {st:Stmt} {ai:List Stmt} {pos p2 p3 p4:Pos} {e b1 b2:Expr} {fe f1 f2:FE} {es e1 e2:List Es}
end
section
variable {X:Cx} {elt tg iter:Expr} {ifs:List Expr} {scope:Scope} {own cn:List Str} {caps is:List Nat} {g:TG} {un:D->Option (List D)} {fi:FEs} {ei ee:List Es} {c:ae->Option Bool} {fe:FE} {pos spos p2:Pos}
end
section
variable {prog:Program} {w:World} {A:Around} {E:Value->Shared->Prop} {s:Shared}
end
section
variable {X:Cx} {tg a:Expr} {ta:TA} {p p2 pos pos2:Pos}
end
section
variable {X:Cx} {F:Fr0} {O O2 OL:List Nat} {fr:Bool} {a:Expr} {body:List Stmt} {as:FEs} {ei:List Es} {tb:FS} {p2 pos pn pr pm pq:Pos}
end
section
variable {X:Cx} {a b c:Expr} {fa fb fc:FE} {ea eb ec:List Es} {pos:Pos}
end
section
variable {K:PySem.W.Frag} {F:Fr0} {held:List Hd} {i r:Nat} {al:Option Nat} {a:Addr} {bs:List Addr} {dss:List (List D)} {σ:St} {ρ:ae} {H H':Hp}
end
section
variable {X:Cx} {F:Fr0} {i r:Nat} {al al1 al2:Option Nat} {fr:Bool} {f g:FS} {st:Stmt} {ai:List Stmt} {pos p2 p3 p4:Pos} {e b1 b2:Expr} {fe f1 f2:FE} {es e1 e2:List Es}
end
section
variable {K:PySem.W.Frag} {F:Fr0} {held:List Hd} {i:Nat} {a:Addr} {bs:List Addr} {dss:List (List D)} {σ:St} {ρ:ae} {H H':Hp}
end
section
variable {X:Cx} {F:Fr0} {O O1 O2 O' OL:List Nat} {i:Nat} {fr:Bool} {f g:FS} {st:Stmt} {ai:List Stmt} {pos p2 p3 p4:Pos} {e:Expr} {fe:FE} {es:List Es}
end
section
variable {P:Program} {w:World} {K:PySem.W.Frag} {mg:Str->Option Value} {base:Heap} {x:Str} {j k:Nat} {ps:List Str} {G:List D->Option D}
end
section
variable {X:Cx} {k:Nat} {ps:List Str} {G:List D->Option D} {F:Fr0} {O O' OL:List Nat} {fr:Bool} {x y:Str} {p p2 pos spos:Pos} {e:Expr} {es':List Expr} {as:FEs} {es:List Es} {ai:List Stmt} {fs:FS} {al':Option Nat}
end
section
variable {X:Cx} {elt tg iter:Expr} {ifs:List Expr} {scope:Scope} {own cn:List Str} {caps is:List Nat} {g:TG} {un:D->Option (List D)} {fi:FEs} {ei ee:List Es} {c:ae->Option Bool} {fe:FE} {pos spos p2:Pos} {F:Fr0} {i:Nat} {fr:Bool}
end
section
variable {X:Cx} {elt tg iter:Expr} {ifs:List Expr} {scope:Scope} {own cn:List Str} {n:Nat} {caps is:List Nat} {g:TG} {un:D->Option (List D)} {fi:FEs} {ei:List Es} {c:ae->Option Bool} {fe:FE} {pos:Pos}
end
section
variable {X:Cx} {F:Fr0} {n:Nat} {O O1 O2 O' OL:List Nat} {fr:Bool} {f g:FS} {st:Stmt} {ai:List Stmt} {pos:Pos} {e:Expr} {fe:FE}
end
section
variable {P:Program} {w:World} {K:PySem.W.Frag} {mg:Str->Option Value} {base:Heap} {x:Str} {j k n:Nat} {ps:List Str} {G:List D->Option D}
end
section
variable {X:Cx} {k n:Nat} {ps:List Str} {G:List D->Option D} {x:Str} {p pos:Pos} {e:Expr} {es':List Expr} {as:FEs} {es:List Es}
end
section
variable {K:PySem.W.Frag} {F:Fr0} {held:List Hd} {i n:Nat} {S:List Addr} {v0:V} {d0:D} {σ:St} {ρ:ae} {H H':Hp}
end
section
variable {X:Cx} {F:Fr0} {i n:Nat} {fr:Bool} {f g:FS} {st:Stmt} {ai:List Stmt} {pos p2 p3 p4:Pos} {e:Expr} {fe:FE} {es:List Es}
end
section
variable {X:Cx} {r:Nat} {y:Str} {e:Expr} {d:D} {es:List Es} {pos p2 ap cp:Pos}
end
section
variable {X:Cx} {r1 r2:Nat} {y1 y2:Str} {d:D} {body:List Stmt} {pos p1 p2:Pos}
end
section
variable {X:Cx} {F:Fr0} {i r1 r2:Nat} {x y1 y2:Str} {d:D} {e:Expr} {fe:FE} {es:List Es} {fr:Bool} {ai:List Stmt} {g:FS} {O' OL:List Nat} {pos px py1 py1' py2 pm pl pe2 ap cp:Pos}
end
section
variable {X:Cx} {k n:Nat} {ps:List Str} {G:List D->Option D} {F:Fr0} {O O' OL:List Nat} {fr:Bool} {x y:Str} {p p2 pos spos:Pos} {e:Expr} {es':List Expr} {as:FEs} {es:List Es} {ai:List Stmt} {fs:FS}
end
section
variable {X:Cx} {F:Fr0} {O O':List Nat} {elt tg iter e:Expr} {ifs:List Expr} {scope:Scope} {own cn:List Str} {n k:Nat} {caps is:List Nat} {g:TG} {un:D->Option (List D)} {fi:FEs} {ei es:List Es} {c:ae->Option Bool} {fe:FE} {pos p:Pos} {ps:List Str} {G:List D->Option D} {x:Str} {es':List Expr} {as:FEs}
end
section
variable {X:Cx} {a b c:Expr} {es ea eb ec:List Es} {fa fb fc:FE} {pos p2:Pos} {k:Nat}
end
section
variable {K:PySem.W.Frag} {F:Fr0} {held:List Hd} {O O':List Nat} {σ:St} {ρ:ae} {H H':Hp}
end
section
variable {X:Cx} {F:Fr0} {O O1 O2 O' OL:List Nat} {fr:Bool} {f g:FS} {st:Stmt} {pos p2 p3:Pos} {e b:Expr} {fe fb:FE} {es eb:List Es} {k:Nat}
end
section
variable {X:Cx} {a:Expr} {as:FEs} {es:List Es} {pos pos2 p p2:Pos} {ta:TA}
end
section
variable {prog:Program} {w:World} {A:Around} {E:Value->Shared->Prop} {s:Shared} {z:Array Keyed} {c:Cod} {kd:SortKind} {st:SortSt}
end
section
variable {prog:Program} {w:World} {A:Around} {E:Value->Shared->Prop} {s:Shared} {z:Array Keyed} {c:Cod}
end
section
variable {prog:Program} {w:World} {A:Around} {E:Value->Shared->Prop} {s:Shared} {c:Cod}
end
section
variable {X:Cx} {a:Expr} {p pos cp kp:Pos} {fa:FE} {ea:List Es}
end
section
variable {X:Cx} {a b:Expr} {pos:Pos} {fa fb:FE} {ea eb:List Es}
end
theorem ni{X:Cx}{e:Expr}{f:ae->Option Bool}(h:JT X e f):PTs X [e] (tvT X.K f):=uw h.h
section
variable {P:Program} {w:World} {K:PySem.W.Frag} {mg:Str->Option Value} {base:Heap} {x:Str} {j k:Nat} {ps:List Str} {G:List D->Option D} {fr:Bool}
theorem nj{np n:Nat}{qual:Str}{st:Stmt}{f:Addr}{fd:FuncData}{N:List Str}{body:FS}(O' OL:List Nat)(h1:ps.length=np)(h2:N.length=n)(h3:G=mkF fr np n body)(Fn:Fun K x qual st f fd)(S:FnScope N ps (ak st))(h:∀ (cdv:Value) (A:Around) (outer:List PySem.Env) (s:Shared) (H:Hp) (E:XK) (F:Fr0),F.n=n->Room k (A.deeper (envOfC qual (ak st) s.heap.objs.size f cdv)) ->
      JSs (bu CX0 P w K mg base N qual (ak st) f cdv A outer s H E).nox F [] (aU st) body O' OL fr):
    FnOk P w K mg base CX0 (k+1) f fd ps (spF K G fr):=uy O' OL h1 h2 h3 Fn S fun cdv A outer s H E F hn hr=>(h cdv A outer s H E F hn hr).h
end
end VL
namespace VL
open PySem (Str)
open L2 (atI ixN)
theorem jM{d:D}{ds:List D}(h:eU d=some ds):cS d=false/\items d=some ds:=by
  unfold eU at h
  cases e:cS d <;> rw[e] at h
  · exact⟨rfl,by simpa using h⟩
  · cases h
def WE(e:FE)(ρ:ae)(K:D->Prop):Prop:=∃ d,e ρ=some d/\K d
def WB(e:ae->Option Bool)(ρ:ae)(K:Bool->Prop):Prop:=∃ d,e ρ=some d/\K d
def WA(e:FEs)(ρ:ae)(K:List D->Prop):Prop:=∃ d,e ρ=some d/\K d
def WO(e:FO)(ρ:ae)(K:Option Int->Prop):Prop:=∃ d,e ρ=some d/\K d
def WS(e:FS)(ρ:ae)(K:Out->Prop):Prop:=∃ d,e ρ=some d/\K d
def W2(g:D->D->Option D)(x y:D)(K:D->Prop):Prop:=∃ d,g x y=some d/\K d
def W1(g:D->Option D)(x:D)(K:D->Prop):Prop:=∃ d,g x=some d/\K d
def WF(F:List D->Option D)(ds:List D)(K:D->Prop):Prop:=∃ d,F ds=some d/\K d
def kT(K:Bool->Prop):D->Prop
  | .bl b=>K b
  | _=>False
def vj(g:FS)(Q:Out->Prop):Out->Prop
  | .nx ρ=>WS g ρ Q
  | o=>Q o
def nk(K:D->Prop):Out->Prop
  | .rt d=>K d
  | _=>False
def kIf(b:Bool)(A B:Prop):Prop:=(b=true->A)/\(b=false->B)
section
variable {ρ:ae} {K:D->Prop} {KB:Bool->Prop} {KL:List D->Prop} {KO:Option Int->Prop} {Q:Out->Prop} {a b c:FE} {f g:FS} {t t':ae->Option Bool}
theorem dN{K':D->Prop}(h:WE a ρ K)(i:∀ d,K d->K' d):WE a ρ K':=let ⟨d,e,k⟩:=h;⟨d,e,i d k⟩
theorem jN{F:List D->Option D}{ds:List D}{K':D->Prop}(h:WF F ds K)(i:∀ d,K d->K' d):WF F ds K':=let ⟨d,e,k⟩:=h;⟨d,e,i d k⟩
theorem no{F:List D->Option D}{ds:List D}{d:D}(h:F ds=some d)(k:K d):WF F ds K:=⟨d,h,k⟩
theorem bE{i:Nat}{d:D}(h:aa i ρ=some d)(k:K d):WE (aa i) ρ K:=⟨d,h,k⟩
theorem bY{d:D}(k:K d):WE (eC d) ρ K:=⟨d,rfl,k⟩
theorem bF{g:D->D->Option D}(h:WE a ρ fun x=>WE b ρ fun y=>W2 g x y K):WE (e2 g a b) ρ K:=by
  obtain⟨x,e1,y,e2,d,e3,k⟩:=h
  exact⟨d,by simp only[VL.e2,e1,e2,Option.bind_some,e3],k⟩
theorem vk{g:D->Option D}(h:WE a ρ fun x=>W1 g x K):WE (e1 g a) ρ K:=by
  obtain⟨x,e1,d,e3,k⟩:=h
  exact⟨d,by simp only[VL.e1,e1,Option.bind_some,e3],k⟩
theorem dO{C:Int->Int->Prop}[∀ i j,Decidable (C i j)]{k:Int->Int->D}{i j:Int}(hc:C i j)(h:K (k i j)):W2 (gI C k) (.int i) (.int j) K:=⟨_,by simp only[gI,if_pos hc],h⟩
theorem vm{i j:Int}(h:K (.int (i+j))):W2 bH (.int i) (.int j) K:=dO trivial h
theorem nq{i j:Int}(h:K (.int (i - j))):W2 fU (.int i) (.int j) K:=dO trivial h
theorem vn{i j:Int}(hc:okMul i j)(h:K (.int (i * j))):W2 d9 (.int i) (.int j) K:=dO hc h
theorem vo{i j:Int}(hc:fT i j)(h:K (.int (i / j))):W2 eJ (.int i) (.int j) K:=dO hc h
theorem vp{i j:Int}(hc:i5 i j)(h:K (.int (i % j))):W2 cR (.int i) (.int j) K:=dO hc h
theorem vq{i j:Int}(h:K (.bl (decide (i < j)))):W2 ltI (.int i) (.int j) K:=dO trivial h
theorem vt{i j:Int}(h:K (.bl (decide (i<=j)))):W2 leI (.int i) (.int j) K:=dO trivial h
theorem vz{i j:Int}(h:K (.bl (decide (i=j)))):W2 eqD (.int i) (.int j) K:=⟨_,rfl,h⟩
theorem vA{x d:D}{i:Int}(e:ixD x (.int i)=some d)(h:K d):W2 ixD x (.int i) K:=⟨_,e,h⟩
theorem vB{g:D->Option D}{x d:D}(e:g x=some d)(h:K d):W1 g x K:=⟨_,e,h⟩
theorem il{g:D->D->Option D}{x y d:D}(e:g x y=some d)(h:K d):W2 g x y K:=⟨_,e,h⟩
theorem vC(h:WE a ρ (kT KB)):WB (eT a) ρ KB:=by
  obtain⟨d,e,k⟩:=h
  cases d <;> first | exact k.elim | exact⟨_,by simp only[eT,e,Option.bind_some],k⟩
theorem vD(h:WE a ρ (kT KB)):WB (cA a) ρ KB:=by
  obtain⟨d,e,k⟩:=h
  cases d <;> first | exact k.elim | exact⟨_,by simp only[cA,e,Option.bind_some,tru],k⟩
theorem gd{b:Bool}(h:KB b):kT KB (.bl b):=h
theorem vE{d:D}(h:K d):nk K (.rt d):=h
theorem vF(h:WB t ρ fun b=>kIf b (WB t' ρ KB) (KB false)):WB (eL t t') ρ KB:=by
  obtain⟨b,e,k1,k2⟩:=h
  cases b with
  | false=>exact⟨false,by simp only[eL,e,Option.bind_some];rfl,k2 rfl⟩
  | true=>obtain⟨b',e',k'⟩:=k1 rfl;exact⟨b',by simp only[eL,e,Option.bind_some,if_pos,e'],k'⟩
theorem vG(h:WB t ρ fun b=>kIf b (KB true) (WB t' ρ KB)):WB (bOr t t') ρ KB:=by
  obtain⟨b,e,k1,k2⟩:=h
  cases b with
  | true=>exact⟨true,by simp only[bOr,e,Option.bind_some,if_pos],k1 rfl⟩
  | false=>obtain⟨b',e',k'⟩:=k2 rfl;exact⟨b',by simp[bOr,e,e'],k'⟩
theorem vH(h:WB t ρ fun b=>KB (!b)):WB (cc t) ρ KB:=by
  obtain⟨b,e,k⟩:=h
  exact⟨!b,by simp only[cc,e,Option.map_some],k⟩
theorem df(h:WE a ρ (kT fun x=>kIf x (WE b ρ K) (K (.bl false)))):WE (bc a b) ρ K:=by
  obtain⟨d,e,k⟩:=h
  cases d with
  | bl x =>
    cases x with
    | true=>obtain⟨y,e',k'⟩:=k.1 rfl;exact⟨y,by simp only[bc,e,Option.bind_some,e'],k'⟩
    | false=>exact⟨.bl false,by simp only[bc,e,Option.bind_some],k.2 rfl⟩
  | _=>exact k.elim
theorem nr(h:WE a ρ (kT fun x=>kIf x (K (.bl true)) (WE b ρ K))):WE (eOr a b) ρ K:=by
  obtain⟨d,e,k⟩:=h
  cases d with
  | bl x =>
    cases x with
    | false=>obtain⟨y,e',k'⟩:=k.2 rfl;exact⟨y,by simp only[eOr,e,Option.bind_some,e'],k'⟩
    | true=>exact⟨.bl true,by simp only[eOr,e,Option.bind_some],k.1 rfl⟩
  | _=>exact k.elim
theorem bi{P:Prop}[Decidable P]{A B:Prop}(h1:P->A)(h2:¬ P->B):kIf (decide P) A B:=⟨fun e=>h1 (of_decide_eq_true e),fun e=>h2 (of_decide_eq_false e)⟩
theorem dg{P:Prop}[Decidable P]{A B:Prop}(h1:¬ P->A)(h2:P->B):kIf (!decide P) A B:=⟨fun e=>h1 (by simpa using e),fun e=>h2 (by simpa using e)⟩
theorem nu{A B:Prop}(h:A):kIf true A B:=⟨fun _=>h,fun e=>nomatch e⟩
theorem nv{A B:Prop}(h:B):kIf false A B:=⟨fun e=>(nomatch e),fun _=>h⟩
theorem vI{A B:Prop}(h:A):kIf (!false) A B:=nu h
theorem vJ{A B:Prop}(h:B):kIf (!true) A B:=nv h
theorem eZ(h:KL []):WA aB ρ KL:=⟨[],rfl,h⟩
theorem ff{r:FEs}(h:WE a ρ fun d=>WA r ρ fun ds=>KL (d::ds)):WA (aj a r) ρ KL:=by
  obtain⟨d,e,ds,e',k⟩:=h
  exact⟨_,by simp only[aj,e,e',Option.bind_some],k⟩
theorem vK{r:FEs}(h:WA r ρ fun ds=>ds.length<=1000/\K (.lst ds)):WE (bv r) ρ K:=by
  obtain⟨ds,e,l,k⟩:=h
  exact⟨_,by simp only[bv,e,Option.bind_some,if_pos l],k⟩
theorem fg{F:List D->Option D}{r:FEs}(h:WA r ρ fun ds=>WF F ds K):WE (eA F r) ρ K:=by
  obtain⟨ds,e,d,e',k⟩:=h
  exact⟨d,by simp only[eA,e,Option.bind_some,e'],k⟩
theorem vL{g g':D->D->Option D}(h:WE a ρ fun x=>WE b ρ fun y=>W2 g x y (kT fun z=>kIf z (WE c ρ fun w=>W2 g' y w K) (K (.bl false)))):WE (e3c g g' a b c) ρ K:=by
  obtain⟨x,e1,y,e2,d,e3,k⟩:=h
  cases d with
  | bl z =>
    cases z with
    | true=>obtain⟨w,e4,d,e5,k⟩:=k.1 rfl;exact⟨d,by simp only[e3c,e1,e2,e3,e4,e5,Option.bind_some],k⟩
    | false=>exact⟨.bl false,by simp only[e3c,e1,e2,e3,Option.bind_some],k.2 rfl⟩
  | _=>exact k.elim
theorem vM(h:WS f ρ (vj g Q)):WS (dc f g) ρ Q:=by
  obtain⟨o,e,k⟩:=h
  cases o with
  | nx ρ'=>obtain⟨o',e',k'⟩:=k;exact⟨o',by simp only[dc,e,Option.bind_some,e'],k'⟩
  | rt d=>exact⟨_,by simp only[dc,e,Option.bind_some],k⟩
  | bk d=>exact⟨_,by simp only[dc,e,Option.bind_some],k⟩
  | ct d=>exact⟨_,by simp only[dc,e,Option.bind_some],k⟩
theorem vN(h:WE a ρ fun d=>Q (.rt d)):WS (cU a) ρ Q:=by
  obtain⟨d,e,k⟩:=h
  exact⟨_,by simp only[cU,e,Option.map_some],k⟩
theorem vO(h:KO none):WO ce ρ KO:=⟨_,rfl,h⟩
theorem vP(h:WE a ρ fun d=>∃ i,d=.int i/\KO (some i)):WO (bI a) ρ KO:=by
  obtain⟨d,e,i,rfl,k⟩:=h
  exact⟨_,by simp only[bI,e,Option.bind_some],k⟩
theorem vQ{lo hi:FO}(h:WE a ρ fun x=>WO lo ρ fun l=>WO hi ρ fun u=>∃ ds,eU x=some ds/\K (.lst (da ds l u))):WE (eSl a lo hi) ρ K:=by
  obtain⟨x,e,l,e1,u,e2,ds,h1,k⟩:=h
  obtain⟨h1,h2⟩:=jM h1
  exact⟨_,by simp[eSl,e,e1,e2,h1,h2],k⟩
theorem nw{fr:Bool}{np n:Nat}{body:FS}{ds:List D}(hl:ds.length=np)(h:WS body (ds.map some++List.replicate (n - np) none) (nk K)):WF (mkF fr np n body) ds K:=by
  obtain⟨o,e,k⟩:=h
  cases o with
  | rt d=>exact⟨d,by simp only[mkF,if_pos hl,e,Option.bind_some],k⟩
  | _=>exact k.elim
theorem ny{F:List D->Option D}{ds:List D}(h:WF F ds fun d=>aG d=true/\K d):WF (scF F) ds K:=by
  obtain⟨d,e,s,k⟩:=h
  exact⟨d,by simp only[scF,e,Option.bind_some,if_pos s],k⟩
end
theorem vR{t:Nat}{it:FE}{tb:FS}{ρ:ae}{Q:Out->Prop}(h:WE it ρ fun d=>∃ ds,eU d=some ds/\WS (cB (fun x ρ=>tb (ρ.set t (some x))) ds) ρ Q):WS (g4 t it tb) ρ Q:=by
  obtain⟨d,e,ds,h1,o,e',k⟩:=h
  obtain⟨h1,h2⟩:=jM h1
  exact⟨o,by simp[g4,e,h1,h2,e'],k⟩
def WI(f:FEs)(ρ:ae)(K:List D->Prop):Prop:=∃ d,f ρ=some d/\K d
theorem nz{α:Type}{g:D->Option (Option D)}(enc:α->D)(p:α->Bool)(f:α->D):∀ (xs:List α),(∀ x ∈ xs,g (enc x)=some (if p x then some (f x) else none))->cV g (xs.map enc)=some ((xs.filter p).map f)
  | [],_=>rfl
  | x::r,h=>by
    have h1:=h x (List.mem_cons_self ..)
    have h2:=nz enc p f r fun y hy=>h y (List.mem_cons_of_mem _ hy)
    simp only[List.map_cons,cV,h1,h2,Option.bind_some]
    cases e:p x <;> simp[e]
theorem vS{α:Type}{nown:Nat}{caps is:List Nat}{un:D->Option (List D)}{fi:FEs}{c:ae->Option Bool}{fe:FE}{ρ:ae}{K:D->Prop}(h:WI fi ρ fun ds=>∃ (enc:α->D) (p:α->Bool) (f:α->D) (xs:List α),ds=xs.map enc/\xs.length < 100000/\(∀ x ∈ xs,∃ us,un (enc x)=some us/\WB c (aQ (aT nown caps ρ) is us) fun b=>b=p x/\(b=true->WE fe (aQ (aT nown caps ρ) is us) fun d=>d=f x))/\K (.lst ((xs.filter p).map f))):
    WE (ci nown caps is un fi c fe) ρ K:=by
  obtain⟨ds,e,enc,p,f,xs,rfl,hl,ht,k⟩:=h
  refine⟨_,?_,k⟩
  have:cV (de is un c fe (aT nown caps ρ)) (xs.map enc)=some ((xs.filter p).map f):=nz enc p f xs fun x hx=>by
    obtain⟨us,h1,b,h2,rfl,h3⟩:=ht x hx
    cases e:p x with
    | true=>rw[e] at h2;obtain⟨d,h4,rfl⟩:=h3 e;simp[de,h1,h2,h4]
    | false=>rw[e] at h2;simp[de,h1,h2]
  simp only[ci,e,Option.bind_some,List.length_map,if_pos hl,this,Option.map_some]
theorem jO{i:Int}(h1:-(2 ^ 1000:Int) < i)(h2:i < 2 ^ 1000):mid i:=by
  unfold mid
  have:i.natAbs < 2 ^ 1000:=by omega
  by_cases z:i.natAbs=0
  · rw[z];decide
  · exact Nat.lt_trans ((Nat.log2_lt z).mpr this) (by decide)
theorem vT{i j:Int}(h1:-18446744073709551616 < i)(h2:i < 18446744073709551616):okMul i j:=.inl ⟨h1,h2⟩
theorem vU{i j:Int}(h1:0 < j)(h2:mid j):fT i j:=⟨h1,h2⟩
theorem vV{i j:Int}(h1:0 < j):i5 i j:=h1
section
variable {ρ:ae} {K:D->Prop} {Q:Out->Prop}
theorem vW{xs:List D}{i:Int}(h0:0<=i)(h1:i < xs.length):ixD (.lst xs) (.int i)=some (xs[i.toNat]'(by omega)):=by
  simp only[ixD,items,Option.bind_some,atI,ixN,if_pos h0,if_pos h1]
  exact List.getElem?_eq_getElem (by omega)
theorem jP{xs:List D}{i:Int}{P:D->Prop}(h0:0<=i)(h1:i < xs.length)(hP:∀ v ∈ xs,P v)(h:∀ v,P v->K v):W2 ixD (.lst xs) (.int i) K :=
  ⟨_,vW h0 h1,h _ (hP _ (List.getElem_mem _))⟩
def AllI(lo hi:Int):List D->Prop
  | []=>True
  | .int i::r=>(lo<=i/\i<=hi)/\AllI lo hi r
  | _::_=>False
theorem AllI.mem{lo hi:Int}:∀ {xs:List D},AllI lo hi xs->∀ v ∈ xs,∃ i,v=.int i/\lo<=i/\i<=hi
  | [],_,_,h=>nomatch h
  | x::r,h,v,hv=>by
    cases x <;> first | exact h.elim | skip
    rename_i i
    rcases List.mem_cons.mp hv with rfl | hv
    · exact⟨i,rfl,h.1⟩
    · exact AllI.mem h.2 v hv
def AllZ:List D->Prop
  | []=>True
  | .int _::r=>AllZ r
  | _::_=>False
theorem AllZ.mem:∀ {xs:List D},AllZ xs->∀ v ∈ xs,∃ i,v=.int i
  | [],_,_,h=>nomatch h
  | x::r,h,v,hv=>by
    cases x <;> first | exact h.elim | skip
    rename_i i
    rcases List.mem_cons.mp hv with rfl | hv
    · exact⟨i,rfl⟩
    · exact AllZ.mem (show AllZ r from h) v hv
theorem vX{xs ys:List D}(hl:xs.length+ys.length<=100000)(h:K (.lst (xs++ys))):W2 cg (.lst xs) (.lst ys) K:=⟨_,by simp only[cg,if_pos hl],h⟩
theorem vY{T:String}{x:D}(hp:g8 x=false)(h:K (.bl (bO T (tyD x)))):W1 (bJ T) x K:=⟨_,by simp[bJ,hp],h⟩
theorem nA{i:Int}(h:K (.bl true)):W1 (bJ "int") (.int i) K:=⟨_,rfl,h⟩
theorem nB{i:Int}(h:K (.bl false)):W1 (bJ "bool") (.int i) K:=⟨_,rfl,h⟩
theorem nC{i:List D}(h:K (.bl true)):W1 (bJ "list") (.lst i) K:=⟨_,rfl,h⟩
theorem vZ{xs:List Int}(h:K (.int (xs.length:Nat))):WF (aA eN) [.scr xs] K:=⟨_,by simp[aA,eN,items],h⟩
theorem w5{i j:Int}(h:K (.int (min i j))):WF (eO eQ) [.int i,.int j] K:=by
  refine⟨_,rfl,?_⟩
  have:(if j < i then j else i)=min i j:=by omega
  rw[this];exact h
end
theorem nD{α:Type}{g:D->Option (Option D)}(enc:α->D)(P:α->Prop):∀ (xs:List α),(∀ x ∈ xs,∃ b,g (enc x)=some (some (.bl b))/\(b=true ↔ P x))->∃ bs:List Bool,cV g (xs.map enc)=some (bs.map .bl)/\(bs.all id=true ↔ ∀ x ∈ xs,P x)
  | [],_=>⟨[],rfl,by simp⟩
  | x::r,h=>by
    obtain⟨b,h1,h3⟩:=h x (List.mem_cons_self ..)
    obtain⟨bs,h2,hb⟩:=nD enc P r fun y hy=>h y (List.mem_cons_of_mem _ hy)
    refine⟨b::bs,by simp only[List.map_cons,cV,h1,h2,Option.bind_some],?_⟩
    rw[List.all_cons,Bool.and_eq_true,hb,List.forall_mem_cons]
    exact and_congr h3 Iff.rfl
theorem w6(bs:List Bool):dI (bs.map D.bl)=some bs:=by
  induction bs with
  | nil=>rfl
  | cons n r ih=>simp only[List.map_cons,dI,ih,Option.map_some]
theorem w8{α:Type}(P:α->Prop){nown:Nat}{caps is:List Nat}{un:D->Option (List D)}{fi:FEs}{fe:FE}{ρ:ae}{K:D->Prop}(h:WI fi ρ fun ds=>∃ (enc:α->D) (xs:List α),ds=xs.map enc/\xs.length < 100000/\(∀ x ∈ xs,∃ us,un (enc x)=some us/\WE fe (aQ (aT nown caps ρ) is us) fun d=>∃ b,d=.bl b/\(b=true ↔ P x))/\∀ bs:List Bool,(bs.all id=true ↔ ∀ x ∈ xs,P x)->K (.lst (bs.map .bl))):
    WE (ci nown caps is un fi g5 fe) ρ K:=by
  obtain⟨ds,e,enc,xs,rfl,hl,ht,k⟩:=h
  obtain⟨bs,h1,h2⟩:=nD (g:=de is un g5 fe (aT nown caps ρ)) enc P xs fun x hx=>by
    obtain⟨us,h1,d,h2,b,rfl,h3⟩:=ht x hx
    exact⟨b,by simp[de,h1,g5,h2],h3⟩
  exact⟨_,by simp only[ci,e,Option.bind_some,List.length_map,if_pos hl,h1,Option.map_some],k bs h2⟩
theorem w9{bs:List Bool}{K:D->Prop}(h:K (.bl (bs.all id))):WF (aA (eS fun bs=>bs.all id)) [.lst (bs.map .bl)] K:=⟨_,by simp only[aA,eS,w6,Option.bind_some],h⟩
section
variable {ρ:ae} {K:D->Prop} {a:FE}
end
theorem wb{b:Bool}{K:D->Prop}(h:K (.int (if b then 1 else 0))):WF (aA ib) [.bl b] K:=⟨_,rfl,h⟩
theorem jQ(k:Nat):∀ xs:List D,(∀ x ∈ xs,aJ k x x=true)->((xs.zip xs).all fun p=>aJ k p.1 p.2)=true
  | [],_=>rfl
  | x::xs,h=>by
    rw[List.zip_cons_cons,List.all_cons,h x List.mem_cons_self,jQ k xs fun y hy=>h y (List.mem_cons_of_mem _ hy)];rfl
theorem jR:∀ (k:Nat) (d:D),aN k d=true->aJ k d d=true
  | k,.non,_=>by cases k <;> rfl
  | k,.bl b,_=>by cases k <;> cases b <;> rfl
  | k,.int i,_=>by cases k <;> simp[aJ,bX]
  | k,.str x,_=>by cases k <;> simp[aJ,bX]
  | 0,.lst _,h=>by simp[aN] at h
  | 0,.tup _,h=>by simp[aN] at h
  | k,.scr _,h=>by cases k <;> simp[aN] at h
  | k,.dct _ _,h=>by cases k <;> simp[aN] at h
  | k,.ptr _,h=>by cases k <;> simp[aN] at h
  | k+1,.lst xs,h=>by
    rw[aN,List.all_eq_true] at h
    rw[aJ,jQ k xs fun x hx=>jR k x (h x hx)];simp
  | k+1,.tup xs,h=>by
    rw[aN,List.all_eq_true] at h
    rw[aJ,jQ k xs fun x hx=>jR k x (h x hx)];simp
theorem ge{d:D}{K:D->Prop}(hf:aN 4 d=true)(h:K (.bl true)):W2 eqD d d K:=⟨_,by rw[eqD,if_pos ⟨hf,hf⟩,jR 4 d hf],h⟩
section
variable {ρ:ae} {K:D->Prop} {KL:List D->Prop} {Q:Out->Prop} {a b c:FE}
end
end VL
namespace VL
open PySem (Str)
open L2 (atI ixN)
inductive Cell where
  | lst (ds:List D)
  | dic (ns:List Str) (ds:List D)
  | ins (C:Nat) (ns:List Str) (ds:List D)
  | dcT (fz:Bool) (ps:List ((Int × Int) × Int))
  | dcL (fz:Bool) (ps:List (List Int × Int))
  | exn (a:Nat) (x:Str)
abbrev Sto:=Nat->Option Cell
def aX(M:Sto)(a:Nat)(c:Cell):Sto:=fun b=>if b=a then some c else M b
def jS(M:Sto)(a:Nat):Sto:=fun b=>if b=a then none else M b
theorem bG{M:Sto}{a:Nat}{c:Cell}:aX M a c a=some c:=by simp[aX]
theorem fj{M:Sto}{a b:Nat}{c:Cell}(h:b ≠ a):aX M a c b=M b:=by simp[aX,h]
theorem wc{M:Sto}{a:Nat}{c c':Cell}:aX (aX M a c) a c'=aX M a c':=by funext b;unfold aX;split <;> rfl
theorem wd{M:Sto}{a b:Nat}(h:b ≠ a):jS M a b=M b:=by simp[jS,h]
abbrev QE:=D->Sto->Prop
abbrev NTE:=ae->Sto->QE->Prop
abbrev NTB:=ae->Sto->(Bool->Sto->Prop)->Prop
abbrev NTA:=ae->Sto->(List D->Sto->Prop)->Prop
abbrev NTF:=List D->Sto->QE->Prop
structure EndN where
  nx:ae->Sto->Prop
  rt:D->Sto->Prop
  bk:ae->Sto->Prop:=fun _ _=>False
  ct:ae->Sto->Prop:=fun _ _=>False
  ex:Str->Sto->Prop:=fun _ _=>False
abbrev NTS:=EndN->ae->Sto->Prop
def nP(f:FE):NTE:=fun ρ M Q=>WE f ρ fun d=>Q d M
def nPB(f:ae->Option Bool):NTB:=fun ρ M Q=>WB f ρ fun b=>Q b M
def n2(g:D->D->Option D)(ta tb:NTE):NTE:=fun ρ M Q=>ta ρ M fun x M1=>tb ρ M1 fun y M2=>W2 g x y fun d=>Q d M2
def n1(g:D->Option D)(ta:NTE):NTE:=fun ρ M Q=>ta ρ M fun x M1=>W1 g x fun d=>Q d M1
def cj(ta:NTE):NTB:=fun ρ M Q=>ta ρ M fun x M1=>kT (fun b=>Q b M1) x
def dh(ta:NTE):NTB:=fun ρ M Q=>ta ρ M fun x M1=>∃ b,tru x=some b/\Q b M1
def nOr(ta tb:NTB):NTB:=fun ρ M Q=>ta ρ M fun b M1=>kIf b (Q true M1) (tb ρ M1 Q)
def di(ta:NTB):NTB:=fun ρ M Q=>ta ρ M fun b M1=>Q (!b) M1
def cY(ta tb:NTE):NTE:=fun ρ M Q=>ta ρ M fun x M1=>kT (fun b=>kIf b (tb ρ M1 Q) (Q (.bl false) M1)) x
def aL:NTA:=fun _ M Q=>Q [] M
def aq(ta:NTE)(tr:NTA):NTA:=fun ρ M Q=>ta ρ M fun x M1=>tr ρ M1 fun xs M2=>Q (x::xs) M2
def dP(ta:NTA):NTE:=fun ρ M Q=>ta ρ M fun ds M1=>ds.length<=1000/\Q (.lst ds) M1
def im(f:FE):NTE:=fun ρ M Q=>WE f ρ fun d=>∃ ds,d=.lst ds/\∀ a,M a=none->Q (.ptr a) (aX M a (.lst ds))
def gf(ns:List Str)(as:FEs):NTE:=fun ρ M Q=>WA as ρ fun ds=>ds.length=ns.length/\∀ a,M a=none->Q (.ptr a) (aX M a (.dic ns ds))
def nDg(ns:List Str)(i:Nat)(ta:NTE):NTE:=fun ρ M Q=>ta ρ M fun x M1=>∃ a ds d,x=.ptr a/\M1 a=some (.dic ns ds)/\ds[i]?=some d/\Q d M1
def aZ(T:NTF)(ta:NTA):NTE:=fun ρ M Q=>ta ρ M fun ds M1=>T ds M1 Q
def vw1(M:Sto):D->D
  | .ptr a=>match M a with
    | some (.lst ds)=>.lst ds
    | _=>.ptr a
  | d=>d
def fk(G:List D->Option D)(ta:NTA):NTE:=fun ρ M Q=>ta ρ M fun ds M1=>WF G (ds.map (vw1 M1)) fun d=>aG d=true/\Q d M1
def sN:NTS:=fun E ρ M=>E.nx ρ M
def ay(t u:NTS):NTS:=fun E ρ M=>t { E with nx:=fun ρ M=>u E ρ M } ρ M
def bd(tc:NTB)(t u:NTS):NTS:=fun E ρ M=>tc ρ M fun b M1=>kIf b (t E ρ M1) (u E ρ M1)
def aY(ta:NTE):NTS:=fun E ρ M=>ta ρ M E.rt
def aM(i:Nat)(ta:NTE):NTS:=fun E ρ M=>ta ρ M fun d M1=>E.nx (ρ.set i (some d)) M1
def fm(ns:List Str)(i:Nat)(ta tv:NTE):NTS:=fun E ρ M=>tv ρ M fun v M1=>ta ρ M1 fun x M2=>∃ a ds,x=.ptr a/\M2 a=some (.dic ns ds)/\E.nx ρ (aX M2 a (.dic ns (ds.set i v)))
def io(ta tv:NTE):NTS:=fun E ρ M=>ta ρ M fun x M1=>∃ a ds0,x=.ptr a/\M1 a=some (.lst ds0)/\tv ρ M1 fun v M2=>∃ ds,M2 a=some (.lst ds)/\ds.length < 100000/\E.nx ρ (aX M2 a (.lst (ds++[v])))
def cD(body:D->NTS):List D->NTS
  | [],E,ρ,M=>E.nx ρ M
  | x::r,E,ρ,M=>body x { E with nx:=fun ρ M=>cD body r E ρ M,ct:=fun ρ M=>cD body r E ρ M,bk:=E.nx } ρ M
def ip(t:Nat)(it:NTE)(tb:NTS):NTS:=fun E ρ M=>it ρ M fun d M1=>∃ ds,eU d=some ds/\cD (fun x E ρ M=>tb E (ρ.set t (some x)) M) ds E ρ M1
def mkN(np n:Nat)(t:NTS):NTF:=fun ds M Q=>ds.length=np/\t { nx:=fun _ M'=>Q .non M',rt:=Q } (ds.map some++List.replicate (n - np) none) M
def cZ(nown:Nat)(te:NTE)(ρb:ae):List D->List D->Sto->(List D->Sto->Prop)->Prop
  | [],done,M,Q=>Q done M
  | x::r,done,M,Q=>te (ρb.set 0 (some x)) M fun d M1=>cZ nown te ρb r (done++[d]) M1 Q
def gg(caps:List Nat)(ti:NTA)(te:NTE):NTE:=fun ρ M Q=>ti ρ M fun ds M1=>∃ j,ds=[.int j]/\okR j/\j < 1000/\cZ 1 te (aT 1 caps ρ) ((List.range j.toNat).map fun k=>.int (k:Nat)) [] M1 fun ds M2=>Q (.lst ds) M2
def vw2(M:Sto):D->D
  | .ptr a=>match M a with
    | some (.lst ds)=>.lst (ds.map (vw1 M))
    | _=>.ptr a
  | d=>d
def iq(ta:NTE):NTE:=fun ρ M Q=>ta ρ M fun x M1=>∃ ds,vw1 M1 x=.lst ds/\Q (.lst ds) M1
def ck(body:D->NTS)(a:Nat)(all:List D):List D->NTS
  | [],E,ρ,M=>M a=some (.lst all)/\E.nx ρ M
  | x::r,E,ρ,M=>M a=some (.lst all)/\body x { E with nx:=fun ρ M=>ck body a all r E ρ M,ct:=fun ρ M=>ck body a all r E ρ M,bk:=E.nx } ρ M
def vw3(M:Sto):D->D
  | .lst ds=>.lst (ds.map (vw2 M))
  | d=>vw2 M d
def n2V(g:D->D->Option D)(ta tb:NTE):NTE:=fun ρ M Q=>ta ρ M fun x M1=>tb ρ M1 fun y M2=>W2 g (vw3 M2 x) (vw3 M2 y) fun d=>aG d=true/\Q d M2
def XS:List Str:=["NoSale","NoClass","Over","Early","Done","TooMany","Twice","NoTurn","Full","NoRow"]
abbrev QX:=Str->Sto->Prop
abbrev NTX:=List D->Sto->QE->QX->Prop
abbrev NEX:=ae->Sto->QE->QX->Prop
def mkX(np n:Nat)(t:NTS):NTX:=fun ds M Q EX=>ds.length=np/\t { nx:=fun _ M'=>Q .non M',rt:=Q,ex:=EX } (ds.map some++List.replicate (n - np) none) M
def qtX(T:NTX):NTF:=fun ds M Q=>T ds M Q fun _ _=>False
def fo(T:NTX)(ta:NTA):NEX:=fun ρ M Q EX=>ta ρ M fun ds M1=>T ds M1 Q EX
def ir(x:Str):NTS:=fun E _ M=>x ∈ XS/\E.ex x M
def gh(i:Nat)(te:NEX):NTS:=fun E ρ M=>te ρ M (fun d M1=>E.nx (ρ.set i (some d)) M1) E.ex
def jT(i j:Nat)(t:NTS):NTS:=fun E ρ M=>t { E with ex:=fun x M1=>∀ a,M1 a=none->E.nx ((ρ.set j none).set i (some (.ptr a))) (aX M1 a (.exn a x)) } ρ M
def bQ(y:Str)(ta:NTE):NTE:=fun ρ M Q=>ta ρ M fun d M1=>∃ a x,d=.ptr a/\M1 a=some (.exn a x)/\x ∈ XS/\Q (.bl (decide (x=y))) M1
def iu(ta:NTE):NTE:=fun ρ M Q=>ta ρ M fun d M1=>∃ a x,d=.ptr a/\M1 a=some (.exn a x)/\x ∈ XS/\Q (.bl true) M1
end VL
namespace VL
open PySem PySem.Spec PyProof.Rows L2
def nE:Option Cell->Bool
  | some (.dcT true _)=>true
  | some (.dcL true _)=>true
  | _=>false
def inM(M:Sto):Addr->Prop:=fun a=>M a ≠ none/\nE (M a)=false
theorem jU{M M':Sto}{b:Addr}(e:M' b=M b):inM M' b ↔ inM M b:=by unfold inM;rw[e]
noncomputable abbrev PH(H:Hp)(M:Sto):Hp:=ah H (inM M)
def aI(ns:List Str)(vs:List V):List (Key × V):=(ns.zip vs).map fun p=>(Sum.inr p.1,p.2)
def nF(ps:List ((Int × Int) × Int)):List (List Key × V):=ps.map fun p=>([Sum.inl p.1.1,Sum.inl p.1.2],V.int p.2)
def nG(ps:List (List Int × Int)):List (List Key × V):=ps.map fun p=>(p.1.map Sum.inl,V.int p.2)
def nH(x C:Addr):Heap->Prop:=fun h=>∃ o,h.get? x=some o/\o.cls=.ref C
def CellOk(K:PySem.W.Frag)(H:Hp):HO->Cell->Prop
  | .lst xs,.lst ds=>Reps K H xs ds
  | .dK kvs,.dic ns ds=>∃ vs,kvs=aI ns vs/\vs.length=ns.length/\Reps K H vs ds
  | .ins C dx fs,.ins C' ns ds=>C=C'/\∃ vs,fs=ns.zip vs/\vs.length=ns.length/\Reps K H vs ds
  | o,.dcT fz ps=>(fz=false/\o=.dT (nF ps))\/(fz=true/\∃ ob,o=.frz ob (.dT (nF ps)))
  | o,.dcL fz ps=>(fz=false/\o=.dT (nG ps))\/(fz=true/\∃ ob,o=.frz ob (.dT (nG ps)))
  | .ext φ,.exn a x=>∃ C,φ=nH a C/\PySem.W.nsIn K mainGlobals x=some (some (.ref C))
  | _,_=>False
theorem CellOk.mono{K:PySem.W.Frag}{H H':Hp}(e:Same H H'):∀ {o:HO} {c:Cell},CellOk K H o c->CellOk K H' o c:=fun {o c} h=>by
  unfold CellOk at h ⊢
  split at h
  · exact aK e h
  · obtain⟨vs,h1,h2,h3⟩:=h;exact⟨vs,h1,h2,aK e h3⟩
  · obtain⟨h0,vs,h1,h2,h3⟩:=h;exact⟨h0,vs,h1,h2,aK e h3⟩
  · exact h
  · exact h
  · exact h
  · exact h.elim
def MOk(K:PySem.W.Frag)(H:Hp)(M:Sto):Prop:=∀ a c,M a=some c->∃ o,H a=some o/\CellOk K (PH H M) o c
theorem MOk.dom{K:PySem.W.Frag}{H:Hp}{M:Sto}(h:MOk K H M):Dom H (inM M):=fun b hb n=>by
  cases e:M b with
  | none=>exact hb.1 e
  | some c=>obtain⟨o,h1,_⟩:=h b c e;rw[n] at h1;cases h1
theorem MOk.fresh{K:PySem.W.Frag}{H:Hp}{M:Sto}(h:MOk K H M){p:Addr}(hp:H p=none):M p=none:=by
  cases e:M p with
  | none=>rfl
  | some c=>obtain⟨o,h1,_⟩:=h p c e;rw[hp] at h1;cases h1
theorem PH.up{H H':Hp}{M:Sto}(e:Same H H'):Same (PH H M) (PH H' M):=bw e
theorem MOk.up{K:PySem.W.Frag}{H H':Hp}{M:Sto}(h:MOk K H M)(e:Same H H'):MOk K H' M:=fun a c hc=>by
  obtain⟨o,h1,h2⟩:=h a c hc
  exact⟨o,e _ _ h1,h2.mono (PH.up e)⟩
theorem PH.at{H:Hp}{M:Sto}{b:Addr}{o:HO}(h:PH H M b=some o):¬ inM M b/\H b=some o:=bV h
theorem PH.of{H:Hp}{M:Sto}{b:Addr}(h:M b=none):PH H M b=H b:=b7 fun n=>n.1 h
theorem PH.out{H:Hp}{M:Sto}{b:Addr}(h:¬ inM M b):PH H M b=H b:=b7 h
theorem jV{K:PySem.W.Frag}{H H':Hp}{M:Sto}{p:Addr}{o:HO}{c:Cell}(h:MOk K H M)(hp:H p=none)(hs:Same H H')(ho:H' p=some o)(hc:CellOk K (ah H' fun b=>inM M b\/b=p) o c):
    Same (PH H M) (PH H' (aX M p c))/\MOk K H' (aX M p c):=by
  have e:Same (PH H M) (PH H' (aX M p c)):=fun b u q=>by
    obtain⟨h1,h2⟩:=PH.at q
    have ne:b ≠ p:=bt h2 hp
    rw[PH.out (mt (jU (fj ne)).mp h1)]
    exact hs _ _ h2
  refine⟨e,fun a c' hc'=>?_⟩
  by_cases q:a=p
  · subst q
    rw[bG] at hc';cases hc'
    refine⟨o,ho,hc.mono (cb (fun _ _ z=>z) fun b z=>?_)⟩
    by_cases hb:b=a
    · exact .inr hb
    · exact .inl ((jU (fj hb)).mp z)
  · rw[fj q] at hc'
    obtain⟨o',h1,h2⟩:=h a c' hc'
    exact⟨o',hs _ _ h1,h2.mono e⟩
theorem nI{K:PySem.W.Frag}{H:Hp}{M:Sto}{a:Addr}{o:HO}{c c0:Cell}(h:MOk K H M)(ha:M a=some c0)(hc:CellOk K (PH H M) o c)(hf:nE (some c0)=false:=by rfl):
    Same (PH H M) (PH (upd H a o) (aX M a c))/\MOk K (upd H a o) (aX M a c):=by
  have e:Same (PH H M) (PH (upd H a o) (aX M a c)):=fun b u q=>by
    obtain⟨h1,h2⟩:=PH.at q
    have ne:b ≠ a:=fun z=>h1 (by subst z;refine⟨fun n=>?_,?_⟩ <;> rw[ha] at *;cases n;exact hf)
    rw[PH.out (mt (jU (fj ne)).mp h1),au ne]
    exact h2
  refine⟨e,fun b c' hc'=>?_⟩
  by_cases q:b=a
  · subst q
    rw[bG] at hc';cases hc'
    exact⟨o,ba,hc.mono e⟩
  · rw[fj q] at hc'
    obtain⟨o',h1,h2⟩:=h b c' hc'
    exact⟨o',by rw[au q];exact h1,h2.mono e⟩
structure EnvQ (K:PySem.W.Frag) (σ:St) (ρ:ae) (H:Hp) (M:Sto):Prop where
  env:EnvR K (PH H M) σ ρ
  ok:MOk K H M
structure PostT (K:PySem.W.Frag) (H:Hp) (M:Sto) (H':Hp) (M':Sto):Prop where
  same:Same (PH H M) (PH H' M')
  ok:MOk K H' M'
structure PostW (K:PySem.W.Frag) (H:Hp) (M:Sto) (d:D) (v:V) (H':Hp) (M':Sto):Prop extends PostT K H M H' M' where
  rep:Rep K (PH H' M') v d
structure PostWs (K:PySem.W.Frag) (H:Hp) (M:Sto) (ds:List D) (vs:List V) (H':Hp) (M':Sto):Prop extends PostT K H M H' M' where
  rep:Reps K (PH H' M') vs ds
theorem EnvQ.next{K:PySem.W.Frag}{σ:St}{ρ:ae}{H H':Hp}{M M':Sto}(h:EnvQ K σ ρ H M)(p:PostT K H M H' M'):EnvQ K σ ρ H' M':=⟨h.env.mono p.same,p.ok⟩
theorem PostT.refl{K:PySem.W.Frag}{H:Hp}{M:Sto}(h:MOk K H M):PostT K H M H M:=⟨Same.refl _,h⟩
theorem PostT.trans{K:PySem.W.Frag}{H H1 H2:Hp}{M M1 M2:Sto}(a:PostT K H M H1 M1)(b:PostT K H1 M1 H2 M2):PostT K H M H2 M2:=⟨a.same.trans b.same,b.ok⟩
theorem PostT.of{K:PySem.W.Frag}{H H':Hp}{M:Sto}(h:MOk K H M)(e:Same H H'):PostT K H M H' M:=⟨PH.up e,h.up e⟩
def tw(K:PySem.W.Frag)(t:NTE):TE:=fun σ H Q=>∃ ρ M QW,EnvQ K σ ρ H M/\t ρ M QW/\∀ d M',QW d M'->∀ v H',PostW K H M d v H' M'->Q v H'
def twT(K:PySem.W.Frag)(t:NTB):TT:=fun σ H Q=>∃ ρ M QW,EnvQ K σ ρ H M/\t ρ M QW/\∀ b M',QW b M'->∀ H',PostT K H M H' M'->Q b H'
def twA(K:PySem.W.Frag)(t:NTA):TA:=fun σ H Q=>∃ ρ M QW,EnvQ K σ ρ H M/\t ρ M QW/\∀ ds M',QW ds M'->∀ vs H',PostWs K H M ds vs H' M'->Q vs H'
abbrev NE(X:Cx)(e:Expr)(t:NTE):Prop:=PE X e (tw X.K t)
abbrev NT(X:Cx)(e:Expr)(t:NTB):Prop:=PT X e (twT X.K t)
abbrev NW(X:Cx)(e:Expr)(t:NTB):Prop:=PW X e (twT X.K t)
abbrev NA(X:Cx)(es:List Expr)(t:NTA):Prop:=PA X es (twA X.K t)
section
variable {X:Cx} {a b c:Expr} {ta tb tc:NTE} {pos p2:Pos} {es:List Es} {fa fb:FE}
theorem nJ{K:PySem.W.Frag}{σ:St}{ρ:ae}{H:Hp}{M:Sto}(h:EnvQ K σ ρ H M)(e:Es):Av K H σ ρ (inM M) e:=by
  have full:∀ (j:Nat) (v:V) (d:D),σ[j]?=some (some v)->ρ[j]?=some (some d)->Rep K (ah H (inM M)) v d:=fun j v d h1 h2=>by
    obtain⟨v',h3,h4⟩:=h.env j d h2
    rw[h1] at h3;cases h3
    exact h4
  cases e with
  | full j=>exact full j
  | el j=>exact fun v d h1 h2=>(full j v d h1 h2).el
theorem EnvQ.envR{K:PySem.W.Frag}{σ:St}{ρ:ae}{H:Hp}{M:Sto}(h:EnvQ K σ ρ H M):EnvR K H σ ρ:=h.env.mono (aF _ _)
theorem we(h:VE X a fa es):NE X a (nP fa):=aE h fun σ H Q ⟨ρ,M,QW,hE,⟨d,hf,hq⟩,hQ⟩ =>
  ⟨ρ,d,hE.envR,hf,fun v H' p=>hQ d M hq v H' ⟨PostT.of hE.ok p.same,p.av (inM M) hE.ok.dom fun e _=>nJ hE e⟩⟩
theorem wf{f:ae->Option Bool}(h:VT X a f):NT X a (nPB f):=d8 h fun σ H Q ⟨ρ,M,QW,hE,⟨d,hf,hq⟩,hQ⟩ =>
  ⟨ρ,d,hE.envR,hf,fun H' e=>hQ d M hq H' (PostT.of hE.ok e)⟩
theorem iw{K:PySem.W.Frag}{r:R2}{g:D->D->Option D}(hr:OpV K r g){σ:St}{H:Hp}{Q:VK}(h:tw K (n2 g ta tb) σ H Q):tOp r (tw K ta) (tw K tb) σ H Q:=by
  obtain⟨ρ,M,QW,hE,ht,hQ⟩:=h
  refine⟨ρ,M,_,hE,ht,fun x M1 h1 vx H1 p1=>⟨ρ,M1,_,hE.next p1.toPostT,h1,fun y M2 h2 vy H2 p2=>?_⟩⟩
  obtain⟨d,hg,hq⟩:=h2
  have rx:=ar p2.same p1.rep
  refine hr vx vy H2 x y d Q (ar (aF _ _) rx) (ar (aF _ _) p2.rep) hg fun v H' e r' av=>hQ d M2 hq v H' ⟨(p1.toPostT.trans p2.toPostT).trans (PostT.of p2.ok e),av _ p2.ok.dom rx p2.rep⟩
theorem iy{op:Operator}{r:R2}{g:D->D->Option D}(ho:OpR X (binaryOp op) r)(hr:OpV X.K r g)(ha:NE X a ta)(hb:NE X b tb):NE X (.BinOp a op b pos) (n2 g ta tb):=aE (gN ho ha hb) fun _ _ _ h=>iw hr h
theorem wg(ha:NE X a ta)(hb:NE X b tb):NE X (.BinOp a .Add b pos) (n2 bH ta tb):=iy lH (hZ X.K fun _ _ _=>.int _) ha hb
theorem wj(ha:NE X a ta)(hb:NE X b tb):NE X (.BinOp a .Mult b pos) (n2 d9 ta tb):=iy mD (hW X.K (fun _ _ h=>h) fun _ _ _=>.int _) ha hb
theorem wk{op:CmpOp}{r:R2}{g:D->D->Option D}(ho:OpR X (compareOp op) r)(hr:OpV X.K r g)(ha:NE X a ta)(hb:NE X b tb)(hm:behindInMarks op b=false):NE X (.Compare a [op] [b] pos) (n2 g ta tb) :=
  aE (iY ho ha hb hm) fun _ _ _ h=>iw hr h
theorem nK{op:CmpOp}{r:R2}{g:D->D->Option D}(ho:OpR X (compareOp op) r)(hr:OpV X.K r g)(ha:NE X a ta)(hb:NE X b tb)(hm:behindInMarks op b=false):NT X (.Compare a [op] [b] pos) (cj (n2 g ta tb)) :=
  d8 (iZ ho ha hb hm) fun σ H Q ⟨ρ,M,QW,hE,ht,hQ⟩=>iw hr ⟨ρ,M,_,hE,ht,fun d M' hd v H' p=>by
    cases d with
    | bl k=>cases p.rep;exact⟨k,rfl,hQ k M' hd H' p.toPostT⟩
    | _=>exact hd.elim⟩
theorem ne_eq{k:Nat}(hr:Room k X.A)(ha:NE X a ta)(hb:NE X b tb):NE X (.Compare a [.Eq] [b] pos) (n2 eqD ta tb):=wk (g6 hr) (g7 X.K) ha hb (cu _)
theorem wm{k:Nat}(hr:Room k X.A)(ha:NE X a ta)(hb:NE X b tb):NT X (.Compare a [.Eq] [b] pos) (cj (n2 eqD ta tb)):=nK (g6 hr) (g7 X.K) ha hb (cu _)
theorem wn{k:Nat}(hr:Room k X.A)(ha:NE X a ta)(hb:NE X b tb):NT X (.Compare a [.NotEq] [b] pos) (cj (n2 neD ta tb)):=nK (jz hr) (jA X.K) ha hb (cu _)
variable {ka kb:NTB} {ai:List Expr}
theorem wo(h:NE X a ta)(he:∀ whole,isTrue a X.env whole=(do let v <- whole;standAt a.pos;holding [v] (truthy v)):=by intro _;rfl):NT X a (dh ta) :=
  d8 (lO h he) fun σ H Q ⟨ρ,M,QW,hE,ht,hQ⟩=>⟨ρ,M,_,hE,ht,fun d M' ⟨b,hb,hq⟩ v H' p=>⟨b,mE (ar (aF _ _) p.rep) hb,hQ b M' hq H' p.toPostT⟩⟩
theorem wp(ha:NT X a ka):NW X (.BoolOp .Or [a] pos) ka:=lh ha
theorem wq(ha:NT X a ka)(hb:NW X (.BoolOp .Or (b::ai) pos) kb):NW X (.BoolOp .Or (a::b::ai) pos) (nOr ka kb) :=
  jd (li ha hb) fun σ H Q ⟨ρ,M,QW,hE,ht,hQ⟩=>⟨ρ,M,_,hE,ht,fun k M1 hk H1 p1=>by
    cases k with
    | false=>exact cx ⟨ρ,M1,_,hE.next p1,hk.2 rfl,fun k' M2 h2 H2 p2=>hQ k' M2 h2 H2 (p1.trans p2)⟩
    | true=>exact cy (hQ _ M1 (hk.1 rfl) H1 p1)⟩
theorem wt(h:NW X a ka):NT X a ka:=h.pt
theorem wu(ha:NT X a ka):NT X (.UnaryOp .Not a pos) (di ka):=d8 (lm ha) fun σ H Q ⟨ρ,M,QW,hE,ht,hQ⟩=>⟨ρ,M,_,hE,ht,fun k M1 hk H1 p1=>hQ _ M1 hk H1 p1⟩
theorem wv{op}(h:NE X a ta):NE X (.BoolOp op [a] pos) ta:=ln h
theorem ww(ha:NE X a ta)(hb:NE X (.BoolOp .And (b::ai) pos) tb):NE X (.BoolOp .And (a::b::ai) pos) (cY ta tb) :=
  aE (lp ha hb) fun σ H Q ⟨ρ,M,QW,hE,ht,hQ⟩=>⟨ρ,M,_,hE,ht,fun x M1 hk vx H1 p1=>by
    cases x with
    | bl k =>
      cases p1.rep
      refine⟨k,rfl,?_⟩
      cases k with
      | true=>exact cy ⟨ρ,M1,_,hE.next p1.toPostT,hk.1 rfl,fun d M2 h2 v H2 p2=>hQ d M2 h2 v H2 ⟨p1.toPostT.trans p2.toPostT,p2.rep⟩⟩
      | false=>exact cx (hQ _ M1 (hk.2 rfl) _ H1 ⟨p1.toPostT,.bl _⟩)
    | _=>exact hk.elim⟩
theorem wx(ha:NE X a ta):NE X (.UnaryOp .Not a pos) (n1 (fun d=>match d with | .bl k=>some (.bl (!k)) | _=>none) ta) :=
  aE (qB ha) fun σ H Q ⟨ρ,M,QW,hE,ht,hQ⟩=>⟨ρ,M,_,hE,ht,fun d M1 ⟨e,hd,hq⟩ v H1 p1=>by
    cases d with
    | bl k=>cases hd;cases p1.rep;exact⟨k,rfl,hQ _ M1 hq _ H1 ⟨p1.toPostT,.bl _⟩⟩
    | _=>cases hd⟩
variable {xs:List Expr} {tas:NTA}
theorem wy:NA X [] aL:=hU bT fun σ H Q ⟨ρ,M,QW,hE,ht,hQ⟩=>hQ [] M ht [] H ⟨PostT.refl hE.ok,.nil⟩
theorem wz(ha:NE X a ta)(hr:NA X xs tas)(hs:starEach (a::xs) X.env=(false,eval a X.env)::starEach xs X.env:=by rfl):NA X (a::xs) (aq ta tas) :=
  hU (bB ha hr hs) fun σ H Q ⟨ρ,M,QW,hE,ht,hQ⟩=>⟨ρ,M,_,hE,ht,fun d M1 h1 v H1 p1=>⟨ρ,M1,_,hE.next p1.toPostT,h1,fun ds M2 h2 vs H2 p2=>hQ _ M2 h2 _ H2 ⟨p1.toPostT.trans p2.toPostT,.cons (ar p2.same p1.rep) p2.rep⟩⟩⟩
theorem wA(h:NA X xs tas):NE X (.List xs pos) (dP tas) :=
  aE (lS h) fun σ H Q ⟨ρ,M,QW,hE,ht,hQ⟩=>⟨ρ,M,_,hE,ht,fun ds M1 ⟨hl,hq⟩ vs H1 p=>⟨by rw[p.rep.length];exact mF hl,fun l hl1=>by
    have hn:=p.ok.fresh hl1
    refine hQ _ M1 hq _ _ ⟨p.toPostT.trans (PostT.of p.ok (bC hl1 _)),.lst (.inl ?_) (aK (PH.up (bC hl1 _)) p.rep)⟩
    rw[PH.of hn];exact ba⟩⟩
theorem wB{H:Hp}{A:Addr->Prop}{p:Addr}{o:HO}(hp:H p=none):Same (ah H A) (ah (upd H p o) fun b=>A b\/b=p):=fun b u q=>by
  obtain⟨n,q⟩:=bV q
  have ne:b ≠ p:=bt q hp
  rw[b7 (fun z=>z.elim n ne),au ne]
  exact q
theorem wC(h:VF X a fa es):NE X a (im fa):=aE h fun σ H Q ⟨ρ,M,QW,hE,⟨d,hf,ds,e,hq⟩,hQ⟩=>⟨ρ,d,hE.envR,hf,fun v H' p=>by
  obtain⟨l,xs,ds',rfl,rfl,hl,hl',hr⟩:=p.new
  cases e
  obtain⟨e1,e2⟩:=jV (c:=.lst ds) hE.ok hl p.same hl' (hr (inM M) hE.ok.dom fun e _=>nJ hE e)
  exact hQ _ _ (hq l (hE.ok.fresh hl)) _ _ ⟨⟨e1,e2⟩,.ptr l⟩⟩
theorem wD(ha:NE X a ta)(hb:NE X b tb)(hs:dF b):NE X (.Subscript a b pos) (n2 ixD ta tb) :=
  aE (gR (ix_list.or m6) ha hb hs) fun σ H Q ⟨ρ,M,QW,hE,ht,hQ⟩=>⟨ρ,M,_,hE,ht,fun x M1 h1 vx H1 p1=>⟨ρ,M1,_,hE.next p1.toPostT,h1,fun y M2 ⟨d,hd,hq⟩ vy H2 p2=>by
    cases y with
    | int i =>
      cases p2.rep
      obtain⟨ds,h3,h4⟩:=bind_some hd
      have rx:=ar p2.same p1.rep
      have hel:ElR X.K H2 (inM M2) _ _:=rx.el
      obtain⟨p,xs,rfl,hp,_,hA⟩:=fX (ar (aF _ _) rx) h3
      have hx:=hA _ hel
      obtain⟨v,h5,h6⟩:=jk hx h4
      have fin:Q v H2:=hQ d M2 hq v H2 ⟨p1.toPostT.trans p2.toPostT,h6⟩
      rcases hp with hp | hp
      · exact .inl ⟨p,xs,i,v,rfl,rfl,hp,h5,fin⟩
      · exact .inr ⟨p,xs,i,v,rfl,rfl,hp,h5,fin⟩
    | _=>cases hd⟩⟩
theorem fq{K:PySem.W.Frag}{H:Hp}{M:Sto}{a:Addr}{ds:List D}(h:MOk K H M)(ha:M a=some (.lst ds)):∃ xs,H a=some (.lst xs)/\Reps K (PH H M) xs ds:=by
  obtain⟨o,h1,h2⟩:=h a _ ha
  cases o with
  | lst xs=>exact⟨xs,h1,h2⟩
  | _=>exact h2.elim
theorem nL{K:PySem.W.Frag}{H:Hp}{M:Sto}{a:Addr}{ns:List Str}{ds:List D}(h:MOk K H M)(ha:M a=some (.dic ns ds)):∃ vs,H a=some (.dK (aI ns vs))/\vs.length=ns.length/\Reps K (PH H M) vs ds:=by
  obtain⟨o,h1,h2⟩:=h a _ ha
  cases o with
  | dK kvs=>obtain⟨vs,rfl,h3,h4⟩:=h2;exact⟨vs,h1,h3,h4⟩
  | _=>exact h2.elim
theorem nM:∀ {ns:List Str} {vs:List V} {i:Nat} {x:Str} {v:V},ns.Nodup->ns[i]?=some x->vs[i]?=some v->bn (aI ns vs) (.inr x)=some v
  | [],_,_,_,_,_,h,_=>by simp at h
  | _::_,[],i,_,_,_,_,h=>by simp at h
  | n::ns,w::vs,0,x,v,_,h1,h2=>by simp at h1 h2;subst h1 h2;exact gS (p:=((Sum.inr n:Key),w)) rfl
  | n::ns,w::vs,i+1,x,v,hn,h1,h2=>by
    have h1':ns[i]?=some x:=by simpa using h1
    have hm:x ∈ ns:=List.mem_of_getElem? h1'
    have ne:¬ (n=x):=fun e=>(List.nodup_cons.mp hn).1 (e ▸ hm)
    have ih:=nM (List.nodup_cons.mp hn).2 h1' (by simpa using h2)
    have e2:bn (aI (n::ns) (w::vs)) (.inr x)=bn (aI ns vs) (.inr x):=gT (p:=((Sum.inr n:Key),w)) fun q=>ne (Sum.inr.inj q)
    rw[e2];exact ih
theorem wE{k i:Nat}{ns:List Str}{x:Str}{j}(hr:Room k X.A)(ha:NE X a ta)(hs:gX (.Constant (.str x) j p2))(hn:ns.Nodup:=by decide +kernel)(hi:ns[i]?=some x:=by rfl):NE X (.Subscript a (.Constant (.str x) j p2) pos) (nDg ns i ta) :=
  aE (sA (by have:=hr.un;omega) ha dE hs) fun σ H Q ⟨ρ,M,QW,hE,ht,hQ⟩=>⟨ρ,M,_,hE,ht,fun y M1 ⟨q,ds,d,ex,hm,hd,hq⟩ vy H1 p1=>by
    subst ex
    cases p1.rep
    obtain⟨vs,g1,gl,g2⟩:=nL p1.ok hm
    obtain⟨v,h5,h6⟩:=g2.get hd
    exact⟨q,v,rfl,.inl ⟨_,.inr x,.inl g1,rfl,(nM hn hi h5).symm⟩,hQ d M1 hq v H1 ⟨p1.toPostT,h6⟩⟩⟩
end
end VL
namespace VL
open PySem PySem.Spec PyProof.Rows L2
def spN(K:PySem.W.Frag)(T:NTF):Sp:=fun vs H Q _=>∃ ds M QW,Reps K (PH H M) vs ds/\MOk K H M/\T ds M QW/\∀ d M',QW d M'->∀ v H',PostW K H M d v H' M'->Q v H'
def DefN(P:Program)(w:World)(K:PySem.W.Frag)(mg:Str->Option Value)(base:Heap)(x:Str)(k:Nat)(ps:List Str)(T:NTF):Prop :=
  ∃ f fd,FnOk P w K mg base CX0 k f fd ps (spN K T)/\mg x=some (.ref f)/\PySem.W.keepIn K (.ref f)=true/\Binds K fd ps []
theorem DefN.mono{P:Program}{w:World}{K:PySem.W.Frag}{mg:Str->Option Value}{base:Heap}{x:Str}{j k:Nat}{ps:List Str}{T:NTF}(h:DefN P w K mg base x j ps T)(hk:j<=k:=by decide):DefN P w K mg base x k ps T :=
  let ⟨f,fd,F,m,kp,b⟩:=h
  ⟨f,fd,F.mono hk,m,kp,b⟩
def MetN(P:Program)(w:World)(K:PySem.W.Frag)(mg:Str->Option Value)(base:Heap)(C:Addr)(m:Str)(k:Nat)(ps:List Str)(T:NTF):Prop :=
  ∃ f fd,FnOk P w K mg base CX0 k f fd ps (spN K T)/\Meth K C m f/\Binds K fd ps []
theorem MetN.mono{P:Program}{w:World}{K:PySem.W.Frag}{mg:Str->Option Value}{base:Heap}{C:Addr}{x:Str}{j k:Nat}{ps:List Str}{T:NTF}(h:MetN P w K mg base C x j ps T)(hk:j<=k:=by decide):MetN P w K mg base C x k ps T :=
  let ⟨f,fd,F,m,b⟩:=h
  ⟨f,fd,F.mono hk,m,b⟩
def MakN(P:Program)(w:World)(K:PySem.W.Frag)(mg:Str->Option Value)(base:Heap)(x:Str)(C:Addr)(k:Nat)(ps:List Str)(T:NTF):Prop :=
  ∃ f fd,FnOk P w K mg base CX0 k f fd ps (spN K T)/\Mk K C f/\mg x=some (.ref C)/\Binds K fd ps []
theorem MakN.mono{P:Program}{w:World}{K:PySem.W.Frag}{mg:Str->Option Value}{base:Heap}{C:Addr}{x:Str}{j k:Nat}{ps:List Str}{T:NTF}(h:MakN P w K mg base x C j ps T)(hk:j<=k:=by decide):MakN P w K mg base x C k ps T :=
  let ⟨f,fd,F,m,g,b⟩:=h
  ⟨f,fd,F.mono hk,m,g,b⟩
theorem nN{K:PySem.W.Frag}{H:Hp}{M:Sto}{v:V}{d:D}(h:MOk K H M)(r:Rep K (PH H M) v d):Rep K H v (vw1 M d):=by
  cases r with
  | ptr a =>
    show Rep K H (.ref a) (match M a with | some (.lst ds)=>.lst ds | _=>.ptr a)
    split
    · rename_i ds hm
      obtain⟨xs,g1,g2⟩:=fq h hm
      exact .lst (.inl g1) (aK (aF _ _) g2)
    · exact .ptr a
  | non=>exact .non
  | bl b=>exact .bl b
  | int b=>exact .int b
  | str b=>exact .str b
  | lst h1 h2=>exact ar (aF _ _) (.lst h1 h2)
  | tup h1 h2=>exact ar (aF _ _) (.tup h1 h2)
  | scr h1=>exact ar (aF _ _) (.scr h1)
  | dct h1=>exact ar (aF _ _) (.dct h1)
theorem iz{K:PySem.W.Frag}{H:Hp}{M:Sto}(h:MOk K H M):∀ {vs:List V} {ds:List D},Reps K (PH H M) vs ds->Reps K H vs (ds.map (vw1 M))
  | [],_,r=>by cases r;exact .nil
  | _::_,_,r=>by cases r with | cons a t=>exact .cons (nN h a) (iz h t)
section
variable {X:Cx} {a b c:Expr} {ta tb tc:NTE} {tas:NTA} {pos p p2 ap:Pos} {k:Nat} {ps:List Str} {x m:Str} {es:List Expr} {T:NTF} {G:List D->Option D} {fr:Bool} {C:Addr} {ns:List Str}
theorem wF(d:DefN X.prog X.w X.K X.mg X.base x k ps T)(hr:Room k X.A)(ha:NA X (a::es) tas)(hg:Gl X x:=by rfl)(hdb:(x == ("__debug__" : Str))=false:=by decide)(he:starEach (a::es) X.env=(false,eval a X.env)::starEach es X.env:=by rfl)(hpl:(backTo pos (starEach es X.env)).any (·.1)=false:=by rfl):
    NE X (.Call (.Name x p) (a::es) [] pos) (aZ T tas) :=
  let ⟨_,_,F,hm,hk,hb⟩:=d
  aE (lT F hr hg hm hk hb .nil md ha hdb he hpl) fun σ H Q ⟨ρ,M,QW,hE,ht,hQ⟩=>⟨ρ,M,_,hE,ht,fun ds M1 h1 vs H1 p=>by
    show spN X.K T (vs++[]) H1 Q E0
    rw[List.append_nil]
    exact⟨ds,M1,QW,p.rep,p.ok,h1,fun d M' hd v H' p'=>hQ d M' hd v H' ⟨p.toPostT.trans p'.toPostT,p'.rep⟩⟩⟩
end
structure EnvN (K:PySem.W.Frag) (P:Hp) (n:Nat) (σ:St) (ρ:ae) (H:Hp) (M:Sto):Prop where
  q:EnvQ K σ ρ H M
  same:Same P (PH H M)
  lσ:σ.length=n
  lρ:ρ.length=n
def dj(K:PySem.W.Frag)(P:Hp)(n:Nat)(De:Ends):EndN where
  nx:=fun ρ M=>∀ σ H,EnvN K P n σ ρ H M->De.nx σ H
  bk:=fun ρ M=>∀ σ H,EnvN K P n σ ρ H M->De.bk σ H
  ct:=fun ρ M=>∀ σ H,EnvN K P n σ ρ H M->De.ct σ H
  rt:=fun d M=>∀ v H,Same P (PH H M)->MOk K H M->Rep K (PH H M) v d->De.rt v H
structure LeE (A B:EndN):Prop where
  nx:∀ ρ M,A.nx ρ M->B.nx ρ M
  bk:∀ ρ M,A.bk ρ M->B.bk ρ M
  ct:∀ ρ M,A.ct ρ M->B.ct ρ M
  rt:∀ d M,A.rt d M->B.rt d M
def twS(K:PySem.W.Frag)(P:Hp)(n:Nat)(t:NTS):TS:=fun De σ H=>∃ ρ M Ew,EnvN K P n σ ρ H M/\t Ew ρ M/\LeE Ew (dj K P n De)
abbrev NS(X:Cx)(st:Stmt)(t:NTS):Prop:=∀ P n,PS X st (twS X.K P n t)
abbrev NSs(X:Cx)(st:List Stmt)(t:NTS):Prop:=∀ P n,PSs X st (twS X.K P n t)
theorem EnvN.next{K:PySem.W.Frag}{P:Hp}{n:Nat}{σ:St}{ρ:ae}{H H':Hp}{M M':Sto}(h:EnvN K P n σ ρ H M)(p:PostT K H M H' M'):EnvN K P n σ ρ H' M':=⟨h.q.next p,h.same.trans p.same,h.lσ,h.lρ⟩
theorem EnvN.set{K:PySem.W.Frag}{P:Hp}{n:Nat}{σ:St}{ρ:ae}{H:Hp}{M:Sto}(h:EnvN K P n σ ρ H M){i:Nat}{v:V}{d:D}(r:Rep K (PH H M) v d):EnvN K P n (σ.set i (some v)) (ρ.set i (some d)) H M :=
  ⟨⟨fun j e q=>by
    by_cases e1:j=i
    · subst e1
      have hl:j < ρ.length:=by have:=(List.getElem?_eq_some_iff.mp q).1;simpa using this
      rw[List.getElem?_set_self hl] at q
      cases q
      exact⟨v,List.getElem?_set_self (by rw[h.lσ,<- h.lρ];exact hl),r⟩
    · rw[List.getElem?_set_ne (Ne.symm e1)] at q
      obtain⟨v',h1,h2⟩:=h.q.env j e q
      exact⟨v',by rw[List.getElem?_set_ne (Ne.symm e1)];exact h1,h2⟩,h.q.ok⟩,h.same,by rw[List.length_set];exact h.lσ,by rw[List.length_set];exact h.lρ⟩
section
variable {X:Cx} {a b c:Expr} {ta tb tc tv:NTE} {tas:NTA} {ka:NTB} {pos p p2 p3 ap cp:Pos} {k:Nat} {st:Stmt} {ai body bs:List Stmt} {t u:NTS} {C:Addr} {ns:List Str} {x f:Str} {i:Nat}
theorem wG:NSs X [] sN:=fun P n=>cT lq fun De σ H ⟨ρ,M,Ew,hE,ht,hl⟩=>hl.nx ρ M ht σ H hE
theorem wH(h1:NS X st t)(h2:NSs X ai u):NSs X (st::ai) (ay t u):=fun P n=>cT (iR (h1 P n) (h2 P n)) fun De σ H ⟨ρ,M,Ew,hE,ht,hl⟩ =>
  ⟨ρ,M,_,hE,ht,fun ρ' M' h' σ' H' hE'=>⟨ρ',M',Ew,hE',h',hl⟩,hl.bk,hl.ct,hl.rt⟩
theorem wI(h1:NS X st t):NSs X [st] t:=fun P n=>cT (gL (h1 P n)) fun De σ H h=>h
theorem wJ(hc:NT X c ka)(ha:NSs X body t)(hb:NSs X bs u):NS X (.If c body bs pos) (bd ka t u):=fun P n=>bW (lu hc (ha P n) (hb P n)) fun De σ H ⟨ρ,M,Ew,hE,ht,hl⟩=>⟨ρ,M,_,hE.q,ht,fun k M1 hk H1 p1=>by
  cases k with
  | true=>exact cy ⟨ρ,M1,Ew,hE.next p1,hk.1 rfl,hl⟩
  | false=>exact cx ⟨ρ,M1,Ew,hE.next p1,hk.2 rfl,hl⟩⟩
theorem wK(he:NE X a ta):NS X (.Return (some a) pos) (aY ta):=fun P n=>bW (lr he) fun De σ H ⟨ρ,M,Ew,hE,ht,hl⟩=>⟨ρ,M,_,hE.q,ht,fun d M1 h1 v H1 p1=>hl.rt d M1 h1 v H1 (hE.same.trans p1.same) p1.ok p1.rep⟩
theorem wL(i:Nat)(hN:X.N.Nodup)(he:NE X a ta)(hi:X.N[i]?=some x:=by rfl)(hx:Loc X.env.scope x:=by first | exact Or.inl rfl | exact Or.inr rfl)(hs:swapsWith a (some (.Name x p2)) pos.line X.env=pure false:=by rfl)(hfn:X.fn x=true\/X.env.scope.names.lookup x=some .local:=by first | exact .inl rfl | exact .inr rfl):NS X (.Assign [.Name x p2] a pos) (aM i ta):=fun P n =>
  bW (lB hN hi hx he hs hfn) fun De σ H ⟨ρ,M,Ew,hE,ht,hl⟩=>⟨ρ,M,_,hE.q,ht,fun d M1 h1 v H1 p1=>hl.nx _ M1 h1 _ H1 ((hE.next p1.toPostT).set p1.rep)⟩
theorem nO:∀ {ns:List Str} {vs:List V} {i:Nat} {f:Str},vs.length=ns.length->ns[i]?=some f->((aI ns vs).any fun kv=>decide (kv.1=(Sum.inr f:Key)))=true
  | [],_,_,_,_,h=>by simp at h
  | _::_,[],_,_,h,_=>by simp at h
  | n::ns,w::vs,0,f,_,h=>by simp at h;subst h;simp[aI]
  | n::ns,w::vs,i+1,f,hl,h=>by
    have ih:=nO (ns:=ns) (vs:=vs) (i:=i) (f:=f) (by simpa using hl) (by simpa using h)
    have e:aI (n::ns) (w::vs)=(Sum.inr n,w)::aI ns vs:=rfl
    rw[e,List.any_cons,ih,Bool.or_true]
theorem nQ:∀ {ns:List Str} {vs:List V} {f:Str} (y:V),¬ f ∈ ns->(aI ns vs).map (fun kv=>if kv.1=(Sum.inr f:Key) then (kv.1,y) else kv)=aI ns vs
  | [],_,_,_,_=>rfl
  | _::_,[],_,_,_=>rfl
  | n::ns,w::vs,f,y,h=>by
    have e:aI (n::ns) (w::vs)=(Sum.inr n,w)::aI ns vs:=rfl
    have ne:¬ ((Sum.inr n:Key)=Sum.inr f):=fun q=>h (Sum.inr.inj q ▸ List.mem_cons_self)
    rw[e,List.map_cons,if_neg ne,nQ y fun z=>h (List.mem_cons_of_mem _ z)]
theorem nR:∀ {ns:List Str} {vs:List V} {i:Nat} {f:Str} (y:V),vs.length=ns.length->ns.Nodup->ns[i]?=some f->(aI ns vs).map (fun kv=>if kv.1=(Sum.inr f:Key) then (kv.1,y) else kv)=aI ns (vs.set i y)
  | [],_,_,_,_,_,_,h=>by simp at h
  | _::_,[],_,_,_,h,_,_=>by simp at h
  | n::ns,w::vs,0,f,y,_,hn,h=>by
    simp at h;subst h
    have e:aI (n::ns) (w::vs)=(Sum.inr n,w)::aI ns vs:=rfl
    rw[e,List.map_cons,if_pos rfl,nQ y (List.nodup_cons.mp hn).1]
    rfl
  | n::ns,w::vs,i+1,f,y,hl,hn,h=>by
    have h1':ns[i]?=some f:=by simpa using h
    have e:aI (n::ns) (w::vs)=(Sum.inr n,w)::aI ns vs:=rfl
    have ne:¬ ((Sum.inr n:Key)=Sum.inr f):=fun q=>(List.nodup_cons.mp hn).1 (Sum.inr.inj q ▸ List.mem_of_getElem? h1')
    rw[e,List.map_cons,if_neg ne,nR y (by simpa using hl) (List.nodup_cons.mp hn).2 h1']
    rfl
theorem wM{vs:List V}(y:V)(hl:vs.length=ns.length)(hn:ns.Nodup)(hi:ns[i]?=some f):bb (aI ns vs) (.inr f) y=aI ns (vs.set i y):=by
  unfold bb
  rw[if_pos (nO hl hi),nR y hl hn hi]
theorem wN{j}(hr:Room k X.A)(ha:NE X a ta)(hv:NE X b tv)(hn:ns.Nodup:=by decide +kernel)(hi:ns[i]?=some f:=by rfl)(hlt:ns.length < 1000:=by decide)(hs:swapsWith b (some (.Subscript a (.Constant (.str f) j p3) p2)) pos.line X.env=pure false:=by rfl):
    NS X (.Assign [.Subscript a (.Constant (.str f) j p3) p2] b pos) (fm ns i ta tv):=fun P n =>
  bW (sB (by have:=hr.un;omega) ha dE hv hs) fun De σ H ⟨ρ,M,Ew,hE,ht,hl⟩=>⟨ρ,M,_,hE.q,ht,fun d M1 h1 v H1 p1=>⟨ρ,M1,_,hE.q.next p1.toPostT,h1,fun x M2 ⟨q,ds,ex,hm,h2⟩ vx H2 p2=>by
    subst ex
    cases p2.rep
    obtain⟨vs,g1,gl,g2⟩:=nL p2.ok hm
    have rv:=ar p2.same p1.rep
    have hz:(aI ns vs).length < sizeLine:=by
      have:(aI ns vs).length=ns.length:=by simp[aI,gl]
      rw[this,sizeLine_eq];omega
    refine⟨q,_,rfl,.inl ⟨_,.inr f,g1,rfl,hz,rfl⟩,?_⟩
    rw[wM _ gl hn hi]
    obtain⟨e1,e2⟩:=nI (o:=.dK (aI ns (vs.set i v))) (c:=.dic ns (ds.set i d)) p2.ok hm ⟨_,rfl,by rw[List.length_set];exact gl,g2.set rv i⟩
    exact hl.nx _ _ h2 σ _ ((hE.next (p1.toPostT.trans p2.toPostT)).next ⟨e1,e2⟩)⟩⟩
end
end VL
namespace VL
open PySem PySem.Spec PyProof.Rows L2
section
variable {X:Cx} {a b c e:Expr} {ta tb tc tv ti:NTE} {tas:NTA} {ka:NTB} {pos p p2 p3 ap cp pr pn:Pos} {k:Nat} {st:Stmt} {ai body bs:List Stmt} {t u tbd:NTS} {C:Addr} {ns:List Str} {x f:Str} {i:Nat}
theorem wO(ha:NE X a ta)(he:NE X e tv)(hbase:attributeBase a "append" X.env (eval a X.env)=eval a X.env:=by rfl)(hfew:((backTo cp (starEach [e] X.env)).all (fun x=>!x.1) && (backToKw cp (keywordEach [] X.env)).all (fun x=>x.1.isSome)
      && decide (([e]:List Expr).length+([]:List Keyword).length+(if ([]:List Keyword).isEmpty then 0 else 1) < 30))=true:=by rfl)(hline:(ap.endLine == cp.line)=true:=by rfl)(hs:starEach [e] X.env=(false,eval e X.env)::starEach [] X.env:=by rfl)(hplain:(backTo cp (starEach [] X.env)).any (·.1)=false:=by rfl)(hsw:swapsWith (.Call (.Attribute a "append" ap) [e] [] cp) none pos.line X.env=pure false:=by rfl):
    NS X (.Expr (.Call (.Attribute a "append" ap) [e] [] cp) pos) (io ta tv):=fun P n =>
  bW (qG (j5 PySem.F.plainAttrs_list PySem.F.slot_list_append PySem.F.type_list_append rW ha (bB he bT hs) hbase hfew hline hs hplain) hsw) fun De σ H ⟨ρ,M,Ew,hE,ht,hl⟩=>⟨ρ,M,_,hE.q,ht,fun x M1 ⟨q,ds0,ex,hm0,h1⟩ vx H1 p1=>by
    subst ex
    cases p1.rep
    obtain⟨xs0,g0,_⟩:=fq p1.ok hm0
    refine⟨.inl ⟨rfl,xs0,.inl (.inl g0)⟩,ρ,M1,_,hE.q.next p1.toPostT,h1,fun v M2 ⟨ds,hm,hz,h2⟩ vv H2 p2=>?_⟩
    obtain⟨xs,g1,g2⟩:=fq p2.ok hm
    have len:=g2.length
    refine⟨q,xs,vv,rfl,rfl,g1,Nat.lt_of_lt_of_le (show xs.length < 100000 by omega) (by decide),?_⟩
    obtain⟨e1,e2⟩:=nI (o:=.lst (xs++[vv])) (c:=.lst (ds++[v])) p2.ok hm (g2.append (.cons p2.rep .nil))
    exact hl.nx _ _ h2 σ _ ((hE.next (p1.toPostT.trans p2.toPostT)).next ⟨e1,e2⟩)⟩
theorem wP{K:PySem.W.Frag}{P P1:Hp}{n:Nat}{De:Ends}{Ew:EndN}{N:St->Hp->Prop}{body:D->NTS}{r:List D}(hs:Same P P1)(hl:LeE Ew (dj K P n De))(hN:∀ ρ M σ H,EnvN K P1 n σ ρ H M->cD body r Ew ρ M->N σ H):
    LeE { Ew with nx:=fun ρ M=>cD body r Ew ρ M,ct:=fun ρ M=>cD body r Ew ρ M,bk:=Ew.nx } (dj K P1 n { De with nx:=N,ct:=N,bk:=De.nx }) where
  nx:=fun ρ M h σ H hE=>hN ρ M σ H hE h
  ct:=fun ρ M h σ H hE=>hN ρ M σ H hE h
  bk:=fun ρ M h σ H hE=>hl.nx ρ M h σ H ⟨hE.q,hs.trans hE.same,hE.lσ,hE.lρ⟩
  rt:=fun d M h v H h1 h2 h3=>hl.rt d M h v H (hs.trans h1) h2 h3
theorem wQ(t:Nat)(hN:X.N.Nodup)(hc:X.calm=true)(hi:NE X a ta)(hb:NSs X body tbd)(hp:PassesOwn (model X.prog X.w) X.A X.env X.xe:=by exact PassesOwn.never)(hxN:X.N[t]?=some x:=by rfl)(hx:Loc X.env.scope x:=by first | exact Or.inl rfl | exact Or.inr rfl)(hfn:X.fn x=true\/X.env.scope.names.lookup x=some .local:=by first | exact .inl rfl | exact .inr rfl)(hs:∀ x,foldedSetIterable a X.env x=pure x:=by intro _;rfl):NS X (.For (.Name x p2) a body [] pos) (ip t ta tbd):=fun P n=>by
  have hb':PSs X body (fun De σ H=>∃ P1,twS X.K P1 n tbd De σ H):=fun pins s σ H De I ⟨P1,h⟩=>hb P1 n pins s σ H De I h
  refine bW (iU hp hc (iT hi) (cO hN hxN hx hfn) hb' hs) fun De σ H ⟨ρ,M,Ew,hE,ht,hl⟩=>⟨ρ,M,_,hE.q,ht,fun d M1 ⟨ds,hds,h1⟩ v H1 p1=>?_⟩
  have hE1:=hE.next p1.toPostT
  have hsd:=jM hds
  obtain⟨q,xs,rfl,hq,hx',hA⟩:=jj p1.rep hsd.2 hsd.1
  have len:=hx'.length
  refine⟨q,rfl,⟨xs,(aF _ _).seq hq⟩,?_⟩
  refine iV (K:=X.K) (a:=q) (xs:=xs) (g:=bD t) (tb:=fun De σ H=>∃ P1,twS X.K P1 n tbd De σ H) (D:=De) (fun i σ' H'=>∃ ρ' M',EnvN X.K (PH H1 M1) n σ' ρ' H' M'/\cD (fun x E ρ M=>tbd E (ρ.set t (some x)) M) (ds.drop i) Ew ρ' M')
    ⟨ρ,M1,⟨hE1.q,Same.refl _,hE1.lσ,hE1.lρ⟩,by simpa using h1⟩ ?_ ?_ ?_
  · rintro i σ' H' _ ⟨ρ',M',hE',_⟩
    exact (aF _ _).seq (hE'.same.seq hq)
  · rintro i y σ' H' hy ⟨ρ',M',hE',hf'⟩
    obtain⟨dy,h4,h5⟩:=hx'.getV hy
    have hi':i < ds.length:=(List.getElem?_eq_some_iff.mp h4).1
    have ed:ds.drop i=dy::ds.drop (i+1):=by
      rw[List.drop_eq_getElem_cons hi']
      have e2:ds[i]=dy:=(List.getElem?_eq_some_iff.mp h4).2
      rw[e2]
    rw[ed] at hf'
    exact⟨PH H1 M1,_,M',_,hE'.set (ar hE'.same h5),hf',wP hE1.same hl fun ρ M σ H hE h=>⟨ρ,M,hE,h⟩⟩
  · rintro σ' H' ⟨ρ',M',hE',hf'⟩
    rw[len,List.drop_length] at hf'
    exact hl.nx _ _ hf' σ' H' ⟨hE'.q,hE1.same.trans hE'.same,hE'.lσ,hE'.lρ⟩
end
theorem wR{P:Program}{w:World}{K:PySem.W.Frag}{mg:Str->Option Value}{base:Heap}{x qual:Str}{st:Stmt}{f:Addr}{fd:FuncData}{N ps:List Str}{k np n:Nat}{body:NTS}{T:NTF}(h1:ps.length=np)(h2:N.length=n)(h3:T=mkN np n body)(Fn:Fun K x qual st f fd)(S:FnScope N ps (ak st))(h:∀ (cdv:Value) (A:Around) (outer:List PySem.Env) (s:Shared) (H:Hp) (E:XK),Room k (A.deeper (envOfC qual (ak st) s.heap.objs.size f cdv)) ->
      NSs (bu CX0 P w K mg base N qual (ak st) f cdv A outer s H E).nox (aU st) body):
    FnOk P w K mg base CX0 (k+1) f fd ps (spN K T):=by
  subst h1 h2 h3
  have hpl:ps.length<=N.length:=by have:=congrArg List.length S.pre;rw[List.length_take] at this;omega
  refine Fn.ok S (fun vs H Q E h=>?_) (fun cdv A outer s H vs Q E hr h'=>?_)
  · obtain⟨ds,M,QW,r,_,hg,_⟩:=h
    rw[r.length,hg.1]
  · obtain⟨ds,M,QW,r,hok,⟨hl,ht⟩,hQ⟩:=h'
    have lv:=r.length
    refine⟨_,h cdv A outer s H E hr (PH H M) N.length,ds.map some++List.replicate (N.length - ps.length) none,M,_,⟨⟨fun i d q=>?_,hok⟩,Same.refl _,?_,?_⟩,ht,fun ρ M' hn σ' H' hE=>?_,fun ρ M' hn=>hn.elim,fun ρ M' hn=>hn.elim,fun d M' hd v H' e1 e2 e3=>?_⟩
    · have get:ds[i]?=some d:=by
        by_cases hi:i < ds.length
        · rw[List.getElem?_append_left (by simpa using hi),List.getElem?_map] at q
          cases e:ds[i]? with
          | none=>rw[e] at q;cases q
          | some z=>rw[e] at q;simpa using q
        · rw[List.getElem?_append_right (by simpa using hi),List.getElem?_replicate] at q
          split at q <;> cases q
      obtain⟨v,h2,h3⟩:=r.get get
      refine⟨v,?_,h3⟩
      unfold L2.start
      have hi:i < vs.length:=(List.getElem?_eq_some_iff.mp h2).1
      rw[List.getElem?_append_left (by simpa using hi),List.getElem?_map,h2]
      rfl
    · show (L2.start N vs).length=N.length
      unfold L2.start
      rw[List.length_append,List.length_map,List.length_replicate]
      omega
    · rw[List.length_append,List.length_map,List.length_replicate]
      omega
    · exact hQ _ M' hn _ H' ⟨⟨hE.same,hE.q.ok⟩,.non⟩
    · exact hQ d M' hd v H' ⟨⟨e1,e2⟩,e3⟩
theorem wS{K:PySem.W.Frag}{T:NTF}{H:Hp}{a:Addr}{ns:List Int}{E:XK}(hS:SqL K H a (ns.map V.int))(h:T [.scr ns] (fun _=>none) fun d _=>d=.bl true):spN K T [.ref a] H (fun v _=>v=.bl true) E:=by
  have e:Same H (PH H fun _=>none):=mw (fun _ _ q=>q) fun b hb=>absurd rfl hb.1
  have ok:MOk K H (fun _=>none):=fun a c hc=>by cases hc
  refine⟨[.scr ns],fun _=>none,_,.cons (.scr (e.seq hS)) .nil,ok,h,fun d M' hd v H' p=>?_⟩
  subst hd
  cases p.rep
  rfl
def PPV(X:Cx)(pos:Pos)(keys:List (Option Expr))(vals:List Expr)(ns:List Str)(as:FEs)(es:List Es):Prop :=
  ∃ trs,PPs X pos keys vals trs/\keys.length=ns.length/\∀ σ H Q,(∃ ρ ds,EnvR X.K H σ ρ/\as ρ=some ds/\∀ vs H',Posts X.K σ ρ H es ds vs H'->Q ((ns.zip vs).map fun p=>(V.str p.1,p.2)) H')->gY trs σ H Q
section
variable {X:Cx} {a:Expr} {pos p2:Pos} {keys:List (Option Expr)} {vals:List Expr} {ns:List Str} {as:FEs} {ea eb:List Es} {fa:FE} {x:Str}
theorem wT:PPV X pos [] [] [] aB []:=⟨[],sD,rfl,fun σ H Q ⟨ρ,ds,hE,hf,hQ⟩=>by cases hf;exact hQ [] H ⟨Same.refl H,.nil,fun _ _ _=>.nil⟩⟩
theorem wU{j}(ha:VE X a fa ea)(hr:PPV X pos keys vals ns as eb):PPV X pos (some (.Constant (.str x) j p2)::keys) (a::vals) (x::ns) (aj fa as) (ea++eb):=by
  obtain⟨trs,h1,hl,h2⟩:=hr
  refine⟨_,sE dE ha h1,by simp[hl],fun σ H Q ⟨ρ,ds,hE,hf,hQ⟩=>?_⟩
  obtain⟨d,h3,hf⟩:=bind_some hf
  obtain⟨dr,h4,hf⟩:=bind_some hf
  cases hf
  refine⟨ρ,d,hE,h3,fun v H1 p1=>h2 σ H1 _ ⟨ρ,dr,hE.mono p1.same,h4,fun vs H2 p2=>hQ (v::vs) H2 ⟨p1.same.trans p2.same,.cons (ar p2.same p1.rep) p2.rep,fun A hA hz=>?_⟩⟩⟩
  exact .cons (ar (bw p2.same) (p1.av A hA fun z q=>hz z (List.mem_append_left _ q))) (p2.av A (hA.mono p1.same) fun z q=>(hz z (List.mem_append_right _ q)).mono p1.same)
theorem nS:∀ {ns:List Str} {vs:List V} {acc:List (Key × V)},vs.length=ns.length->ns.Nodup->(∀ x ∈ ns,bn acc (.inr x)=none)->cP acc (aI ns vs)=acc++aI ns vs
  | [],_,acc,_,_,_=>by simp[aI,cP]
  | _::_,[],_,h,_,_=>by simp at h
  | n :: ns,v::vs,acc,hl,hn,ha=>by
    have e:aI (n::ns) (v::vs)=(Sum.inr n,v)::aI ns vs:=rfl
    rw[e]
    show cP (bb acc (.inr n) v) (aI ns vs)=_
    rw[so v (ha n List.mem_cons_self),nS (by simpa using hl) (List.nodup_cons.mp hn).2 fun x hx=>?_,List.append_assoc]
    · rfl
    · have ne:n ≠ x:=fun q=>(List.nodup_cons.mp hn).1 (q ▸ hx)
      have h0:=ha x (List.mem_cons_of_mem _ hx)
      unfold bn at h0 ⊢
      rw[List.find?_append]
      cases hf:List.find? (fun kv=>decide (kv.1=(Sum.inr x:Key))) acc with
      | some z=>rw[hf] at h0;cases h0
      | none=>simp[ne]
theorem wV(h:PPV X pos keys vals ns as ea)(hn:ns.Nodup:=by decide +kernel)(hall:keys.all (·.isSome)=true:=by rfl)(hl:keys.length=vals.length:=by rfl)(h0:keys ≠ []:=by simp)(h15:keys.length<=15:=by decide):NE X (.Dict keys vals pos) (gf ns as):=by
  obtain⟨trs,h1,hk,h2⟩:=h
  refine aE (sG h1 hall hl h0 h15) fun σ H Q ⟨ρ,M,QW,hE,⟨ds,hf,hlen,hq⟩,hQ⟩ p hp=>h2 σ _ _ ⟨ρ,ds,hE.envR.mono (bC hp _),hf,fun vs H2 p2=>?_⟩
  have lv:=p2.rep.length
  have hpp:=p2.same _ _ ba
  refine⟨hpp,aI ns vs,by simp[aI,kV,Function.comp_def],by simp[aI];omega,?_⟩
  have em:cP [] (aI ns vs)=aI ns vs:=by rw[nS (by omega) hn fun x hx=>sk];rfl
  rw[em]
  have s0:Same H (upd H2 p (.dK (aI ns vs))):=fun b u q=>by
    rw[au (bt q hp)]
    exact p2.same _ _ (bC hp _ _ _ q)
  have hd:Dom (upd H p (.dK [])) (fun b=>inM M b\/b=p):=fun b hb=>by
    rcases hb with hb | rfl
    · exact fun z=>hE.ok.dom b hb ((bC hp _).free z)
    · rw[ba];exact fun z=>nomatch z
  have hav:∀ e ∈ ea,Av X.K (upd H p (.dK [])) σ ρ (fun b=>inM M b\/b=p) e:=fun e _=>by
    have up:Same (PH H M) (ah (upd H p (.dK [])) fun b=>inM M b\/b=p):=wB hp
    have full:∀ (j:Nat) (v:V) (d:D),σ[j]?=some (some v)->ρ[j]?=some (some d)->Rep X.K (ah (upd H p (.dK [])) fun b=>inM M b\/b=p) v d:=fun j v d h1 h2=>by
      obtain⟨v',h3,h4⟩:=hE.env j d h2
      rw[h1] at h3;cases h3
      exact ar up h4
    cases e with
    | full j=>exact full j
    | el j=>exact fun v d h1 h2=>(full j v d h1 h2).el
  have rr:=p2.av _ hd hav
  have up2:Same (ah H2 fun b=>inM M b\/b=p) (ah (upd H2 p (.dK (aI ns vs))) fun b=>inM M b\/b=p):=fun b u q=>by
    obtain⟨n,q⟩:=bV q
    rw[b7 n,au fun z=>n (.inr z)]
    exact q
  obtain⟨e1,e2⟩:=jV (c:=.dic ns ds) hE.ok hp s0 ba ⟨vs,rfl,by omega,aK up2 rr⟩
  exact hQ _ _ (hq p (hE.ok.fresh hp)) _ _ ⟨⟨e1,e2⟩,.ptr p⟩
end
end VL
namespace VL
open PySem PySem.Spec PyProof.Rows L2
section
variable {X:Cx} {elt tg iter a:Expr} {ifs:List Expr} {scope:Scope} {own cn:List Str} {caps:List Nat} {wi:TI} {g:TG} {tt:TT} {te:TE} {pos spos p2 pr pn:Pos} {tas:NTA} {tel:NTE} {x y:Str}
theorem wW(B:BlkOk X scope own caps cn)(hc:X.calm=true)(hi:PI X tg iter wi)(hg:∀ s H cl ex,PG (blk X (own++cn) s H scope cl ex) tg g)(ht:∀ s H cl ex,PTs (blk X (own++cn) s H scope cl ex) ifs tt)(he:∀ s H cl ex,PE (blk X (own++cn) s H scope cl ex) elt te)(hs:∀ x,foldedSetIterable iter X.env x=pure x:=by intro _;rfl):
    PE X (.ListComp elt [⟨tg,iter,ifs,0⟩] scope pos) (eR own.length caps wi g tt te):=by
  intro pins s σ H Q I h
  obtain⟨cl,hclos,hcl,hha⟩:=jp (scope:=scope) (env:=X.env) fun x hx hf=>I.ok.has x.1 (B.free x hx hf)
  rw[eval_ListComp]
  refine wpAny_comprehension_free (use:=none) rfl hs hclos B.kind B.locals (js B hc hi hg ht he I h hcl hha (RR:=fun acc C=>compPost (model X.prog X.w) X.A X.xe none (EP X pins σ Q) acc C) fun d c ys H' s' af q=>?_)
  obtain⟨m,hm⟩:=af.ns
  obtain⟨f0,f1,_,f3,f4,f5⟩:=af.cf
  refine⟨m,hm,fun h' sb=>⟨.ref d,_,af.inv.turned (t':=s'.toks) (it:=c) (fun b o hb e=>(sb.2 b hb).trans e) f0 f1 f3 f4 f5,rfl,q⟩⟩
theorem wX(i:Nat)(hN:X.N.Nodup)(B:BlkOk X scope own caps cn)(hc:X.calm=true)(hi:PI X tg iter wi)(hg:∀ s H cl ex,PG (blk X (own++cn) s H scope cl ex) tg g)(ht:∀ s H cl ex,PTs (blk X (own++cn) s H scope cl ex) ifs tt)(he:∀ s H cl ex,PE (blk X (own++cn) s H scope cl ex) elt te)(hsw:swapsWith (.ListComp elt [⟨tg,iter,ifs,0⟩] scope pos) (some (.Name x p2)) spos.line X.env=pure true)(hxi:X.N[i]?=some x)(hx:Loc X.env.scope x)(hfn:X.fn x=true\/X.env.scope.names.lookup x=some .local)(hs:∀ x,foldedSetIterable iter X.env x=pure x:=by intro _;rfl):
    PS X (.Assign [.Name x p2] (.ListComp elt [⟨tg,iter,ifs,0⟩] scope pos) spos) (lA (eR own.length caps wi g tt te) (bD i)):=by
  intro pins s σ H De I h
  obtain⟨cl,hclos,hcl,hha⟩:=jp (scope:=scope) (env:=X.env) fun x hx hf=>I.ok.has x.1 (B.free x hx hf)
  rw[exec_Assign_Name_used _ _ _ _ hsw]
  refine wpAny_bind (wpAny_standAt (wpAny_bind ?_))
  show wpAny _ X.A (do let _ <- comprehension (.ListComp elt [⟨tg,iter,ifs,0⟩] scope pos) scope X.env _ (newList []) false (eval iter X.env) (some (assign (.Name x p2) X.env))) _ _ s
  refine wpAny_bind (wpAny_mono (wpAny_comprehension_free (use:=some (assign (.Name x p2) X.env)) (Q:=fun _ s'=>SP X pins De .next s') rfl hs hclos B.kind B.locals
    (js B hc hi hg ht he I h hcl hha (RR:=fun acc C=>compPost (model X.prog X.w) X.A X.xe (some (assign (.Name x p2) X.env)) (fun _ s'=>SP X pins De .next s') acc C) fun d c ys H' s' af q=>?_)) (fun _ s' hq=>wpAny_pure (wpAny_pure hq)) fun _ _ e=>e)
  obtain⟨m,hm⟩:=af.ns
  obtain⟨f0,f1,_,f3,f4,f5⟩:=af.cf
  show wpAny _ X.A (assign (.Name x p2) X.env (.ref d)) _ _ _
  refine wpAny_assign_Name (lg af.inv hN hxi hx (show RelV (.ref d) (.ref d) from rfl) (fun s2 I2 ⟨a,sb,ha⟩=>?_) hfn)
  have ac:c ≠ a:=by
    rcases ha with z | z
    · exact fun e=>f1 (e.trans z)
    · exact fun e=>f4 x a z e.symm
  refine⟨m,hm.sameBut sb ac,fun h' sb'=>⟨_,_,I2.turned (t':=s2.toks) (it:=c) (fun b o hb e=>(sb'.2 b hb).trans e) f0 f1 f3 f4 f5,q⟩⟩
theorem nT{K:PySem.W.Frag}{P:Hp}{σ σb:St}{ρ:ae}{caps:List Nat}{v:V}{d:D}(hE:EnvR K P σ ρ)(hlen:σb.length=1+caps.length)(hcap:∀ k,1<=k->σb[k]?=(bx σ caps)[k - 1]?)(r:Rep K P v d):
    EnvR K P (σb.set 0 (some v)) ((aT 1 caps ρ).set 0 (some d)):=fun j d' q=>by
  cases j with
  | zero =>
    rw[List.getElem?_set_self (by simp[aT])] at q
    cases q
    exact⟨v,List.getElem?_set_self (by omega),r⟩
  | succ j =>
    rw[List.getElem?_set_ne (by omega)] at q
    unfold aT at q
    rw[List.getElem?_append_right (by simp)] at q
    simp only[List.length_replicate,Nat.add_sub_cancel,List.getElem?_map] at q
    cases hk:caps[j]? with
    | none=>rw[hk] at q;cases q
    | some k =>
      rw[hk] at q
      simp only[Option.map_some,Option.some.injEq] at q
      cases e:ρ[k]? with
      | none=>rw[e] at q;cases q
      | some o' =>
        rw[e] at q
        simp only[Option.getD_some] at q
        subst q
        obtain⟨w,h1,h2⟩:=hE k d' e
        refine⟨w,?_,h2⟩
        rw[List.getElem?_set_ne (by omega),hcap (j+1) (by omega)]
        simp[bx,hk,h1]
theorem wY{K:PySem.W.Frag}{caps:List Nat}{σ:St}{H:Hp}{Q:VK}(h:tw K (gg caps tas tel) σ H Q):eR 1 caps (lD (twA K tas)) (bD 0) (fun _ H Q=>Q true H) (tw K tel) σ H Q:=by
  obtain⟨ρ,M,QW,hE,ht,hQ⟩:=h
  refine⟨ρ,M,_,hE,ht,fun ds M1 ⟨j,e1,hj,hj2,h1⟩ vs H1 p1=>?_⟩
  subst e1
  obtain⟨v,rfl,r⟩:=dH p1.rep
  cases r
  refine⟨j,rfl,hj.1,hj.2,?_⟩
  have hE1:=hE.next p1.toPostT
  let L:List D:=(List.range j.toNat).map fun k=>.int (k:Nat)
  have lL:L.length=j.toNat:=by simp[L]
  refine⟨fun i m ys σb H2=>m=j.toNat - i/\i<=j.toNat/\(σb.length=1+caps.length/\∀ k,1<=k->σb[k]?=(bx σ caps)[k - 1]?) /\
    ∃ M2 done,PostT K H1 M1 H2 M2/\Reps K (PH H2 M2) ys done/\done.length=i/\cZ 1 tel (aT 1 caps ρ) (L.drop i) done M2 fun ds M2=>QW (.lst ds) M2,?_,?_⟩
  · refine⟨j.toNat,by simp,Nat.zero_le _,⟨by simp[bx];omega,fun k hk=>?_⟩,M1,[],PostT.refl p1.ok,.nil,rfl,by simpa using h1⟩
    rw[List.getElem?_append_right (by simpa using hk)]
    simp
  · rintro i m ys σb H2 ⟨rfl,hi,⟨hlen,hcap⟩,M2,done,pt,hr,hdl,hgo⟩
    have lys:=hr.length
    refine⟨by rw[sizeLine_eq];omega,?_⟩
    by_cases hlt:i < j.toNat
    · have ed:L.drop i=.int (i:Nat)::L.drop (i+1):=by
        rw[List.drop_eq_getElem_cons (by omega)]
        simp[L]
      rw[ed] at hgo
      refine .inr ⟨hlt,fun x H3 hy=>?_⟩
      obtain⟨e3,e4⟩:=hy
      subst e3 e4
      rw[Int.zero_add]
      unfold bD
      dsimp only
      rw[if_pos rfl]
      refine⟨_,M2,_,⟨nT (hE1.env.mono pt.same) hlen hcap (.int _),pt.ok⟩,hgo,fun d M3 h3 w H4 p4=>?_⟩
      refine⟨j.toNat - (i+1),by omega,rfl,hlt,⟨by rw[List.length_set];exact hlen,fun k hk=>by rw[List.getElem?_set_ne (by omega)];exact hcap k hk⟩,M3,done++[d],pt.trans p4.toPostT,(aK p4.same hr).append (.cons p4.rep .nil),by simp[hdl],h3⟩
    · have e:i=j.toNat:=by omega
      subst e
      rw[List.drop_eq_nil_of_le (by omega)] at hgo
      refine .inl ⟨Nat.le_refl _,fun l hl=>?_⟩
      have hn:=pt.ok.fresh hl
      refine hQ _ M2 hgo _ _ ⟨(p1.toPostT.trans pt).trans (PostT.of pt.ok (bC hl _)),.lst (.inl ?_) (aK (PH.up (bC hl _)) hr)⟩
      rw[PH.of hn];exact ba
theorem wZ(B:BlkOk X scope [y] caps cn)(hc:X.calm=true)(mr:X.mg "range" = none)(hi:NA X [a] tas)(hg:∀ s H cl ex,PG (blk X ([y]++cn) s H scope cl ex) tg (bD 0))(he:∀ s H cl ex,NE (blk X ([y]++cn) s H scope cl ex) elt tel)(hgr:Gl X "range":=by rfl)(hst:starEach [a] X.env=[(false,eval a X.env)]:=by rfl)(hs:∀ x,foldedSetIterable (.Call (.Name "range" pn) [a] [] pr) X.env x=pure x:=by intro _;rfl):
    NE X (.ListComp elt [⟨tg,.Call (.Name "range" pn) [a] [] pr,[],0⟩] scope pos) (gg caps tas tel) :=
  aE (wW B hc (qO hgr mr hi hst) hg (fun _ _ _ _=>jr) he hs) fun _ _ _ h=>wY h
end
section
variable {X:Cx} {a b:Expr} {tas:NTA} {pos p:Pos}
end
end VL
namespace VL
open PySem PySem.Spec PyProof.Rows L2
theorem nU{K:PySem.W.Frag}{H:Hp}{M:Sto}{v:V}{d:D}(h:MOk K H M)(r:Rep K (PH H M) v d):Rep K H v (vw2 M d):=by
  cases r with
  | ptr a =>
    show Rep K H (.ref a) (match M a with | some (.lst ds)=>.lst (ds.map (vw1 M)) | _=>.ptr a)
    split
    · rename_i ds hm
      obtain⟨xs,g1,g2⟩:=fq h hm
      exact .lst (.inl g1) (iz h g2)
    · exact .ptr a
  | non=>exact .non
  | bl b=>exact .bl b
  | int b=>exact .int b
  | str b=>exact .str b
  | lst h1 h2=>exact ar (aF _ _) (.lst h1 h2)
  | tup h1 h2=>exact ar (aF _ _) (.tup h1 h2)
  | scr h1=>exact ar (aF _ _) (.scr h1)
  | dct h1=>exact ar (aF _ _) (.dct h1)
theorem nV{K:PySem.W.Frag}{H:Hp}{M:Sto}(h:MOk K H M):∀ {vs:List V} {ds:List D},Reps K (PH H M) vs ds->Reps K H vs (ds.map (vw2 M))
  | [],_,r=>by cases r;exact .nil
  | _::_,_,r=>by cases r with | cons a t=>exact .cons (nU h a) (nV h t)
section
variable {X:Cx} {a b c:Expr} {ta tb tc:NTE} {tas:NTA} {pos p p2 ap cp:Pos} {k:Nat} {ps:List Str} {x m:Str} {es:List Expr} {T:NTF} {G:List D->Option D} {fr:Bool} {C:Addr} {ns:List Str} {fa:FE} {ea:List Es}
theorem xb(ml:X.mg "list" = none)(ha:NE X a ta)(hg:Gl X "list":=by rfl)(he:starEach [a] X.env=(false,eval a X.env)::starEach [] X.env:=by rfl)(hpl:(backTo pos (starEach [] X.env)).any (·.1)=false:=by rfl):
    NE X (.Call (.Name "list" p) [a] [] pos) (iq ta) :=
  aE (gQ rS hg ml (by decide +kernel) (bB ha bT he) (by decide) (by decide) he hpl) fun σ H Q ⟨ρ,M,QW,hE,ht,hQ⟩=>by
    refine⟨ρ,M,_,hE,ht,fun d M1 ⟨ds,hd,hq⟩ v H1 p1=>?_⟩
    have key:∃ q xs,v=.ref q/\SqL X.K H1 q xs/\Reps X.K (PH H1 M1) xs ds:=by
      cases d with
      | ptr b =>
        cases p1.rep
        cases hm:M1 b with
        | none=>simp[vw1,hm] at hd
        | some c =>
          cases c with
          | lst es =>
            simp only[vw1,hm] at hd
            cases hd
            obtain⟨xs,g1,g2⟩:=fq p1.ok hm
            exact⟨b,xs,rfl,SqL.of g1,g2⟩
          | dic _ _=>simp[vw1,hm] at hd
          | ins _ _ _=>simp[vw1,hm] at hd
          | dcT _ _=>simp[vw1,hm] at hd
          | dcL _ _=>simp[vw1,hm] at hd
          | exn _ _=>simp[vw1,hm] at hd
      | lst es =>
        cases hd
        obtain⟨q,xs,rfl,hq,hx,_⟩:=jj p1.rep rfl rfl
        exact⟨q,xs,rfl,(aF _ _).seq hq,hx⟩
      | _=>cases hd
    obtain⟨q,xs,rfl,hq',hx⟩:=key
    exact⟨q,xs,rfl,.inl hq',fun l hl=>by
      have hn:=p1.ok.fresh hl
      refine hQ _ M1 hq _ _ ⟨p1.toPostT.trans (PostT.of p1.ok (bC hl _)),.lst (.inl ?_) (aK (PH.up (bC hl _)) hx)⟩
      rw[PH.of hn];exact ba⟩
end
section
variable {X:Cx} {elt tg iter a:Expr} {scope:Scope} {cn:List Str} {caps:List Nat} {pos spos p2 pr pn:Pos} {tit tel:NTE} {x y:Str}
end
section
variable {X:Cx} {a b c e:Expr} {ta tb tc tv ti:NTE} {tas:NTA} {pos p p2 p3 ap cp pr pn:Pos} {st:Stmt} {ai body bs:List Stmt} {t u tbd:NTS} {x f:Str} {i:Nat}
theorem xc{K:PySem.W.Frag}{P P1:Hp}{n:Nat}{De:Ends}{Ew:EndN}{N:St->Hp->Prop}{body:D->NTS}{r all:List D}{q:Nat}(hs:Same P P1)(hl:LeE Ew (dj K P n De))(hN:∀ ρ M σ H,EnvN K P1 n σ ρ H M->ck body q all r Ew ρ M->N σ H):
    LeE { Ew with nx:=fun ρ M=>ck body q all r Ew ρ M,ct:=fun ρ M=>ck body q all r Ew ρ M,bk:=Ew.nx } (dj K P1 n { De with nx:=N,ct:=N,bk:=De.nx }) where
  nx:=fun ρ M h σ H hE=>hN ρ M σ H hE h
  ct:=fun ρ M h σ H hE=>hN ρ M σ H hE h
  bk:=fun ρ M h σ H hE=>hl.nx ρ M h σ H ⟨hE.q,hs.trans hE.same,hE.lσ,hE.lρ⟩
  rt:=fun d M h v H h1 h2 h3=>hl.rt d M h v H (hs.trans h1) h2 h3
theorem nW{body:D->NTS}{q:Nat}{all:List D}:∀ {r:List D} {E:EndN} {ρ:ae} {M:Sto},ck body q all r E ρ M->M q=some (.lst all)
  | [],_,_,_,h=>h.1
  | _::_,_,_,_,h=>h.1
end
section
variable {X:Cx} {a b c e:Expr} {ta tb tit tel:NTE} {pos p p2 p3 spos:Pos} {x y:Str} {i k:Nat} {scope:Scope} {cn:List Str} {caps:List Nat} {elt tg iter:Expr}
theorem nX{K:PySem.W.Frag}{H:Hp}{M:Sto}{v:V}{d:D}(h:MOk K H M)(r:Rep K (PH H M) v d):Rep K H v (vw3 M d):=by
  cases r with
  | @lst p xs ds h1 h2 =>
    have h3:Rep K H (.ref p) (.lst ds):=ar (aF _ _) (.lst h1 h2)
    cases h3 with
    | lst h4 h5 =>
      have e:=d7 h4 (cz (aF _ _) h1)
      subst e
      exact .lst h4 (nV h h2)
  | ptr a=>exact nU h (.ptr a)
  | non=>exact .non
  | bl b=>exact .bl b
  | int b=>exact .int b
  | str b=>exact .str b
  | tup h1 h2=>exact ar (aF _ _) (.tup h1 h2)
  | scr h1=>exact ar (aF _ _) (.scr h1)
  | dct h1=>exact ar (aF _ _) (.dct h1)
theorem nY{K:PySem.W.Frag}{r:R2}{g:D->D->Option D}(hr:OpV K r g){σ:St}{H:Hp}{Q:VK}(h:tw K (n2V g ta tb) σ H Q):tOp r (tw K ta) (tw K tb) σ H Q:=by
  obtain⟨ρ,M,QW,hE,ht,hQ⟩:=h
  refine⟨ρ,M,_,hE,ht,fun x M1 h1 vx H1 p1=>⟨ρ,M1,_,hE.next p1.toPostT,h1,fun y M2 h2 vy H2 p2=>?_⟩⟩
  obtain⟨d,hg,hs,hq⟩:=h2
  have rx:=ar p2.same p1.rep
  refine hr vx vy H2 _ _ d Q (nX p2.ok rx) (nX p2.ok p2.rep) hg fun v H' e r' av=>hQ d M2 hq v H' ⟨(p1.toPostT.trans p2.toPostT).trans (PostT.of p2.ok e),hJ hs r'⟩
end
end VL
namespace VL
open PySem PySem.Spec PyProof.Rows L2
def RawD(h:Heap)(d:Addr)(es:Array DictEntry)(ep:Nat):Prop:=∃ o,h.get? d=some o/\o.ExactDict/\o.data=.dict es ep
section
variable {prog:Program} {w:World} {A:Around} {E:Value->Shared->Prop} {s:Shared} {d it:Addr} {es:Array DictEntry} {ep i:Nat}
theorem RawD.ty(h:RawD s.heap d es ep):s.TypeIs (.ref d) "dict":=let ⟨o,h1,h2,_⟩:=h;⟨o,h1,h2.1⟩
end
section
variable {prog:Program} {w:World} {K:Type} [DecidableEq K] {knd:HeapKind prog w K} {A:Around} {E:Value->Shared->Prop} {s:Shared} {d a:Addr} {k:K} {xs:List (K × Addr × Value)} {v:Value}
end
section
variable {X:Cx} {pins:List (Addr × Obj)} {σ:St} {H:Hp} {s:Shared} {a b:Addr} {y d:V} {u r:Value} {v:V} {A:Around} {E:Value->Shared->Prop} {kvs:List (List Key × V)} {k:List Key}
end
end VL
namespace VL
open PySem PySem.Spec PyProof.Rows L2
section
variable {X:Cx} {o e f a:Expr} {apos cpos pos tp p2:Pos} {td ty tx:TE} {ta tv:NTE} {tas:NTA} {x1:Nat} {es:List Expr} {k:Nat} {ai:List Stmt} {t:NTS} {body:List Stmt} {tbd:NTS}
end
end VL
namespace VL
open PySem PySem.Spec PyProof.Rows L2
section
variable {X:Cx} {o e f a b kx:Expr} {apos cpos pos tp p2 p3:Pos} {td ty tx:TE} {ta tk tv:NTE} {fa fb:FE} {ea eb:List Es} {tas:NTA} {x1:Nat} {es:List Expr} {k:Nat} {ai:List Stmt} {t:NTS} {body:List Stmt} {tbd:NTS} {x:Str}
end
end VL
namespace VL
open PySem PySem.Spec PyProof.Rows L2
abbrev bK(x C:Addr):HO:=.ext (nH x C)
theorem eB{P:Program}{w:World}{H:Hp}{h:Heap}{a:Addr}{o:HO}(x:L2.ObjOk P w H h a o):∃ ob,h.get? a=some ob:=by
  cases o with
  | lst xs=>obtain⟨_,_,_,_,e⟩:=x;exact⟨_,e⟩
  | tup xs=>obtain⟨_,_,_,o,e,_⟩:=x;exact⟨_,e⟩
  | dK kvs=>obtain⟨_,_,_,_,o,_,_,e,_⟩:=x;exact⟨_,e⟩
  | dT kvs=>obtain⟨_,_,_,_,o,_,_,e,_⟩:=x;exact⟨_,e⟩
  | set S n=>obtain⟨o,_,_,_,e,_⟩:=x;exact⟨_,e⟩
  | ins C dx fs=>obtain⟨_,_,_,e,_⟩:=x;exact⟨_,e⟩
  | own y=>exact x
  | xd fs=>obtain⟨_,⟨_,_,_,e,_⟩,_⟩:=x;exact⟨_,e⟩
  | rng lo hi=>obtain⟨_,_,_,e⟩:=x;exact⟨_,e⟩
  | frz ob u=>exact⟨_,x.1⟩
  | tbl ps=>exact⟨_,x⟩
  | met f y=>exact⟨_,x⟩
  | ext φ=>exact x.2.1
theorem jW{P:Program}{w:World}{H:Hp}{h:Heap}{x C:Addr}(e:∃ o,h.get? x=some o/\o.cls=.ref C):L2.ObjOk P w H h x (bK x C) :=
  ⟨e,let ⟨o,h1,_⟩:=e;⟨o,h1⟩,fun h1 h2 ⟨o,a,b⟩ k=>⟨o,k o a,b⟩⟩
def CXN(P:Program)(w:World):CXT:=fun outer H s E e s'=>∃ (x C:Addr) (H':Hp) (B:Heap) (a0:Value),e=.ref x/\s'.os=s.os/\AllBare s'.gens/\Un (frs outer) [] H H' s.heap s'.heap/\HOk P w H' s'.heap /\
  Heap.FlyingW B outer x (.ref C) a0 s'.heap/\(∀ b u,H' b=some u->b ≠ x->B.get? b ≠ none)/\(∀ b o,s.heap.get? b=some o->b ∉ frs outer->B.get? b ≠ none)/\H' x=some (bK x C)/\E (.ref x) (some C) H'
section
variable {X:Cx} {pins:List (Addr × Obj)} {σ:St} {H:Hp} {s:Shared} {x C:Addr}
theorem xf{vs:List Value}{h':Heap}(I:L2.Inv X pins σ H s)(m:Heap.MadeExcOf s.heap h' x (.ref C) vs):L2.Inv X pins σ (upd H x (bK x C)) { s with heap:=h' }:=by
  have hn:H x=none:=by
    cases e:H x with
    | none=>rfl
    | some u=>obtain⟨o,q⟩:=eB (I.hok x u e);rw[m.new] at q;cases q
  obtain⟨t,k1,_,_⟩:=m.there
  refine I.un (t':=s.toks) ⟨fun b u q _ _ _=>m.keeps b u q,fun b u q _ _ _=>⟨u.slots,m.keeps b u q⟩,fun b u q n _=>?_,fun b u q _=>⟨u,m.keeps b u q⟩,fun b xs q=>?_,fun b u xs q=>?_,fun b ps q=>⟨#[],?_⟩⟩ fun b u e=>?_
  · rw[au fun z=>by rw[z,m.new] at q;cases q];exact n
  · rw[au (bt q hn)];exact q
  · rw[au (bt q hn)];exact q
  · rw[au (bt q hn),q];simp
  · by_cases hb:b=x
    · subst hb
      rw[ba] at e;cases e
      exact jW ⟨_,k1,rfl⟩
    · rw[au hb] at e
      exact (I.hok b u e).stay (fun c v _ q=>m.keeps c v q) (fun c q=>by rw[au (bt q hn)];exact q) fun c xs q=>by rw[au (bt q hn)];exact q
theorem nZ{B h':Heap}{a0:Value}{E:XK}(I:L2.Inv X pins σ H s)(hx:H x=some (bK x C))(hfl:Heap.FlyingW B X.outer x (.ref C) a0 h')(hup:s.heap.UpToSlots h')(hst:B.StaysIn s.heap)(c1:∀ b u,H b=some u->b ≠ x->B.get? b ≠ none)(c2:∀ b o,X.s₀.heap.get? b=some o->b ∉ frs X.outer->B.get? b ≠ none)(hex:X.ex=[])(hE:E (.ref x) (some C) H):CXN X.prog X.w X.outer X.H₀ X.s₀ E (.ref x) { s with heap:=h' }:=by
  have same:∀ {b:Addr} {o:Obj},B.get? b ≠ none->s.heap.get? b=some o->h'.get? b=some o:=fun {b o} n e=>by
    cases q:B.get? b with
    | none=>exact absurd q n
    | some o' =>
      have h1:=hst b o' q
      have h2:=hfl.1 b o' q
      rw[e] at h1;cases h1
      exact h2
  have nx:∀ b:Addr,b ∉ X.ex:=fun b z=>by rw[hex] at z;cases z
  have fr:∀ b o,s.heap.get? b=some o->b ∈ frs X.outer->∃ sl,h'.get? b=some { o with slots:=sl }:=fun b o e hb=>by
    have hb':b ∈ frs X.stack\/True:=.inr trivial
    obtain⟨_,o0,ho0,hd0⟩:=I.ok.funs.mem hb
    obtain⟨sl,q⟩:=I.base.slot b o0 ho0 (I.ok.frf b hb) hb (nx b)
    rw[e] at q;cases q
    exact hup b _ e hd0
  refine⟨x,C,H,B,a0,rfl,I.os,I.bare,⟨fun b o e n hb _=>?_,fun b o e n hb _=>?_,fun b o e n _=>I.base.free b o e n (nx b),fun b o e _=>?_,I.base.tups,I.base.frzs,I.base.tbls⟩,fun b u e=>?_,hfl,c1,c2,hx,hE⟩
  · exact same (c2 b o e hb) (I.base.keep b o e n hb (nx b))
  · obtain⟨sl,q⟩:=I.base.slot b o e n hb (nx b)
    obtain⟨sl2,q2⟩:=fr b _ q hb
    exact⟨sl2,q2⟩
  · obtain⟨o',q⟩:=I.base.there b o e (nx b)
    by_cases hb:b ∈ frs X.outer
    · obtain⟨sl,q2⟩:=fr b o' q hb
      exact⟨_,q2⟩
    · exact⟨o',same (c2 b o e hb) q⟩
  · by_cases hb:b=x
    · subst hb
      rw[hx] at e;cases e
      exact jW hfl.there
    · refine (I.hok b u e).stay (fun c v hc q=>?_) (fun _ q=>q) fun _ _ q=>q
      have:H c ≠ none/\c ≠ x:=by
        rcases hc with rfl | hc
        · exact⟨by rw[e];exact (fun z=>nomatch z),hb⟩
        · exact⟨by rw[hc];exact (fun z=>nomatch z),fun z=>by rw[z,hx] at hc;cases hc⟩
      cases hq:H c with
      | none=>exact absurd hq this.1
      | some u'=>exact same (c1 c u' hq this.2) q
theorem xg{h':Heap}{vs:List Value}{E:XK}{Er:Value->Shared->Prop}(I:L2.Inv X pins σ H s)(m:Heap.MadeExcOf s.heap h' x (.ref C) vs)(hst:X.stack=X.env::X.outer)(hfr:X.env.frame=some X.env.locals)(hex:X.ex=[])(hE:E (.ref x) (some C) (upd H x (bK x C))):wpAny (model X.prog X.w) X.A (leaving X.env (.ref x)) (fun _ s''=>CXN X.prog X.w X.outer X.H₀ X.s₀ E (.ref x) s'') Er { s with heap:=h' }:=by
  have I2:=xf I m
  have hl:s.heap.FunFrames X.base (X.env::X.outer):=by have:=I.stack;rw[hst] at this;exact this
  have hin:∀ env ∈ (X.env::X.outer),∀ b,env.frame=some b->b ∈ frs X.stack:=fun env he b hb=>by rw[hst];exact List.mem_filterMap.mpr ⟨env,he,hb⟩
  refine PySem.wpAny_leaves_madeW (base:=PySem.W.hideAll s.heap (frs X.stack)) (by rw[<- hst];exact I.ok.frames) hfr (fun b o q=>PySem.W.of_hideAll _ q) (PySem.W.funFrames_hide hl hin) m fun h'' t x1 _ _ x4=>?_
  have hn:H x=none:=by
    cases e:H x with
    | none=>rfl
    | some u=>obtain⟨o,q⟩:=eB (I.hok x u e);rw[m.new] at q;cases q
  have inB:∀ b o,s.heap.get? b=some o->b ∉ frs X.stack->(PySem.W.hideAll s.heap (frs X.stack)).get? b ≠ none:=fun b o e hb z=>by
    rw[PySem.W.hideAll_get _ e hb] at z;cases z
  refine nZ I2 ba x1 x4 (fun b o q=>m.keeps b o (PySem.W.of_hideAll _ q)) (fun b u e hb=>?_) (fun b o e hb=>?_) hex hE
  · rw[au hb] at e
    obtain⟨ob,q⟩:=eB (I.hok b u e)
    exact inB b ob q fun z=>by rw[I.stkFree b z] at e;cases e
  · obtain⟨o',q⟩:=I.base.there b o e (by rw[hex];exact fun z=>nomatch z)
    refine inB b o' q fun z=>?_
    rcases List.mem_cons.mp (I.stkSub b z) with e1 | e1
    · have:=I.ok.above
      rw[<- e1] at this
      exact absurd (Nat.lt_of_lt_of_le (Heap.lt_size e) this) (Nat.lt_irrefl _)
    · exact hb e1
theorem xh{s2:Shared}{E E1:XK}{e:Value}{Er:Value->Shared->Prop}(I:L2.Inv X pins σ H s)(hcx:CXN X.prog X.w X.stack H s E1 e s2)(hst:X.stack=X.env::X.outer)(hfr:X.env.frame=some X.env.locals)(hex:X.ex=[])(hE:∀ x C H2,H2 x=some (bK x C)->HOk X.prog X.w H2 s2.heap->E1 (.ref x) (some C) H2->E (.ref x) (some C) H2):wpAny (model X.prog X.w) X.A (leaving X.env e) (fun _ s''=>CXN X.prog X.w X.outer X.H₀ X.s₀ E e s'') Er s2:=by
  obtain⟨x,C,H2,B,a0,rfl,os,bare,un,hok,hfl,c1,c2,hx,hE1⟩:=hcx
  obtain⟨hh,g,d,t,os'⟩:=s2
  obtain rfl:os'=s.os:=os
  have I2:L2.Inv X pins σ H2 { s with heap:=hh,gens:=g,drawn:=d,toks:=t }:=I.call (h':=hh) (g':=g) (d':=d) (t':=t) (ch:=[]) un hok bare (fun b z=>absurd z (by simp))
  have hfl':Heap.FlyingW B (X.env::X.outer) x (.ref C) a0 hh:=by rw[<- hst];exact hfl
  refine PySem.wpAny_leaves_onW (by rw[<- hst];exact I.ok.frames) hfr hfl' fun h' x1 x2=>?_
  refine nZ (s:={ s with heap:=hh,gens:=g,drawn:=d,toks:=t }) I2 hx x1 x2 hfl'.1 c1 (fun b o e hb=>?_) hex (hE x C H2 hx hok hE1)
  obtain⟨o',q⟩:=I.base.there b o e (by rw[hex];exact fun z=>nomatch z)
  refine c2 b o' q fun z=>?_
  rcases List.mem_cons.mp (I.stkSub b z) with e1 | e1
  · have:=I.ok.above
    rw[<- e1] at this
    exact absurd (Nat.lt_of_lt_of_le (Heap.lt_size e) this) (Nat.lt_irrefl _)
  · exact hb e1
end
end VL
namespace VL
open PySem PySem.Spec PyProof.Rows L2
def bmV:List Value:=[.type "ValueError",.type "Exception",.type "BaseException",.type "object"]
def gj(K:PySem.W.Frag)(x:Str):Option Addr:=match PySem.W.nsIn K mainGlobals x with
  | some (some (.ref C))=>some C
  | _=>none
def jX(K:PySem.W.Frag)(C:Addr):Bool:=PySem.W.excIn K C bmV "ValueError.__new__" && PySem.W.findIn K (.ref C) "__class__" == some (some (.builtin "object.__class__")) &&
  PySem.W.findIn K (.ref C) "__getattribute__" == some (some (.builtin "BaseException.__getattribute__")) && PySem.W.findIn K (.ref C) "__getattr__" == some none && PySem.W.mroIn K C (.type "BaseException") == some true &&
  PySem.W.mroIn K C (.type "object") == some true && PySem.W.mroIn K C (.type "ValueError") == some true && PySem.W.isClsIn K C && PySem.W.typeIn K (.ref C) == some (.type "type") && PySem.W.keepIn K (.ref C)
def bp(K:PySem.W.Frag):Bool:=match gj K "FareError" with
  | none=>false
  | some B=>PySem.W.isClsIn K B && PySem.W.typeIn K (.ref B) == some (.type "type") && PySem.W.instIn K (.ref B) (.type "tuple") == some false && PySem.W.mroIn K B (.type "BaseException") == some true && XS.all fun x=>match gj K x with
    | none=>false
    | some C=>jX K C && PySem.W.mroIn K C (.ref B) == some true && XS.all fun y=>match gj K y with
      | none=>false
      | some D=>PySem.W.mroIn K C (.ref D) == some (decide (x=y)) && (x == y || !(D == C))
theorem jY{K:PySem.W.Frag}{x:Str}{C:Addr}(h:gj K x=some C):PySem.W.nsIn K mainGlobals x=some (some (.ref C)):=by
  unfold gj at h
  split at h
  · rename_i e;cases h;exact e
  · cases h
structure XOne (K:PySem.W.Frag) (C:Addr):Prop where
  exc:PySem.W.excIn K C bmV "ValueError.__new__" = true
  cls:PySem.W.findIn K (.ref C) "__class__" = some (some (.builtin "object.__class__"))
  ga:PySem.W.findIn K (.ref C) "__getattribute__" = some (some (.builtin "BaseException.__getattribute__"))
  hk:PySem.W.findIn K (.ref C) "__getattr__" = some none
  be:PySem.W.mroIn K C (.type "BaseException")=some true
  ob:PySem.W.mroIn K C (.type "object")=some true
  ve:PySem.W.mroIn K C (.type "ValueError")=some true
  is:PySem.W.isClsIn K C=true
  ty:PySem.W.typeIn K (.ref C)=some (.type "type")
  kp:PySem.W.keepIn K (.ref C)=true
theorem xi{K:PySem.W.Frag}{C:Addr}(h:jX K C=true):XOne K C:=by
  unfold jX at h
  simp only[Bool.and_eq_true,beq_iff_eq] at h
  obtain⟨⟨⟨⟨⟨⟨⟨⟨⟨h1,h2⟩,h3⟩,h4⟩,h5⟩,h6⟩,h7⟩,h8⟩,h9⟩,h10⟩:=h
  exact⟨h1,h2,h3,h4,h5,h6,h7,h8,h9,h10⟩
structure XBase (K:PySem.W.Frag) (B:Addr):Prop where
  ns:PySem.W.nsIn K mainGlobals "FareError" = some (some (.ref B))
  is:PySem.W.isClsIn K B=true
  ty:PySem.W.typeIn K (.ref B)=some (.type "type")
  nt:PySem.W.instIn K (.ref B) (.type "tuple")=some false
  be:PySem.W.mroIn K B (.type "BaseException")=some true
theorem ft{K:PySem.W.Frag}(h:bp K=true):∃ B,XBase K B/\∀ x ∈ XS,∃ C,PySem.W.nsIn K mainGlobals x=some (some (.ref C))/\XOne K C/\PySem.W.mroIn K C (.ref B)=some true /\
    ∀ y ∈ XS,∃ D,PySem.W.nsIn K mainGlobals y=some (some (.ref D))/\PySem.W.mroIn K C (.ref D)=some (decide (x=y))/\(x ≠ y->D ≠ C):=by
  unfold bp at h
  split at h
  · cases h
  · rename_i B hB
    simp only[Bool.and_eq_true,beq_iff_eq] at h
    obtain⟨⟨⟨⟨h1,h2⟩,h3⟩,h4⟩,h5⟩:=h
    refine⟨B,⟨jY hB,h1,h2,h3,h4⟩,fun x hx=>?_⟩
    have h6:=List.all_eq_true.mp h5 x hx
    split at h6
    · cases h6
    · rename_i C hC
      simp only[Bool.and_eq_true,beq_iff_eq] at h6
      obtain⟨⟨a1,a2⟩,a3⟩:=h6
      refine⟨C,jY hC,xi a1,a2,fun y hy=>?_⟩
      have h7:=List.all_eq_true.mp a3 y hy
      split at h7
      · cases h7
      · rename_i D hD
        simp only[Bool.and_eq_true,beq_iff_eq] at h7
        refine⟨D,jY hD,h7.1,fun ne e=>?_⟩
        rcases Bool.or_eq_true_iff.mp h7.2 with z | z
        · exact ne (beq_iff_eq.mp z)
        · rw[e] at z;simp at z
section
variable {prog:Program} {w:World} {A:Around} {E:Value->Shared->Prop} {s:Shared} {K:PySem.W.Frag} {x C D:Addr} {c:Value} {h:Heap} {g:Array GenState} {d:Drawn} {t:Nat} {os:OsState} {o:Obj}
theorem xj{R:Result->Shared->Prop}(X:K.In h)(O:XOne K C)(hx:h.get? x=some o)(hc:o.cls=.ref C)(hq:R (.ok (.ret (.ref C))) ⟨h,g,d,t,os⟩):
    codeAny (model prog w) A (.call (.builtin "getset_descriptor.__get__") ⟨[.builtin "object.__class__",.ref x,.ref C],[]⟩) R ⟨h,g,d,t,os⟩:=by
  have hT5:(⟨h,g,d,t,os⟩:Shared).TypeIs (.builtin "object.__class__") "getset_descriptor":=F.typeOf_object_class
  have L1:PySem.W.Looks (model prog w) h (isSubtype (.ref C) (.type (".".intercalate ("object.__class__".cutAt '.').dropLast))) true:=by
    rw[F.owner_object_class];exact PySem.W.looks_mroIn X O.ob
  refine codeAny_call_builtin F.slot_gs_get.plain F.entry_gs_get (F.slot_gs_get.check _ _ _ _ _ _ _ _ hT5 (F.args_gs_get _ _ _) ?_)
  repeat (any_goals (first | assumption | (with_reducible refine wpAny_loadPart_at hx ?_;rw[hc]) | with_reducible refine L1.at ?_ | wp_step))
  refine⟨Code.quiet_builtin _ (by decide +kernel),codeAny_builtin F.entry_object_class ?_⟩
  repeat (any_goals (first | assumption | (with_reducible refine wpAny_loadPart_at hx ?_;rw[hc]) | wp_step))
theorem xk{M:Model}{nameV:Value}{Q:Unit->Shared->Prop}(X:K.In h)(O:XOne K C)(hx:h.get? x=some o)(hc:o.cls=.ref C)(hq:Q () ⟨h,g,d,t,os⟩):
    wpAny M A (checkBuiltinCall "BaseException.__getattribute__" ⟨[.ref x,nameV],[]⟩) Q E ⟨h,g,d,t,os⟩:=by
  have hk:builtinKind "BaseException.__getattribute__" = some .slot:=by decide +kernel
  have hsplit:splitId "BaseException.__getattribute__" = some ("BaseException","__getattribute__"):=by decide +kernel
  have L1:PySem.W.Looks M h (isSubtype (.ref C) (.type "BaseException")) true:=PySem.W.looks_mroIn X O.be
  have ha:=F.args_bexc_ga (.ref x) nameV
  simp only[checkBuiltinCall,hk,hsplit]
  refine wpAny_bind ?_
  · unfold isInstance
    repeat (first | (with_reducible refine wpAny_loadPart_at hx ?_;rw[hc]) | with_reducible refine L1.at ?_ | wp_step)
    exact hq
theorem xm{tk:Tok}{Q:Fin->Shared->Prop}(X:K.In h)(O:XOne K C)(hx:h.get? x=some o)(hc:o.cls=.ref C)(hq:Q (.done (.ret (.ref C))) ⟨h,g,d,t,os⟩):
    wpAny (model prog w) A (Builtin.«object.__getattribute__» ⟨[.ref x,.str "__class__" tk],[]⟩) Q E ⟨h,g,d,t,os⟩:=by
  have hT5:(⟨h,g,d,t,os⟩:Shared).TypeIs (.builtin "object.__class__") "getset_descriptor":=F.typeOf_object_class
  have L1:=PySem.W.looks_findIn (M:=model prog w) X O.cls
  have f5:=F.typeOf_object_class
  have f6:=F.slot_gs_get.lookup
  have f7:=F.slot_gs_set.lookup
  repeat (any_goals (first | assumption | (with_reducible refine wpAny_loadPart_at hx ?_;rw[hc]) | with_reducible refine L1.at ?_ | wp_step))
  refine xj X O hx hc ?_
  repeat (any_goals (first | assumption | wp_step))
theorem xn{tk:Tok}{Q:Value->Shared->Prop}(X:K.In h)(O:XOne K C)(hx:h.get? x=some o)(hc:o.cls=.ref C)(hq:Q (.ref C) ⟨h,g,d,t,os⟩):
    wpAny (model prog w) A (getAttrBy (.ref x) (.str "__class__" tk) false) Q E ⟨h,g,d,t,os⟩:=by
  have f3:=F.attrBase_ValueError.ga.bind (.ref x)
  have hx2:(Value.builtin "BaseException.__getattribute__" == Value.builtin "object.__getattribute__")=false:=by decide +kernel
  have hx1:(onTheHeap (Value.ref C) && Value.builtin "BaseException.__getattribute__" == Value.builtin "object.__getattribute__")=false:=by rw[hx2];rfl
  have L1:=PySem.W.looks_findIn (M:=model prog w) X O.ga
  have L2:=PySem.W.looks_findIn (M:=model prog w) X O.hk
  repeat (any_goals (first | assumption | (with_reducible refine wpAny_loadPart_at hx ?_;rw[hc]) | with_reducible refine L1.at ?_ | with_reducible refine L2.at ?_ | wp_step))
  refine codeAny_call_builtin F.attrBase_ValueError.ga.plain F.entry_bexc_ga (xk X O hx hc (xm X O hx hc ?_))
  repeat (any_goals (first | assumption | wp_step))
theorem xo{Q:Option Value->Shared->Prop}(X:K.In h)(O:XOne K C)(hx:h.get? x=some o)(hc:o.cls=.ref C)(hq:Q (some (.ref C)) ⟨h,g,d,t+1,os⟩):
    wpAny (model prog w) A (getAttr? (.ref x) "__class__") Q E ⟨h,g,d,t,os⟩:=by
  unfold getAttr? getAttrBy?
  repeat (any_goals (first | assumption | with_reducible apply xn X O hx hc | wp_step))
theorem iA{M:Model}(hx:h.get? x=some o)(hc:o.cls=.ref C):PySem.W.Looks M h (typeOf (.ref x)) (.ref C):=by
  intro A' Q' E' s' k q
  unfold typeOf
  refine wpAny_bind (wpAny_loadPart (k _ _ hx) ?_)
  rw[hc]
  exact wpAny_pure q
theorem jZ{M:Model}(X:K.In h)(e:PySem.W.isClsIn K C=true):PySem.W.Looks M h (isType (.ref C)) true:=by
  unfold PySem.W.isClsIn PySem.W.clsIn at e
  split at e
  · rename_i c' d' cd' sl' ho
    intro A' Q' E' s' k q
    unfold isType loadHead
    exact wpAny_bind (wpAny_loadPart (k _ _ (X _ _ ho)) (wpAny_pure q))
  · cases e
open PySem.W in
theorem xp{dep:Int}{tk:Tok}{Q:Fin->Shared->Prop}(X:K.In s.heap)(O:XOne K C)(OD:XOne K D)(hx:∃ o,s.heap.get? x=some o/\o.cls=.ref C)(ne:D ≠ C)(e:mroIn K C (.ref D)=some false)(hq:Q (.done (.ret (.bool false))) { s with toks:=s.toks+1 }):
    wpAny (model prog w) A (Builtin.«isinstance.nested» ⟨[.ref x,.ref D,.int dep tk],[]⟩) Q E s:=by
  obtain⟨o,hx,hc⟩:=hx
  obtain⟨h0,g,d,tt,os⟩:=s
  have L0:=iA (M:=model prog w) hx hc
  have hsub:Looks (model prog w) h0 (isSubtype (.ref C) (.ref D)) false:=looks_mroIn X e
  have LI:Looks (model prog w) h0 (isInstance (.ref x) (.ref D)) false:=L0.andThen hsub
  have hty:Looks (model prog w) h0 (typeOf (.ref D)) (.type "type"):=looks_typeIn X OD.ty
  unfold Builtin.«isinstance.nested»
  refine wpAny_bind (L0.at ?_)
  rw[if_neg (fun q=>ne (Value.ref.inj (beq_iff_eq.mp q)).symm)]
  refine wpAny_bind (hty.at ?_)
  rw[if_pos (by decide)]
  k_delta "plainIsInstance"
  refine wpAny_bind (wpAny_bind ((jZ X OD.is).at ?_))
  simp only[Bool.not_true,Bool.false_eq_true,if_false]
  refine wpAny_bind (LI.at ?_)
  simp only[Bool.false_eq_true,if_false]
  refine wpAny_bind (xo X O hx hc ?_)
  refine wpAny_bind ((jZ X O.is).at ?_)
  simp only[Bool.not_true,Bool.false_eq_true,if_false]
  refine wpAny_bind (wpAny_rule ?_)
  refine hsub.at ?_
  first
    | exact wpAny_pure hq
    | exact wpAny_pure (wpAny_pure hq)
    | exact wpAny_bind (wpAny_pure (wpAny_pure hq))
open PySem.W in
theorem xq{dep:Int}{tk:Tok}{Q:Fin->Shared->Prop}(X:K.In s.heap)(O:XOne K C)(hx:∃ o,s.heap.get? x=some o/\o.cls=.ref C)(hq:Q (.done (.ret (.bool true))) s):
    wpAny (model prog w) A (Builtin.«isinstance.nested» ⟨[.ref x,.type "ValueError",.int dep tk],[]⟩) Q E s:=by
  obtain⟨o,hx,hc⟩:=hx
  obtain⟨h0,g,d,tt,os⟩:=s
  have L0:=iA (M:=model prog w) hx hc
  have hsub:Looks (model prog w) h0 (isSubtype (.ref C) (.type "ValueError")) true:=looks_mroIn X O.ve
  have LI:Looks (model prog w) h0 (isInstance (.ref x) (.type "ValueError")) true:=L0.andThen hsub
  have hty:typeOf (.type "ValueError")=pure (.type "type"):=by kernel_rfl
  unfold Builtin.«isinstance.nested»
  refine wpAny_bind (L0.at ?_)
  rw[if_neg (fun q=>by cases beq_iff_eq.mp q)]
  refine wpAny_bind (m:=typeOf (.type "ValueError")) (wpAny_of_eq hty ?_)
  rw[if_pos (by decide)]
  k_delta "plainIsInstance"
  refine wpAny_bind (wpAny_bind (m:=isType (.type "ValueError")) (wpAny_pure (a:=true) ?_))
  simp only[Bool.not_true,Bool.false_eq_true,if_false]
  refine wpAny_bind (LI.at ?_)
  simp only[if_true]
  first
    | exact wpAny_pure hq
    | exact wpAny_pure (wpAny_pure hq)
    | exact wpAny_bind (wpAny_pure (wpAny_pure hq))
theorem xr{Q:Value->Shared->Prop}(X:K.In s.heap)(O:XOne K C)(OD:XOne K D)(hx:∃ o,s.heap.get? x=some o/\o.cls=.ref C)(ne:D ≠ C)(e:PySem.W.mroIn K C (.ref D)=some false)(hq:Q (.bool false) { s with toks:=s.toks+1 }):
    wpAny (model prog w) A (call (.builtin "isinstance") [.ref x,.ref D]) Q E s :=
  call_isinstance (S:=fun _ R s=>(K.In s.heap/\∃ o,s.heap.get? x=some o/\o.cls=.ref C)/\R (.ok (.ret (.bool false))) { s with toks:=s.toks+1 })
    (fun _ _ _ _ _ hs=>isinstance_outer (xp hs.1.1 O OD hs.1.2 ne e hs.2) (by intro q;cases q)) ⟨⟨X,hx⟩,hq⟩
theorem xu{Q:Value->Shared->Prop}(X:K.In s.heap)(O:XOne K C)(hx:∃ o,s.heap.get? x=some o/\o.cls=.ref C)(hq:Q (.bool true) s):
    wpAny (model prog w) A (call (.builtin "isinstance") [.ref x,.type "ValueError"]) Q E s :=
  call_isinstance (S:=fun _ R s=>(K.In s.heap/\∃ o,s.heap.get? x=some o/\o.cls=.ref C)/\R (.ok (.ret (.bool true))) s)
    (fun _ _ _ _ _ hs=>isinstance_outer (xq hs.1.1 O hs.1.2 hs.2) (by intro q;cases q)) ⟨⟨X,hx⟩,hq⟩
theorem xv{Q:Value->Shared->Prop}(X:K.In s.heap)(hx:∃ o,s.heap.get? x=some o/\o.cls=.ref C)(hq:Q (.bool true) s):
    wpAny (model prog w) A (call (.builtin "isinstance") [.ref x,.ref C]) Q E s :=
  PySem.W.isi_call (t:=.ref C) X (fun M=>let ⟨_,h1,h2⟩:=hx;iA h1 h2) (by unfold PySem.W.isIn;simp) (by intro q;cases q) hq
end
end VL
namespace VL
open PySem PySem.Spec PyProof.Rows L2
def dk(H:Hp)(a:Addr):Hp:=fun b=>if b=a then none else H b
theorem o3{H:Hp}{a:Addr}:dk H a a=none:=by unfold dk;rw[if_pos rfl]
theorem xw{H:Hp}{a:Addr}:Same (dk H a) H:=fun b u q=>by
  unfold dk at q
  split at q
  · cases q
  · exact q
theorem iB{H:Hp}{a:Addr}{o:HO}(h:H a=none):dk (upd H a o) a=H:=by
  funext b
  unfold dk
  split
  · rename_i e;rw[e,h]
  · rename_i e;rw[au e]
def EXK(K:PySem.W.Frag)(P:Hp)(EX:QX):XK:=fun v c H=>∃ (a:Addr) (nm:Str) (M:Sto) (C:Addr),v=.ref a/\c=some C/\PySem.W.nsIn K mainGlobals nm=some (some (.ref C))/\nm ∈ XS/\EX nm M/\Same P (PH (dk H a) M)/\MOk K (dk H a) M
structure OutX (X:Cx) (P:Hp) (EX:QX):Prop where
  made:∀ (pins:List (Addr × Obj)) (σ:St) (H:Hp) (s:Shared) (x C:Addr) (h':Heap) (vs:List Value),L2.Inv X pins σ H s->Heap.MadeExcOf s.heap h' x (.ref C) vs->EXK X.K P EX (.ref x) (some C) (upd H x (bK x C))->X.xe (.ref x) { s with heap:=h' }
  pass:gP (CXN X.prog X.w) X (EXK X.K P EX)
theorem xx{P:Program}{w:World}{K:PySem.W.Frag}{mg:Str->Option Value}{base:Heap}{N:List Str}{qual:Str}{scope:Scope}{f:Addr}{cd:Value}{A:Around}{outer:List PySem.Env}{s:Shared}{H:Hp}{E:XK}{P0:Hp}{EX:QX}(h:∀ v c H',EXK K P0 EX v c H'->E v c H'):OutX (bu (CXN P w) P w K mg base N qual scope f cd A outer s H E) P0 EX where
  made:=fun pins σ H1 s1 x C h' vs I m e=>xg (X:=bu (CXN P w) P w K mg base N qual scope f cd A outer s H E) I m rfl rfl rfl (h _ _ _ e)
  pass:=fun pins σ H1 s1 e s2 I hc=>xh (X:=bu (CXN P w) P w K mg base N qual scope f cd A outer s H E) I hc rfl rfl rfl fun x C H2 _ _ z=>h _ _ _ z
def twX(K:PySem.W.Frag)(P:Hp)(n:Nat)(EX:QX)(t:NTS):TS:=fun De σ H=>∃ ρ M Ew,EnvN K P n σ ρ H M/\t Ew ρ M/\LeE Ew (dj K P n De)/\∀ x M,Ew.ex x M->EX x M
abbrev MS(X:Cx)(P:Hp)(EX:QX)(st:Stmt)(t:NTS):Prop:=∀ n,PS X st (twX X.K P n EX t)
abbrev MSs(X:Cx)(P:Hp)(EX:QX)(st:List Stmt)(t:NTS):Prop:=∀ n,PSs X st (twX X.K P n EX t)
theorem xy{X:Cx}{st:Stmt}{t:TS}(h:PS X.nox st t):PS X st t:=fun pins s σ H D I hw =>
  wpAny_mono (h pins s σ H D (I.wish _) hw) (fun _ _ q=>q.unwish) fun _ _ z=>False.elim z
theorem o6{K:PySem.W.Frag}{h:Heap}{C:Addr}(X:K.In h)(e:PySem.W.excIn K C bmV "ValueError.__new__" = true):∃ tl N nm qn bs hdct sn sub ab col dd k0 k1 k2 k3 k5 mN,
    h.get? C=some (excClassObj nm qn C N bs tl hdct sn sub ab col dd k0 k1 k2 k3 k5 "ValueError.__new__")/\h.Ns N mN/\mN "__init__" = none/\OwnTail h bmV tl:=by
  unfold PySem.W.excIn at e
  split at e
  case h_2=>cases e
  case h_1 dd cd sl ho =>
  split at e
  case h_2=>cases e
  case h_1 C1 tl k0 k1 k2 k3 n k5 hm hs =>
  simp only[Bool.and_eq_true,beq_iff_eq,Bool.not_eq_true'] at e
  obtain⟨⟨⟨⟨⟨e1,e2⟩,e3⟩,e4⟩,e5⟩,e6⟩:=e
  subst e1 e2
  cases cd with
  | mk nm bs mro ns qn hd sn sub ab col del =>
    dsimp only at hm e3 e5 e6
    subst hm e3
    have hsl:sl = #[k0,k1,k2,k3,some (.builtin "ValueError.__new__"),k5]:=by
      cases sl with
      | mk l=>simp only at hs;rw[hs]
    subst hsl
    exact⟨tl,ns,nm,qn,bs,hd,sn,sub,ab,col,dd,k0,k1,k2,k3,k5,_,X _ _ ho,.of_isNs (PySem.W.isNs_of_in X e5),PySem.W.nsMap_none_of_in X e5 e6,PySem.W.tail_of_in X e4⟩
section
variable {X:Cx} {P:Hp} {EX:QX} {st:Stmt} {ai body bs:List Stmt} {t u:NTS} {c:Expr} {ka:NTB} {pos np cpos p2:Pos} {x:Str}
theorem xz(h:NS X.nox st t):MS X P EX st t:=fun n=>bW (xy (h P n)) fun De σ H ⟨ρ,M,Ew,hE,ht,hl,_⟩=>⟨ρ,M,Ew,hE,ht,hl⟩
theorem xA:MSs X P EX [] sN:=fun n=>cT lq fun De σ H ⟨ρ,M,Ew,hE,ht,hl,_⟩=>hl.nx ρ M ht σ H hE
theorem xB(h1:MS X P EX st t)(h2:MSs X P EX ai u):MSs X P EX (st::ai) (ay t u):=fun n=>cT (iR (h1 n) (h2 n)) fun De σ H ⟨ρ,M,Ew,hE,ht,hl,hx⟩ =>
  ⟨ρ,M,_,hE,ht,⟨fun ρ' M' h' σ' H' hE'=>⟨ρ',M',Ew,hE',h',hl,hx⟩,hl.bk,hl.ct,hl.rt⟩,hx⟩
theorem xC(h1:MS X P EX st t):MSs X P EX [st] t:=fun n=>cT (gL (h1 n)) fun De σ H h=>h
theorem xD(hc:NT X.nox c ka)(ha:MSs X P EX body t)(hb:MSs X P EX bs u):MS X P EX (.If c body bs pos) (bd ka t u):=fun n=>bW (lu (PT.nox hc) (ha n) (hb n)) fun De σ H ⟨ρ,M,Ew,hE,ht,hl,hx⟩=>⟨ρ,M,_,hE.q,ht,fun k M1 hk H1 p1=>by
  cases k with
  | true=>exact cy ⟨ρ,M1,Ew,hE.next p1,hk.1 rfl,hl,hx⟩
  | false=>exact cx ⟨ρ,M1,Ew,hE.next p1,hk.2 rfl,hl,hx⟩⟩
theorem xE{m:Str}{j}(xt:bp X.K=true)(ho:OutX X P EX)(hc:X.calm=true:=by rfl)(hg:Gl X x:=by rfl)(hd:(x == ("__debug__" : Str))=false:=by decide)(he:starEach [.Constant (.str m) j p2] X.env=(false,eval (.Constant (.str m) j p2) X.env)::starEach [] X.env:=by rfl)(hpl:(backTo cpos (starEach [.Constant (.str m) j p2] X.env)).any (·.1)=false:=by rfl):
    MS X P EX (.Raise (some (.Call (.Name x np) [.Constant (.str m) j p2] [] cpos)) none pos) (ir x):=by
  intro n pins s σ H De I ⟨ρ,M,Ew,hE,⟨hx,hex⟩,hl,hX⟩
  obtain⟨B,XB,hall⟩:=ft xt
  obtain⟨C,hns,O,_,_⟩:=hall x hx
  have hm:X.mg x=some (.ref C):=PySem.W.mg_of I.ok.mod.kin I.ok.mod.glob hns
  obtain⟨tl,N,nm,qn,bs,hdct,sn,sub,ab,col,dd,k0,k1,k2,k3,k5,mN,hC,hN,hni,T⟩:=o6 I.ok.mod.kin O.exc
  refine wpAny_Raise_call_subT (C:=C) (nm:=nm) (q:=qn) (N:=N) (bs:=bs) (bm:=tl) (hdct:=hdct) (sn:=sn) (sub:=sub) (ab:=ab) (col:=col) (dd:=dd) (k0:=k0) (k1:=k1) (k2:=k2) (k3:=k3) (k5:=k5) (mN:=mN)
    F.excBase_ValueError (T.hasType (by decide)) (I.ok.hd hc) hpl hni (er I hg hm ⟨rfl,?_⟩ hd)
  have hA:PA X [.Constant (.str m) j p2] (lR (tC (.str m)) lQ):=bB dE bT he
  have h1:=hA cpos pins s σ H (fun ws H'=>ws=[.str m]/\H'=H) I ⟨rfl,rfl⟩
  rw[he] at h1 ⊢
  refine Calls.evalArgs_plain (wpAny_mono h1 (fun vs s2 h2=>?_) fun _ _ y=>y)
  obtain⟨ws,H2,I2,r2,rfl,rfl⟩:=h2
  refine⟨rfl,?_,I2.bk _ _ hC,hN.keeps I2.bk,T.keeps I2.bk,fun h' e hm'=>ho.made pins σ _ s2 e C h' vs I2 hm' ?_⟩
  · rw[<- r2.length,sizeLine_eq];exact (by decide:1<=16777216)
  · have hn:H2 e=none:=by
      cases q:H2 e with
      | none=>rfl
      | some u=>obtain⟨o,q2⟩:=eB (I2.hok e u q);rw[hm'.new] at q2;cases q2
    exact⟨e,x,M,C,rfl,rfl,hns,hx,hX _ _ hex,by rw[iB hn];exact hE.same,by rw[iB hn];exact hE.q.ok⟩
end
end VL
namespace VL
open PySem PySem.Spec PyProof.Rows L2
def Fl(X:Cx)(pins:List (Addr × Obj))(σ:St)(E:XK)(e:Value)(s':Shared):Prop:=∃ H1 s1,L2.Inv X pins σ H1 s1/\CXN X.prog X.w X.stack H1 s1 E e s'
def PX(X:Cx)(e:Expr)(t:St->Hp->VK->XK->Prop):Prop :=
  ∀ (pins:List (Addr × Obj)) (s:Shared) (σ:St) (H:Hp) (Q:VK) (E:XK),L2.Inv X pins σ H s->t σ H Q E->wpAny (model X.prog X.w) X.A (eval e X.env) (EP X pins σ Q) (Fl X pins σ E) s
def twE(K:PySem.W.Frag)(te:NEX):St->Hp->VK->XK->Prop:=fun σ H Q E=>∃ ρ M QW EX,EnvQ K σ ρ H M/\te ρ M QW EX/\(∀ d M',QW d M'->∀ v H',PostW K H M d v H' M'->Q v H')/\∀ v c H',EXK K (PH H M) EX v c H'->E v c H'
abbrev NX(X:Cx)(e:Expr)(te:NEX):Prop:=PX X e (twE X.K te)
def spE(K:PySem.W.Frag)(T:NTX):Sp:=fun vs H Q E=>∃ ds M QW EX,Reps K (PH H M) vs ds/\MOk K H M/\T ds M QW EX/\(∀ d M',QW d M'->∀ v H',PostW K H M d v H' M'->Q v H')/\∀ v c H',EXK K (PH H M) EX v c H'->E v c H'
theorem EXK.pre{K:PySem.W.Frag}{P P':Hp}{EX:QX}{v:Value}{c:Option Addr}{H:Hp}(h:EXK K P' EX v c H)(e:Same P P'):EXK K P EX v c H:=by
  obtain⟨a,nm,M,C,h1,h2,h3,h4,h5,h6,h7⟩:=h
  exact⟨a,nm,M,C,h1,h2,h3,h4,h5,e.trans h6,h7⟩
theorem EXK.post{K:PySem.W.Frag}{P:Hp}{EX EX':QX}{v:Value}{c:Option Addr}{H:Hp}(h:EXK K P EX v c H)(e:∀ x M,EX x M->EX' x M):EXK K P EX' v c H:=by
  obtain⟨a,nm,M,C,h1,h2,h3,h4,h5,h6⟩:=h
  exact⟨a,nm,M,C,h1,h2,h3,h4,e _ _ h5,h6⟩
def DefE(P:Program)(w:World)(K:PySem.W.Frag)(mg:Str->Option Value)(base:Heap)(x:Str)(k:Nat)(ps:List Str)(T:NTX):Prop :=
  ∃ f fd,FnOk P w K mg base (CXN P w) k f fd ps (spE K T)/\mg x=some (.ref f)/\PySem.W.keepIn K (.ref f)=true/\Binds K fd ps []
def MetE(P:Program)(w:World)(K:PySem.W.Frag)(mg:Str->Option Value)(base:Heap)(C:Addr)(m:Str)(k:Nat)(ps:List Str)(T:NTX):Prop :=
  ∃ f fd,FnOk P w K mg base (CXN P w) k f fd ps (spE K T)/\Meth K C m f/\Binds K fd ps []
def MakE(P:Program)(w:World)(K:PySem.W.Frag)(mg:Str->Option Value)(base:Heap)(x:Str)(C:Addr)(k:Nat)(ps:List Str)(T:NTX):Prop :=
  ∃ f fd,FnOk P w K mg base (CXN P w) k f fd ps (spE K T)/\Mk K C f/\mg x=some (.ref C)/\Binds K fd ps []
section
variable {P:Program} {w:World} {K:PySem.W.Frag} {mg:Str->Option Value} {base:Heap} {x m:Str} {C:Addr} {j k:Nat} {ps:List Str} {T:NTX}
theorem DefE.mono(h:DefE P w K mg base x j ps T)(hk:j<=k:=by decide):DefE P w K mg base x k ps T:=let ⟨f,fd,F,r⟩:=h;⟨f,fd,F.mono hk,r⟩
theorem MetE.mono(h:MetE P w K mg base C m j ps T)(hk:j<=k:=by decide):MetE P w K mg base C m k ps T:=let ⟨f,fd,F,r⟩:=h;⟨f,fd,F.mono hk,r⟩
theorem MakE.mono(h:MakE P w K mg base x C j ps T)(hk:j<=k:=by decide):MakE P w K mg base x C k ps T:=let ⟨f,fd,F,r⟩:=h;⟨f,fd,F.mono hk,r⟩
theorem kc{f:Addr}{fd:FuncData}(F:FnOk P w K mg base (CXN P w) k f fd ps (spE K T)):FnOk P w K mg base CX0 k f fd ps (spN K (qtX T)):=by
  have up:∀ vs H Q E,spN K (qtX T) vs H Q E->spE K T vs H Q fun _ _ _=>False:=fun vs H Q E ⟨ds,M,QW,r,ok,ht,hQ⟩ =>
    ⟨ds,M,QW,_,r,ok,ht,hQ,fun v c H' ⟨_,_,_,_,_,_,_,_,z,_⟩=>z⟩
  refine⟨fun vs H Q E h=>F.len vs H Q _ (up _ _ _ _ h),fun A outer s H args us vs Q E hr he hb hv hs=>codeAny_mono (F.run A outer s H args us vs Q _ hr he hb hv (up _ _ _ _ hs)) fun r s' hq=>?_⟩
  cases r with
  | ok fl=>cases fl <;> exact hq
  | error e=>obtain⟨_,_,_,_,_,_,_,_,_,_,_,_,_,_,z⟩:=hq;exact z.elim
theorem DefE.quiet(h:DefE P w K mg base x k ps T):DefN P w K mg base x k ps (qtX T):=let ⟨f,fd,F,r⟩:=h;⟨f,fd,kc F,r⟩
theorem MetE.quiet(h:MetE P w K mg base C m k ps T):MetN P w K mg base C m k ps (qtX T):=let ⟨f,fd,F,r⟩:=h;⟨f,fd,kc F,r⟩
theorem MakE.quiet(h:MakE P w K mg base x C k ps T):MakN P w K mg base x C k ps (qtX T):=let ⟨f,fd,F,r⟩:=h;⟨f,fd,kc F,r⟩
end
section
variable {X:Cx} {a b:Expr} {ta tb:NTE} {tas:NTA} {pos p ap:Pos} {k:Nat} {ps:List Str} {x m:Str} {es:List Expr} {T:NTX} {C:Addr} {ns:List Str}
theorem xF{f:Addr}{fd:FuncData}{sp:Sp}{pins:List (Addr × Obj)}{σ:St}{H:Hp}{s:Shared}{Q:VK}{E:XK}{us:List Value}{vs:List V}(F:FnOk X.prog X.w X.K X.mg X.base (CXN X.prog X.w) k f fd ps sp)(hr:Room k X.A)(hb:Binds X.K fd ps [])(I:L2.Inv X pins σ H s)(r:Vals vs us)(h:sp vs H Q E):wpAny (model X.prog X.w) X.A (call (.ref f) us) (EP X pins σ Q) (Fl X pins σ E) s:=by
  have hl:(us++([]:List Value)).length=ps.length:=by rw[List.append_nil,<- r.length];exact F.len _ _ _ _ h
  have hb':=hb s us I.kIn hl
  rw[List.append_nil] at hb'
  refine wpAny_call (codeAny_mono (F.run X.A X.stack s H ⟨us,[]⟩ us vs Q E hr I.env0 hb' r h) fun q s' hq=>?_)
  cases q with
  | error e=>exact⟨H,s,I,hq⟩
  | ok fl =>
    cases fl with
    | ret u=>exact I.after hq
    | next=>exact False.elim hq
    | brk=>exact False.elim hq
    | cont=>exact False.elim hq
theorem xG{t:TA}{Q:List V->Hp->Prop}{pins:List (Addr × Obj)}{s:Shared}{σ:St}{H:Hp}{E:Value->Shared->Prop}(ha:PA X.nox es t)(pos:Pos)(I:L2.Inv X pins σ H s)(h:t σ H Q):wpAny (model X.prog X.w) X.A (spliced (backTo pos (starEach es X.env))) (AP X pins σ Q) E s :=
  wpAny_mono (ha pos pins s σ H Q (I.wish _) h) (fun _ _ ⟨vs,H',I',r,q⟩=>⟨vs,H',I'.unwish,r,q⟩) fun _ _ z=>False.elim z
theorem xH(d:DefE X.prog X.w X.K X.mg X.base x k ps T)(hr:Room k X.A)(ha:NA X.nox (a::es) tas)(hg:Gl X x:=by rfl)(hdb:(x == ("__debug__" : Str))=false:=by decide)(he:starEach (a::es) X.env=(false,eval a X.env)::starEach es X.env:=by rfl)(hpl:(backTo pos (starEach es X.env)).any (·.1)=false:=by rfl):
    NX X (.Call (.Name x p) (a::es) [] pos) (fo T tas):=by
  intro pins s σ H Q E I ⟨ρ,M,QW,EX,hE,ht,hQ,hX⟩
  obtain⟨f,fd,F,hm,hk,hb⟩:=d
  refine wpAny_Call_Name_kw (er I hg hm ?_ hdb)
  refine PySem.W.callWith_K (h₀:=X.base) I.ok.mod.kin hk (thn (xG (Q:=fun vs H1=>∃ ds M1,PostWs X.K H M ds vs H1 M1/\T ds M1 QW EX) ha pos I ⟨ρ,M,_,hE,ht,fun ds M1 h1 vs H1 p1=>⟨ds,M1,p1,h1⟩⟩) fun us s1 ⟨vs,H1,I1,r,ds,M1,p1,h1⟩=>⟨I1.kIn,?_⟩) he hpl
  exact xF F hr hb I1 r ⟨ds,M1,QW,EX,p1.rep,p1.ok,h1,fun d M' hd v H' p'=>hQ d M' hd v H' ⟨p1.toPostT.trans p'.toPostT,p'.rep⟩,fun v c H' z=>hX v c H' (z.pre p1.same)⟩
end
section
variable {X:Cx} {P:Hp} {EX:QX} {a:Expr} {te:NEX} {pos p2:Pos} {x:Str} {i:Nat}
end
theorem xI{P:Program}{w:World}{K:PySem.W.Frag}{mg:Str->Option Value}{base:Heap}{x qual:Str}{st:Stmt}{f:Addr}{fd:FuncData}{N ps:List Str}{k np n:Nat}{body:NTS}{T:NTX}(h1:ps.length=np)(h2:N.length=n)(h3:T=mkX np n body)(Fn:Fun K x qual st f fd)(S:FnScope N ps (ak st))(h:∀ (cdv:Value) (A:Around) (outer:List PySem.Env) (s:Shared) (H:Hp) (E:XK) (PP:Hp) (EX:QX),Room k (A.deeper (envOfC qual (ak st) s.heap.objs.size f cdv))->OutX (bu (CXN P w) P w K mg base N qual (ak st) f cdv A outer s H E) PP EX ->
      MSs (bu (CXN P w) P w K mg base N qual (ak st) f cdv A outer s H E) PP EX (aU st) body):
    FnOk P w K mg base (CXN P w) (k+1) f fd ps (spE K T):=by
  subst h1 h2 h3
  have hpl:ps.length<=N.length:=by have:=congrArg List.length S.pre;rw[List.length_take] at this;omega
  obtain⟨oc,od,kV,doc,pm,an,cdv,ct,osl,rfl,lk,hcd⟩:=Fn.ex
  refine lZ lk hcd S (fun vs H Q E h=>?_) fun A outer s H vs Q E hr h'=>?_
  · obtain⟨ds,M,QW,EX,r,_,hg,_⟩:=h
    rw[r.length,hg.1]
  · obtain⟨ds,M,QW,EX,r,hok,⟨hl,ht⟩,hQ,hX⟩:=h'
    have lv:=r.length
    refine⟨_,h cdv A outer s H E (PH H M) EX hr (xx hX) N.length,ds.map some++List.replicate (N.length - ps.length) none,M,_,⟨⟨fun i d q=>?_,hok⟩,Same.refl _,?_,?_⟩,ht,⟨fun ρ M' hn σ' H' hE=>?_,fun ρ M' hn=>hn.elim,fun ρ M' hn=>hn.elim,fun d M' hd v H' e1 e2 e3=>?_⟩,fun _ _ z=>z⟩
    · have get:ds[i]?=some d:=by
        by_cases hi:i < ds.length
        · rw[List.getElem?_append_left (by simpa using hi),List.getElem?_map] at q
          cases e:ds[i]? with
          | none=>rw[e] at q;cases q
          | some z=>rw[e] at q;simpa using q
        · rw[List.getElem?_append_right (by simpa using hi),List.getElem?_replicate] at q
          split at q <;> cases q
      obtain⟨v,h2,h3⟩:=r.get get
      refine⟨v,?_,h3⟩
      unfold L2.start
      have hi:i < vs.length:=(List.getElem?_eq_some_iff.mp h2).1
      rw[List.getElem?_append_left (by simpa using hi),List.getElem?_map,h2]
      rfl
    · show (L2.start N vs).length=N.length
      unfold L2.start
      rw[List.length_append,List.length_map,List.length_replicate]
      omega
    · rw[List.length_append,List.length_map,List.length_replicate]
      omega
    · exact hQ _ M' hn _ H' ⟨⟨hE.same,hE.q.ok⟩,.non⟩
    · exact hQ d M' hd v H' ⟨⟨e1,e2⟩,e3⟩
end VL
namespace VL
open PySem PySem.Spec PyProof.Rows L2
section
variable {X:Cx} {pins:List (Addr × Obj)} {σ:St} {H:Hp} {s:Shared} {x C:Addr}
theorem o7{B h':Heap}(I:L2.Inv X pins σ H s)(hx:H x=some (bK x C))(hst:B.StaysIn s.heap)(hB:B.StaysIn h')(hth:∃ o,h'.get? x=some o/\o.cls=.ref C)(hup:s.heap.UpToSlots h')(c1:∀ b u,H b=some u->b ≠ x->B.get? b ≠ none)(c2:∀ b o,X.s₀.heap.get? b=some o->b ∉ frs X.outer->B.get? b ≠ none)(c3:∀ p ∈ X.pn++pins,B.get? p.1 ≠ none)(hex:X.ex=[]):L2.Inv X pins σ H { s with heap:=h' }:=by
  have same:∀ {b:Addr} {o:Obj},B.get? b ≠ none->s.heap.get? b=some o->h'.get? b=some o:=fun {b o} n e=>by
    cases q:B.get? b with
    | none=>exact absurd q n
    | some o' =>
      have h1:=hst b o' q
      have h2:=hB b o' q
      rw[e] at h1;cases h1
      exact h2
  have nx:∀ b:Addr,b ∉ X.ex:=fun b z=>by rw[hex] at z;cases z
  have fr:∀ b o,s.heap.get? b=some o->b ∈ frs X.outer->∃ sl,h'.get? b=some { o with slots:=sl }:=fun b o e hb=>by
    obtain⟨_,o0,ho0,hd0⟩:=I.ok.funs.mem hb
    obtain⟨sl,q⟩:=I.base.slot b o0 ho0 (I.ok.frf b hb) hb (nx b)
    rw[e] at q;cases q
    exact hup b _ e hd0
  have cellK:∀ c v,s.heap.IsCell c v->h'.IsCell c v:=fun c v ⟨o,ho,hd⟩=>by
    obtain⟨sl,q⟩:=hup c o ho (fun vs z=>by rw[hd] at z;cases z)
    exact⟨_,q,hd⟩
  refine⟨I.ok,I.os,I.bare,⟨fun b o e n hb _=>?_,fun b o e n hb _=>?_,fun b o e n _=>I.base.free b o e n (nx b),fun b o e _=>?_,I.base.tups,I.base.frzs,I.base.tbls⟩,?_,fun y c e=>?_,I.free,I.freeC,fun p hp=>?_,fun b u e=>?_,I.len⟩
  · exact same (c2 b o e hb) (I.base.keep b o e n hb (nx b))
  · obtain⟨sl,q⟩:=I.base.slot b o e n hb (nx b)
    obtain⟨sl2,q2⟩:=fr b _ q hb
    exact⟨sl2,q2⟩
  · obtain⟨o',q⟩:=I.base.there b o e (nx b)
    by_cases hb:b ∈ frs X.outer
    · obtain⟨sl,q2⟩:=fr b o' q hb
      exact⟨_,q2⟩
    · exact⟨o',same (c2 b o e hb) q⟩
  · obtain⟨m,hn,hl⟩:=I.loc
    refine⟨m,hup.ns hn,fun i y v e1 e2 e3=>?_⟩
    obtain⟨u,r,l⟩:=hl i y v e1 e2 e3
    refine⟨u,r,?_⟩
    rcases l with l | ⟨k,c,e,z⟩
    · exact .inl l
    · exact .inr ⟨k,c,e,cellK c _ z⟩
  · obtain⟨v,z⟩:=I.cell y c e
    exact⟨v,cellK c v z⟩
  · obtain⟨e,r⟩:=I.pin p hp
    exact⟨same (c3 p hp) e,r⟩
  · by_cases hb:b=x
    · subst hb
      rw[hx] at e;cases e
      exact jW hth
    · refine (I.hok b u e).stay (fun c v hc q=>?_) (fun _ q=>q) fun _ _ q=>q
      have:H c ≠ none/\c ≠ x:=by
        rcases hc with rfl | hc
        · exact⟨by rw[e];exact (fun z=>nomatch z),hb⟩
        · exact⟨by rw[hc];exact (fun z=>nomatch z),fun z=>by rw[z,hx] at hc;cases hc⟩
      cases hq:H c with
      | none=>exact absurd hq this.1
      | some u'=>exact same (c1 c u' hq this.2) q
theorem xJ{i:Nat}{n:Str}{m:Str->Option Value}{v:Option Value}{h':Heap}{t':Nat}(I:L2.Inv X pins σ H s)(hN:X.N.Nodup)(hi:X.N[i]?=some n)(hn:s.heap.Ns X.env.locals m)(hn':h'.Ns X.env.locals fun y=>if y=n then v else m y)(hs:Heap.SameBut X.env.locals s.heap h'):L2.Inv X pins (σ.set i none) H { s with heap:=h',toks:=t' }:=by
  obtain⟨oL,_,_,hoL,_⟩:=id hn
  have hb0:∀ b o,X.s₀.heap.get? b=some o->b ≠ X.env.locals:=fun b o e=>Nat.ne_of_lt (Nat.lt_of_lt_of_le (Heap.lt_size e) I.ok.above)
  refine⟨I.ok,I.os,I.bare,⟨fun b o e n hb hx=>?_,fun b o e n hb hx=>?_,I.base.free,fun b o e hx=>?_,I.base.tups,I.base.frzs,I.base.tbls⟩,⟨_,hn',fun j y v' e1 e2 e3=>?_⟩,fun y c e=>?_,I.free,I.freeC,fun p hp=>?_,fun b u e=>?_,by simpa using I.len⟩
  · exact (hs.2 b (hb0 b o e)).trans (I.base.keep b o e n hb hx)
  · obtain⟨sl,e1⟩:=I.base.slot b o e n hb hx
    exact⟨sl,(hs.2 b (hb0 b o e)).trans e1⟩
  · obtain⟨o',e1⟩:=I.base.there b o e hx
    exact⟨o',(hs.2 b (hb0 b o e)).trans e1⟩
  · by_cases hj:j=i
    · subst hj
      have hl:j < σ.length:=by rw[I.len];exact (List.getElem?_eq_some_iff.mp hi).1
      rw[List.getElem?_set_self hl] at e2;cases e2
    · rw[List.getElem?_set_ne (Ne.symm hj)] at e2
      obtain⟨m1,hn1,hl1⟩:=I.loc
      obtain⟨u',r',q⟩:=hl1 j y v' e1 e2 e3
      refine⟨u',r',?_⟩
      rcases q with⟨k,e⟩ | ⟨k,c,e,z⟩
      · refine .inl ⟨k,?_⟩
        have ne:y ≠ n:=fun e=>hj (iN hN e1 (e ▸ hi))
        simp only[ne,if_false]
        obtain⟨o1,es1,ep1,a1,a2,a3,a4⟩:=hn1
        obtain⟨o2,es2,ep2,b1,b2,b3,b4⟩:=hn
        rw[a1] at b1;cases b1
        rw[a2] at b2;cases b2
        rw[<- b4,a4,e]
      · exact .inr ⟨k,c,e,z.sameBut hs (I.cne y c e)⟩
  · obtain⟨w',z⟩:=I.cell y c e
    exact⟨w',z.sameBut hs (I.cne y c e)⟩
  · obtain⟨e,n,ne,nf,d⟩:=I.pin p hp
    exact⟨(hs.2 p.1 ne).trans e,n,ne,nf,d⟩
  · refine (I.hok b u e).stay (fun c w' hc q=>(hs.2 c ?_).trans q) (fun _ q=>q) fun _ _ q=>q
    rintro rfl
    rcases hc with rfl | hc
    · rw[I.free] at e;cases e
    · rw[I.free] at hc;cases hc
theorem xK{M:Model}{A:Around}{E:Value->Shared->Prop}{K:PySem.W.Frag}{B:Addr}{Q:Bool->Shared->Prop}(kin:K.In s.heap)(XB:XBase K B)(e:PySem.W.mroIn K C (.ref B)=some true)(hx:∃ o,s.heap.get? x=some o/\o.cls=.ref C)(hq:Q true s):
    wpAny M A (excMatches (.ref x) (.ref B)) Q E s:=by
  obtain⟨o,hx,hc⟩:=hx
  unfold excMatches
  refine wpAny_bind ((PySem.W.looks_instIn kin XB.nt).at ?_)
  simp only[Bool.false_eq_true,if_false]
  refine wpAny_bind (wpAny_pure ?_)
  have L1:PySem.W.Looks M s.heap (isExcClass (.ref B)) true:=by
    intro A' Q' E' s' k q
    unfold isExcClass
    refine wpAny_bind (jZ kin XB.is _ _ _ _ k ?_)
    simp only[if_true]
    exact PySem.W.looks_mroIn kin XB.be _ _ _ _ k q
  simp only[List.forIn_cons,List.forIn_nil]
  refine wpAny_bind (wpAny_bind (wpAny_bind (L1.at ?_)))
  simp only[Bool.not_true,Bool.false_eq_true,if_false]
  refine wpAny_pure ?_
  refine wpAny_pure ?_
  refine wpAny_bind ((iA hx hc).at ?_)
  refine wpAny_bind (wpAny_bind (wpAny_bind ((PySem.W.looks_mroIn kin e).at ?_)))
  simp only[if_true]
  refine wpAny_pure ?_
  refine wpAny_pure ?_
  exact wpAny_pure hq
theorem o8{e:Value}(I:L2.Inv X pins σ H s):L2.Inv { X with A:=X.A.mark (some e),calm:=false,xe:=fun _ _=>False } pins σ H s :=
  ⟨⟨I.ok.mod,I.ok.kind,I.ok.glob,I.ok.blt,I.ok.above,I.ok.inj,I.ok.has,I.ok.cab,(fun z=>nomatch z),I.ok.frames,I.ok.stk,I.ok.exf,I.ok.bs,I.ok.bsz,I.ok.noex,I.ok.exfs,I.ok.funs,I.ok.frf⟩,I.os,I.bare,I.base,I.loc,I.cell,I.free,I.freeC,I.pin,I.hok,I.len⟩
theorem xL{e:Value}(I0:L2.Inv X pins σ H s){σ1:St}{H1:Hp}{s1:Shared}(I:L2.Inv { X with A:=X.A.mark (some e),calm:=false,xe:=fun _ _=>False } pins σ1 H1 s1):L2.Inv X pins σ1 H1 s1 :=
  ⟨I0.ok,I.os,I.bare,I.base,I.loc,I.cell,I.free,I.freeC,I.pin,I.hok,I.len⟩
theorem xM{E:XK}{e:Value}{s':Shared}{D:Ends}{E0:Value->Shared->Prop}{cn n:Str}{c j:Nat}{pc pn pa ph pf:Pos}(xt:bp X.K=true)(hN:X.N.Nodup)(hc:X.N[c]?=some cn)(hj:X.N[j]?=some n)(hcj:c ≠ j)(lc:X.env.scope.names.lookup cn=some .local)(lj:X.env.scope.names.lookup n=some .local)(kj:X.env.kindOf n=some .local)(hg:Gl X "FareError")(hst:X.stack=X.env::X.outer)(hfr:X.env.frame=some X.env.locals)(hex:X.ex=[])(hdb:(n == ("__debug__" : Str))=false)(hcd:(n == ("__classdict__" : Str))=false)(hsw:swapsWith (.Name n pn) (some (.Name cn pc)) pa.line X.env=pure false)(hF:Fl X pins σ E e s')(hD:∀ x C H2,H2 x=some (bK x C)->E (.ref x) (some C) H2->(∃ nm ∈ XS,PySem.W.nsIn X.K mainGlobals nm=some (some (.ref C)))/\D.nx ((σ.set j none).set c (some (.ref x))) H2):
    wpAny (model X.prog X.w) X.A (noteFrame e X.env) (fun _ s2=>wpAny (model X.prog X.w) X.A (setFlight e none) (fun _ s3 =>
      wpAny (model X.prog X.w) X.A (handleBy e X.env [.ExceptHandler (some (.Name "FareError" pf)) (some n) [.Assign [.Name cn pc] (.Name n pn) pa] ph]) (SP X pins D) E0 s3) E0 s2) E0 s':=by
  obtain⟨H1,s1,I,x,C,H2,B,a0,rfl,os,bare,un,hok,hfl,c1,c2,hx,hE1⟩:=hF
  obtain⟨hh,g,d,t,os'⟩:=s'
  obtain rfl:os'=s1.os:=os
  have I2:L2.Inv X pins σ H2 { s1 with heap:=hh,gens:=g,drawn:=d,toks:=t }:=I.call (h':=hh) (g':=g) (d':=d) (t':=t) (ch:=[]) un hok bare (fun b z=>absurd z (by simp))
  obtain⟨⟨nm,hnm,hns⟩,hnx⟩:=hD x C H2 hx hE1
  obtain⟨B0,XB,hall⟩:=ft xt
  obtain⟨C',hns',O,hmro,_⟩:=hall nm hnm
  rw[hns] at hns'
  obtain rfl:C=C':=by cases hns';rfl
  have hmB:X.mg "FareError" = some (.ref B0):=PySem.W.mg_of I.ok.mod.kin I.ok.mod.glob XB.ns
  have hfl':Heap.FlyingW B (X.env::X.outer) x (.ref C) a0 hh:=by rw[<- hst];exact hfl
  have c2':∀ b o,X.s₀.heap.get? b=some o->b ∉ frs X.outer->B.get? b ≠ none:=fun b o e hb=>by
    obtain⟨o',q⟩:=I.base.there b o e (by rw[hex];exact fun z=>nomatch z)
    refine c2 b o' q fun z=>?_
    rcases List.mem_cons.mp (I.stkSub b z) with e1 | e1
    · have:=I.ok.above
      rw[<- e1] at this
      exact absurd (Nat.lt_of_lt_of_le (Heap.lt_size e) this) (Nat.lt_irrefl _)
    · exact hb e1
  have c3:∀ p ∈ X.pn++pins,B.get? p.1 ≠ none:=fun p hp=>by
    obtain⟨e,_,ne,nf,_⟩:=I.pin p hp
    refine c2 p.1 p.2 e fun z=>?_
    rcases List.mem_cons.mp (I.stkSub _ z) with e1 | e1
    · exact ne e1
    · exact nf e1
  refine PySem.wpAny_looks_onW (by rw[<- hst];exact I.ok.frames) hfr hfl' fun h3 q3 u3=>?_
  refine PySem.wpAny_landsW q3 fun h4 q4 u4=>?_
  have u34:=u3.trans u4
  have I4:L2.Inv X pins σ H2 { s1 with heap:=h4,gens:=g,drawn:=d,toks:=t }:=o7 (s:={ s1 with heap:=hh,gens:=g,drawn:=d,toks:=t }) I2 hx hfl'.1 q4.1 q4.there u34 c1 c2' c3 hex
  refine wpAny_handleBy_cons (codeAny_handlers_test ?_) (fun z=>nomatch z)
  refine er (o8 (e:=.ref x) I4) hg hmB ?_
  refine xK I4.kIn XB hmro q4.there ?_
  refine codeAny_handlers_suite_as ?_
  refine lands_againW q4 fun h5 q5 u5=>?_
  have I5:L2.Inv X pins σ H2 { s1 with heap:=h5,gens:=g,drawn:=d,toks:=t }:=o7 (s:={ s1 with heap:=h4,gens:=g,drawn:=d,toks:=t }) I4 hx q4.1 q5.1 q5.there u5 c1 c2' c3 hex
  refine gK I5 hN hj (.inl lj) (v:=.ref x) rfl (fun s6 I6=>?_) (.inr lj)
  have hj':j < σ.length:=by rw[I5.len];exact (List.getElem?_eq_some_iff.mp hj).1
  have P:=gL (lB (X:={ X with A:=X.A.mark (some (.ref x)),calm:=false,xe:=fun _ _=>False }) hN hc (.inl lc) (iO (pos:=pn) hj (.inl lj) hdb hcd) hsw (.inr lc)) pins s6 _ H2 ⟨fun σ7 H7=>σ7=(σ.set j (some (.ref x))).set c (some (.ref x))/\H7=H2,fun _ _=>False,fun _ _=>False,fun _ _=>False⟩ (o8 (e:=.ref x) I6) ⟨.ref x,List.getElem?_set_self hj',rfl,rfl⟩
  refine wpAny_mono P (fun f s7 h7=>?_) fun _ _ z=>False.elim z
  cases f with
  | brk=>obtain⟨_,_,_,z⟩:=h7;exact z.elim
  | cont=>obtain⟨_,_,_,z⟩:=h7;exact z.elim
  | ret v=>obtain⟨_,_,_,_,_,z⟩:=h7;exact z.elim
  | next =>
    obtain⟨σ7,H7,I7,rfl,rfl⟩:=h7
    have I7:=xL I6 I7
    obtain⟨m,hn,_⟩:=id I7.loc
    refine wpAny_nameGoes_keeps kj hn (by rw[I.ok.kind];rfl) fun h8 v hn8 hs8=>?_
    have I8:=xJ (t':=s7.toks+1) I7 hN hj hn hn8 hs8
    refine⟨_,_,I8,?_⟩
    rw[List.set_comm _ _ hcj,List.set_set]
    exact hnx
end
section
variable {X:Cx} {a:Expr} {te:NEX} {pos p2 pc pn pa ph pf p3:Pos} {x cn n:Str}
theorem EnvN.gone{K:PySem.W.Frag}{P:Hp}{m:Nat}{σ:St}{ρ:ae}{H:Hp}{M:Sto}(h:EnvN K P m σ ρ H M){j:Nat}:EnvN K P m (σ.set j none) (ρ.set j none) H M :=
  ⟨⟨fun k e q=>by
    by_cases e1:k=j
    · subst e1
      have hl:k < ρ.length:=by have:=(List.getElem?_eq_some_iff.mp q).1;simpa using this
      rw[List.getElem?_set_self hl] at q
      cases q
    · rw[List.getElem?_set_ne (Ne.symm e1)] at q
      obtain⟨v',h1,h2⟩:=h.q.env k e q
      exact⟨v',by rw[List.getElem?_set_ne (Ne.symm e1)];exact h1,h2⟩,h.q.ok⟩,h.same,by rw[List.length_set];exact h.lσ,by rw[List.length_set];exact h.lρ⟩
theorem xN{K:PySem.W.Frag}{P:Hp}{m:Nat}{σ:St}{ρ:ae}{H H2:Hp}{M:Sto}{Ew:EndN}{De:Ends}{c j:Nat}{y C:Addr}(hE:EnvN K P m σ ρ H M)(hl:LeE Ew (dj K P m De))(hy:H2 y=some (bK y C))(h:EXK K (PH H M) (fun x M1=>∀ a,M1 a=none->Ew.nx ((ρ.set j none).set c (some (.ptr a))) (aX M1 a (.exn a x))) (.ref y) (some C) H2):
    (∃ nm ∈ XS,PySem.W.nsIn K mainGlobals nm=some (some (.ref C)))/\De.nx ((σ.set j none).set c (some (.ref y))) H2:=by
  obtain⟨b,nm,M1,C1,e1,e2,hns,hxs,hex,hsame,hok⟩:=h
  obtain rfl:y=b:=by cases e1;rfl
  obtain rfl:C=C1:=by cases e2;rfl
  refine⟨⟨nm,hxs,hns⟩,?_⟩
  obtain⟨s1,ok1⟩:=jV (c:=.exn y nm) hok o3 xw hy ⟨C,rfl,hns⟩
  exact hl.nx _ _ (hex y (hok.fresh o3)) _ _ (((hE.next ⟨hsame.trans s1,ok1⟩).gone (j:=j)).set (.ptr y))
end
section
variable {X:Cx} {a b:Expr} {ta tb tv:NTE} {tas:NTA} {pos pos2 p p2 p3:Pos} {x y f:Str} {ns:List Str} {k:Nat}
theorem o9{K:PySem.W.Frag}{H:Hp}{M:Sto}{q:Addr}{nm:Str}(h:MOk K H M)(ha:M q=some (.exn q nm)):∃ C,H q=some (bK q C)/\PySem.W.nsIn K mainGlobals nm=some (some (.ref C)):=by
  obtain⟨o,h1,h2⟩:=h q _ ha
  cases o with
  | ext φ=>obtain⟨C,rfl,hn⟩:=h2;exact⟨C,h1,hn⟩
  | _=>exact h2.elim
theorem oa{P:Program}{w:World}{H:Hp}{h:Heap}{q C:Addr}(hok:HOk P w H h)(e:H q=some (bK q C)):∃ o,h.get? q=some o/\o.cls=.ref C:=(hok q _ e).1
theorem xO(xt:bp X.K=true):CallR X (.builtin "isinstance") (fun xs H Q=>∃ q C D nm y,xs=[.ref q,.ref D]/\H q=some (bK q C)/\nm ∈ XS/\y ∈ XS/\PySem.W.nsIn X.K mainGlobals nm=some (some (.ref C))/\PySem.W.nsIn X.K mainGlobals y=some (some (.ref D))/\Q (.bl (decide (nm=y))) H):=by
  intro pins s σ H xs us Q I r h
  obtain⟨q,C,D,nm,y,rfl,hq,hnm,hy,n1,n2,hQ⟩:=h
  obtain⟨u,w,rfl,ru,rw'⟩:=gO r
  cases ru;cases rw'
  have th:=oa I.hok hq
  obtain⟨B,XB,hall⟩:=ft xt
  obtain⟨C',m1,O,_,h2⟩:=hall nm hnm
  rw[n1] at m1
  obtain rfl:C=C':=by cases m1;rfl
  obtain⟨D',m2,hm,hne⟩:=h2 y hy
  rw[n2] at m2
  obtain rfl:D=D':=by cases m2;rfl
  obtain⟨D',m3,OD,_,_⟩:=hall y hy
  rw[n2] at m3
  obtain rfl:D=D':=by cases m3;rfl
  by_cases e:nm=y
  · subst e
    rw[n1] at n2
    obtain rfl:C=D:=by cases n2;rfl
    refine xv I.kIn th ⟨.bl _,H,I,?_,hQ⟩
    rw[decide_eq_true rfl];rfl
  · rw[decide_eq_false e] at hm hQ
    exact xr I.kIn O OD th (hne e) hm ⟨.bl false,H,I.tok _,rfl,hQ⟩
theorem xP(xt:bp X.K=true):CallR X (.builtin "isinstance") (fun xs H Q=>∃ q C nm,xs=[.ref q,.ty "ValueError"]/\H q=some (bK q C)/\nm ∈ XS/\PySem.W.nsIn X.K mainGlobals nm=some (some (.ref C))/\Q (.bl true) H):=by
  intro pins s σ H xs us Q I r h
  obtain⟨q,C,nm,rfl,hq,hnm,n1,hQ⟩:=h
  obtain⟨u,w,rfl,ru,rw'⟩:=gO r
  cases ru;cases rw'
  obtain⟨B,XB,hall⟩:=ft xt
  obtain⟨C',m1,O,_,h2⟩:=hall nm hnm
  rw[n1] at m1
  obtain rfl:C=C':=by cases m1;rfl
  exact xu I.kIn O (oa I.hok hq) ⟨.bl true,H,I,rfl,hQ⟩
theorem xQ(xt:bp X.K=true)(mi:X.mg "isinstance" = none)(ha:NE X a ta)(hy:y ∈ XS:=by decide +kernel)(hg:Gl X "isinstance":=by rfl)(hgT:Gl X y:=by rfl)(hd:(y == ("__debug__" : Str))=false:=by decide)(hs:starEach [a,.Name y p2] X.env=(false,eval a X.env)::starEach [.Name y p2] X.env:=by rfl)(hs2:starEach [.Name y p2] X.env=(false,eval (.Name y p2) X.env)::starEach [] X.env:=by rfl)(hpl:(backTo pos (starEach [.Name y p2] X.env)).any (·.1)=false:=by rfl):
    NE X (.Call (.Name "isinstance" p) [a,.Name y p2] [] pos) (bQ y ta):=by
  intro pins s σ H Q I ⟨ρ,M,QW,hE,ht,hQ⟩
  obtain⟨B,XB,hall⟩:=ft xt
  obtain⟨D,n2,_⟩:=hall y hy
  have hm:X.mg y=some (.ref D):=PySem.W.mg_of I.ok.mod.kin I.ok.mod.glob n2
  refine fP (xO xt) hg mi (by decide +kernel) (bB ha (bB (iP (v:=.ref D) hgT hm rfl hd) bT hs2) hs) (by decide) (by decide) hs hpl pins s σ H Q I ⟨ρ,M,_,hE,ht,fun d M1 ⟨q,nm,ed,hc,hnm,h1⟩ v H1 p1=>?_⟩
  subst ed
  cases p1.rep
  obtain⟨C,g1,g2⟩:=o9 p1.ok hc
  exact⟨q,C,D,nm,y,rfl,g1,hnm,hy,g2,n2,hQ _ M1 h1 _ H1 ⟨p1.toPostT,.bl _⟩⟩
theorem xR(xt:bp X.K=true)(mi:X.mg "isinstance" = none)(mv:X.mg "ValueError" = none)(ha:NE X a ta)(hg:Gl X "isinstance":=by rfl)(hgT:Gl X "ValueError":=by rfl)(hs:starEach [a,.Name "ValueError" p2] X.env=(false,eval a X.env)::starEach [.Name "ValueError" p2] X.env:=by rfl)(hs2:starEach [.Name "ValueError" p2] X.env=(false,eval (.Name "ValueError" p2) X.env)::starEach [] X.env:=by rfl)(hpl:(backTo pos (starEach [.Name "ValueError" p2] X.env)).any (·.1)=false:=by rfl):
    NE X (.Call (.Name "isinstance" p) [a,.Name "ValueError" p2] [] pos) (iu ta) :=
  aE (fP (xP xt) hg mi (by decide +kernel) (bB ha (bB (iQ (v:=.ty "ValueError") hgT mv (by decide +kernel) rfl (by decide) (by decide)) bT hs2) hs) (by decide) (by decide) hs hpl) fun σ H Q ⟨ρ,M,QW,hE,ht,hQ⟩=>⟨ρ,M,_,hE,ht,fun d M1 ⟨q,nm,ed,hc,hnm,h1⟩ v H1 p1=>by
    subst ed
    cases p1.rep
    obtain⟨C,g1,g2⟩:=o9 p1.ok hc
    exact⟨q,C,nm,rfl,g1,hnm,g2,hQ _ M1 h1 _ H1 ⟨p1.toPostT,.bl _⟩⟩⟩
theorem xS(K:PySem.W.Frag):OpV K mH cg:=by
  intro x y H dx dy d Q rx ry hg hQ
  cases dx with
  | lst ds =>
    cases dy with
    | lst es' =>
      obtain⟨hl,rfl⟩:=b6 hg
      obtain⟨p,xs,rfl,hp,hx,hA⟩:=eM rx
      obtain⟨p',ys,rfl,hp',hy,hA'⟩:=eM ry
      refine⟨p,p',xs,ys,rfl,rfl,hp,hp',by rw[hx.length,hy.length];exact bN hl,fun r hr=>hQ _ _ (bC hr _) (.lst (.inl ba) (aK (bC hr _) (hx.append hy))) fun A hD r1 r2=>?_⟩
      have na:¬ A r:=fun z=>hD r z hr
      refine .lst (.inl (by rw[b7 na];exact ba)) (aK (cb (bC hr _) fun _ z=>z) ((mM hp r1).append (mM hp' r2)))
    | _=>cases hg
  | _=>cases hg
theorem xT(ha:NE X a ta)(hb:NE X b tb):NE X (.BinOp a .Add b pos) (n2 cg ta tb):=iy mI (xS X.K) ha hb
theorem xU(mi:X.mg "int" = none)(ha:NA X [a] tas)(hg:Gl X "int":=by rfl)(he:starEach [a] X.env=(false,eval a X.env)::starEach [] X.env:=by rfl)(hpl:(backTo pos (starEach [] X.env)).any (·.1)=false:=by rfl):
    NE X (.Call (.Name "int" p) [a] [] pos) (fk (aA ib) tas) :=
  aE (gQ rg hg mi (by decide +kernel) ha (by decide) (by decide) he hpl) fun σ H Q ⟨ρ,M,QW,hE,ht,hQ⟩=>⟨ρ,M,_,hE,ht,fun ds M1 ⟨d,hf,_,h1⟩ vs H1 p=>by
    obtain⟨x,ex,hg1⟩:=eP hf
    have rr:=iz p.ok p.rep
    rw[ex] at rr
    obtain⟨v,rfl,r1⟩:=dH rr
    cases r1 <;> first | (cases hg1;done) | skip
    · cases hg1
      exact .inr ⟨_,rfl,hQ _ M1 h1 _ H1 ⟨p.toPostT,.int _⟩⟩
    · cases hg1
      exact .inl ⟨_,rfl,hQ _ M1 h1 _ H1 ⟨p.toPostT,.int _⟩⟩⟩
end
end VL
namespace VL
open PySem PySem.Spec PyProof.Rows L2
structure YE (X:Cx) (e:Expr) (t:NTE):Prop where
  h:NE X e t
structure YT (X:Cx) (e:Expr) (t:NTB):Prop where
  h:NT X e t
structure YW (X:Cx) (e:Expr) (t:NTB):Prop where
  h:NW X e t
structure YA (X:Cx) (e:List Expr) (t:NTA):Prop where
  h:NA X e t
structure YS (X:Cx) (st:Stmt) (t:NTS):Prop where
  h:NS X st t
structure YSs (X:Cx) (st:List Stmt) (t:NTS):Prop where
  h:NSs X st t
structure YX (X:Cx) (e:Expr) (t:NEX):Prop where
  h:NX X e t
structure YM (X:Cx) (P:Hp) (EX:QX) (st:Stmt) (t:NTS):Prop where
  h:MS X P EX st t
structure YMs (X:Cx) (P:Hp) (EX:QX) (st:List Stmt) (t:NTS):Prop where
  h:MSs X P EX st t
structure YP (X:Cx) (pos:Pos) (keys:List (Option Expr)) (vals:List Expr) (ns:List Str) (as:FEs) (es:List Es):Prop where
  h:PPV X pos keys vals ns as es
section
variable {X:Cx} {a b c:Expr} {ta tb tc:NTE} {pos p2:Pos} {es:List Es} {fa fb:FE}
theorem ag(h:JE X a fa es):YE X a (nP fa):=⟨we h.h⟩
theorem d2{f:ae->Option Bool}(h:JT X a f):YT X a (nPB f):=⟨wf h.h⟩
theorem kf(ha:YE X a ta)(hb:YE X b tb):YE X (.BinOp a .Add b pos) (n2 bH ta tb):=⟨wg ha.h hb.h⟩
theorem xV(ha:YE X a ta)(hb:YE X b tb):YE X (.BinOp a .Mult b pos) (n2 d9 ta tb):=⟨wj ha.h hb.h⟩
theorem iC{k:Nat}(hr:Room k X.A)(ha:YE X a ta)(hb:YE X b tb):YE X (.Compare a [.Eq] [b] pos) (n2 eqD ta tb):=⟨ne_eq hr ha.h hb.h⟩
theorem xW{k:Nat}(hr:Room k X.A)(ha:YE X a ta)(hb:YE X b tb):YT X (.Compare a [.Eq] [b] pos) (cj (n2 eqD ta tb)):=⟨wm hr ha.h hb.h⟩
theorem xX{k:Nat}(hr:Room k X.A)(ha:YE X a ta)(hb:YE X b tb):YT X (.Compare a [.NotEq] [b] pos) (cj (n2 neD ta tb)):=⟨wn hr ha.h hb.h⟩
variable {ka kb:NTB} {ai:List Expr}
theorem gk(h:YE X a ta)(he:∀ whole,isTrue a X.env whole=(do let v <- whole;standAt a.pos;holding [v] (truthy v)):=by intro _;rfl):YT X a (dh ta):=⟨wo h.h he⟩
theorem oe(ha:YT X a ka):YW X (.BoolOp .Or [a] pos) ka:=⟨wp ha.h⟩
theorem og(ha:YT X a ka)(hb:YW X (.BoolOp .Or (b::ai) pos) kb):YW X (.BoolOp .Or (a::b::ai) pos) (nOr ka kb):=⟨wq ha.h hb.h⟩
theorem oh(h:YW X a ka):YT X a ka:=⟨wt h.h⟩
theorem gm(ha:YT X a ka):YT X (.UnaryOp .Not a pos) (di ka):=⟨wu ha.h⟩
theorem kg{op}(h:YE X a ta):YE X (.BoolOp op [a] pos) ta:=⟨wv h.h⟩
theorem fu(ha:YE X a ta)(hb:YE X (.BoolOp .And (b::ai) pos) tb):YE X (.BoolOp .And (a::b::ai) pos) (cY ta tb):=⟨ww ha.h hb.h⟩
theorem xY(ha:YE X a ta):YE X (.UnaryOp .Not a pos) (n1 (fun d=>match d with | .bl k=>some (.bl (!k)) | _=>none) ta):=⟨wx ha.h⟩
variable {xs:List Expr} {tas:NTA}
theorem aP: YA X [] aL:=⟨wy ⟩
theorem aw(ha:YE X a ta)(hr:YA X xs tas)(hs:starEach (a::xs) X.env=(false,eval a X.env)::starEach xs X.env:=by rfl):YA X (a::xs) (aq ta tas):=⟨wz ha.h hr.h hs⟩
theorem iD(h:YA X xs tas):YE X (.List xs pos) (dP tas):=⟨wA h.h⟩
theorem xZ(h:JF X a fa es):YE X a (im fa):=⟨wC h.h⟩
theorem cm(ha:YE X a ta)(hb:YE X b tb)(hs:dF b):YE X (.Subscript a b pos) (n2 ixD ta tb):=⟨wD ha.h hb.h hs⟩
theorem iE{k i:Nat}{ns:List Str}{x:Str}{j}(hr:Room k X.A)(ha:YE X a ta)(hs:gX (.Constant (.str x) j p2))(hn:ns.Nodup:=by decide +kernel)(hi:ns[i]?=some x:=by rfl):YE X (.Subscript a (.Constant (.str x) j p2) pos) (nDg ns i ta):=⟨wE hr ha.h hs hn hi⟩
end
section
variable {X:Cx} {a b c:Expr} {ta tb tc:NTE} {tas:NTA} {pos p p2 ap:Pos} {k:Nat} {ps:List Str} {x m:Str} {es:List Expr} {T:NTF} {G:List D->Option D} {fr:Bool} {C:Addr} {ns:List Str}
theorem bf(d:DefN X.prog X.w X.K X.mg X.base x k ps T)(hr:Room k X.A)(ha:YA X (a::es) tas)(hg:Gl X x:=by rfl)(hdb:(x == ("__debug__" : Str))=false:=by decide)(he:starEach (a::es) X.env=(false,eval a X.env)::starEach es X.env:=by rfl)(hpl:(backTo pos (starEach es X.env)).any (·.1)=false:=by rfl):YE X (.Call (.Name x p) (a::es) [] pos) (aZ T tas):=⟨wF d hr ha.h hg hdb he hpl⟩
end
section
variable {X:Cx} {a b c:Expr} {ta tb tc tv:NTE} {tas:NTA} {ka:NTB} {pos p p2 p3 ap cp:Pos} {k:Nat} {st:Stmt} {ai body bs:List Stmt} {t u:NTS} {C:Addr} {ns:List Str} {x f:Str} {i:Nat}
theorem cE: YSs X [] sN:=⟨wG ⟩
theorem aD(h1:YS X st t)(h2:YSs X ai u):YSs X (st::ai) (ay t u):=⟨wH h1.h h2.h⟩
theorem b8(h1:YS X st t):YSs X [st] t:=⟨wI h1.h⟩
theorem cF(hc:YT X c ka)(ha:YSs X body t)(hb:YSs X bs u):YS X (.If c body bs pos) (bd ka t u):=⟨wJ hc.h ha.h hb.h⟩
theorem b9(he:YE X a ta):YS X (.Return (some a) pos) (aY ta):=⟨wK he.h⟩
theorem aS(i:Nat)(hN:X.N.Nodup)(he:YE X a ta)(hi:X.N[i]?=some x:=by rfl)(hx:Loc X.env.scope x:=by first | exact Or.inl rfl | exact Or.inr rfl)(hs:swapsWith a (some (.Name x p2)) pos.line X.env=pure false:=by rfl)(hfn:X.fn x=true\/X.env.scope.names.lookup x=some .local:=by first | exact .inl rfl | exact .inr rfl):YS X (.Assign [.Name x p2] a pos) (aM i ta):=⟨wL i hN he.h hi hx hs hfn⟩
theorem kh{j}(hr:Room k X.A)(ha:YE X a ta)(hv:YE X b tv)(hn:ns.Nodup:=by decide +kernel)(hi:ns[i]?=some f:=by rfl)(hlt:ns.length < 1000:=by decide)(hs:swapsWith b (some (.Subscript a (.Constant (.str f) j p3) p2)) pos.line X.env=pure false:=by rfl):YS X (.Assign [.Subscript a (.Constant (.str f) j p3) p2] b pos) (fm ns i ta tv):=⟨wN hr ha.h hv.h hn hi hlt hs⟩
end
section
variable {X:Cx} {a b c e:Expr} {ta tb tc tv ti:NTE} {tas:NTA} {ka:NTB} {pos p p2 p3 ap cp pr pn:Pos} {k:Nat} {st:Stmt} {ai body bs:List Stmt} {t u tbd:NTS} {C:Addr} {ns:List Str} {x f:Str} {i:Nat}
theorem yb(ha:YE X a ta)(he:YE X e tv)(hbase:attributeBase a "append" X.env (eval a X.env)=eval a X.env:=by rfl)(hfew:((backTo cp (starEach [e] X.env)).all (fun x=>!x.1) && (backToKw cp (keywordEach [] X.env)).all (fun x=>x.1.isSome)
      && decide (([e]:List Expr).length+([]:List Keyword).length+(if ([]:List Keyword).isEmpty then 0 else 1) < 30))=true:=by rfl)(hline:(ap.endLine == cp.line)=true:=by rfl)(hs:starEach [e] X.env=(false,eval e X.env)::starEach [] X.env:=by rfl)(hplain:(backTo cp (starEach [] X.env)).any (·.1)=false:=by rfl)(hsw:swapsWith (.Call (.Attribute a "append" ap) [e] [] cp) none pos.line X.env=pure false:=by rfl):YS X (.Expr (.Call (.Attribute a "append" ap) [e] [] cp) pos) (io ta tv):=⟨wO ha.h he.h hbase hfew hline hs hplain hsw⟩
theorem yc(t:Nat)(hN:X.N.Nodup)(hc:X.calm=true)(hi:YE X a ta)(hb:YSs X body tbd)(hp:PassesOwn (model X.prog X.w) X.A X.env X.xe:=by exact PassesOwn.never)(hxN:X.N[t]?=some x:=by rfl)(hx:Loc X.env.scope x:=by first | exact Or.inl rfl | exact Or.inr rfl)(hfn:X.fn x=true\/X.env.scope.names.lookup x=some .local:=by first | exact .inl rfl | exact .inr rfl)(hs:∀ x,foldedSetIterable a X.env x=pure x:=by intro _;rfl):YS X (.For (.Name x p2) a body [] pos) (ip t ta tbd):=⟨wQ t hN hc hi.h hb.h hp hxN hx hfn hs⟩
end
section
variable {X:Cx} {a:Expr} {pos p2:Pos} {keys:List (Option Expr)} {vals:List Expr} {ns:List Str} {as:FEs} {ea eb:List Es} {fa:FE} {x:Str}
theorem oi: YP X pos [] [] [] aB []:=⟨wT ⟩
theorem fv{j}(ha:JE X a fa ea)(hr:YP X pos keys vals ns as eb):YP X pos (some (.Constant (.str x) j p2)::keys) (a::vals) (x::ns) (aj fa as) (ea++eb):=⟨wU ha.h hr.h⟩
theorem oj(h:YP X pos keys vals ns as ea)(hn:ns.Nodup:=by decide +kernel)(hall:keys.all (·.isSome)=true:=by rfl)(hl:keys.length=vals.length:=by rfl)(h0:keys ≠ []:=by simp)(h15:keys.length<=15:=by decide):YE X (.Dict keys vals pos) (gf ns as):=⟨wV h.h hn hall hl h0 h15⟩
end
section
variable {X:Cx} {elt tg iter a:Expr} {ifs:List Expr} {scope:Scope} {own cn:List Str} {caps:List Nat} {wi:TI} {g:TG} {tt:TT} {te:TE} {pos spos p2 pr pn:Pos} {tas:NTA} {tel:NTE} {x y:Str}
theorem yd(B:BlkOk X scope [y] caps cn)(hc:X.calm=true)(mr:X.mg "range" = none)(hi:YA X [a] tas)(hg:∀ s H cl ex,PG (blk X ([y]++cn) s H scope cl ex) tg (bD 0))(he:∀ s H cl ex,YE (blk X ([y]++cn) s H scope cl ex) elt tel)(hgr:Gl X "range":=by rfl)(hst:starEach [a] X.env=[(false,eval a X.env)]:=by rfl)(hs:∀ x,foldedSetIterable (.Call (.Name "range" pn) [a] [] pr) X.env x=pure x:=by intro _;rfl):YE X (.ListComp elt [⟨tg,.Call (.Name "range" pn) [a] [] pr,[],0⟩] scope pos) (gg caps tas tel):=⟨wZ B hc mr hi.h hg (fun s H cl ex=>(he s H cl ex).h) hgr hst hs⟩
end
section
variable {X:Cx} {a b:Expr} {tas:NTA} {pos p:Pos}
end
section
variable {X:Cx} {a b c:Expr} {ta tb tc:NTE} {tas:NTA} {pos p p2 ap cp:Pos} {k:Nat} {ps:List Str} {x m:Str} {es:List Expr} {T:NTF} {G:List D->Option D} {fr:Bool} {C:Addr} {ns:List Str} {fa:FE} {ea:List Es}
theorem ye(ml:X.mg "list" = none)(ha:YE X a ta)(hg:Gl X "list":=by rfl)(he:starEach [a] X.env=(false,eval a X.env)::starEach [] X.env:=by rfl)(hpl:(backTo pos (starEach [] X.env)).any (·.1)=false:=by rfl):YE X (.Call (.Name "list" p) [a] [] pos) (iq ta):=⟨xb ml ha.h hg he hpl⟩
end
section
variable {X:Cx} {elt tg iter a:Expr} {scope:Scope} {cn:List Str} {caps:List Nat} {pos spos p2 pr pn:Pos} {tit tel:NTE} {x y:Str}
end
section
variable {X:Cx} {a b c e:Expr} {ta tb tc tv ti:NTE} {tas:NTA} {pos p p2 p3 ap cp pr pn:Pos} {st:Stmt} {ai body bs:List Stmt} {t u tbd:NTS} {x f:Str} {i:Nat}
end
section
variable {X:Cx} {a b c e:Expr} {ta tb tit tel:NTE} {pos p p2 p3 spos:Pos} {x y:Str} {i k:Nat} {scope:Scope} {cn:List Str} {caps:List Nat} {elt tg iter:Expr}
end
section
variable {X:Cx} {o e f a:Expr} {apos cpos pos tp p2:Pos} {td ty tx:TE} {ta tv:NTE} {tas:NTA} {x1:Nat} {es:List Expr} {k:Nat} {ai:List Stmt} {t:NTS} {body:List Stmt} {tbd:NTS}
end
section
variable {X:Cx} {o e f a b kx:Expr} {apos cpos pos tp p2 p3:Pos} {td ty tx:TE} {ta tk tv:NTE} {fa fb:FE} {ea eb:List Es} {tas:NTA} {x1:Nat} {es:List Expr} {k:Nat} {ai:List Stmt} {t:NTS} {body:List Stmt} {tbd:NTS} {x:Str}
end
section
variable {X:Cx} {P:Hp} {EX:QX} {st:Stmt} {ai body bs:List Stmt} {t u:NTS} {c:Expr} {ka:NTB} {pos np cpos p2:Pos} {x:Str}
theorem iF(h:YS X.nox st t):YM X P EX st t:=⟨xz h.h⟩
theorem ki: YMs X P EX [] sN:=⟨xA ⟩
theorem iG(h1:YM X P EX st t)(h2:YMs X P EX ai u):YMs X P EX (st::ai) (ay t u):=⟨xB h1.h h2.h⟩
theorem fw(h1:YM X P EX st t):YMs X P EX [st] t:=⟨xC h1.h⟩
theorem kl(hc:YT X.nox c ka)(ha:YMs X P EX body t)(hb:YMs X P EX bs u):YM X P EX (.If c body bs pos) (bd ka t u):=⟨xD hc.h ha.h hb.h⟩
theorem yf{m:Str}{j}(xt:bp X.K=true)(ho:OutX X P EX)(hc:X.calm=true:=by rfl)(hg:Gl X x:=by rfl)(hd:(x == ("__debug__" : Str))=false:=by decide)(he:starEach [.Constant (.str m) j p2] X.env=(false,eval (.Constant (.str m) j p2) X.env)::starEach [] X.env:=by rfl)(hpl:(backTo cpos (starEach [.Constant (.str m) j p2] X.env)).any (·.1)=false:=by rfl):YM X P EX (.Raise (some (.Call (.Name x np) [.Constant (.str m) j p2] [] cpos)) none pos) (ir x):=⟨xE xt ho hc hg hd he hpl⟩
end
section
variable {P:Program} {w:World} {K:PySem.W.Frag} {mg:Str->Option Value} {base:Heap} {x m:Str} {C:Addr} {j k:Nat} {ps:List Str} {T:NTX}
end
section
variable {X:Cx} {a b:Expr} {ta tb:NTE} {tas:NTA} {pos p ap:Pos} {k:Nat} {ps:List Str} {x m:Str} {es:List Expr} {T:NTX} {C:Addr} {ns:List Str}
theorem km(d:DefE X.prog X.w X.K X.mg X.base x k ps T)(hr:Room k X.A)(ha:YA X.nox (a::es) tas)(hg:Gl X x:=by rfl)(hdb:(x == ("__debug__" : Str))=false:=by decide)(he:starEach (a::es) X.env=(false,eval a X.env)::starEach es X.env:=by rfl)(hpl:(backTo pos (starEach es X.env)).any (·.1)=false:=by rfl):YX X (.Call (.Name x p) (a::es) [] pos) (fo T tas):=⟨xH d hr ha.h hg hdb he hpl⟩
end
section
variable {X:Cx} {P:Hp} {EX:QX} {a:Expr} {te:NEX} {pos p2:Pos} {x:Str} {i:Nat}
end
section
variable {X:Cx} {pins:List (Addr × Obj)} {σ:St} {H:Hp} {s:Shared} {x C:Addr}
end
section
variable {X:Cx} {a:Expr} {te:NEX} {pos p2 pc pn pa ph pf p3:Pos} {x cn n:Str}
end
section
variable {X:Cx} {a b:Expr} {ta tb tv:NTE} {tas:NTA} {pos pos2 p p2 p3:Pos} {x y f:Str} {ns:List Str} {k:Nat}
theorem cG(xt:bp X.K=true)(mi:X.mg "isinstance" = none)(ha:YE X a ta)(hy:y ∈ XS:=by decide +kernel)(hg:Gl X "isinstance":=by rfl)(hgT:Gl X y:=by rfl)(hd:(y == ("__debug__" : Str))=false:=by decide)(hs:starEach [a,.Name y p2] X.env=(false,eval a X.env)::starEach [.Name y p2] X.env:=by rfl)(hs2:starEach [.Name y p2] X.env=(false,eval (.Name y p2) X.env)::starEach [] X.env:=by rfl)(hpl:(backTo pos (starEach [.Name y p2] X.env)).any (·.1)=false:=by rfl):YE X (.Call (.Name "isinstance" p) [a,.Name y p2] [] pos) (bQ y ta):=⟨xQ xt mi ha.h hy hg hgT hd hs hs2 hpl⟩
theorem yg(xt:bp X.K=true)(mi:X.mg "isinstance" = none)(mv:X.mg "ValueError" = none)(ha:YE X a ta)(hg:Gl X "isinstance":=by rfl)(hgT:Gl X "ValueError":=by rfl)(hs:starEach [a,.Name "ValueError" p2] X.env=(false,eval a X.env)::starEach [.Name "ValueError" p2] X.env:=by rfl)(hs2:starEach [.Name "ValueError" p2] X.env=(false,eval (.Name "ValueError" p2) X.env)::starEach [] X.env:=by rfl)(hpl:(backTo pos (starEach [.Name "ValueError" p2] X.env)).any (·.1)=false:=by rfl):YE X (.Call (.Name "isinstance" p) [a,.Name "ValueError" p2] [] pos) (iu ta):=⟨xR xt mi mv ha.h hg hgT hs hs2 hpl⟩
theorem ol(ha:YE X a ta)(hb:YE X b tb):YE X (.BinOp a .Add b pos) (n2 cg ta tb):=⟨xT ha.h hb.h⟩
theorem yh(mi:X.mg "int" = none)(ha:YA X [a] tas)(hg:Gl X "int":=by rfl)(he:starEach [a] X.env=(false,eval a X.env)::starEach [] X.env:=by rfl)(hpl:(backTo pos (starEach [] X.env)).any (·.1)=false:=by rfl):YE X (.Call (.Name "int" p) [a] [] pos) (fk (aA ib) tas):=⟨xU mi ha.h hg he hpl⟩
end
section
variable {P:Program} {w:World} {K:PySem.W.Frag} {mg:Str->Option Value} {base:Heap} {x:Str} {k:Nat} {ps:List Str}
theorem cH{qual:Str}{st:Stmt}{f:Addr}{fd:FuncData}{N:List Str}{np n:Nat}{body:NTS}{T:NTF}(h1:ps.length=np)(h2:N.length=n)(h3:T=mkN np n body)(Fn:Fun K x qual st f fd)(S:FnScope N ps (ak st))(h:∀ (cdv:Value) (A:Around) (outer:List PySem.Env) (s:Shared) (H:Hp) (E:XK),Room k (A.deeper (envOfC qual (ak st) s.heap.objs.size f cdv)) ->
      YSs (bu CX0 P w K mg base N qual (ak st) f cdv A outer s H E).nox (aU st) body):
    FnOk P w K mg base CX0 (k+1) f fd ps (spN K T):=wR h1 h2 h3 Fn S fun cdv A outer s H E hr=>(h cdv A outer s H E hr).h
theorem kn{qual:Str}{st:Stmt}{f:Addr}{fd:FuncData}{N:List Str}{np n:Nat}{body:NTS}{T:NTX}(h1:ps.length=np)(h2:N.length=n)(h3:T=mkX np n body)(Fn:Fun K x qual st f fd)(S:FnScope N ps (ak st))(h:∀ (cdv:Value) (A:Around) (outer:List PySem.Env) (s:Shared) (H:Hp) (E:XK) (PP:Hp) (EX:QX),Room k (A.deeper (envOfC qual (ak st) s.heap.objs.size f cdv))->OutX (bu (CXN P w) P w K mg base N qual (ak st) f cdv A outer s H E) PP EX ->
      YMs (bu (CXN P w) P w K mg base N qual (ak st) f cdv A outer s H E) PP EX (aU st) body):
    FnOk P w K mg base (CXN P w) (k+1) f fd ps (spE K T):=xI h1 h2 h3 Fn S fun cdv A outer s H E PP EX hr ho=>(h cdv A outer s H E PP EX hr ho).h
end
end VL
namespace VL
open PySem (Str)
open L2 (atI ixN)
section
variable {ρ:ae} {M:Sto} {Q:QE} {QB:Bool->Sto->Prop} {QL:List D->Sto->Prop} {ta tb tv ti:NTE} {tas:NTA} {ka kb:NTB} {f:FE} {fb:ae->Option Bool} {as:FEs} {g:D->D->Option D} {g1:D->Option D} {G:List D->Option D} {T:NTF} {C i t:Nat} {ns:List Str} {E:EndN} {u v w:NTS} {is caps:List Nat}
theorem fA(h:WE f ρ fun d=>Q d M):nP f ρ M Q:=h
theorem yi(h:WB fb ρ fun b=>QB b M):nPB fb ρ M QB:=h
theorem yj(h:ta ρ M fun x M1=>tb ρ M1 fun y M2=>W2 g x y fun d=>Q d M2):n2 g ta tb ρ M Q:=h
theorem yk(h:ta ρ M fun x M1=>W1 g1 x fun d=>Q d M1):n1 g1 ta ρ M Q:=h
theorem ym(h:ta ρ M fun x M1=>kT (fun b=>QB b M1) x):cj ta ρ M QB:=h
theorem yn(h:ta ρ M fun x M1=>∃ b,tru x=some b/\QB b M1):dh ta ρ M QB:=h
theorem yo(h:ka ρ M fun b M1=>kIf b (QB true M1) (kb ρ M1 QB)):nOr ka kb ρ M QB:=h
theorem yp(h:ka ρ M fun b M1=>QB (!b) M1):di ka ρ M QB:=h
theorem yq(h:ta ρ M fun x M1=>kT (fun b=>kIf b (tb ρ M1 Q) (Q (.bl false) M1)) x):cY ta tb ρ M Q:=h
theorem yr(h:QL [] M):aL ρ M QL:=h
theorem yt(h:ta ρ M fun x M1=>tas ρ M1 fun xs M2=>QL (x::xs) M2):aq ta tas ρ M QL:=h
theorem yu(h:tas ρ M fun ds M1=>ds.length<=1000/\Q (.lst ds) M1):dP tas ρ M Q:=h
theorem yv(h:WE f ρ fun d=>∃ ds,d=.lst ds/\∀ a,M a=none->Q (.ptr a) (aX M a (.lst ds))):im f ρ M Q:=h
theorem om(h:WA as ρ fun ds=>ds.length=ns.length/\∀ a,M a=none->Q (.ptr a) (aX M a (.dic ns ds))):gf ns as ρ M Q:=h
theorem yw{a j:Nat}{ds:List D}{d:D}(hv:aa j ρ=some (.ptr a))(hm:M a=some (.dic ns ds))(hd:ds[i]?=some d)(h:Q d M):nDg ns i (nP (aa j)) ρ M Q:=⟨_,hv,a,ds,d,rfl,hm,hd,h⟩
theorem yx(h:tas ρ M fun ds M1=>T ds M1 Q):aZ T tas ρ M Q:=h
theorem yy(h:tas ρ M fun ds M1=>WF G (ds.map (vw1 M1)) fun d=>aG d=true/\Q d M1):fk G tas ρ M Q:=h
theorem bZ{np n:Nat}{ds:List D}(hl:ds.length=np)(h:u { nx:=fun _ M'=>Q .non M',rt:=Q } (ds.map some++List.replicate (n - np) none) M):mkN np n u ds M Q:=⟨hl,h⟩
theorem yz(h:E.nx ρ M):sN E ρ M:=h
theorem fB(h:u { E with nx:=fun ρ M=>v E ρ M } ρ M):ay u v E ρ M:=h
theorem yA(h:ka ρ M fun b M1=>kIf b (u E ρ M1) (v E ρ M1)):bd ka u v E ρ M:=h
theorem yB(h:ta ρ M E.rt):aY ta E ρ M:=h
theorem fC(h:ta ρ M fun d M1=>E.nx (ρ.set i (some d)) M1):aM i ta E ρ M:=h
theorem yC(h:tv ρ M fun x M1=>ta ρ M1 fun y M2=>∃ a ds,y=.ptr a/\M2 a=some (.dic ns ds)/\E.nx ρ (aX M2 a (.dic ns (ds.set i x)))):fm ns i ta tv E ρ M:=h
theorem yD(h:ta ρ M fun x M1=>∃ a ds0,x=.ptr a/\M1 a=some (.lst ds0)/\tv ρ M1 fun y M2=>∃ ds,M2 a=some (.lst ds)/\ds.length < 100000/\E.nx ρ (aX M2 a (.lst (ds++[y])))):io ta tv E ρ M:=h
theorem yE(h:tas ρ M fun ds M1=>∃ j,ds=[.int j]/\okR j/\j < 1000/\cZ 1 ta (aT 1 caps ρ) ((List.range j.toNat).map fun k=>.int (k:Nat)) [] M1 fun ds M2=>Q (.lst ds) M2):gg caps tas ta ρ M Q:=h
theorem yF(h:ta ρ M fun x M1=>∃ ds,vw1 M1 x=.lst ds/\Q (.lst ds) M1):iq ta ρ M Q:=h
theorem yG(h:ta ρ M fun d M1=>∃ ds,eU d=some ds/\cD (fun x E ρ M=>u E (ρ.set t (some x)) M) ds E ρ M1):ip t ta u E ρ M:=h
theorem yH(h:ta ρ M fun x M1=>tb ρ M1 fun y M2=>W2 g (vw3 M2 x) (vw3 M2 y) fun d=>aG d=true/\Q d M2):n2V g ta tb ρ M Q:=h
theorem yI{x:Str}(hx:x ∈ XS)(h:E.ex x M):ir x E ρ M:=⟨hx,h⟩
theorem yJ{te:NEX}(h:te ρ M (fun d M1=>E.nx (ρ.set i (some d)) M1) E.ex):gh i te E ρ M:=h
theorem yK{j:Nat}(h:u { E with ex:=fun x M1=>∀ a,M1 a=none->E.nx ((ρ.set j none).set i (some (.ptr a))) (aX M1 a (.exn a x)) } ρ M):jT i j u E ρ M:=h
theorem yL{T:NTX}{EX:QX}(h:tas ρ M fun ds M1=>T ds M1 Q EX):fo T tas ρ M Q EX:=h
theorem yM{y:Str}{a j:Nat}{x:Str}(hv:aa j ρ=some (.ptr a))(hm:M a=some (.exn a x))(hx:x ∈ XS)(h:Q (.bl (decide (x=y))) M):bQ y (nP (aa j)) ρ M Q:=⟨_,hv,a,x,rfl,hm,hx,h⟩
theorem yN{a j:Nat}{x:Str}(hv:aa j ρ=some (.ptr a))(hm:M a=some (.exn a x))(hx:x ∈ XS)(h:Q (.bl true) M):iu (nP (aa j)) ρ M Q:=⟨_,hv,a,x,rfl,hm,hx,h⟩
theorem fD{q:QX}{a b c:ae->Sto->Prop}{d:D->Sto->Prop}(h:a ρ M):EndN.nx ⟨a,d,b,c,q⟩ ρ M:=h
theorem on{q:QX}{a b c:ae->Sto->Prop}{d:D->Sto->Prop}{x:D}(h:d x M):EndN.rt ⟨a,d,b,c,q⟩ x M:=h
theorem yO{α:Type}{body:D->NTS}(enc:α->D)(xs:List α)(I:Nat->ae->Sto->Prop)(h0:I 0 ρ M)(he:∀ ρ M,I xs.length ρ M->E.nx ρ M)(hs:∀ k (hk:k < xs.length) ρ M,I k ρ M->∀ N:ae->Sto->Prop,(∀ ρ M,I (k+1) ρ M->N ρ M)->body (enc xs[k]) { E with nx:=N,ct:=N,bk:=E.nx } ρ M):cD body (xs.map enc) E ρ M:=by
  have gen:∀ (m k:Nat),m=xs.length - k->k<=xs.length->∀ ρ M,I k ρ M->cD body ((xs.drop k).map enc) E ρ M:=by
    intro m
    induction m with
    | zero =>
      intro k hm hk ρ M h
      have:k=xs.length:=by omega
      subst this
      rw[List.drop_length]
      exact he ρ M h
    | succ m ih =>
      intro k hm hk ρ M h
      have hlt:k < xs.length:=by omega
      rw[List.drop_eq_getElem_cons hlt,List.map_cons]
      exact hs k hlt ρ M h _ fun ρ M z=>ih (k+1) (by omega) hlt ρ M z
  simpa using gen xs.length 0 (by simp) (Nat.zero_le _) ρ M h0
theorem oo{α:Type}{ρb:ae}(enc:α->D)(xs:List α)(I:Nat->List D->Sto->Prop)(h0:I 0 [] M)(he:∀ ds M,I xs.length ds M->QL ds M)(hs:∀ k (hk:k < xs.length) ds M,I k ds M->∀ N:QE,(∀ d M1,I (k+1) (ds++[d]) M1->N d M1)->ta (ρb.set 0 (some (enc xs[k]))) M N):cZ 1 ta ρb (xs.map enc) [] M QL:=by
  have gen:∀ (m k:Nat),m=xs.length - k->k<=xs.length->∀ ds M,I k ds M->cZ 1 ta ρb ((xs.drop k).map enc) ds M QL:=by
    intro m
    induction m with
    | zero =>
      intro k hm hk ds M h
      have:k=xs.length:=by omega
      subst this
      rw[List.drop_length]
      exact he ds M h
    | succ m ih =>
      intro k hm hk ds M h
      have hlt:k < xs.length:=by omega
      rw[List.drop_eq_getElem_cons hlt,List.map_cons]
      exact hs k hlt ds M h _ fun d M1 z=>ih (k+1) (by omega) hlt (ds++[d]) M1 z
  simpa using gen xs.length 0 (by simp) (Nat.zero_le _) [] M h0
end
theorem yP{K:D->Prop}(h:K (.bl true)):W1 dJ .non K:=⟨_,rfl,h⟩
theorem yQ{K:D->Prop}{a:Nat}(h:K (.bl false)):W1 dJ (.ptr a) K:=⟨_,rfl,h⟩
def Kp(S:Nat->Prop)(M M':Sto):Prop:=∀ b c,M b=some c->¬ S b->M' b=some c
theorem Kp.refl{S:Nat->Prop}{M:Sto}:Kp S M M:=fun _ _ h _=>h
theorem Kp.trans{S S':Nat->Prop}{M M1 M2:Sto}(a:Kp S M M1)(b:Kp S' M1 M2)(h:∀ x,S' x->M x ≠ none->S x):Kp S M M2:=fun x c e n=>b x c (a x c e n) fun z=>n (h x z (by rw[e];exact fun q=>nomatch q))
theorem Kp.upd{S:Nat->Prop}{M:Sto}{a:Nat}{c:Cell}(h:S a\/M a=none):Kp S M (aX M a c):=fun b d e n=>by
  by_cases q:b=a
  · subst q;rcases h with h | h
    · exact absurd h n
    · rw[h] at e;cases e
  · rw[fj q];exact e
theorem Kp.del{S:Nat->Prop}{M:Sto}{a:Nat}(h:S a):Kp S M (jS M a):=fun b d e n=>by
  have ne:b ≠ a:=fun q=>n (by rw[q];exact h)
  rw[wd ne];exact e
end VL
namespace VL
open PySem (Str)
open L2 (atI ixN)
def tx(x:Str):List Nat:=x.cps.toList
def mkT(l:List Nat):Str:=⟨l.toArray⟩
theorem az(l:List Nat):tx (mkT l)=l:=rfl
theorem cI(x:Str):mkT (tx x)=x:=rfl
def bq:D->D->Option D
  | .str x,.str y=>if (tx x).length+(tx y).length<=100000 then some (.str (mkT (tx x++tx y))) else none
  | _,_=>none
def br:D->Option D
  | .str x=>if (tx x).length<=100000 then some (.int (tx x).length) else none
  | _=>none
def ixT:D->D->Option D
  | .str x,.int i=>if (tx x).length<=100000 then (atI (tx x) i).map fun c=>.str (mkT [c]) else none
  | _,_=>none
def d3:D->D->Option D
  | .str x,.int k=>if (2<=k/\k<=1000)/\1<=(tx x).length/\(tx x).length<=100 then some (.str (mkT (List.replicate k.toNat (tx x)).flatten)) else none
  | _,_=>none
def bR:Option Int->Bool
  | none=>true
  | some i=>decide (0<=i)
def bL(l:List Nat)(lo hi:Option Int):List Nat:=(l.take ((hi.getD (l.length:Int)).toNat)).drop ((lo.getD 0).toNat)
def slT(x:D)(lo hi:Option Int):Option D:=match x with
  | .str x=>if bR lo=true/\bR hi=true/\(tx x).length<=100000 then some (.str (mkT (bL (tx x) lo hi))) else none
  | _=>none
def cq(f:FE)(fl fh:FO):FE:=fun ρ=>(f ρ).bind fun d=>(fl ρ).bind fun l=>(fh ρ).bind fun h=>slT d l h
def bj:List Nat->List Nat->Bool
  | [],y=>y.isEmpty
  | a::x,y=>y.isPrefixOf (a::x) || bj x y
def inT:D->D->Option D
  | .str y,.str x=>some (.bl (bj (tx x) (tx y)))
  | _,_=>none
def cJ:D->D->Option D
  | .str y,.str x=>some (.bl (!bj (tx x) (tx y)))
  | _,_=>none
def aC(c:Nat):List Nat->List (List Nat)
  | []=>[[]]
  | a::x=>if a=c then []::aC c x else match aC c x with
    | h::t=>(a::h)::t
    | []=>[[a]]
def iH:D->D->Option D
  | .str x,.str y=>match tx y with
    | [c]=>if (tx x).length<=10000 then some (.lst ((aC c (tx x)).map fun l=>.str (mkT l))) else none
    | _=>none
  | _,_=>none
def aR(s:List Nat):List (List Nat)->List Nat
  | []=>[]
  | [a]=>a
  | a::b::r=>a++s++aR s (b::r)
def dm:List D->Option (List (List Nat))
  | []=>some []
  | .str x::r=>(dm r).map (tx x::·)
  | _::_=>none
def dQ:D->D->Option D
  | .str s,.lst ds=>(dm ds).bind fun ls=>if (ls.map List.length).sum+ls.length * (tx s).length<=100000 then some (.str (mkT (aR (tx s) ls))) else none
  | _,_=>none
def digs(n:Nat):List Nat:=if n < 10 then [48+n] else digs (n / 10)++[48+n % 10]
decreasing_by omega
def bg(l:List Nat):Nat:=l.foldl (fun v c=>10 * v+(c - 48)) 0
def gn:D->Option D
  | .int i=>if 0<=i/\i.toNat < 1000000000 then some (.str (mkT (digs i.toNat))) else none
  | _=>none
def fE:D->Option D
  | .str x=>if bg (tx x) < 1000000000/\digs (bg (tx x))=tx x then some (.int (bg (tx x):Nat)) else none
  | _=>none
def dR(f:FE):FEs:=fun ρ=>(f ρ).bind fun d=>match d with
  | .str x=>if (tx x).all (fun c=>decide (c < 128))=true/\(tx x).length<=100000 then some ((tx x).map fun c=>.str (mkT [c])) else none
  | _=>none
def gp(T:String)(ta:NTE):NTE:=fun ρ M Q=>ta ρ M fun x M1=>W1 (bJ T) (vw1 M1 x) fun d=>Q d M1
def ko(t:Nat)(ta:NTE)(tb:NTS):NTS:=fun E ρ M=>ta ρ M fun x M1=>∃ a,∃ ls:List Str,x=.ptr a/\ck (fun x E ρ M=>tb E (ρ.set t (some x)) M) a (ls.map .str) (ls.map .str) E ρ M1
def okF(d:D):Prop:=∃ z,d=.str z/\(tx z).all (fun c=>decide (c < 128))=true/\(tx z).length<=10000
def gq(x:Str)(fe:FE):NTS:=fun E ρ M=>x ∈ XS/\WE fe ρ okF/\E.ex x M
def iI(caps:List Nat)(ti:NTA)(te:NTE):NTE:=fun ρ M Q=>ti ρ M fun ds M1=>∃ i j,ds=[.int i,.int j]/\okR i/\okR j/\j - i < 1000/\cZ 1 te (aT 1 caps ρ) ((List.range (j - i).toNat).map fun k=>.int (i+(k:Nat))) [] M1 fun ds M2=>Q (.lst ds) M2
abbrev yR:D->Option D:=fun d=>match d with | .bl k=>some (.bl (!k)) | _=>none
theorem kq(s a:List Nat):∀ (r:List (List Nat)),aR s (a::r)=a++(r.map (s++·)).flatten
  | []=>by simp[aR]
  | b::r=>by
    rw[aR,kq s b r]
    simp
theorem fF(c:Nat):∀ (l:List Nat),aR [c] (aC c l)=l/\(∀ q ∈ aC c l,c ∉ q)/\aC c l ≠ []
  | []=>by simp[aC,aR]
  | a :: x=>by
    obtain⟨h1,h2,h3⟩:=fF c x
    unfold aC
    by_cases e:a=c
    · subst e
      rw[if_pos rfl]
      refine⟨?_,fun q hq=>?_,fun z=>nomatch z⟩
      · cases hs:aC a x with
        | nil=>exact absurd hs h3
        | cons y r=>rw[aR,<- hs,h1];rfl
      · rcases List.mem_cons.mp hq with rfl | hq
        · exact List.not_mem_nil
        · exact h2 q hq
    · rw[if_neg e]
      cases hs:aC c x with
      | nil=>exact absurd hs h3
      | cons y r =>
        rw[hs] at h1 h2
        refine⟨?_,fun q hq=>?_,fun z=>nomatch z⟩
        · rw[kq] at h1 ⊢
          rw[List.cons_append,h1]
        · rcases List.mem_cons.mp hq with rfl | hq
          · intro z
            rcases List.mem_cons.mp z with z | z
            · exact e z.symm
            · exact h2 y List.mem_cons_self z
          · exact h2 q (List.mem_cons_of_mem _ hq)
theorem kr(c:Nat):∀ (l:List Nat),(aC c l).length<=l.length+1
  | []=>by simp[aC]
  | a :: x=>by
    have ih:=kr c x
    unfold aC
    split
    · simp;omega
    · cases hs:aC c x with
      | nil=>simp
      | cons y r=>rw[hs] at ih;simp at ih ⊢;omega
section
variable {K:D->Prop} {x y:Str} {ρ:ae} {a:FE} {lo hi:FO}
theorem oq(hl:(tx x).length+(tx y).length<=100000)(h:K (.str (mkT (tx x++tx y)))):W2 bq (.str x) (.str y) K:=⟨_,by simp only[bq,if_pos hl],h⟩
theorem fG(hl:(tx x).length<=100000)(h:K (.int (tx x).length)):WF (aA br) [.str x] K:=⟨_,by simp only[aA,br,if_pos hl],h⟩
theorem gr{i:Int}{c:Nat}(hl:(tx x).length<=100000)(e:atI (tx x) i=some c)(h:K (.str (mkT [c]))):W2 ixT (.str x) (.int i) K:=⟨_,by simp only[ixT,if_pos hl,e,Option.map_some],h⟩
theorem iJ{k:Int}(hl:(2<=k/\k<=1000)/\1<=(tx x).length/\(tx x).length<=100)(h:K (.str (mkT (List.replicate k.toNat (tx x)).flatten))):W2 d3 (.str x) (.int k) K:=⟨_,by simp only[d3];rw[if_pos hl],h⟩
theorem ot(h:WE a ρ fun d=>WO lo ρ fun l=>WO hi ρ fun u=>∃ z,d=.str z/\(bR l=true/\bR u=true/\(tx z).length<=100000)/\K (.str (mkT (bL (tx z) l u)))):WE (cq a lo hi) ρ K:=by
  obtain⟨d,e1,l,e2,u,e3,z,rfl,hc,k⟩:=h
  exact⟨_,by simp only[cq,e1,e2,e3,Option.bind_some,slT,if_pos hc],k⟩
theorem yS(h:K (.bl (decide (x=y)))):W2 eqD (.str x) (.str y) K:=⟨_,rfl,h⟩
theorem iK(h:K (.bl (!decide (x=y)))):W2 neD (.str x) (.str y) K:=⟨_,rfl,h⟩
theorem yT(h:K (.bl (bj (tx y) (tx x)))):W2 inT (.str x) (.str y) K:=⟨_,rfl,h⟩
theorem ou(h:K (.bl (!bj (tx y) (tx x)))):W2 cJ (.str x) (.str y) K:=⟨_,rfl,h⟩
theorem ow:∀ (ls:List (List Nat)),dm (ls.map fun l=>D.str (mkT l))=some ls
  | []=>rfl
  | l::r=>by simp only[List.map_cons,dm,ow r,Option.map_some,az]
theorem kt{s:Str}{ls:List (List Nat)}(hl:(ls.map List.length).sum+ls.length * (tx s).length<=100000)(h:K (.str (mkT (aR (tx s) ls)))):W1 (dQ (.str s)) (.lst (ls.map fun l=>.str (mkT l))) K :=
  ⟨_,by simp only[dQ,ow,Option.bind_some,if_pos hl],h⟩
theorem yU{n:Nat}(hn:n < 1000000000)(h:K (.str (mkT (digs n)))):WF (aA gn) [.int (n:Nat)] K:=⟨.str (mkT (digs n)),by simp only[aA,gn,Int.toNat_natCast];rw[if_pos ⟨Int.natCast_nonneg n,hn⟩],h⟩
theorem yV(h1:bg (tx x) < 1000000000)(h2:digs (bg (tx x))=tx x)(h:K (.int (bg (tx x):Nat))):WF (aA fE) [.str x] K:=⟨_,by simp only[aA,fE];rw[if_pos ⟨h1,h2⟩],h⟩
theorem yW{c:Nat}(hl:(tx x).length<=10000)(h:K (.lst ((aC c (tx x)).map fun l=>.str (mkT l)))):W1 (fun d=>iH d (.str (mkT [c]))) (.str x) K:=⟨_,by simp only[iH,az];rw[if_pos hl],h⟩
theorem ox{K:List D->Prop}{f:FE}(h:WE f ρ fun d=>∃ z,d=.str z/\((tx z).all (fun c=>decide (c < 128))=true/\(tx z).length<=100000)/\K ((tx z).map fun c=>.str (mkT [c]))):WI (dR f) ρ K:=by
  obtain⟨d,e,z,rfl,hc,k⟩:=h
  exact⟨_,by simp only[dR,e,Option.bind_some];rw[if_pos hc],k⟩
end
section
variable {ρ:ae} {M:Sto} {Q:QE} {ta tv:NTE} {tas:NTA} {E:EndN} {u:NTS} {caps:List Nat} {t:Nat} {x:Str} {fe:FE}
theorem yX(h:tas ρ M fun ds M1=>∃ i j,ds=[.int i,.int j]/\okR i/\okR j/\j - i < 1000/\cZ 1 tv (aT 1 caps ρ) ((List.range (j - i).toNat).map fun k=>.int (i+(k:Nat))) [] M1 fun ds M2=>Q (.lst ds) M2):iI caps tas tv ρ M Q:=h
theorem oy(hx:x ∈ XS)(h:WE fe ρ okF)(he:E.ex x M):gq x fe E ρ M:=⟨hx,h,he⟩
theorem yY{T:String}(h:ta ρ M fun x M1=>W1 (bJ T) (vw1 M1 x) fun d=>Q d M1):gp T ta ρ M Q:=h
theorem yZ(h:ta ρ M fun x M1=>∃ a,∃ ls:List Str,x=.ptr a/\ck (fun x E ρ M=>u E (ρ.set t (some x)) M) a (ls.map .str) (ls.map .str) E ρ M1):ko t ta u E ρ M:=h
theorem zb{body:D->NTS}{a:Nat}(xs:List Str)(I:Nat->ae->Sto->Prop)(hI:∀ k ρ M,I k ρ M->M a=some (.lst (xs.map .str)))(h0:I 0 ρ M)(he:∀ ρ M,I xs.length ρ M->E.nx ρ M)(hs:∀ k (hk:k < xs.length) ρ M,I k ρ M->∀ N:ae->Sto->Prop,(∀ ρ M,I (k+1) ρ M->N ρ M)->body (.str xs[k]) { E with nx:=N,ct:=N,bk:=E.nx } ρ M):ck body a (xs.map .str) (xs.map .str) E ρ M:=by
  have gen:∀ (m k:Nat),m=xs.length - k->k<=xs.length->∀ ρ M,I k ρ M->ck body a (xs.map .str) ((xs.drop k).map .str) E ρ M:=by
    intro m
    induction m with
    | zero =>
      intro k hm hk ρ M h
      have e:k=xs.length:=by omega
      subst e
      rw[List.drop_length]
      exact⟨hI _ _ _ h,he _ _ h⟩
    | succ m ih =>
      intro k hm hk ρ M h
      rw[List.drop_eq_getElem_cons (by omega)]
      exact⟨hI _ _ _ h,hs k (by omega) ρ M h _ fun ρ M h=>ih (k+1) (by omega) (by omega) ρ M h⟩
  have:=gen xs.length 0 (by omega) (by omega) ρ M h0
  rwa [List.drop_zero] at this
end
end VL
namespace VL
open PySem PySem.Spec PyProof.Rows L2
theorem oz{α:Type}{c:Prop}[Decidable c]{a:Option α}{b:α}(h:(if c then a else none)=some b):c/\a=some b:=by
  by_cases q:c
  · rw[if_pos q] at h;exact⟨q,h⟩
  · rw[if_neg q] at h;cases h
theorem gs(i j:Str):i++j=mkT (tx i++tx j):=by
  show (⟨i.cps++j.cps⟩:Str)=⟨(i.cps.toList++j.cps.toList).toArray⟩
  congr 1
  simp
theorem aV(i:Str):i.length=(tx i).length:=by simp[Str.length,tx]
section
variable {X:Cx} {a b e:Expr} {fa fb:FE} {ea eb es:List Es} {as:FEs} {pos p p2 kp cp:Pos} {ta tb:NTE} {tas:NTA}
theorem oA{x y:Str}{t:Tok}{pos:Pos}(hm:X.mg x=some (.str y t))(hg:Gl X x:=by rfl)(hd:(x == ("__debug__" : Str))=false:=by decide):JE X (.Name x pos) (eC (.str y)) [] :=
  ⟨eG (iP (v:=.str y) hg hm ⟨t,rfl⟩ hd) fun _=>.str y⟩
def zc:R2:=fun x y H Q=>∃ i j,x=.str i/\y=.str j/\i.length+j.length<=sizeLine/\Q (.str (i++j)) H
theorem oB(K:PySem.W.Frag):OpV K zc bq:=by
  intro x y H dx dy d Q rx ry hg hQ
  cases dx with
  | str i =>
    cases dy with
    | str j =>
      obtain⟨hl,rfl⟩:=b6 hg
      cases rx;cases ry
      refine⟨i,j,rfl,rfl,by rw[aV,aV];exact bN hl,?_⟩
      rw[gs]
      exact hQ _ H (Same.refl _) (.str _) fun _ _ _ _=>.str _
    | _=>cases hg
  | _=>cases hg
theorem zd(x y d:D)(h:bq x y=some d):aG d=true:=by
  cases x with
  | str i =>
    cases y with
    | str j=>obtain⟨_,rfl⟩:=b6 h;rfl
    | _=>cases h
  | _=>cases h
theorem d4(ha:JE X a fa ea)(hb:JE X b fb eb):JE X (.BinOp a .Add b pos) (e2 bq fa fb) []:=⟨eI (je lP (oB X.K) ha.h hb.h) (fS zd fa fb)⟩
theorem ku(ha:YE X a ta)(hb:YE X b tb):YE X (.BinOp a .Add b pos) (n2 bq ta tb):=⟨iy lP (oB X.K) ha.h hb.h⟩
def oC:R2:=fun x y H Q=>∃ z k,x=.str z/\y=.int k/\(2<=k/\k<=1000)/\(1<=(tx z).length/\(tx z).length<=100)/\Q (.str (mkT (List.replicate k.toNat (tx z)).flatten)) H
theorem oD:∀ (l:List (Array Nat)) (acc:Array Nat),(List.foldl (fun x1 x2=>x1++x2) acc l).toList=acc.toList++(l.map Array.toList).flatten
  | [],acc=>by simp
  | x::r,acc=>by
    rw[List.foldl_cons,oD r]
    simp
theorem ze:OpR X (binaryOp .Mult) oC:=by
  intro pins s σ H x y v u Q I rx ry h
  obtain⟨z,k,rfl,rfl,hk,hz,q⟩:=h
  obtain⟨t,rfl⟩:=rx
  obtain⟨t',rfl⟩:=ry
  have h1:¬ k < 1:=by omega
  have h2:(k == 1 || z.length == 0)=false:=by
    have e1:(k == 1)=false:=beq_eq_false_iff_ne.mpr (by omega)
    have e2:(z.length == 0)=false:=beq_eq_false_iff_ne.mpr (by rw[aV];omega)
    rw[e1,e2];rfl
  refine PySem.P.mul_str (by
    have e1:decide (k < -2 ^ 63)=false:=decide_eq_false (by omega)
    have e2:decide (k ≥ 2 ^ 63)=false:=decide_eq_false (by omega)
    rw[e1,e2];rfl) (fun _ _=>?_) (fun _ _=>?_) ?_
  · have:(1000:Int)<=(2 ^ 63 - 1) / k:=by
      rw[Int.le_ediv_iff_mul_le (by omega)]
      omega
    rw[aV];omega
  · unfold Builtin.Str.tooLong
    refine decide_eq_false ?_
    have:z.length * k.toNat<=100 * 1000:=Nat.mul_le_mul (by rw[aV];omega) (by omega)
    rw[sizeLine_eq];omega
  · rw[if_neg h1,if_neg (by rw[h2];exact Bool.false_ne_true)]
    have e:(⟨List.foldl (fun x1 x2=>x1++x2) #[] (List.replicate k.toNat z.cps)⟩:Str)=mkT (List.replicate k.toNat (tx z)).flatten:=by
      show _=(⟨_⟩:Str)
      congr 1
      apply Array.ext'
      rw[oD]
      simp[tx]
    rw[e]
    refine⟨?_,.str _,H,I.tok _,⟨_,rfl⟩,q⟩
    rw[aV,az,List.length_flatten,List.map_replicate,List.sum_replicate_nat]
    have:k.toNat * (tx z).length<=1000 * 100:=Nat.mul_le_mul (by omega) (by omega)
    rw[sizeLine_eq];omega
theorem zf(K:PySem.W.Frag):OpV K oC d3:=by
  intro x y H dx dy d Q rx ry hg hQ
  cases dx with
  | str i =>
    cases dy with
    | int j =>
      obtain⟨hl,rfl⟩:=b6 hg
      cases rx;cases ry
      exact⟨i,j,rfl,rfl,hl.1,hl.2,hQ _ H (Same.refl _) (.str _) fun _ _ _ _=>.str _⟩
    | _=>cases hg
  | _=>cases hg
theorem zg(x y d:D)(h:d3 x y=some d):aG d=true:=by
  cases x with
  | str i =>
    cases y with
    | int j=>obtain⟨_,rfl⟩:=b6 h;rfl
    | _=>cases h
  | _=>cases h
theorem iL(ha:JE X a fa ea)(hb:JE X b fb eb):JE X (.BinOp a .Mult b pos) (e2 d3 fa fb) []:=⟨eI (je ze (zf X.K) ha.h hb.h) (fS zg fa fb)⟩
theorem oE(K:PySem.W.Frag):OpV K m5 ixT:=by
  intro x y H dx dy d Q rx ry hg hQ
  cases dx with
  | str i =>
    cases dy with
    | int j =>
      obtain⟨hl,hg⟩:=oz hg
      cases e:atI (tx i) j with
      | none=>rw[e] at hg;cases hg
      | some c =>
        rw[e] at hg;cases hg
        cases rx;cases ry
        exact⟨i,j,c,rfl,rfl,by rw[aV];exact bN hl,e,hQ _ H (Same.refl _) (.str _) fun _ _ _ _=>.str _⟩
    | _=>cases hg
  | _=>cases hg
theorem zh(x y d:D)(h:ixT x y=some d):aG d=true:=by
  cases x with
  | str i =>
    cases y with
    | int j =>
      obtain⟨_,h⟩:=oz h
      cases e:atI (tx i) j with
      | none=>rw[e] at h;cases h
      | some c=>rw[e] at h;cases h;rfl
    | _=>cases h
  | _=>cases h
theorem ky(ha:JE X a fa ea)(hb:JE X b fb eb)(hs:dF b):JE X (.Subscript a b pos) (e2 ixT fa fb) [] :=
  ⟨eI (es:=ea++eb) (aE (gR m7 ha.h hb.h hs) fun _ _ _ h=>hV (oE X.K) h) (fS zh fa fb)⟩
theorem oF(ha:YE X a ta)(hb:YE X b tb)(hs:dF b):YE X (.Subscript a b pos) (n2 ixT ta tb) :=
  ⟨aE (gR m7 ha.h hb.h hs) fun _ _ _ h=>iw (oE X.K) h⟩
theorem oG{o:Option Int}{n:Nat}{d:Int}(h:bR o=true)(hd:d=0\/d=n):(match o with | none=>d | some i=>max 0 (min (if i < 0 then i+(n:Int) else i) (n:Int)))=((min (o.getD d).toNat n:Nat):Int):=by
  cases o with
  | none=>rcases hd with rfl | rfl <;> simp
  | some i =>
    have h0:0<=i:=of_decide_eq_true h
    simp only[Option.getD_some]
    rw[if_neg (by omega)]
    omega
theorem kz{lo hi:Option Int}{n:Nat}(h1:bR lo=true)(h2:bR hi=true):Builtin.Str.strSliceIndices lo hi 1 n=sliceRange ((min (lo.getD 0).toNat n:Nat):Int) ((min (hi.getD (n:Int)).toNat n:Nat):Int) 1:=by
  unfold Builtin.Str.strSliceIndices
  have e1:=oG (n:=n) (d:=0) h1 (.inl rfl)
  have e2:=oG (n:=n) (d:=(n:Int)) h2 (.inr rfl)
  rw[<- e1,<- e2]
  cases lo <;> cases hi <;> rfl
theorem zi{a b n:Nat}(h:b < a):sliceRange (a:Int) (b:Int) 1=[]:=by
  unfold sliceRange
  have:¬ ((a:Int) < b):=by omega
  simp[this]
theorem zj(z:Str){lo hi:Option Int}(h1:bR lo=true)(h2:bR hi=true):List.filterMap (fun i=>z.cps[i]?) (Builtin.Str.strSliceIndices lo hi 1 z.length)=bL (tx z) lo hi:=by
  rw[kz h1 h2]
  have ec:bL (tx z) lo hi=List.drop (min (lo.getD 0).toNat z.length) (List.take (min (hi.getD (z.length:Int)).toNat z.length) (tx z)):=by
    unfold bL
    rw[aV]
    have e1:List.take (min (hi.getD ((tx z).length:Int)).toNat (tx z).length) (tx z)=List.take (hi.getD ((tx z).length:Int)).toNat (tx z):=by
      rcases Nat.le_total (hi.getD ((tx z).length:Int)).toNat (tx z).length with h | h
      · rw[Nat.min_eq_left h]
      · rw[Nat.min_eq_right h,List.take_of_length_le (Nat.le_refl _),List.take_of_length_le h]
    rw[e1]
    rcases Nat.le_total (lo.getD 0).toNat (tx z).length with h | h
    · rw[Nat.min_eq_left h]
    · rw[Nat.min_eq_right h,List.drop_eq_nil_of_le (by rw[List.length_take];omega),List.drop_eq_nil_of_le (by rw[List.length_take];omega)]
  rw[ec]
  by_cases hab:min (lo.getD 0).toNat z.length<=min (hi.getD (z.length:Int)).toNat z.length
  · have e3:=StrLaws.sliced_plain z hab (Nat.min_le_right _ _)
    have e4:=kz (lo:=some ((min (lo.getD 0).toNat z.length:Nat):Int)) (hi:=some ((min (hi.getD (z.length:Int)).toNat z.length:Nat):Int)) (n:=z.length) (by simp[bR]) (by simp[bR])
    simp only[Option.getD_some,Int.toNat_natCast] at e4
    rw[Nat.min_eq_left (Nat.min_le_right _ _),Nat.min_eq_left (Nat.min_le_right _ _)] at e4
    rw[e4] at e3
    rw[e3,List.drop_take]
    rfl
  · rw[zi (n:=z.length) (by omega),List.drop_eq_nil_of_le (by rw[List.length_take];omega)]
    rfl
def zk:V->Option Int->Option Int->Hp->VK->Prop:=fun x lo hi H Q=>∃ z,x=.str z/\bR lo=true/\bR hi=true/\z.length<=sizeLine/\Q (.str (mkT (bL (tx z) lo hi))) H
theorem oH{v:Value}{o:Option Int}(h:IsPart v o):∃ l:Option (Int × Tok),v=partValue l/\l.map (·.1)=o:=by
  cases h with
  | none=>exact⟨none,rfl,rfl⟩
  | int i t=>exact⟨some (i,t),rfl,rfl⟩
theorem zm(l:List Nat)(lo hi:Option Int):(bL l lo hi).length<=l.length:=by
  unfold bL
  rw[List.length_drop,List.length_take]
  omega
theorem zn:SlR X zk:=by
  intro pins s σ H x v vl vu lo hi sl Q I rx hs pl pu h
  obtain⟨z,rfl,h1,h2,hz,q⟩:=h
  obtain⟨t,rfl⟩:=rx
  obtain⟨l,rfl,el⟩:=oH pl
  obtain⟨u,rfl,eu⟩:=oH pu
  refine⟨"str",_,slot_str_getitem.lookup,typeIs_str s z t,?_⟩
  have hs':s.heap.IsSlice sl l u none:=hs
  refine wpAny_getItem_str_slice hs' rfl ?_
  have ep:slicePicked z l u none=Builtin.Str.strSliceIndices lo hi 1 z.length:=by
    unfold slicePicked
    rw[<- el,<- eu]
    rfl
  have e:=zj z h1 h2
  unfold sliceMade
  rw[ep]
  split
  · rename_i hc
    have hl:(Builtin.Str.strSliceIndices lo hi 1 z.length).length=z.length:=by simpa using hc
    have e2 : bL (tx z) lo hi=tx z:=by
      have hl2:(bL (tx z) lo hi).length=(tx z).length:=by
        rw[<- e]
        have:∀ i ∈ Builtin.Str.strSliceIndices lo hi 1 z.length,z.cps[i]? ≠ none:=fun i hi'=>by
          rw[kz h1 h2] at hi'
          unfold sliceRange at hi'
          simp only[List.mem_map,List.mem_range] at hi'
          obtain⟨k,hk,rfl⟩:=hi'
          split at hk
          · split at hk
            · have:((min (lo.getD 0).toNat z.length:Nat)+1 * (k:Int)).toNat < z.cps.size:=by
                have e0:z.length=z.cps.size:=rfl
                rw[<- e0]
                omega
              rw[Array.getElem?_eq_getElem this]
              exact fun q=>nomatch q
            · simp at hk
          · omega
        have fl:∀ (is:List Nat),(∀ i ∈ is,z.cps[i]? ≠ none)->(List.filterMap (fun i=>z.cps[i]?) is).length=is.length:=by
          intro is
          induction is with
          | nil=>intro _;rfl
          | cons i r ih =>
            intro hh
            cases ei:z.cps[i]? with
            | none=>exact absurd ei (hh i List.mem_cons_self)
            | some w=>rw[List.filterMap_cons,ei];simp[ih fun j hj=>hh j (List.mem_cons_of_mem _ hj)]
        rw[fl _ this,hl,aV]
      unfold bL at hl2 ⊢
      rw[List.length_drop,List.length_take] at hl2
      by_cases h0:tx z=[]
      · rw[h0];simp
      · have hp:0 < (tx z).length:=List.length_pos_iff.mpr h0
        have ed:(lo.getD 0).toNat=0:=by omega
        rw[ed,List.drop_zero,List.take_of_length_le (by omega)]
    rw[e2,cI] at q
    exact⟨.str z,H,I,⟨t,rfl⟩,q⟩
  · rw[e]
    exact⟨by rw[aV];exact Nat.le_trans (zm _ _ _) (by rw[<- aV];exact hz),.str _,H,I.tok _,⟨_,rfl⟩,q⟩
theorem dS{lo hi:Option Expr}{flo fhi:FO}(ha:JE X a fa ea)(hl:JO X lo flo)(hh:JO X hi fhi):JE X (.Subscript a (.Slice lo hi none p2) pos) (cq fa flo fhi) [] :=
  ⟨aE (m4 zn ha.h hl.h hh.h) fun σ H Q ⟨ρ,d,hE,hf,hQ⟩=>by
    obtain⟨dx,h1,hf⟩:=bind_some hf
    obtain⟨l,h2,hf⟩:=bind_some hf
    obtain⟨h,h3,hf⟩:=bind_some hf
    refine⟨ρ,dx,hE,h1,fun x H1 p1=>⟨ρ,l,hE.mono p1.same,h2,fun H2 e2=>⟨ρ,h,hE.mono (p1.same.trans e2),h3,fun H3 e3=>?_⟩⟩⟩
    cases dx with
    | str z =>
      obtain⟨hc,rfl⟩:=b6 hf
      cases p1.rep
      exact⟨z,rfl,hc.1,hc.2.1,by rw[aV];exact bN hc.2.2,hQ _ H3 ⟨p1.same.trans (e2.trans e3),.str _,fun _ _ _=>.str _⟩⟩
    | _=>cases hf⟩
end
end VL
namespace VL
open PySem PySem.Spec PyProof.Rows L2
theorem oI:∀ (x y:List Nat),bj x y=true ↔ ∃ i,i+y.length<=x.length/\(x.drop i).take y.length=y
  | [],y=>by
    unfold bj
    cases y with
    | nil=>simp
    | cons c r=>simp
  | a :: x,y=>by
    unfold bj
    rw[Bool.or_eq_true,oI x y,List.isPrefixOf_iff_prefix]
    constructor
    · rintro (⟨t,ht⟩ | ⟨i,h1,h2⟩)
      · refine⟨0,?_,?_⟩
        · rw[<- ht,List.length_append];omega
        · rw[List.drop_zero,<- ht,List.take_left]
      · exact⟨i+1,by rw[List.length_cons];omega,by rw[List.drop_succ_cons];exact h2⟩
    · rintro⟨i,h1,h2⟩
      cases i with
      | zero=>left;rw[List.drop_zero] at h2;exact⟨_,by rw[<- h2];exact List.take_append_drop y.length (a::x)⟩
      | succ i=>right;exact⟨i,by rw[List.length_cons] at h1;omega,by rw[List.drop_succ_cons] at h2;exact h2⟩
theorem oJ(j i:Str):(!(Builtin.Str.occurrences j i 0 j.length 1).isEmpty)=bj (tx j) (tx i):=by
  rw[Bool.eq_iff_iff,StrLaws.found_iff,oI]
  have e:∀ k,(Builtin.Str.subAt j i k=true) ↔ (((tx j).drop k).take (tx i).length=tx i):=fun k=>by
    unfold Builtin.Str.subAt
    rw[beq_iff_eq]
    constructor
    · intro h
      have h2:=congrArg Array.toList h
      rw[Array.toList_extract,List.extract_eq_drop_take] at h2
      rw[aV,Nat.add_sub_cancel_left] at h2
      exact h2
    · intro h
      apply Array.ext'
      rw[Array.toList_extract,List.extract_eq_drop_take,aV,Nat.add_sub_cancel_left]
      exact h
  constructor
  · rintro⟨k,h1,h2⟩
    exact⟨k,by rw[<- aV,<- aV];exact h1,(e k).mp h2⟩
  · rintro⟨k,h1,h2⟩
    exact⟨k,by rw[aV,aV];exact h1,(e k).mpr h2⟩
section
variable {X:Cx} {a b e:Expr} {fa fb:FE} {ea eb es:List Es} {as:FEs} {pos p p1 p2 kp cp ap:Pos} {ta tb:NTE} {tas:NTA} {tg:Expr}
def zo:R2:=fun x y H Q=>∃ i j,x=.str i/\y=.str j/\Q (.bl (!(Builtin.Str.occurrences j i 0 j.length 1).isEmpty)) H
def zp:R2:=fun x y H Q=>∃ i j,x=.str i/\y=.str j/\Q (.bl (!(!(Builtin.Str.occurrences j i 0 j.length 1).isEmpty))) H
theorem oK(K:PySem.W.Frag):OpV K zo inT:=by
  intro x y H dx dy d Q rx ry hg hQ
  cases dx with
  | str i =>
    cases dy with
    | str j =>
      cases hg
      cases rx;cases ry
      refine⟨i,j,rfl,rfl,?_⟩
      rw[oJ]
      exact hQ _ H (Same.refl _) (.bl _) fun _ _ _ _=>.bl _
    | _=>cases hg
  | _=>cases hg
theorem oM(K:PySem.W.Frag):OpV K zp cJ:=by
  intro x y H dx dy d Q rx ry hg hQ
  cases dx with
  | str i =>
    cases dy with
    | str j =>
      cases hg
      cases rx;cases ry
      refine⟨i,j,rfl,rfl,?_⟩
      rw[oJ]
      exact hQ _ H (Same.refl _) (.bl _) fun _ _ _ _=>.bl _
    | _=>cases hg
  | _=>cases hg
theorem zq(x y d:D)(h:inT x y=some d):aG d=true:=by
  cases x with
  | str i =>
    cases y with
    | str j=>cases h;rfl
    | _=>cases h
  | _=>cases h
theorem zr(x y d:D)(h:cJ x y=some d):aG d=true:=by
  cases x with
  | str i =>
    cases y with
    | str j=>cases h;rfl
    | _=>cases h
  | _=>cases h
theorem zt(ha:JE X a fa ea)(hb:JE X b fb eb)(hm:behindInMarks .In b=false:=by with_unfolding_all rfl):JE X (.Compare a [.In] [b] pos) (e2 inT fa fb) []:=⟨eK lJ (oK X.K) ha.h hb.h hm zq⟩
theorem zu(ha:JE X a fa ea)(hb:JE X b fb eb)(hm:behindInMarks .In b=false:=by with_unfolding_all rfl):JT X (.Compare a [.In] [b] pos) (eT (e2 inT fa fb)):=⟨fW lJ (oK X.K) ha.h hb.h hm⟩
theorem zv(ha:JE X a fa ea)(hb:JE X b fb eb)(hm:behindInMarks .NotIn b=false:=by with_unfolding_all rfl):JE X (.Compare a [.NotIn] [b] pos) (e2 cJ fa fb) []:=⟨eK lK (oM X.K) ha.h hb.h hm zr⟩
theorem oN(ha:JE X a fa ea)(hb:JE X b fb eb)(hm:behindInMarks .NotIn b=false:=by with_unfolding_all rfl):JT X (.Compare a [.NotIn] [b] pos) (eT (e2 cJ fa fb)):=⟨fW lK (oM X.K) ha.h hb.h hm⟩
theorem zw:dG X.K (fun xs H Q=>∃ z,xs=[.str z]/\z.length<=sizeLine/\Q (.int z.length) H) (aA br):=by
  intro xs H ds d Q r hg hQ
  obtain⟨x,rfl,hg1⟩:=eP hg
  obtain⟨v,rfl,r1⟩:=dH r
  cases x with
  | str z =>
    obtain⟨hl,rfl⟩:=b6 hg1
    cases r1
    exact⟨z,rfl,by rw[aV];exact bN hl,hQ _ fun H'=>by rw[aV];exact .int _⟩
  | _=>cases hg1
theorem cK(ml:X.mg "len" = none)(ha:JA X [a] as es)(hg:Gl X "len":=by rfl)(he:starEach [a] X.env=(false,eval a X.env)::starEach [] X.env:=by rfl)(hpl:(backTo pos (starEach [] X.env)).any (·.1)=false:=by rfl):
    JE X (.Call (.Name "len" p) [a] [] pos) (eA (aA br) as) []:=⟨i6 rR zw ml PySem.boot_len ha.h hg (by decide) (by decide) he hpl⟩
theorem zx(n:Nat):digs n=(Nat.toDigits 10 n).map Char.toNat:=by
  induction n using digs.induct with
  | case1 n h =>
    rw[digs,if_pos h,Nat.toDigits_of_lt_base h]
    have:∀ m < 10,[48+m]=List.map Char.toNat [m.digitChar]:=by decide
    exact this n h
  | case2 n h ih =>
    have e:=Nat.toDigits_of_base_le (b:=10) (n:=n) (by omega) (by omega)
    rw[digs,if_neg h,ih,e,List.map_append]
    have:∀ m < 10,[48+m]=List.map Char.toNat [m.digitChar]:=by decide
    rw[this (n % 10) (Nat.mod_lt _ (by omega))]
theorem oO(n:Nat):Str.ofString (toString (n:Int))=mkT (digs n):=by
  rw[zx,<- PySem.W.KIN.signs_num]
  rfl
theorem zy:CallR X (.type "int") (fun xs H Q=>∃ n:Nat,xs=[.str (mkT (digs n))]/\n < 1000000000/\Q (.int n) H):=by
  intro pins s σ H xs us Q I r h
  obtain⟨n,rfl,hn,q⟩:=h
  obtain⟨u,rfl,t,rfl⟩:=cv r
  rw[<- oO]
  exact PySem.W.KIN.call_num (by omega) (by omega) ⟨.int n,H,I.tok _,⟨_,rfl⟩,q⟩
theorem zz:dG X.K (fun xs H Q=>∃ n:Nat,xs=[.str (mkT (digs n))]/\n < 1000000000/\Q (.int n) H) (aA fE):=by
  intro xs H ds d Q r hg hQ
  obtain⟨x,rfl,hg1⟩:=eP hg
  obtain⟨v,rfl,r1⟩:=dH r
  cases x with
  | str z =>
    obtain⟨hl,rfl⟩:=b6 hg1
    cases r1
    refine⟨bg (tx z),?_,hl.1,hQ _ fun H'=>.int _⟩
    rw[hl.2,cI]
  | _=>cases hg1
theorem zA(mi:X.mg "int" = none)(ha:JA X [a] as es)(hg:Gl X "int":=by rfl)(he:starEach [a] X.env=(false,eval a X.env)::starEach [] X.env:=by rfl)(hpl:(backTo pos (starEach [] X.env)).any (·.1)=false:=by rfl):
    JE X (.Call (.Name "int" p) [a] [] pos) (eA (aA fE) as) [] :=
  ⟨aE (gQ zy hg mi (by decide +kernel) ha.h (by decide) (by decide) he hpl) fun σ H Q ⟨ρ,d,hE,hf,hQ⟩=>by
    obtain⟨ds,h1,hf⟩:=bind_some hf
    exact⟨ρ,ds,hE,h1,fun vs H1 p=>zz vs H1 ds d _ p.rep hf fun v hr=>hQ v H1 ⟨p.same,hr _,fun _ _ _=>hr _⟩⟩⟩
theorem zB:dG X.K (fun xs H Q=>∃ i,xs=[.int i]/\i.natAbs.log2 < 1920/\Q (.str (toString i)) H) (aA gn):=by
  intro xs H ds d Q r hg hQ
  obtain⟨x,rfl,hg1⟩:=eP hg
  obtain⟨v,rfl,r1⟩:=dH r
  cases x with
  | int i =>
    obtain⟨hl,rfl⟩:=b6 hg1
    cases r1
    refine⟨i,rfl,?_,?_⟩
    · have h1:i.natAbs < 2 ^ 30:=by omega
      rcases Nat.eq_zero_or_pos i.natAbs with h0 | h0
      · rw[h0];decide
      · have:=(Nat.log2_lt (by omega)).mpr h1
        omega
    · have e:Str.ofString (toString i)=mkT (digs i.toNat):=by
        rw[<- oO]
        congr 2
        omega
      show Q (.str (Str.ofString (toString i))) H
      rw[e]
      exact hQ _ fun H'=>.str _
  | _=>cases hg1
theorem oP(g:Array Nat):∀ (ps:List Str) (acc:Array Nat),(List.foldl (fun acc p=>acc++g++p.cps) acc ps).toList=acc.toList++(ps.map fun p=>g.toList++tx p).flatten
  | [],acc=>by simp
  | x::r,acc=>by
    rw[List.foldl_cons,oP g r]
    simp[tx]
theorem zC(s:Str)(ys:List Str):Txt.join s ys=mkT (aR (tx s) (ys.map tx)):=by
  show (⟨_⟩:Str)=⟨_⟩
  congr 1
  apply Array.ext'
  rw[oP]
  cases ys with
  | nil=>rfl
  | cons y r =>
    rw[List.map_cons,kq]
    simp only[List.headD_cons,List.drop_succ_cons,List.drop_zero,List.map_map]
    rfl
theorem oQ:∀ {ss:List Str} {its:List Value},Vals (ss.map V.str) its->StrsAre its ss
  | [],its,r=>by cases r;exact .nil
  | x::ss,its,r=>by
    cases r with
    | cons h t=>obtain⟨k,rfl⟩:=h;exact .cons x k (oQ t)
def zD:V->List V->Hp->VK->Prop:=fun x xs H Q=>∃ s l ss,x=.str s/\xs=[.ref l]/\Rd H l (.lst (List.map V.str ss))/\((ss.map fun x=>(tx x).length).sum+ss.length * (tx s).length<=100000)/\Q (.str (mkT (aR (tx s) (ss.map tx)))) H
theorem zE:MtR X "str.join" zD:=by
  intro pins s σ H x xs v us Q I rx r h
  obtain⟨z,l,ss,rfl,rfl,hH,hb,q⟩:=h
  obtain⟨t,rfl⟩:=rx
  obtain⟨u,rfl,ru⟩:=cv r
  cases ru
  obtain⟨_,its,n,rv,_,e⟩:=jm I hH
  refine join_list (D:=l) (items:=its.toArray) (ys:=ss) ⟨_,e,rfl,n,rfl⟩ (oQ rv) ?_ fun t' k=>?_
  · have:ss.map (fun x=>x.length)=ss.map fun x=>(tx x).length:=List.map_congr_left fun x _=>aV x
    rw[this,aV];omega
  · rw[zC]
    exact⟨.str _,H,I.tok k,⟨_,rfl⟩,q⟩
theorem oR{K:PySem.W.Frag}{H:Hp}:∀ {ds:List D} {ls:List (List Nat)} {xs:List V},dm ds=some ls->Reps K H xs ds->∃ ss:List Str,xs=ss.map V.str/\ls=ss.map tx
  | [],ls,xs,h,r=>by cases h;cases r;exact⟨[],rfl,rfl⟩
  | .str y::ds,ls,xs,h,r=>by
    cases e:dm ds with
    | none=>simp only[dm,e] at h;cases h
    | some l2 =>
      simp only[dm,e] at h
      cases h
      cases r with
      | cons h1 h2 =>
        obtain⟨ss,rfl,rfl⟩:=oR e h2
        cases h1
        exact⟨y::ss,rfl,rfl⟩
theorem zF{K:PySem.W.Frag}{H:Hp}{s:Str}{dx d:D}{v:V}(r:Rep K H v dx)(h:dQ (.str s) dx=some d):∃ l ss z,v=.ref l/\Rd H l (.lst (List.map V.str ss))/\((ss.map fun x=>(tx x).length).sum+ss.length * (tx s).length<=100000)/\d=.str z/\z=mkT (aR (tx s) (ss.map tx)):=by
  cases dx with
  | lst ds =>
    obtain⟨ls,h1,h2⟩:=bind_some h
    obtain⟨hb,rfl⟩:=b6 h2
    obtain⟨l,xs,rfl,hl,hx,_⟩:=eM r
    obtain⟨ss,rfl,rfl⟩:=oR h1 hx
    refine⟨l,ss,_,rfl,hl,?_,rfl,rfl⟩
    rw[List.map_map,List.length_map] at hb
    exact hb
  | _=>cases h
section
variable {s:Str} {j:Nat}
theorem kA(ha:YE X a ta)(hbase:attributeBase (.Constant (.str s) j p1) "join" X.env (eval (.Constant (.str s) j p1) X.env)=eval (.Constant (.str s) j p1) X.env:=by rfl)(hfew:((backTo cp (starEach [a] X.env)).all (fun x=>!x.1) && (backToKw cp (keywordEach [] X.env)).all (fun x=>x.1.isSome) && decide ([a].length+([]:List Keyword).length+(if ([]:List Keyword).isEmpty then 0 else 1) < 30))=true:=by rfl)(hline:(ap.endLine == cp.line)=true:=by rfl)(hs:starEach [a] X.env=(false,eval a X.env)::starEach [] X.env:=by rfl)(hplain:(backTo cp (starEach [] X.env)).any (·.1)=false:=by rfl):
    YE X (.Call (.Attribute (.Constant (.str s) j p1) "join" ap) [a] [] cp) (n1 (dQ (.str s)) ta) :=
  ⟨aE (j5 F.plainAttrs_str F.slot_str_join F.type_str_join zE dE (bB ha.h bT hs) hbase hfew hline hs hplain) fun σ H Q ⟨ρ,M,QW,hE,ht,hQ⟩=>⟨rfl,ρ,M,_,hE,ht,fun dx M1 ⟨d,hf,h1⟩ x H1 p1=>by
    obtain⟨l,ss,z,rfl,hl,hb,rfl,rfl⟩:=zF (ar (aF _ _) p1.rep) hf
    exact⟨s,l,ss,rfl,rfl,hl,hb,hQ _ M1 h1 _ H1 ⟨p1.toPostT,.str _⟩⟩⟩⟩
end
theorem oS(c:Nat):∀ (n:Nat) {p q:List (List Nat)},p.length+q.length<=n->p ≠ []->q ≠ []->(∀ y ∈ p,c ∉ y)->(∀ y ∈ q,c ∉ y)->aR [c] p=aR [c] q->p=q
  | n,[],_,_,h,_,_,_,_=>absurd rfl h
  | n,_,[],_,_,h,_,_,_=>absurd rfl h
  | n,[a],[b],_,_,_,_,_,e=>by rw[aR,aR] at e;rw[e]
  | n,[a],b::b2::r,_,_,_,ha,_,e=>by
    rw[aR,aR] at e
    exact absurd (by rw[e];simp) (ha a List.mem_cons_self)
  | n,a::a2::r,[b],_,_,_,_,hb,e=>by
    rw[aR,aR] at e
    exact absurd (by rw[<- e];simp) (hb b List.mem_cons_self)
  | 0,a::a2::r,b::b2::r2,h,_,_,_,_,_=>by simp at h
  | n + 1,a::a2::r,b::b2::r2,h,_,_,ha,hb,e=>by
    rw[aR,aR,List.append_assoc,List.append_assoc] at e
    have key:∀ {u v s t:List Nat},c ∉ u->c ∉ v->u++([c]++s)=v++([c]++t)->u=v/\s=t:=by
      intro u
      induction u with
      | nil =>
        intro v s t _ hv e
        cases v with
        | nil=>simp at e;exact⟨rfl,e⟩
        | cons w v=>simp at e;exact absurd (by rw[e.1];exact List.mem_cons_self) hv
      | cons w u ih =>
        intro v s t hu hv e
        cases v with
        | nil=>simp at e;exact absurd (by rw[<- e.1];exact List.mem_cons_self) hu
        | cons w2 v =>
          simp only[List.cons_append,List.cons.injEq] at e
          obtain⟨h1,h2⟩:=ih (fun z=>hu (List.mem_cons_of_mem _ z)) (fun z=>hv (List.mem_cons_of_mem _ z)) e.2
          exact⟨by rw[e.1,h1],h2⟩
    obtain⟨h1,h2⟩:=key (ha a List.mem_cons_self) (hb b List.mem_cons_self) e
    have:=oS c n (p:=a2::r) (q:=b2::r2) (by simp at h ⊢;omega) (by simp) (by simp) (fun y hy=>ha y (List.mem_cons_of_mem _ hy)) (fun y hy=>hb y (List.mem_cons_of_mem _ hy)) h2
    rw[h1,this]
theorem oT(s:Str):∀ (ys:List Str),tx (s.join ys)=aR (tx s) (ys.map tx)
  | []=>rfl
  | [a]=>rfl
  | a::b::r=>by
    rw[join_cons_cons,gs,gs,az,az,oT s (b::r),List.map_cons,List.map_cons,List.map_cons]
    rfl
theorem zG{c:Nat}:∀ {l:List Nat},c ∈ l->countIn (PyData.str { cps:=#[c] }) (List.map (fun n=>PyData.str { cps:=#[n] }) l) ≠ 0:=by
  have nn:∀ (l:List PyData) (x:PyData),0<=countIn x l:=fun l x=>by
    induction l with
    | nil=>simp[countIn]
    | cons y r ih=>simp only[countIn];split <;> omega
  intro l h
  induction l with
  | nil=>cases h
  | cons a r ih =>
    rw[List.map_cons]
    simp only[countIn]
    rcases List.mem_cons.mp h with rfl | h
    · rw[if_pos (by simp[PySem.Spec.same])]
      have:=nn (List.map (fun n=>PyData.str { cps:=#[n] }) r) (PyData.str { cps:=#[c] })
      omega
    · have h1:=ih h
      have h2:=nn (List.map (fun n=>PyData.str { cps:=#[n] }) r) (PyData.str { cps:=#[c] })
      split <;> omega
theorem oU(x:Str)(c:Nat):(Txt.split x ⟨#[c]⟩).map tx=aC c (tx x):=by
  have h:=split_closes x c
  rw[Bool.and_eq_true,beq_iff_eq,List.all_eq_true] at h
  obtain⟨h1,h2⟩:=h
  obtain⟨g1,g2,g3⟩:=fF c (tx x)
  refine oS c _ (Nat.le_refl _) (fun z=>?_) g3 (fun y hy=>?_) g2 ?_
  · have:=(fact_split x ⟨#[c]⟩).1
    rw[List.map_eq_nil_iff.mp z] at this
    simp at this
  · obtain⟨q,hq,rfl⟩:=List.mem_map.mp hy
    have h3:=h2 q hq
    intro hc
    simp only[ne_eq,decide_not,Bool.not_not,decide_eq_true_eq] at h3
    exact zG hc h3
  · rw[g1]
    have:=oT ⟨#[c]⟩ (Txt.split x ⟨#[c]⟩)
    rw[h1] at this
    exact this.symm
def zH:V->List V->Hp->VK->Prop:=fun x xs H Q=>∃ z c,x=.str z/\xs=[.str ⟨#[c]⟩]/\(tx z).length<=10000/\∀ p,H p=none->Q (.ref p) (upd H p (.lst ((aC c (tx z)).map fun l=>V.str (mkT l))))
theorem oV:∀ (ys:List Str) (n:Nat),Vals (ys.map V.str) (strsFrom n ys)
  | [],n=>.nil
  | y::r,n=>.cons ⟨n,rfl⟩ (oV r (n+1))
theorem zI(x:Str)(c:Nat):(aC c (tx x)).map (fun l=>V.str (mkT l))=(Txt.split x ⟨#[c]⟩).map V.str:=by
  rw[<- oU,List.map_map]
  exact List.map_congr_left fun y _=>by show V.str (mkT (tx y))=V.str y;rw[cI]
theorem zJ:MtR X "str.split" zH:=by
  intro pins s σ H x xs v us Q I rx r h
  obtain⟨z,c,rfl,rfl,hz,q⟩:=h
  obtain⟨t,rfl⟩:=rx
  obtain⟨u,rfl,t',rfl⟩:=cv r
  have hl1:(⟨#[c]⟩:Str).length=1:=rfl
  have hk:Builtin.Str.strKind z < Builtin.Str.strKind ⟨#[c]⟩->(Builtin.Str.occurrences z ⟨#[c]⟩ 0 z.length (z.length+1)).isEmpty=true\/True:=fun _=>.inr trivial
  have len:(Txt.split z ⟨#[c]⟩).length<=sizeLine:=by
    have h1:=congrArg List.length (oU z c)
    rw[List.length_map] at h1
    have h2:=kr c (tx z)
    rw[sizeLine_eq];omega
  rw[zI] at q
  have itself:Txt.split z ⟨#[c]⟩=[z]->wpAny (model X.prog X.w) X.A (call (.builtin "str.split") [.str z t,.str ⟨#[c]⟩ t']) (EP X pins σ Q) X.xe s\/True:=fun _=>.inr trivial
  by_cases hshort:(decide (z.length < (⟨#[c]⟩:Str).length) || decide (Builtin.Str.strKind z < Builtin.Str.strKind ⟨#[c]⟩))=true
  · have es:Txt.split z ⟨#[c]⟩=[z]:=by unfold Txt.split;rw[if_pos hshort]
    rw[es] at q
    refine call_meets F.slot_str_split (typeIs_str s z t) F.entry_str_split (F.args_str_split_2 _ _) (S:=listOfItself z t) (Meets.of_wp fun prog w A R s' hR=>?_) ?_
    · obtain⟨raising,et⟩:=split_sep_tree z ⟨#[c]⟩ t t'
      rw[et,if_pos hshort]
      refine wpAny_bind (wpAny_rule ?_)
      refine wpAny_bind (wpAny_newList ?_ (by show 1<=sizeLine;decide))
      exact wpAny_pure ⟨_,rfl,hR⟩
    · exact⟨.ref _,_,I.lnew (t':=s.toks) (ys:=[.str z]) (its:=[.str z t]) (.cons ⟨t,rfl⟩ .nil) (by show 1<=sizeLine;decide),rfl,q _ I.fresh⟩
  · have hshort':(decide (z.length < (⟨#[c]⟩:Str).length) || decide (Builtin.Str.strKind z < Builtin.Str.strKind ⟨#[c]⟩))=false:=by simpa using hshort
    by_cases hocc:(Builtin.Str.occurrences z ⟨#[c]⟩ 0 z.length (z.length+1)).isEmpty=true
    · have es:Txt.split z ⟨#[c]⟩=[z]:=by unfold Txt.split;rw[if_neg hshort,if_pos hocc]
      rw[es] at q
      exact call_meets F.slot_str_split (typeIs_str s z t) F.entry_str_split (F.args_str_split_2 _ _) (meets_str_split_not_found z ⟨#[c]⟩ t t' hshort' rfl hocc)
        ⟨.ref _,_,I.lnew (t':=s.toks) (ys:=[.str z]) (its:=[.str z t]) (.cons ⟨t,rfl⟩ .nil) (by show 1<=sizeLine;decide),rfl,q _ I.fresh⟩
    · have es:Txt.split z ⟨#[c]⟩=Builtin.Str.partsBetween z (Builtin.Str.occurrences z ⟨#[c]⟩ 0 z.length (z.length+1)) (⟨#[c]⟩:Str).length:=by unfold Txt.split;rw[if_neg hshort,if_neg hocc]
      rw[es] at q len
      refine call_meets F.slot_str_split (typeIs_str s z t) F.entry_str_split (F.args_str_split_2 _ _) (meets_str_split_sep z ⟨#[c]⟩ t t' hshort' rfl (by simpa using hocc) (by rw[aV];exact bN (by omega)) len) ?_
      exact⟨.ref _,_,I.lnew (t':=_) (oV _ _) (by rw[List.length_map];exact len),rfl,q _ I.fresh⟩
theorem zK{s:Str}{j:Nat}(ha:JE X a fa ea)(hbase:attributeBase a "split" X.env (eval a X.env)=eval a X.env:=by rfl)(hfew:((backTo cp (starEach [.Constant (.str s) j p1] X.env)).all (fun x=>!x.1) && (backToKw cp (keywordEach [] X.env)).all (fun x=>x.1.isSome) && decide ([Expr.Constant (.str s) j p1].length+([]:List Keyword).length+(if ([]:List Keyword).isEmpty then 0 else 1) < 30))=true:=by rfl)(hline:(ap.endLine == cp.line)=true:=by rfl)(hs:starEach [.Constant (.str s) j p1] X.env=(false,eval (.Constant (.str s) j p1) X.env)::starEach [] X.env:=by rfl)(hplain:(backTo cp (starEach [] X.env)).any (·.1)=false:=by rfl):
    JF X (.Call (.Attribute a "split" ap) [.Constant (.str s) j p1] [] cp) (e1 (fun x=>iH x (.str s)) fa) [] :=
  ⟨aE (j5 F.plainAttrs_str F.slot_str_split F.type_str_split zJ ha.h (bB dE bT hs) hbase hfew hline hs hplain) fun σ H Q ⟨ρ,d,hE,hf,hQ⟩=>by
    obtain⟨dx,h1,hf⟩:=bind_some hf
    refine⟨ρ,dx,hE,h1,fun x H1 p1=>?_⟩
    cases dx with
    | str z =>
      have hf:(match tx s with | [c]=>if (tx z).length<=10000 then some (D.lst ((aC c (tx z)).map fun l=>D.str (mkT l))) else none | _=>none)=some d:=hf
      · split at hf
        · rename_i c ec
          obtain⟨hz,rfl⟩:=b6 hf
          cases p1.rep
          have es:s=⟨#[c]⟩:=by rw[<- cI s,ec];rfl
          subst es
          refine⟨rfl,z,c,rfl,rfl,hz,fun r hr=>hQ _ _ (fY p1.same hr fun A hD hz'=>?_)⟩
          have gen:∀ (ls:List (List Nat)) (H':Hp),Reps X.K H' (ls.map fun l=>V.str (mkT l)) (ls.map fun l=>D.str (mkT l)):=by
            intro ls H'
            induction ls with
            | nil=>exact .nil
            | cons y r ih=>exact .cons (.str _) ih
          exact gen _ _
        · cases hf
    | _=>cases hf⟩
def Its(z:Str):It:=⟨fun i _=>i < z.cps.size,fun i H x H'=>H'=H/\∃ c,z.cps[i]?=some c/\x=.str ⟨#[c]⟩,fun i _=>i=z.cps.size⟩
theorem zL{P:Program}{w:World}{K:PySem.W.Frag}{tg:Expr}(it:Addr)(z:Str)(t:Tok):Turn P w K tg (Its z) [it] it (fun i h=>h.IsStrIter it "str_ascii_iterator" z t i) where
  mem:=by simp
  obj:=fun i h st b hb=>by
    have e:b=it:=by simpa using hb
    subst e
    obtain⟨o,e,c,d⟩:=st
    exact⟨o,e,fun v z=>by rw[d] at z;cases z⟩
  keep:=fun i h h' st k=>by
    obtain⟨o,e,c,d⟩:=st
    exact⟨o,k it (by simp) o e,c,d⟩
  item:=by
    intro X hP hw hK hc i pins s σ H E I hf st hg
    subst hP hw hK
    obtain⟨f0,f1,f2,f3,f4,f5⟩:=hf it (by simp)
    have W:=Walks.strAscii (prog:=X.prog) (w:=X.w) (I.ok.hd hc) it z t
    refine W.item i s _ _ hg st fun v h' tk hv st' kk=>?_
    obtain⟨c,u,hc',rfl⟩:=hv
    have I1:Inv X pins σ H { s with heap:=h',toks:=tk }:=I.turned (fun b o hb e=>kk b o (by simpa using hb) e) f0 f1 f3 f4 f5
    obtain⟨o,e,co,d⟩:=id st'
    refine⟨_,rfl,iS (s:={ s with heap:=h',toks:=tk }) e co d (by decide) ⟨.str ⟨#[c]⟩,H,I1,⟨u,rfl⟩,⟨rfl,c,hc',rfl⟩,st',fun b hb=>(hf b hb).1⟩⟩
  done:=by
    intro X hP hw hK hc i pins s σ H E I hf st hg
    subst hP hw hK
    obtain⟨f0,f1,f2,f3,f4,f5⟩:=hf it (by simp)
    have W:=Walks.strAscii (prog:=X.prog) (w:=X.w) (I.ok.hd hc) it z t
    have hg:i=z.cps.size:=hg
    subst hg
    exact W.done s _ _ st fun h' tk kk=>⟨rfl,I.turned (fun b o hb e=>kk b o (by simpa using hb) e) f0 f1 f3 f4 f5⟩
  self:=fun _ _ _ _ _ st h=>wpAny_pyIter_striter_ascii st h
def zM(tl:TE):TI:=fun σ H R=>tl σ H fun x H1=>∃ z,x=.str z/\(z.cps.all fun x=>decide (x < 128))=true/\R (Its z) H1
theorem zN{l:Expr}{tl:TE}(hl:PE X l tl):PI X tg l (zM tl):=by
  intro pins s σ H R I h
  refine thn (hl pins s σ H _ I h) fun v s1 ⟨x,H1,I1,r1,q1⟩=>?_
  obtain⟨z,rfl,ha,q⟩:=q1
  obtain⟨t,rfl⟩:=r1
  refine wpAny_pyIter_ascii ha ?_
  refine⟨s1.heap.objs.size,[s1.heap.objs.size],_,_,H1,rfl,I1.kept (t':=s1.toks) fun b o e=>Heap.get?_push_of_some _ e,zL _ z t,?_,fun b hb=>?_,q⟩
  · exact⟨_,Heap.get?_push_size _ rfl,rfl,rfl⟩
  have e:b=s1.heap.objs.size:=by simpa using hb
  subst e
  exact I1.fpOk (Nat.le_refl _) (I1.hok.fresh (Nat.le_refl _))
theorem kB{iter:Expr}{fi:FE}{ei:List Es}(h:JE X iter fi ei):JI X tg iter (dR fi) []:=⟨u9 (zN h.h) fun σ H R ⟨ρ,ds,hE,hf,hR⟩=>by
  obtain⟨d,h1,hf⟩:=bind_some hf
  refine⟨ρ,d,hE,h1,fun v H1 p=>?_⟩
  cases d with
  | str z =>
    obtain⟨hc,rfl⟩:=b6 hf
    cases p.rep
    refine⟨z,rfl,?_,hR _ _ ⟨p.same,fun i d' H' hd e=>?_,fun H' e=>?_⟩⟩
    · rw[<- Array.all_toList];exact hc.1
    · rw[List.getElem?_map] at hd
      cases hk:(tx z)[i]? with
      | none=>rw[hk] at hd;cases hd
      | some c =>
        rw[hk] at hd;cases hd
        have hk':z.cps[i]?=some c:=by rw[<- Array.getElem?_toList];exact hk
        refine⟨?_,fun x H'' ⟨e1,c2,hc2,ex⟩=>?_⟩
        · show i < z.cps.size
          exact (Array.getElem?_eq_some_iff.mp hk').1
        · subst e1
          rw[hk'] at hc2;cases hc2
          subst ex
          exact⟨Same.refl _,.str _,fun A _ _=>.str _⟩
    · show ((tx z).map _).length=z.cps.size
      rw[List.length_map];rfl
  | _=>cases hf⟩
end
end VL
namespace VL
open PySem PySem.Spec PyProof.Rows L2
theorem zO:∀ c < 128,(Nat.toDigits 16 c).length<=2:=by decide
theorem zP{q c:Nat}(h:c < 128):(Builtin.Str.reprChar q c).length<=4:=by
  unfold Builtin.Str.reprChar
  have hd:=zO c h
  simp only
  split
  · simp
  split
  · simp
  split
  · simp
  split
  · simp
  split
  · simp
  rw[if_pos (by omega)]
  simp
  omega
theorem oW(f:Nat->List Nat)(hf:∀ c < 128,(f c).length<=4):∀ (l:List Nat) (acc:Array Nat),(∀ c ∈ l,c < 128)->(List.foldl (fun out c=>out++(f c).toArray) acc l).size<=acc.size+4 * l.length
  | [],acc,_=>by simp
  | a::r,acc,h=>by
    rw[List.foldl_cons]
    have h1:=oW f hf r (acc++(f a).toArray) fun c hc=>h c (List.mem_cons_of_mem _ hc)
    have h2:=hf a (h a List.mem_cons_self)
    simp at h1 ⊢
    omega
theorem zQ{z:Str}(ha:(tx z).all (fun c=>decide (c < 128))=true)(hl:(tx z).length<=10000):(reprText z).length<=50000:=by
  have h:∀ c ∈ tx z,c < 128:=fun c hc=>of_decide_eq_true (List.all_eq_true.mp ha c hc)
  have h1:=oW (Builtin.Str.reprChar (reprQuote z)) (fun c hc=>zP hc) (tx z) #[reprQuote z] h
  show (Array.push _ _).size<=_
  rw[Array.size_push,<- Array.foldl_toList]
  have h2:(List.foldl (fun out c=>out++(Builtin.Str.reprChar (reprQuote z) c).toArray) #[reprQuote z] z.cps.toList).size<=1+4 * (tx z).length:=h1
  omega
section
variable {X:Cx} {P:Hp} {EX:QX} {a b e:Expr} {te:TE} {fa:FE} {ea:List Es} {pos np cpos p1 p2:Pos} {x:Str}
def tFs(te:TE):TE:=fun σ H Q=>te σ H fun x H1=>∃ z,x=.str z/\(tx z).all (fun c=>decide (c < 128))=true/\(tx z).length<=10000/\∀ y,Q (.str y) H1
theorem zR{m:Str}{j}(he:PE X e te)(hm:m.length<=1000:=by decide):PE X (.JoinedStr [.FormattedValue e 114 none p1,.Constant (.str m) j p2] pos) (tFs te):=by
  intro pins s σ H Q I h
  refine JoinedStr_many (joinParts_cons (wpAny_FormattedValue_repr (thn (he pins s σ H _ I h) fun v s1 ⟨y,H1,I1,r1,q1⟩=>?_)))
  obtain⟨z,rfl,hz1,hz2,q⟩:=q1
  obtain⟨t,rfl⟩:=r1
  have hl:=zQ hz1 hz2
  refine pyReprObj_str (formatField_str (fun t' tk=>?_) (bN (by omega))) (bN (by omega))
  have e0:(Str.empty++reprText z).length=(reprText z).length:=by rw[gs,aV,az,aV];simp[tx,Str.empty]
  refine⟨by rw[e0];exact bN (by omega),joinParts_cons (Calls.Constant_str ?_)⟩
  have e1:(Str.empty++reprText z++m).length=(reprText z).length+m.length:=by
    rw[gs (Str.empty++reprText z),aV,az,List.length_append,<- aV,<- aV,e0]
  refine⟨by rw[e1];exact bN (by omega),joinParts_nil ?_ (by rw[e1];exact bN (by omega))⟩
  exact⟨.str _,H1,I1.tok _,⟨_,rfl⟩,q _⟩
theorem oX{m:Str}{j}(xt:bp X.K=true)(ho:OutX X P EX)(ha:JE X.nox e fa ea)(hm:m.length<=1000:=by decide)(hc:X.calm=true:=by rfl)(hg:Gl X x:=by rfl)(hd:(x == ("__debug__" : Str))=false:=by decide)(he:starEach [.JoinedStr [.FormattedValue e 114 none p1,.Constant (.str m) j p2] np] X.env=(false,eval (.JoinedStr [.FormattedValue e 114 none p1,.Constant (.str m) j p2] np) X.env)::starEach [] X.env:=by rfl)(hpl:(backTo cpos (starEach [.JoinedStr [.FormattedValue e 114 none p1,.Constant (.str m) j p2] np] X.env)).any (·.1)=false:=by rfl):
    YM X P EX (.Raise (some (.Call (.Name x kp) [.JoinedStr [.FormattedValue e 114 none p1,.Constant (.str m) j p2] np] [] cpos)) none pos) (gq x fa):=by
  refine⟨?_⟩
  intro n pins s σ H De I ⟨ρ,M,Ew,hE,⟨hx,⟨d0,hd0,hok⟩,hex⟩,hl,hX⟩
  obtain⟨B,XB,hall⟩:=ft xt
  obtain⟨C,hns,O,_,_⟩:=hall x hx
  have hmg:X.mg x=some (.ref C):=PySem.W.mg_of I.ok.mod.kin I.ok.mod.glob hns
  obtain⟨tl,N,nm,qn,bs,hdct,sn,sub,ab,col,dd,k0,k1,k2,k3,k5,mN,hC,hN,hni,T⟩:=o6 I.ok.mod.kin O.exc
  refine wpAny_Raise_call_subT (C:=C) (nm:=nm) (q:=qn) (N:=N) (bs:=bs) (bm:=tl) (hdct:=hdct) (sn:=sn) (sub:=sub) (ab:=ab) (col:=col) (dd:=dd) (k0:=k0) (k1:=k1) (k2:=k2) (k3:=k3) (k5:=k5) (mN:=mN)
    F.excBase_ValueError (T.hasType (by decide)) (I.ok.hd hc) hpl hni (er I hg hmg ⟨rfl,?_⟩ hd)
  have hA:=bB (zR (m:=m) (j:=j) (p1:=p1) (p2:=p2) (pos:=np) (PE.nox ha.h) hm) bT he
  have h1:=hA cpos pins s σ H (fun ws H'=>∃ y,ws=[.str y]/\Same H H') I ⟨ρ,d0,hE.q.envR,hd0,fun v H1 p1=>by
    obtain⟨z,rfl,hz1,hz2⟩:=hok
    cases p1.rep
    exact⟨z,rfl,hz1,hz2,fun y=>⟨y,rfl,p1.same⟩⟩⟩
  rw[he] at h1 ⊢
  refine Calls.evalArgs_plain (wpAny_mono h1 (fun vs s2 h2=>?_) fun _ _ y=>y)
  obtain⟨ws,H2,I2,r2,y,rfl,hs⟩:=h2
  have hE2:=hE.next (PostT.of hE.q.ok hs)
  refine⟨rfl,?_,I2.bk _ _ hC,hN.keeps I2.bk,T.keeps I2.bk,fun h' e hm'=>ho.made pins σ _ s2 e C h' vs I2 hm' ?_⟩
  · rw[<- r2.length,sizeLine_eq];exact (by decide:1<=16777216)
  · have hn:H2 e=none:=by
      cases q:H2 e with
      | none=>rfl
      | some u=>obtain⟨o,q2⟩:=eB (I2.hok e u q);rw[hm'.new] at q2;cases q2
    exact⟨e,x,M,C,rfl,rfl,hns,hx,hX _ _ hex,by rw[iB hn];exact hE2.same,by rw[iB hn];exact hE2.q.ok⟩
end
def PXS(X:Cx)(st:Stmt)(t:St->Hp->Ends->XK->Prop):Prop :=
  ∀ (pins:List (Addr × Obj)) (s:Shared) (σ:St) (H:Hp) (D:Ends) (E:XK),L2.Inv X pins σ H s->t σ H D E->wpAny (model X.prog X.w) X.A (exec st X.env) (SP X pins D) (Fl X pins σ E) s
def zS(K:PySem.W.Frag)(P:Hp)(n:Nat)(t:NTS):St->Hp->Ends->XK->Prop:=fun σ H De E=>∃ ρ M Ew,EnvN K P n σ ρ H M/\t Ew ρ M/\LeE Ew (dj K P n De)/\∀ v c H',EXK K (PH H M) Ew.ex v c H'->E v c H'
structure YXS (X:Cx) (st:Stmt) (t:NTS):Prop where
  h:∀ P n,PXS X st (zS X.K P n t)
section
variable {X:Cx} {a c:Expr} {te:NEX} {ka:NTB} {st sa sb:Stmt} {t u:NTS} {pos p2 pc pn pa ph pf p3:Pos} {x cn n:Str}
theorem kC(i:Nat)(hN:X.N.Nodup)(he:YX X a te)(hi:X.N[i]?=some x:=by rfl)(hx:Loc X.env.scope x:=by first | exact Or.inl rfl | exact Or.inr rfl)(hs:swapsWith a (some (.Name x p2)) p3.line X.env=pure false:=by rfl)(hfn:X.fn x=true\/X.env.scope.names.lookup x=some .local:=by first | exact .inl rfl | exact .inr rfl):YXS X (.Assign [.Name x p2] a p3) (gh i te):=by
  refine⟨fun P m pins s σ H De E I ⟨ρ,M,Ew,hE,ht,hl,hX⟩=>?_⟩
  refine wpAny_Assign_Name (thn (he.h pins s σ H (fun v H1=>∃ d M1,PostW X.K H M d v H1 M1/\Ew.nx (ρ.set i (some d)) M1) E I ⟨ρ,M,_,_,hE.q,ht,fun d M1 h1 v H1 p1=>⟨d,M1,p1,h1⟩,fun v c H' z=>hX v c H' z⟩) fun v s1 ⟨y,H1,I1,r1,d,M1,p1,h1⟩=>?_) hs
  exact gK I1 hN hi hx r1 (fun s2 I2=>⟨_,H1,I2,hl.nx _ M1 h1 _ H1 ((hE.next p1.toPostT).set p1.rep)⟩) hfn
theorem oY(hc:YT X.nox c ka)(ha:YXS X sa t)(hb:YXS X sb u):YXS X (.If c [sa] [sb] pos) (bd ka t u):=by
  refine⟨fun P m pins s σ H De E I ⟨ρ,M,Ew,hE,ht,hl,hX⟩=>?_⟩
  have one:∀ {st:Stmt} {s1:Shared},wpAny (model X.prog X.w) X.A (exec st X.env) (SP X pins De) (Fl X pins σ E) s1->wpAny (model X.prog X.w) X.A (execs [st] X.env) (SP X pins De) (Fl X pins σ E) s1:=fun {st s1} h =>
    wpAny_execs_cons (thn h fun f s2 q=>by
      cases f with
      | next=>exact wpAny_execs_nil q
      | ret v=>exact q
      | brk=>exact q
      | cont=>exact q)
  have hT:=hc.h pins s σ H (fun k H1=>∃ M1,PostT X.K H M H1 M1/\((k=true->t Ew ρ M1)/\(k=false->u Ew ρ M1))) (I.wish _) ⟨ρ,M,_,hE.q,ht,fun k M1 hk H1 p1=>⟨M1,p1,hk⟩⟩
  refine wpAny_If (wpAny_mono hT (fun k s1 h1=>?_) fun _ _ z=>False.elim z)
  obtain⟨H1,I1,M1,p1,hk⟩:=h1
  have I1:=I1.unwish
  cases k with
  | true=>exact one (ha.h P m pins s1 σ H1 De E I1 ⟨ρ,M1,Ew,hE.next p1,hk.1 rfl,hl,fun v c H' z=>hX v c H' (z.pre p1.same)⟩)
  | false=>exact one (hb.h P m pins s1 σ H1 De E I1 ⟨ρ,M1,Ew,hE.next p1,hk.2 rfl,hl,fun v c H' z=>hX v c H' (z.pre p1.same)⟩)
theorem zT(c j:Nat)(xt:bp X.K=true)(hN:X.N.Nodup)(hx:YXS X st t)(hc:X.N[c]?=some cn:=by rfl)(hj:X.N[j]?=some n:=by rfl)(hcj:c ≠ j:=by decide)(lc:X.env.scope.names.lookup cn=some .local:=by rfl)(lj:X.env.scope.names.lookup n=some .local:=by rfl)(kj:X.env.kindOf n=some .local:=by rfl)(hg:Gl X "FareError":=by rfl)(hst:X.stack=X.env::X.outer:=by rfl)(hfr:X.env.frame=some X.env.locals:=by rfl)(hex:X.ex=[]:=by rfl)(hdb:(n == ("__debug__" : Str))=false:=by decide)(hcd:(n == ("__classdict__" : Str))=false:=by decide)(hsw:swapsWith (.Name n pn) (some (.Name cn pc)) pa.line X.env=pure false:=by rfl):
    YS X (.Try [st] [.ExceptHandler (some (.Name "FareError" pf)) (some n) [.Assign [.Name cn pc] (.Name n pn) pa] ph] [] [] pos) (jT c j t):=by
  refine⟨fun P m pins s σ H De I ⟨ρ,M,Ew,hE,ht,hl⟩=>?_⟩
  refine wpAny_Try_except (wpAny_mono (wpAny_execs_cons (thn (hx.h P m pins s σ H De (EXK X.K (PH H M) _) I ⟨ρ,M,_,hE,ht,⟨hl.nx,hl.bk,hl.ct,hl.rt⟩,fun v c H' z=>z⟩) fun f s1 q=>?_)) (fun f s1 h1=>h1) fun e s1 hF=>?_)
  · cases f with
    | next=>exact wpAny_execs_nil (wpAny_execs_nil q)
    | ret v=>exact q
    | brk=>exact q
    | cont=>exact q
  · exact xM xt hN hc hj hcj lc lj kj hg hst hfr hex hdb hcd hsw hF fun y C H2 hy z=>xN hE hl hy z
end
section
variable {X:Cx} {a b:Expr} {ta tb:NTE} {pos p p2:Pos} {k:Nat} {body:List Stmt} {tbd:NTS} {x:Str}
theorem zU{op:CmpOp}{r:R2}{g:D->D->Option D}(ho:OpR X (compareOp op) r)(hr:OpV X.K r g)(ha:NE X a ta)(hb:NE X b tb)(hm:behindInMarks op b=false):NT X (.Compare a [op] [b] pos) (cj (n2V g ta tb)) :=
  d8 (iZ ho ha hb hm) fun σ H Q ⟨ρ,M,QW,hE,ht,hQ⟩=>nY hr ⟨ρ,M,_,hE,ht,fun d M' hd v H' p=>by
    cases d with
    | bl k=>cases p.rep;exact⟨k,rfl,hQ k M' hd H' p.toPostT⟩
    | _=>exact hd.elim⟩
theorem zV{op:CmpOp}{r:R2}{g:D->D->Option D}(ho:OpR X (compareOp op) r)(hr:OpV X.K r g)(ha:NE X a ta)(hb:NE X b tb)(hm:behindInMarks op b=false):NE X (.Compare a [op] [b] pos) (n2V g ta tb) :=
  aE (iY ho ha hb hm) fun σ H Q h=>nY hr h
theorem gt(hr:Room k X.A)(ha:YE X a ta)(hb:YE X b tb):YE X (.Compare a [.Eq] [b] pos) (n2V eqD ta tb):=⟨zV (g6 hr) (g7 X.K) ha.h hb.h (cu _)⟩
theorem zW(ha:YE X a ta)(hb:YE X b tb)(hm:behindInMarks .In b=false:=by with_unfolding_all rfl):YT X (.Compare a [.In] [b] pos) (cj (n2V inD ta tb)):=⟨zU rO (uH X.K) ha.h hb.h hm⟩
theorem kD{T:Str}{TS:String}(hk:∀ K d,PySem.W.kitOne K (.type (tyD d)) (.type TS)=some (bO TS (tyD d)))(hT:bootBuiltins T=some (.type TS))(mi:X.mg "isinstance" = none)(mt:X.mg T=none)(ha:YE X a ta)(hg:Gl X "isinstance":=by rfl)(hgT:Gl X T:=by rfl)(hn:T ≠ "__name__":=by decide)(hd:(T == ("__debug__" : Str))=false:=by decide)(hs:starEach [a,.Name T p2] X.env=(false,eval a X.env)::starEach [.Name T p2] X.env:=by rfl)(hs2:starEach [.Name T p2] X.env=(false,eval (.Name T p2) X.env)::starEach [] X.env:=by rfl)(hpl:(backTo pos (starEach [.Name T p2] X.env)).any (·.1)=false:=by rfl):
    YE X (.Call (.Name "isinstance" p) [a,.Name T p2] [] pos) (gp TS ta) :=
  ⟨aE (fP (mZ hk) hg mi (by decide +kernel) (bB ha.h (bB (iQ (v:=.ty TS) hgT mt hT rfl hn hd) bT hs2) hs) (by decide) (by decide) hs hpl) fun σ H Q ⟨ρ,M,QW,hE,ht,hQ⟩=>⟨ρ,M,_,hE,ht,fun x M1 ⟨d,hg,h1⟩ vx H1 p1=>by
    have rv:=nN p1.ok p1.rep
    cases np:g8 (vw1 M1 x) with
    | true=>simp only[bJ,np] at hg;cases hg
    | false =>
      simp only[bJ,np] at hg
      cases hg
      exact⟨vx,_,rfl,rv,np,hQ _ M1 h1 _ H1 ⟨p1.toPostT,.bl _⟩⟩⟩⟩
theorem oZ{K:PySem.W.Frag}{H:Hp}:∀ {bs:List Str} {vs:List V},Reps K H vs (bs.map D.str)->vs=bs.map V.str
  | [],_,r=>by cases r;rfl
  | _::_,_,r=>by cases r with | cons a t=>cases a;rw[oZ t];rfl
theorem zX(t:Nat)(hN:X.N.Nodup)(hc:X.calm=true)(hi:YE X a ta)(hb:YSs X body tbd)(hp:PassesOwn (model X.prog X.w) X.A X.env X.xe:=by exact PassesOwn.never)(hxN:X.N[t]?=some x:=by rfl)(hx:Loc X.env.scope x:=by first | exact Or.inl rfl | exact Or.inr rfl)(hfn:X.fn x=true\/X.env.scope.names.lookup x=some .local:=by first | exact .inl rfl | exact .inr rfl)(hs:∀ x,foldedSetIterable a X.env x=pure x:=by intro _;rfl):YS X (.For (.Name x p2) a body [] pos) (ko t ta tbd):=⟨fun P n=>by
  have hb':PSs X body (fun De σ H=>∃ P1,twS X.K P1 n tbd De σ H):=fun pins s σ H De I ⟨P1,h⟩=>hb.h P1 n pins s σ H De I h
  refine bW (iU hp hc (iT hi.h) (cO hN hxN hx hfn) hb' hs) fun De σ H ⟨ρ,M,Ew,hE,ht,hl⟩=>⟨ρ,M,_,hE.q,ht,fun d M1 ⟨q,bs,ex,h1⟩ v H1 p1=>?_⟩
  subst ex
  have hE1:=hE.next p1.toPostT
  cases p1.rep
  have see:∀ {M':Sto} {H':Hp},MOk X.K H' M'->M' q=some (.lst (bs.map .str))->SqL X.K H' q (bs.map V.str):=fun {M' H'} ok hm=>by
    obtain⟨xs,g1,g2⟩:=fq ok hm
    rw[oZ g2] at g1
    exact SqL.of g1
  refine⟨q,rfl,⟨_,see p1.ok (nW h1)⟩,?_⟩
  refine iV (K:=X.K) (a:=q) (xs:=bs.map V.str) (g:=bD t) (tb:=fun De σ H=>∃ P1,twS X.K P1 n tbd De σ H) (D:=De) (fun i σ' H'=>∃ ρ' M',EnvN X.K (PH H1 M1) n σ' ρ' H' M'/\ck (fun x E ρ M=>tbd E (ρ.set t (some x)) M) q (bs.map .str) ((bs.map .str).drop i) Ew ρ' M')
    ⟨ρ,M1,⟨hE1.q,Same.refl _,hE1.lσ,hE1.lρ⟩,by simpa using h1⟩ ?_ ?_ ?_
  · rintro i σ' H' _ ⟨ρ',M',hE',hf'⟩
    exact see hE'.q.ok (nW hf')
  · rintro i y σ' H' hy ⟨ρ',M',hE',hf'⟩
    have hi':i < bs.length:=by have:=(List.getElem?_eq_some_iff.mp hy).1;simpa using this
    have ey:y=.str bs[i]:=by
      have:=(List.getElem?_eq_some_iff.mp hy).2
      simpa using this.symm
    subst ey
    have ed:(bs.map D.str).drop i=.str bs[i]::(bs.map D.str).drop (i+1):=by
      rw[List.drop_eq_getElem_cons (by simpa using hi')]
      simp
    rw[ed] at hf'
    exact⟨PH H1 M1,_,M',_,hE'.set (.str _),hf'.2,xc hE1.same hl fun ρ M σ H hE h=>⟨ρ,M,hE,h⟩⟩
  · rintro σ' H' ⟨ρ',M',hE',hf'⟩
    rw[List.drop_eq_nil_of_le (by simp)] at hf'
    exact hl.nx _ _ hf'.2 σ' H' ⟨hE'.q,hE1.same.trans hE'.same,hE'.lσ,hE'.lρ⟩⟩
end
end VL
namespace VL
open PySem PySem.Spec PyProof.Rows L2
section
variable {X:Cx} {a b elt tg:Expr} {tas:NTA} {tel:NTE} {scope:Scope} {y x:Str} {caps:List Nat} {cn:List Str} {pos pn pr p2 spos:Pos}
theorem zY{K:PySem.W.Frag}{caps:List Nat}{σ:St}{H:Hp}{Q:VK}(h:tw K (iI caps tas tel) σ H Q):eR 1 caps (lE (twA K tas)) (bD 0) (fun _ H Q=>Q true H) (tw K tel) σ H Q:=by
  obtain⟨ρ,M,QW,hE,ht,hQ⟩:=h
  refine⟨ρ,M,_,hE,ht,fun ds M1 ⟨lo,j,e1,hlo,hj,hj2,h1⟩ vs H1 p1=>?_⟩
  subst e1
  obtain⟨v,v2,rfl,r,r2⟩:=mJ p1.rep
  cases r;cases r2
  refine⟨lo,j,rfl,⟨hlo.1,hlo.2,hj.1,hj.2⟩,?_⟩
  have hE1:=hE.next p1.toPostT
  let L:List D:=(List.range (j - lo).toNat).map fun k=>.int (lo+(k:Nat))
  have lL:L.length=(j - lo).toNat:=by simp[L]
  refine⟨fun i m ys σb H2=>m=(j - lo).toNat - i/\i<=(j - lo).toNat/\(σb.length=1+caps.length/\∀ k,1<=k->σb[k]?=(bx σ caps)[k - 1]?) /\
    ∃ M2 done,PostT K H1 M1 H2 M2/\Reps K (PH H2 M2) ys done/\done.length=i/\cZ 1 tel (aT 1 caps ρ) (L.drop i) done M2 fun ds M2=>QW (.lst ds) M2,?_,?_⟩
  · refine⟨(j - lo).toNat,by simp,Nat.zero_le _,⟨by simp[bx];omega,fun k hk=>?_⟩,M1,[],PostT.refl p1.ok,.nil,rfl,by simpa using h1⟩
    rw[List.getElem?_append_right (by simpa using hk)]
    simp
  · rintro i m ys σb H2 ⟨rfl,hi,⟨hlen,hcap⟩,M2,done,pt,hr,hdl,hgo⟩
    have lys:=hr.length
    refine⟨by rw[sizeLine_eq];omega,?_⟩
    by_cases hlt:i < (j - lo).toNat
    · have ed:L.drop i=.int (lo+(i:Nat))::L.drop (i+1):=by
        rw[List.drop_eq_getElem_cons (by omega)]
        simp[L]
      rw[ed] at hgo
      refine .inr ⟨hlt,fun x H3 hy=>?_⟩
      obtain⟨e3,e4⟩:=hy
      subst e3 e4
      unfold bD
      dsimp only
      rw[if_pos rfl]
      refine⟨_,M2,_,⟨nT (hE1.env.mono pt.same) hlen hcap (.int _),pt.ok⟩,hgo,fun d M3 h3 w H4 p4=>?_⟩
      refine⟨(j - lo).toNat - (i+1),by omega,rfl,hlt,⟨by rw[List.length_set];exact hlen,fun k hk=>by rw[List.getElem?_set_ne (by omega)];exact hcap k hk⟩,M3,done++[d],pt.trans p4.toPostT,(aK p4.same hr).append (.cons p4.rep .nil),by simp[hdl],h3⟩
    · have e:i=(j - lo).toNat:=by omega
      subst e
      rw[List.drop_eq_nil_of_le (by omega)] at hgo
      refine .inl ⟨Nat.le_refl _,fun l hl=>?_⟩
      have hn:=pt.ok.fresh hl
      refine hQ _ M2 hgo _ _ ⟨(p1.toPostT.trans pt).trans (PostT.of pt.ok (bC hl _)),.lst (.inl ?_) (aK (PH.up (bC hl _)) hr)⟩
      rw[PH.of hn];exact ba
theorem zZ(i:Nat)(hN:X.N.Nodup)(B:BlkOk X scope [y] caps cn)(hc:X.calm=true)(mr:X.mg "range" = none)(hi:YA X [a,b] tas)(hg:∀ s H cl ex,PG (blk X ([y]++cn) s H scope cl ex) tg (bD 0))(he:∀ s H cl ex,YE (blk X ([y]++cn) s H scope cl ex) elt tel)(hgr:Gl X "range":=by rfl)(hst:starEach [a,b] X.env=[(false,eval a X.env),(false,eval b X.env)]:=by rfl)(hst2:starEach [b] X.env=[(false,eval b X.env)]:=by rfl)(hsw:swapsWith (.ListComp elt [⟨tg,.Call (.Name "range" pn) [a,b] [] pr,[],0⟩] scope pos) (some (.Name x p2)) spos.line X.env=pure true:=by rfl)(hxi:X.N[i]?=some x:=by rfl)(hx:Loc X.env.scope x:=by first | exact Or.inl rfl | exact Or.inr rfl)(hfn:X.fn x=true\/X.env.scope.names.lookup x=some .local:=by first | exact .inl rfl | exact .inr rfl)(hs:∀ x,foldedSetIterable (.Call (.Name "range" pn) [a,b] [] pr) X.env x=pure x:=by intro _;rfl):
    YS X (.Assign [.Name x p2] (.ListComp elt [⟨tg,.Call (.Name "range" pn) [a,b] [] pr,[],0⟩] scope pos) spos) (aM i (iI caps tas tel)):=⟨fun P n =>
  bW (wX i hN B hc (qP hgr mr hi.h hst hst2) hg (fun _ _ _ _=>jr) (fun s H cl ex=>(he s H cl ex).h) hsw hxi hx hfn hs) fun De σ H ⟨ρ,M,Ew,hE,ht,hl⟩=>zY ⟨ρ,M,_,hE.q,ht,fun d M1 h1 v H1 p1=>hl.nx _ M1 h1 _ H1 ((hE.next p1.toPostT).set p1.rep)⟩⟩
end
section
variable {X:Cx} {a:Expr} {tas:NTA} {pos p:Pos}
theorem A0(mi:X.mg "str" = none)(ha:YA X [a] tas)(hg:Gl X "str":=by rfl)(he:starEach [a] X.env=(false,eval a X.env)::starEach [] X.env:=by rfl)(hpl:(backTo pos (starEach [] X.env)).any (·.1)=false:=by rfl):
    YE X (.Call (.Name "str" p) [a] [] pos) (fk (aA gn) tas) :=
  ⟨aE (gQ rh hg mi (by decide +kernel) ha.h (by decide) (by decide) he hpl) fun σ H Q ⟨ρ,M,QW,hE,ht,hQ⟩=>⟨ρ,M,_,hE,ht,fun ds M1 ⟨d,hf,_,h1⟩ vs H1 p =>
    zB vs H1 _ d _ (iz p.ok p.rep) hf fun v hr=>hQ d M1 h1 v H1 ⟨p.toPostT,hr _⟩⟩⟩
end
end VL
namespace VL
namespace My
open PySem (Str)
open L2 (atI ixN)
local macro_rules | `(tactic| walk_at "env")=>`(tactic| (simp only[List.set_cons_zero,List.set_cons_succ,List.map_cons,List.map_nil,List.cons_append,List.nil_append,List.replicate_succ,List.replicate_zero,Nat.reduceSub,Nat.reduceAdd,List.zip_cons_cons,List.zip_nil_left,List.zip_nil_right,List.foldl_cons,List.foldl_nil,aQ,aT,List.getElem?_cons_zero,List.getElem?_cons_succ,Option.getD_some,Option.getD_none]))
local macro_rules | `(tactic| walk_at "side")=>`(tactic| first | assumption | exact vT (by omega) (by omega) | exact okMul_r (by omega) (by omega) | exact okMul_m (jO (by omega) (by omega)) (jO (by omega) (by omega)) | exact vV (by omega) | exact vU (by omega) (jO (by omega) (by omega)) | exact okPow_of (by omega) (by omega) (by omega) (by omega) | omega)
local macro_rules | `(tactic| walk_at "run1")=>`(tactic| first
  | (with_reducible refine bF ?_) | (with_reducible refine bY ?_) | (with_reducible refine gd ?_) | ((with_reducible refine' bE ?h ?_);(case h=>exact rfl)) | (with_reducible refine vm ?_) | (with_reducible refine nq ?_)
  | ((with_reducible refine vn ?h ?_);(case h=>walk_at "side")) | ((with_reducible refine vo ?h ?_);(case h=>walk_at "side")) | ((with_reducible refine vp ?h ?_);(case h=>walk_at "side"))
  | (with_reducible exact rfl) | (with_reducible refine vq ?_) | (with_reducible refine vt ?_) | (with_reducible refine vz ?_) | (with_reducible refine vk ?_)
  | (with_reducible refine vC ?_) | (with_reducible refine vD ?_) | (with_reducible refine vF ?_) | (with_reducible refine vG ?_) | (with_reducible refine vH ?_) | (with_reducible refine df ?_) | (with_reducible refine nr ?_) | (with_reducible refine vL ?_)
  | (with_reducible refine eZ ?_) | (with_reducible refine ff ?_) | (with_reducible refine vK ?_) | (with_reducible refine fg ?_)
  | (with_reducible refine vM ?_) | (with_reducible refine vN ?_) | (with_reducible refine vE ?_)
  | (with_reducible refine vO ?_) | (with_reducible refine vP ?_) | (with_reducible refine nu ?_) | (with_reducible refine nv ?_) | (with_reducible refine vI ?_) | (with_reducible refine vJ ?_) | (with_reducible refine vQ ?_)
  | (with_reducible refine nA ?_) | (with_reducible refine nB ?_) | (with_reducible refine nC ?_)
  | ((with_reducible refine vX ?h ?_);(case h=>first | exact Nat.le_of_ble_eq_true rfl | decide | (simp;done) | (simp;omega)))
  | ((with_reducible refine And.intro ?h ?_);(case h=>first | exact Nat.le_of_ble_eq_true rfl | exact rfl | (with_reducible show ¬ (HT.sIx _ _ _=_/\_);simp[HT.sIx];done))) | ((with_reducible refine Exists.intro _ (And.intro rfl ?_))) | ((with_reducible refine Exists.intro _ (And.intro (seqD_lst _) ?_))) | ((with_reducible refine Exists.intro _ (And.intro (seqD_scr _) ?_))) | (with_reducible refine vR ?_) | (with_reducible refine w9 ?_) | (with_reducible refine vZ ?_) | (with_reducible refine w5 ?_)
  | ((with_reducible refine' vA ?h ?_);(case h=>exact rfl)))
local macro_rules | `(tactic| walk_at "run")=>`(tactic| repeat (first | walk_at "run1" | walk_at "call"))
local macro_rules | `(tactic| walk_at "all")=>`(tactic| (walk_at "run";try ((with_reducible first | refine bi (fun h=>?_) (fun h=>?_) | refine dg (fun h=>?_) (fun h=>?_)) <;> walk_at "all")))
local macro_rules | `(tactic| walk_at "leaf")=>`(tactic| first | omega | exact congrArg D.bl (decide_eq_decide.mpr (by omega)) | exact congrArg D.bl (decide_eq_false (by omega)).symm | exact congrArg D.bl (decide_eq_true (by omega)).symm)
local macro_rules | `(tactic| walk_at "n1")=>`(tactic| first
  | (with_reducible refine fA ?_) | (with_reducible refine yi ?_) | (with_reducible refine yj ?_) | (with_reducible refine yk ?_) | (with_reducible refine ym ?_) | (with_reducible refine yn ?_)
  | (with_reducible refine yo ?_) | (with_reducible refine yp ?_) | (with_reducible refine yq ?_)
  | (with_reducible refine yr ?_) | (with_reducible refine yt ?_) | (with_reducible refine yu ?_) | (with_reducible refine yx ?_) | (with_reducible refine yy ?_)
  | (with_reducible refine yz ?_) | (with_reducible refine fB ?_) | (with_reducible refine yA ?_) | (with_reducible refine yB ?_) | (with_reducible refine fC ?_)
  | (with_reducible refine yC ?_) | (with_reducible refine yD ?_)
  | (with_reducible refine yF ?_) | (with_reducible refine yG ?_) | (with_reducible refine yH ?_)
  | (with_reducible refine yJ ?_) | (with_reducible refine yK ?_) | (with_reducible refine yL ?_) | (with_reducible refine yQ ?_)
  | (with_reducible refine yP ?_)
  | ((with_reducible refine fD ?_);(try walk_at "env")) | (with_reducible refine on ?_))
local macro_rules | `(tactic| walk_at "call")=>`(tactic| walk_at "n1")
local macro_rules | `(tactic| walk_at "call")=>`(tactic| first
  | fail
  | ((with_reducible refine' yw ?h1 ?h2 ?h3 ?_);(case h1=>exact rfl);(case h2=>first | assumption | exact bG);(case h3=>exact rfl))
  | fail
  | fail
  | ((with_reducible refine' yM ?h1 ?h2 ?h3 ?_);(case h1=>exact rfl);(case h2=>first | assumption | exact bG);(case h3=>assumption))
  | ((with_reducible refine' yN ?h1 ?h2 ?h3 ?_);(case h1=>exact rfl);(case h2=>first | assumption | exact bG);(case h3=>assumption)))
local macro_rules | `(tactic| walk_at "call")=>`(tactic| first
  | (with_reducible refine yS ?_) | (with_reducible refine iK ?_) | (with_reducible refine yT ?_) | (with_reducible refine ou ?_) | (with_reducible refine ot ?_) | (with_reducible refine ox ?_) | (with_reducible refine yX ?_) | (with_reducible refine yY ?_) | (with_reducible refine yZ ?_) | (with_reducible refine yv ?_)
  | ((with_reducible refine fG ?h ?_);(case h=>assumption)))
def kE:FS:=cU (bc (e3c leI leI (eC (.int 1)) (eA (aA br) (aj (aa 0) (aB))) (aa 2)) (eA (aA (eS fun bs=>bs.all id)) (aj (ci 1 [1] [0] un1 (dR (aa 0)) g5 (e2 inT (aa 0) (aa 1))) (aB))))
def p0:List D->Option D:=mkF false 3 3 kE
abbrev d5:List D->Option D:=scF p0
def kF:FS:=dc (g4 2 (eSl (aa 0) (bI (aa 1)) (bI (e2 bH (aa 1) (eC (.int 1))))) (cU (aa 2))) (cU (eC (.int 0)))
def p8:List D->Option D:=mkF false 2 3 kF
abbrev dU:List D->Option D:=scF p8
def kG:NTS:=ay (aM 1 (dP (aq (bQ "Done" (nP (aa 0))) (aq (bQ "Early" (nP (aa 0))) (aq (bQ "Full" (nP (aa 0))) (aL)))))) (ay (aM 1 (n2 cg (nP (aa 1)) (dP (aq (bQ "NoClass" (nP (aa 0))) (aq (bQ "NoSale" (nP (aa 0))) (aq (bQ "NoTurn" (nP (aa 0))) (aL))))))) (ay (aM 1 (n2 cg (nP (aa 1)) (dP (aq (bQ "Over" (nP (aa 0))) (aq (bQ "TooMany" (nP (aa 0))) (aq (bQ "Twice" (nP (aa 0))) (aL))))))) (aY (cY (bQ "NoRow" (nP (aa 0))) (cY (iu (nP (aa 0))) (nP (e2 gb (eC (.bl true)) (aa 1))))))))
def gu:NTF:=mkN 1 2 (kG)
def kH:NTS:=ay (aM 1 (im (e1 (fun x=>iH x (.str " ")) (aa 0)))) (ay (bd (cj (n2V inD (nP (eC (.str ""))) (nP (aa 1)))) (ir "NoRow") (sN)) (aY (nP (aa 1))))
def gv:NTX:=mkX 1 2 (kH)
def kI:NTS:=ay (bd (nPB (bOr (cc (cA (eA d5 (aj (aa 0) (aj (eC (.str "0123456789")) (aj (eC (.int 7)) (aB))))))) (eL (eT (e2 eqD (e2 ixT (aa 0) (eC (.int 0))) (eC (.str "0")))) (eT (e2 neD (aa 0) (eC (.str "0"))))))) (gq "NoRow" (aa 0)) (sN)) (aY (nP (eA (aA fE) (aj (aa 0) (aB)))))
def gw:NTX:=mkX 1 1 (kI)
def kJ:NTS:=ay (bd (nPB (cc (cA (eA d5 (aj (aa 0) (aj (eC (.str "abcdefghijklmnopqrstuvwxyz")) (aj (eC (.int 8)) (aB)))))))) (gq "NoRow" (aa 0)) (sN)) (aY (nP (aa 0)))
def gx:NTX:=mkX 1 1 (kJ)
def gy:NTS:=ay (aM 2 (nP (eC .non))) (ay (aM 3 (nP (eC .non))) (ay (jT 2 4 (bd (nPB (eT (e2 eqD (aa 0) (eC (.int 0))))) (gh 3 (fo (gv) (aq (nP (aa 1)) (aL)))) (bd (nPB (eT (e2 eqD (aa 0) (eC (.int 1))))) (gh 3 (fo (gw) (aq (nP (aa 1)) (aL)))) (gh 3 (fo (gx) (aq (nP (aa 1)) (aL))))))) (ay (bd (nPB (eT (e1 dJ (aa 2)))) (aY (nP (bv (aj (eC (.str "told")) (aj (aa 3) (aB)))))) (sN)) (aY (dP (aq (nP (eC (.str "refused"))) (aq (aZ (gu) (aq (nP (aa 2)) (aL))) (aL))))))))
def bS:NTF:=mkN 2 5 (gy)
def kK:NTS:=ay (aM 1 (nP (bc (e2 ltI (eC (.int 0)) (eA (aA br) (aj (aa 0) (aB)))) (e2 ltI (eA (aA br) (aj (aa 0) (aB))) (eC (.int 9)))))) (ay (aM 1 (nP (bc (aa 1) (e2 eqD (ci 1 [] [0] un1 (dR (aa 0)) (eT (e2 cJ (aa 0) (eC (.str "abcdefghijklmnopqrstuvwxyz")))) (aa 0)) (bv (aB)))))) (ay (bd (nPB (cc (cA (aa 1)))) (aY (n2V eqD (aZ (bS) (aq (nP (eC (.int 2))) (aq (nP (aa 0)) (aL)))) (nP (bv (aj (eC (.str "refused")) (aj (eC (.bl true)) (aB))))))) (sN)) (aY (n2V eqD (aZ (bS) (aq (nP (eC (.int 2))) (aq (nP (aa 0)) (aL)))) (nP (bv (aj (eC (.str "told")) (aj (aa 0) (aB)))))))))
def gz:NTF:=mkN 1 2 (kK)
def kL:NTS:=ay (aM 1 (nP (bc (e2 ltI (eC (.int 0)) (eA (aA br) (aj (aa 0) (aB)))) (bc (e2 ltI (eA (aA br) (aj (aa 0) (aB))) (eC (.int 8))) (eOr (e2 eqD (aa 0) (eC (.str "0"))) (e2 neD (cq (aa 0) (ce) (bI (eC (.int 1)))) (eC (.str "0")))))))) (ay (aM 1 (nP (bc (aa 1) (e2 eqD (ci 1 [] [0] un1 (dR (aa 0)) (eT (e2 cJ (aa 0) (eC (.str "0123456789")))) (aa 0)) (bv (aB)))))) (ay (aM 2 (aZ (bS) (aq (nP (eC (.int 1))) (aq (nP (aa 0)) (aL))))) (ay (bd (nPB (cc (cA (aa 1)))) (aY (n2V eqD (nP (aa 2)) (nP (bv (aj (eC (.str "refused")) (aj (eC (.bl true)) (aB))))))) (sN)) (aY (cY (n2 eqD (n2 ixD (nP (aa 2)) (nP (eC (.int 0)))) (nP (eC (.str "told")))) (cY (gp "int" (n2 ixD (nP (aa 2)) (nP (eC (.int 1))))) (cY (n1 yR (gp "bool" (n2 ixD (nP (aa 2)) (nP (eC (.int 1)))))) (n2 eqD (fk (aA gn) (aq (n2 ixD (nP (aa 2)) (nP (eC (.int 1)))) (aL))) (nP (aa 0))))))))))
def gA:NTF:=mkN 1 3 (kL)
def kM:NTS:=aY (gf ["rest","mixed","count"] (aj (eA dU (aj (aa 0) (aj (aa 1) (aB)))) (aj (e2 eqD (e2 cR (eA dU (aj (aa 0) (aj (eC (.int 0)) (aB)))) (eC (.int 2))) (eC (.int 1))) (aj (e2 bH (eC (.int 1)) (aa 1)) (aB)))))
def gB:NTF:=mkN 2 2 (kM)
def kN:NTS:=ay (aM 2 (nDg ["rest","mixed","count"] 0 (nP (aa 0)))) (ay (bd (di (dh (nDg ["rest","mixed","count"] 1 (nP (aa 0))))) (ay (fm ["rest","mixed","count"] 0 (nP (aa 0)) (nP (e2 eJ (aa 2) (aa 1)))) (aY (nP (e2 cR (aa 2) (aa 1))))) (sN)) (ay (fm ["rest","mixed","count"] 2 (nP (aa 0)) (n2 bH (nDg ["rest","mixed","count"] 2 (nP (aa 0))) (nP (eC (.int 1))))) (ay (aM 2 (n2 bH (nP (e2 cR (aa 2) (eC (.int 1000000000039)))) (n2 d9 (nP (eC (.int 60013))) (nDg ["rest","mixed","count"] 2 (nP (aa 0)))))) (ay (aM 2 (nP (e2 cR (e2 d9 (aa 2) (e2 bH (aa 2) (eC (.int 17)))) (eC (.int 1000000000061))))) (ay (aM 2 (nP (e2 cR (e2 d9 (aa 2) (aa 2)) (eC (.int 999999999989))))) (ay (fm ["rest","mixed","count"] 0 (nP (aa 0)) (nP (aa 2))) (aY (nP (e2 cR (e2 eJ (aa 2) (eC (.int 5))) (aa 1))))))))))
def bM:NTF:=mkN 2 3 (kN)
def kO:NTS:=ay (aM 2 (aZ (bM) (aq (nP (aa 1)) (aq (nP (eC (.int 10))) (aL))))) (ay (aM 3 (aZ (bM) (aq (nP (aa 1)) (aq (nP (e2 bH (eA (aA br) (aj (aa 0) (aB))) (eC (.int 1)))) (aL))))) (ay (aM 4 (nP (bv (aj (eC (.str "")) (aj (e2 bq (aa 0) (eC (.str " "))) (aj (e2 bq (eC (.str " ")) (aa 0)) (aj (e2 bq (e2 bq (cq (aa 0) (ce) (bI (aa 3))) (eC (.str " "))) (cq (aa 0) (bI (aa 3)) (ce))) (aj (e2 bq (cq (aa 0) (ce) (bI (aa 3))) (cq (aa 0) (bI (e2 bH (aa 3) (eC (.int 1)))) (ce))) (aB))))))))) (aY (nP (e2 ixD (e2 cg (aa 4) (e2 jn (bv (aj (aa 0) (aB))) (eC (.int 5)))) (aa 2))))))
def gC:NTF:=mkN 2 5 (kO)
def kP:NTS:=ay (aM 1 (nP (eC (.str "abcdefghijklmnopqrstuvwxyz")))) (ay (aM 2 (nP (eC (.str "0123456789")))) (ay (aM 3 (nP (e2 bq (e2 bq (aa 1) (aa 2)) (eC (.str "ABCDEFGHIJKLMNOPQRSTUVWXYZ!\"#$&'()*+,-./:;<=>?\x40[\\]^_`{|}~\t\n"))))) (ay (aM 4 (n2 ixD (nP (bv (aj (aa 1) (aj (aa 2) (aj (aa 2) (aj (e2 bq (aa 1) (aa 2)) (aj (aa 3) (aB)))))))) (aZ (bM) (aq (nP (aa 0)) (aq (nP (eC (.int 5))) (aL)))))) (ay (aM 5 (n1 (dQ (.str "")) (gg [0,4] (aq (n2 bH (nP (eC (.int 1))) (aZ (bM) (aq (nP (aa 0)) (aq (nP (eC (.int 12))) (aL))))) (aL)) (n2 ixT (nP (aa 2)) (aZ (bM) (aq (nP (aa 1)) (aq (nP (eA (aA br) (aj (aa 2) (aB)))) (aL)))))))) (ay (aM 5 (n2 bq (n2 ixD (nP (bv (aj (eC (.str "")) (aj (eC (.str "0")) (aB))))) (fk (aA ib) (aq (n2 eqD (aZ (bM) (aq (nP (aa 0)) (aq (nP (eC (.int 8))) (aL)))) (nP (eC (.int 0)))) (aL)))) (nP (aa 5)))) (ay (bd (cj (n2 eqD (aZ (bM) (aq (nP (aa 0)) (aq (nP (eC (.int 4))) (aL)))) (nP (eC (.int 0))))) (ay (aM 6 (aZ (bM) (aq (nP (aa 0)) (aq (nP (e2 bH (eA (aA br) (aj (aa 5) (aB))) (eC (.int 1)))) (aL))))) (aM 5 (n2 bq (n2 bq (nP (cq (aa 5) (ce) (bI (aa 6)))) (n2 ixT (nP (aa 3)) (aZ (bM) (aq (nP (aa 0)) (aq (nP (eA (aA br) (aj (aa 3) (aB)))) (aL)))))) (nP (cq (aa 5) (bI (aa 6)) (ce)))))) (sN)) (aY (nP (aa 5)))))))))
def gD:NTF:=mkN 1 7 (kP)
def kQ:NTS:=ay (aM 1 (nP (bc (e2 neD (aa 0) (eC (.str ""))) (bc (e2 neD (e2 ixT (aa 0) (eC (.int 0))) (eC (.str " "))) (bc (e2 neD (e2 ixT (aa 0) (e2 fU (eA (aA br) (aj (aa 0) (aB))) (eC (.int 1)))) (eC (.str " "))) (e2 cJ (eC (.str "  ")) (aa 0))))))) (ay (aM 2 (aZ (bS) (aq (nP (eC (.int 0))) (aq (nP (aa 0)) (aL))))) (ay (bd (nPB (cc (cA (aa 1)))) (aY (n2V eqD (nP (aa 2)) (nP (bv (aj (eC (.str "refused")) (aj (eC (.bl true)) (aB))))))) (sN)) (ay (bd (nOr (cj (n2 neD (n2 ixD (nP (aa 2)) (nP (eC (.int 0)))) (nP (eC (.str "told"))))) (di (dh (gp "list" (n2 ixD (nP (aa 2)) (nP (eC (.int 1)))))))) (aY (nP (eC (.bl false)))) (sN)) (ay (ko 3 (n2 ixD (nP (aa 2)) (nP (eC (.int 1)))) (bd (nPB (bOr (cc (cA (e1 (bJ "str") (aa 3)))) (bOr (eT (e2 eqD (aa 3) (eC (.str "")))) (eT (e2 inT (eC (.str " ")) (aa 3)))))) (aY (nP (eC (.bl false)))) (sN))) (ay (aM 4 (iq (n2 ixD (nP (aa 2)) (nP (eC (.int 1)))))) (ay (io (n2 ixD (nP (aa 2)) (nP (eC (.int 1)))) (nP (eC (.str "open")))) (aY (cY (n2 eqD (n1 (dQ (.str " ")) (nP (aa 4))) (nP (aa 0))) (n2V eqD (aZ (bS) (aq (nP (eC (.int 0))) (aq (nP (aa 0)) (aL)))) (nP (bv (aj (eC (.str "told")) (aj (aa 4) (aB))))))))))))))
def gE:NTF:=mkN 1 5 (kQ)
def kR:NTS:=ay (aM 1 (iI [0] (aq (nP (eC (.int 1))) (aq (nP (eA (eO eQ) (aj (eC (.int 63)) (aj (eA (aA eN) (aj (aa 0) (aB))) (aB))))) (aL))) (aZ (gD) (aq (aZ (gB) (aq (nP (aa 1)) (aq (nP (aa 0)) (aL)))) (aL))))) (ay (aM 2 (aZ (gC) (aq (n1 (dQ (.str " ")) (nP (aa 1))) (aq (gf ["rest","mixed","count"] (aj (e2 eJ (eA dU (aj (aa 0) (aj (eC (.int 0)) (aB)))) (eC (.int 2))) (aj (eC (.bl false)) (aj (eC (.int 0)) (aB))))) (aL))))) (ay (bd (di (dh (aZ (gE) (aq (nP (aa 2)) (aL))))) (aY (nP (eC (.bl false)))) (sN)) (ay (ip 3 (nP (e2 cg (aa 1) (bv (aj (aa 2) (aj (eC (.str "")) (aj (eC (.str "0")) (aj (e2 d3 (eC (.str "9")) (eC (.int 7))) (aj (e2 bq (eC (.str "1")) (e2 d3 (eC (.str "0")) (eC (.int 7)))) (aj (e2 d3 (eC (.str "z")) (eC (.int 8))) (aj (e2 d3 (eC (.str "z")) (eC (.int 9))) (aB))))))))))) (bd (nOr (di (dh (aZ (gA) (aq (nP (aa 3)) (aL))))) (di (dh (aZ (gz) (aq (nP (aa 3)) (aL)))))) (aY (nP (eC (.bl false)))) (sN))) (aY (nP (eC (.bl true)))))))
def kS:NTF:=mkN 1 4 (kR)
def Pool(M:Sto)(a:Nat)(n:Nat):Prop:=∃ (r:Int) (m:Bool) (c:Int),M a=some (.dic ["rest","mixed","count"] [.int r,.bl m,.int c])/\0<=c/\c<=(n:Nat)
theorem Pool.keep{M M':Sto}{a n:Nat}{S:Nat->Prop}(h:Pool M a n)(k:Kp S M M')(hs:¬ S a):Pool M' a n:=by
  obtain⟨r,m,c,h1,h2⟩:=h
  exact⟨r,m,c,k _ _ h1 hs,h2⟩
theorem Pool.le{M:Sto}{a n n':Nat}(h:Pool M a n)(k:n<=n'):Pool M a n':=by
  obtain⟨r,m,c,h1,h2,h3⟩:=h
  exact⟨r,m,c,h1,h2,by omega⟩
theorem d6{a n:Nat}{M:Sto}{Q:QE}{many:Int}(hp:Pool M a n)(hn:n<=100000)(h0:0 < many)(h1:many<=10 ^ 41)(h:∀ r M',0<=r->r < many->Pool M' a (n+1)->Kp (· = a) M M'->Q (.int r) M'):bM [.ptr a,.int many] M Q:=by
  obtain⟨r,m,c,hm,hc1,hc2⟩:=hp
  refine bZ rfl ?_
  unfold kN
  walk_at "env"
  cases m with
  | false =>
    walk_at "run"
    refine⟨a,_,rfl,hm,?_⟩
    walk_at "run"
    refine h _ _ (Int.emod_nonneg _ (by omega)) (Int.emod_lt_of_pos _ h0) ⟨_,_,_,bG,hc1,by omega⟩ (Kp.upd (.inl rfl))
  | true =>
    walk_at "run"
    refine⟨a,_,rfl,hm,?_⟩
    walk_at "run"
    refine⟨a,_,rfl,bG,?_⟩
    walk_at "run"
    rw[wc]
    refine h _ _ (Int.emod_nonneg _ (by omega)) (Int.emod_lt_of_pos _ h0) ⟨_,_,_,bG,by omega,by omega⟩ (Kp.upd (.inl rfl))
theorem kU{ns:List Int}{k:Int}(h0:0<=k):WF dU [.scr ns,.int k] fun d=>∃ x,d=.int x:=by
  refine ny (nw rfl ?_)
  unfold kF
  walk_at "env"
  walk_at "run"
  have e:da (ns.map D.int) (some k) (some (k+1))=(da ns (some k) (some (k+1))).map D.int:=by simp[da,List.map_drop,List.map_take]
  rw[e]
  cases da ns (some k) (some (k+1)) with
  | nil=>exact⟨_,rfl,_,rfl,rfl,_,rfl⟩
  | cons x r=>exact⟨_,rfl,rfl,_,rfl⟩
theorem A1{M:Sto}{Q:QE}{ns:List Int}{k:Int}(h0:0<=k)(h1:k<=1000)(h:∀ a M',M a=none->Pool M' a 2000->Kp (fun _=>False) M M'->Q (.ptr a) M'):gB [.scr ns,.int k] M Q:=by
  refine bZ rfl ?_
  unfold kM
  walk_at "env"
  walk_at "run"
  refine om ?_
  walk_at "run"
  refine jN (kU h0) ?_
  rintro _ ⟨x,rfl⟩
  walk_at "run"
  refine jN (kU (by omega)) ?_
  rintro _ ⟨y,rfl⟩
  walk_at "run"
  intro a ha
  refine on ?_
  exact h a _ ha ⟨_,_,_,bG,by omega,by omega⟩ (Kp.upd (.inr ha))
theorem p9{M:Sto}{a:Nat}{ds:List D}(h:M a=some (.lst ds)):vw1 M (.ptr a)=.lst ds:=by simp only[vw1,h]
theorem iM(c:Nat):∀ (l:List Nat),bj l [c]=decide (c ∈ l)
  | []=>by simp[bj]
  | a::l=>by
    rw[bj,iM c l]
    by_cases h:c=a
    · subst h;simp[List.isPrefixOf]
    · simp[List.isPrefixOf,h]
theorem A2(c:Nat)(a:Nat)(l:List Nat):bj (a::l) [c,c]=(decide (a=c/\l.head?=some c) || bj l [c,c]):=by
  rw[bj]
  congr 1
  cases l with
  | nil=>simp[List.isPrefixOf]
  | cons b l =>
    by_cases h:c=a <;> by_cases h2:c=b
    · subst h;subst h2;simp[List.isPrefixOf]
    · subst h;simp[List.isPrefixOf,h2,Ne.symm h2]
    · subst h2;simp[List.isPrefixOf,h,Ne.symm h]
    · simp[List.isPrefixOf,h,Ne.symm h]
theorem pb(c:Nat):∀ (l:List Nat),(aC c l).head?=some [] ↔ (l=[]\/l.head?=some c)
  | []=>by simp[aC]
  | a :: l=>by
    have h3:=(fF c l).2.2
    unfold aC
    by_cases e:a=c
    · subst e;rw[if_pos rfl];simp
    · rw[if_neg e]
      cases hs:aC c l with
      | nil=>exact absurd hs h3
      | cons y r=>simp[e]
theorem pj(c:Nat):∀ (l:List Nat),([] ∈ (aC c l).tail) ↔ (l.getLast?=some c\/bj l [c,c]=true)
  | []=>by simp[aC,bj]
  | a :: l=>by
    have h3:=(fF c l).2.2
    have ih:=pj c l
    have ih2:=pb c l
    rw[A2]
    unfold aC
    by_cases e:a=c
    · subst e
      rw[if_pos rfl]
      simp only[List.tail_cons,Bool.or_eq_true,decide_eq_true_eq,true_and]
      cases hs:aC a l with
      | nil=>exact absurd hs h3
      | cons y r =>
        rw[hs] at ih ih2
        simp only[List.tail_cons,List.head?_cons,Option.some.injEq] at ih ih2
        rw[List.mem_cons,ih,eq_comm,ih2]
        cases l with
        | nil=>simp
        | cons b l =>
          rw[List.getLast?_cons_cons]
          simp only[reduceCtorEq,false_or]
          constructor
          · rintro (h | h | h)
            · exact .inr (.inl h)
            · exact .inl h
            · exact .inr (.inr h)
          · rintro (h | h | h)
            · exact .inr (.inl h)
            · exact .inl h
            · exact .inr (.inr h)
    · rw[if_neg e]
      cases hs:aC c l with
      | nil=>exact absurd hs h3
      | cons y r =>
        rw[hs] at ih
        simp only[List.tail_cons] at ih ⊢
        rw[ih]
        have e2:decide (a=c/\l.head?=some c)=false:=decide_eq_false fun z=>e z.1
        rw[e2,Bool.false_or]
        cases l with
        | nil=>simp[e]
        | cons b l=>rw[List.getLast?_cons_cons]
theorem A3(c:Nat)(l:List Nat):[] ∈ aC c l ↔ (l=[]\/l.head?=some c\/l.getLast?=some c\/bj l [c,c]=true):=by
  have h3:=(fF c l).2.2
  have h1:=pb c l
  have h2:=pj c l
  cases hs:aC c l with
  | nil=>exact absurd hs h3
  | cons y r =>
    rw[hs] at h1 h2
    simp only[List.tail_cons,List.head?_cons,Option.some.injEq] at h1 h2
    rw[List.mem_cons,h2,eq_comm,h1]
    exact or_assoc
theorem pk{α:Type}{motive:List α->Prop}(nil:motive [])(append_singleton:∀ l a,motive l->motive (l++[a]))(l:List α):motive l:=by
  have:∀ r:List α,motive r.reverse:=fun r=>by
    induction r with
    | nil=>exact nil
    | cons a r ih=>rw[List.reverse_cons];exact append_singleton _ _ ih
  have h:=this l.reverse
  rwa [List.reverse_reverse] at h
theorem pp(l:List Nat)(c:Nat):bg (l++[c])=10 * bg l+(c - 48):=by simp[bg]
theorem pv:∀ (l:List Nat),(∀ c ∈ l,48<=c/\c<=57)->bg l < 10 ^ l.length:=by
  intro l
  induction l using pk with
  | nil=>intro _;simp[bg]
  | append_singleton l c ih =>
    intro h
    have h1:=ih fun x hx=>h x (List.mem_append_left _ hx)
    have h2:=h c (by simp)
    rw[pp,List.length_append,List.length_singleton,Nat.pow_succ]
    omega
theorem pw:∀ (l:List Nat),l ≠ []->(∀ c ∈ l,48<=c/\c<=57)->(l=[48]\/l.head? ≠ some 48)->digs (bg l)=l/\(l.head? ≠ some 48->0 < bg l):=by
  intro l
  induction l using pk with
  | nil=>intro h;exact absurd rfl h
  | append_singleton l c ih =>
    intro _ h hz
    have h2:=h c (by simp)
    rw[pp]
    cases l with
    | nil =>
      simp only[bg,List.foldl_nil,List.nil_append,Nat.mul_zero,Nat.zero_add,List.head?_cons,_root_.ne_eq,Option.some.injEq]
      constructor
      · rw[digs,if_pos (by omega)]
        congr 1
        omega
      · intro h48;omega
    | cons a r =>
      have hz':(a::r).head? ≠ some 48:=by
        rcases hz with hz | hz
        · have:=congrArg List.length hz
          simp at this
        · simpa using hz
      obtain⟨i1,i2⟩:=ih (by simp) (fun x hx=>h x (List.mem_append_left _ hx)) (.inr hz')
      have i3:=i2 hz'
      constructor
      · rw[digs,if_neg (by omega)]
        have e1:(10 * bg (a::r)+(c - 48)) / 10=bg (a::r):=by omega
        have e2:(10 * bg (a::r)+(c - 48)) % 10=c - 48:=by omega
        rw[e1,e2,i1]
        congr 2
        omega
      · intro _;omega
def Asc(z:Str):Prop:=(tx z).all (fun c=>decide (c < 128))=true
theorem gF{x y:Str}:x=y ↔ tx x=tx y:=⟨fun h=>by rw[h],fun h=>by rw[<- cI x,h,cI]⟩
theorem py{z s:Str}{m:Int}(ha:Asc z)(hl:(tx z).length<=10000):d5 [.str z,.str s,.int m]=some (.bl (decide ((1<=((tx z).length:Int)/\((tx z).length:Int)<=m)/\∀ c ∈ tx z,c ∈ tx s))):=by
  have hl':(tx z).length<=100000:=by omega
  have:WF d5 [.str z,.str s,.int m] fun d=>d=.bl (decide ((1<=((tx z).length:Int)/\((tx z).length:Int)<=m)/\∀ c ∈ tx z,c ∈ tx s)):=by
    refine ny (nw rfl ?_)
    unfold kE
    walk_at "env"
    walk_at "run"
    refine bi (fun h1=>?_) fun h1=>?_
    · walk_at "run"
      refine bi (fun h2=>?_) fun h2=>?_
      · walk_at "run"
        refine w8 (α:=Nat) (fun c=>c ∈ tx s) ?_
        walk_at "run"
        refine⟨⟨ha,hl'⟩,fun c=>.str (mkT [c]),tx z,rfl,by omega,fun c hc=>⟨[.str (mkT [c])],rfl,?_⟩,fun bs hb=>?_⟩
        · walk_at "env"
          walk_at "run"
          rw[az,iM]
          simp
        · walk_at "run"
          refine congrArg D.bl ?_
          rw[Bool.eq_iff_iff,hb,decide_eq_true_iff]
          exact⟨fun h=>⟨⟨h1,h2⟩,h⟩,fun h=>h.2⟩
      · walk_at "run"
        exact congrArg D.bl (decide_eq_false fun h=>h2 h.1.2).symm
    · walk_at "run"
      exact congrArg D.bl (decide_eq_false fun h=>h1 h.1.1).symm
  obtain⟨d,h,rfl⟩:=this
  exact h
theorem kW{M:Sto}{Q:QE}{a:Nat}(hm:M a=some (.exn a "NoRow"))(h:Q (.bl true) M):gu [.ptr a] M Q:=by
  have hx:("NoRow" : Str) ∈ XS:=by decide
  refine bZ rfl ?_
  unfold kG
  walk_at "env"
  walk_at "run"
  refine bi (fun _=>?_) fun z=>absurd rfl z
  walk_at "env"
  walk_at "run"
  refine il (d:=.bl true) rfl ?_
  walk_at "run"
  exact h
theorem fH:(" " : Str)=mkT [32]:=by decide +kernel
theorem A4:("  " : Str)=mkT [32,32]:=by decide +kernel
theorem fI:("" : Str)=mkT []:=by decide +kernel
theorem c_0:("0" : Str)=mkT [48]:=by decide +kernel
def dn:List Nat:=[48,49,50,51,52,53,54,55,56,57]
def dq:List Nat:=[97,98,99,100,101,102,103,104,105,106,107,108,109,110,111,112,113,114,115,116,117,118,119,120,121,122]
theorem kX:("0123456789" : Str)=mkT dn:=by decide +kernel
theorem kY:("abcdefghijklmnopqrstuvwxyz" : Str)=mkT dq:=by decide +kernel
theorem mem_figs{c:Nat}:c ∈ dn ↔ (48<=c/\c<=57):=by
  simp only[dn,List.mem_cons,List.not_mem_nil,or_false]
  omega
theorem A5{l:List (List Nat)}:inD (.str "") (.lst (l.map fun x=>.str (mkT x)))=some (.bl (decide ([] ∈ l))):=by
  have h1:(l.map fun x=>D.str (mkT x)).all aG=true:=by
    rw[List.all_eq_true]
    intro d hd
    obtain⟨x,_,rfl⟩:=List.mem_map.mp hd
    rfl
  have h2:(l.map fun x=>D.str (mkT x)).any (fun d=>bX d (.str ""))=decide ([] ∈ l):=by
    induction l with
    | nil=>rfl
    | cons a r ih =>
      rw[List.map_cons,List.any_cons,ih (by
        rw[List.map_cons,List.all_cons,Bool.and_eq_true] at h1
        exact h1.2),fI]
      show (mkT a == mkT [] || _)=_
      by_cases e:a=[]
      · subst e;simp
      · have e2:(mkT a == mkT [])=false:=beq_eq_false_iff_ne.mpr fun z=>e (by rw[gF,az,az] at z;exact z)
        rw[e2]
        simp[Ne.symm e]
  show (if aG (D.str "")=true/\_ then some (D.bl _) else none)=_
  rw[if_pos ⟨rfl,h1⟩,h2]
abbrev b5(ls:List (List Nat)):List D:=ls.map fun l=>.str (mkT l)
theorem pz{M:Sto}{a:Nat}{ls:List (List Nat)}(h:M a=some (.lst (b5 ls))):vw3 M (.ptr a)=.lst (b5 ls):=by
  have e:(b5 ls).map (vw1 M)=b5 ls:=by
    rw[b5,List.map_map]
    exact List.map_congr_left fun _ _=>rfl
  show (match M a with | some (.lst ds)=>D.lst (ds.map (vw1 M)) | _=>D.ptr a)=_
  rw[h]
  simp only[e]
theorem A6{z:Str}{M:Sto}{Q:QE}{EX:QX}(hl:(tx z).length<=10000)(h1:[] ∈ aC 32 (tx z)->∀ M',Kp (fun _=>False) M M'->EX "NoRow" M')(h2:[] ∉ aC 32 (tx z)->∀ a,M a=none->Q (.ptr a) (aX M a (.lst ((aC 32 (tx z)).map fun l=>.str (mkT l))))):gv [.str z] M Q EX:=by
  refine⟨rfl,?_⟩
  unfold kH
  walk_at "env"
  walk_at "run"
  rw[fH]
  refine yW hl ?_
  refine⟨_,rfl,fun a hn=>?_⟩
  walk_at "run"
  rw[pz bG]
  refine il (x:=.str "") A5 ⟨rfl,?_⟩
  walk_at "run"
  refine bi (fun e=>?_) fun e=>?_
  · exact yI (by decide) (h1 e _ (Kp.upd (.inr hn)))
  · walk_at "run"
    exact h2 e a hn
theorem A7{z:Str}(ha:Asc z)(hl:(tx z).length<=10000):d5 [.str z,.str "0123456789",.int 7]=some (.bl (decide ((1<=(tx z).length/\(tx z).length<=7)/\∀ c ∈ tx z,48<=c/\c<=57))):=by
  rw[py ha hl,kX,az]
  congr 2
  refine decide_eq_decide.mpr ⟨fun h=>⟨by omega,fun c hc=>mem_figs.mp (h.2 c hc)⟩,fun h=>⟨by omega,fun c hc=>mem_figs.mpr (h.2 c hc)⟩⟩
theorem A8{z:Str}(ha:Asc z)(hl:(tx z).length<=10000):d5 [.str z,.str "abcdefghijklmnopqrstuvwxyz",.int 8]=some (.bl (decide ((1<=(tx z).length/\(tx z).length<=8)/\∀ c ∈ tx z,c ∈ dq))):=by
  rw[py ha hl,kY,az]
  congr 2
  refine decide_eq_decide.mpr ⟨fun h=>⟨by omega,h.2⟩,fun h=>⟨by omega,h.2⟩⟩
theorem at0{c:Nat}{r:List Nat}:atI (c::r) 0=some c:=by simp[atI,ixN]
def dt(l:List Nat):Prop:=((1<=l.length/\l.length<=7)/\∀ c ∈ l,48<=c/\c<=57)/\(l=[48]\/l.head? ≠ some 48)
theorem str_is{z:Str}{l:List Nat}:z=mkT l ↔ tx z=l:=by rw[gF,az]
theorem A9{z:Str}{M:Sto}{Q:QE}{EX:QX}(ha:Asc z)(hl:(tx z).length<=10000)(h1:¬ dt (tx z)->EX "NoRow" M)(h2:dt (tx z)->Q (.int (bg (tx z):Nat)) M):gw [.str z] M Q EX:=by
  refine⟨rfl,?_⟩
  unfold kI
  walk_at "env"
  walk_at "run"
  refine no (A7 ha hl) ?_
  walk_at "run"
  have bad:∀ {E:EndN},E.ex=EX->¬ dt (tx z)->gq "NoRow" (aa 0) E [some (.str z)] M:=fun {E} he hn=>by
    refine oy (by decide) ?_ (by rw[he];exact h1 hn)
    walk_at "run"
    exact⟨z,rfl,ha,hl⟩
  refine dg (fun h=>?_) fun h=>?_
  · walk_at "run"
    exact bad rfl fun g=>h g.1
  · cases ez:tx z with
    | nil=>rw[ez] at h;simp at h
    | cons c r =>
      walk_at "run"
      refine gr (c:=c) (by omega) (by rw[ez];exact at0) ?_
      walk_at "run"
      rw[c_0]
      have fin:dt (tx z)->WF (aA fE) [.str z] fun d=>Q d M:=fun g=>by
        have g1:tx z ≠ []:=by rw[ez];exact fun z=>nomatch z
        have lt:=pv (tx z) g.1.2
        have le:10 ^ (tx z).length<=10 ^ 7:=Nat.pow_le_pow_right (by omega) g.1.1.2
        exact yV (by omega) (pw (tx z) g1 g.1.2 g.2).1 (h2 g)
      refine bi (fun e=>?_) fun e=>?_
      · have e:c=48:=by rw[str_is,az] at e;simpa using e
        walk_at "run"
        refine dg (fun e2=>?_) fun e2=>?_
        · walk_at "run"
          refine bad rfl fun g=>g.2.elim (fun q=>e2 (str_is.mpr q)) fun q=>q ?_
          rw[ez,e];rfl
        · walk_at "run"
          exact fin ⟨h,.inl (str_is.mp e2)⟩
      · walk_at "run"
        refine fin ⟨h,.inr fun q=>e ?_⟩
        rw[ez] at q
        have:c=48:=by simpa using q
        rw[this]
def fJ(l:List Nat):Prop:=(1<=l.length/\l.length<=8)/\∀ c ∈ l,c ∈ dq
theorem Aa{z:Str}{M:Sto}{Q:QE}{EX:QX}(ha:Asc z)(hl:(tx z).length<=10000)(h1:¬ fJ (tx z)->EX "NoRow" M)(h2:fJ (tx z)->Q (.str z) M):gx [.str z] M Q EX:=by
  refine⟨rfl,?_⟩
  unfold kJ
  walk_at "env"
  walk_at "run"
  refine no (A8 ha hl) ?_
  walk_at "run"
  refine dg (fun h=>?_) fun h=>?_
  · refine oy (by decide) ?_ (h1 h)
    walk_at "run"
    exact⟨z,rfl,ha,hl⟩
  · walk_at "run"
    exact h2 h
abbrev fK:D:=.lst [.str "refused",.bl true]
section
variable {z:Str} {M:Sto} {Q:QE}
theorem kZ(hl:(tx z).length<=10000)(h1:[] ∈ aC 32 (tx z)->∀ M',Kp (fun _=>False) M M'->Q fK M')(h2:[] ∉ aC 32 (tx z)->∀ a M',M a=none->M' a=some (.lst (b5 (aC 32 (tx z))))->Kp (fun _=>False) M M'->Q (.lst [.str "told",.ptr a]) M'):bS [.int 0,.str z] M Q:=by
  refine bZ rfl ?_
  unfold gy
  try walk_at "env"
  walk_at "run"
  refine bi (fun _=>?_) fun h=>absurd rfl h
  try walk_at "env"
  walk_at "run"
  refine A6 hl (fun hb M' k=>?_) fun hg a hn=>?_
  · intro a ha
    walk_at "run"
    refine kW bG ?_
    walk_at "run"
    exact h1 hb _ (k.trans (Kp.upd (.inr ha)) fun _ z _=>z)
  · walk_at "run"
    exact h2 hg a _ hn bG (Kp.upd (.inr hn))
theorem pA(ha:Asc z)(hl:(tx z).length<=10000)(h1:¬ dt (tx z)->∀ M',Kp (fun _=>False) M M'->Q fK M')(h2:dt (tx z)->Q (.lst [.str "told",.int (bg (tx z):Nat)]) M):bS [.int 1,.str z] M Q:=by
  refine bZ rfl ?_
  unfold gy
  try walk_at "env"
  walk_at "run"
  refine bi (fun h=>by cases h) fun _=>?_
  try walk_at "env"
  walk_at "run"
  refine bi (fun _=>?_) fun h=>absurd rfl h
  try walk_at "env"
  walk_at "run"
  refine A9 ha hl (fun hb=>?_) fun hg=>?_
  · intro a ha
    walk_at "run"
    refine kW bG ?_
    walk_at "run"
    exact h1 hb _ (Kp.upd (.inr ha))
  · walk_at "run"
    exact h2 hg
theorem pB(ha:Asc z)(hl:(tx z).length<=10000)(h1:¬ fJ (tx z)->∀ M',Kp (fun _=>False) M M'->Q fK M')(h2:fJ (tx z)->Q (.lst [.str "told",.str z]) M):bS [.int 2,.str z] M Q:=by
  refine bZ rfl ?_
  unfold gy
  try walk_at "env"
  walk_at "run"
  refine bi (fun h=>by cases h) fun _=>?_
  try walk_at "env"
  walk_at "run"
  refine bi (fun h=>by cases h) fun _=>?_
  try walk_at "env"
  walk_at "run"
  refine Aa ha hl (fun hb=>?_) fun hg=>?_
  · intro a ha
    walk_at "run"
    refine kW bG ?_
    walk_at "run"
    exact h1 hb _ (Kp.upd (.inr ha))
  · walk_at "run"
    exact h2 hg
end
theorem pC(n:Nat)(ls:List (List Nat)):aN (n+1) (.lst (b5 ls))=true:=by
  show List.all _ _=true
  rw[List.all_eq_true]
  intro d hd
  obtain⟨l,_,rfl⟩:=List.mem_map.mp hd
  cases n <;> rfl
theorem Ab{l:List Nat}:eqD (.lst (l.map fun c=>.str (mkT [c]))) (.lst [])=some (.bl (decide (l=[]))):=by
  have e:(l.map fun c=>D.str (mkT [c]))=b5 (l.map fun c=>[c]):=by rw[b5,List.map_map];rfl
  unfold eqD
  rw[e,if_pos ⟨pC 3 _,rfl⟩]
  cases l with
  | nil=>rfl
  | cons a r=>rfl
theorem pD{z s:Str}{ρ:ae}(hρ:aa 0 ρ=some (.str z))(ha:Asc z)(hl:(tx z).length<=10000):
    WE (e2 eqD (ci 1 [] [0] un1 (dR (aa 0)) (eT (e2 cJ (aa 0) (eC (.str s)))) (aa 0)) (bv aB)) ρ fun d=>d=.bl (decide (∀ c ∈ tx z,c ∈ tx s)):=by
  refine bF (vS (α:=Nat) (ox (bE hρ ⟨z,rfl,⟨ha,by omega⟩,fun c=>.str (mkT [c]),fun c=>!decide (c ∈ tx s),fun c=>.str (mkT [c]),tx z,rfl,by omega,fun c hc=>⟨[.str (mkT [c])],rfl,?_⟩,?_⟩)))
  · walk_at "env"
    walk_at "run"
    refine⟨by rw[az,iM],fun _=>?_⟩
    walk_at "run"
  · walk_at "run"
    refine il Ab ?_
    refine congrArg D.bl (decide_eq_decide.mpr ?_)
    rw[List.filter_eq_nil_iff]
    constructor
    · intro h c hc
      have:=h c hc
      simpa using this
    · intro h c hc
      simp[h c hc]
theorem Ac{l:List Nat}{c:Nat}:l.take 1=[c] ↔ l.head?=some c:=by
  cases l with
  | nil=>simp
  | cons a r=>simp
theorem Ad{z:Str}{ρ:ae}(hρ:aa 0 ρ=some (.str z))(hl:(tx z).length<=10000):
    WE (bc (e2 ltI (eC (.int 0)) (eA (aA br) (aj (aa 0) (aB)))) (bc (e2 ltI (eA (aA br) (aj (aa 0) (aB))) (eC (.int 8))) (eOr (e2 eqD (aa 0) (eC (.str "0"))) (e2 neD (cq (aa 0) (ce) (bI (eC (.int 1)))) (eC (.str "0")))))) ρ
      fun d=>d=.bl (decide ((0 < (tx z).length/\(tx z).length < 8)/\(tx z=[48]\/(tx z).head? ≠ some 48))):=by
  have hl':(tx z).length<=100000:=by omega
  refine df (bF (bY (fg (ff (bE hρ (eZ (fG hl' ?_)))))))
  walk_at "run"
  refine bi (fun h1=>?_) fun h1=>?_
  · refine df (bF (fg (ff (bE hρ (eZ (fG hl' (bY ?_)))))))
    walk_at "run"
    refine bi (fun h2=>?_) fun h2=>?_
    · refine nr (bF (bE hρ (bY ?_)))
      walk_at "run"
      rw[c_0]
      refine bi (fun h3=>?_) fun h3=>?_
      · exact congrArg D.bl (decide_eq_true ⟨by omega,.inl (str_is.mp h3)⟩).symm
      · refine bF (ot (bE hρ ?_))
        walk_at "run"
        refine⟨⟨rfl,rfl,hl'⟩,?_⟩
        walk_at "run"
        refine congrArg D.bl ?_
        rw[Bool.eq_iff_iff,Bool.not_eq_true',decide_eq_false_iff_not,decide_eq_true_iff,gF,az,az]
        show ¬ ((tx z).take 1).drop 0=[48] ↔ _
        rw[List.drop_zero,Ac]
        exact⟨fun h=>⟨by omega,.inr h⟩,fun h=>h.2.elim (fun q=>absurd (str_is.mpr q) h3) id⟩
    · exact congrArg D.bl (decide_eq_false fun h=>h2 (by omega)).symm
  · exact congrArg D.bl (decide_eq_false fun h=>h1 (by omega)).symm
theorem pE{A P:Prop}[Decidable A][Decidable P]{fa fb:FE}{ρ:ae}(ha:WE fa ρ fun d=>d=.bl (decide A))(hb:WE fb ρ fun d=>d=.bl (decide P)):WE (bc fa fb) ρ fun d=>d=.bl (decide (A/\P)):=by
  refine df (dN ha ?_)
  rintro _ rfl
  refine gd (bi (fun h1=>dN hb ?_) fun h1=>?_)
  · rintro _ rfl
    exact congrArg D.bl (decide_eq_decide.mpr ⟨fun h=>⟨h1,h⟩,fun h=>h.2⟩)
  · exact congrArg D.bl (decide_eq_false fun h=>h1 h.1).symm
theorem Ae{z:Str}{M:Sto}{Q:QE}(ha:Asc z)(hl:(tx z).length<=10000)(h:∀ M',Kp (fun _=>False) M M'->Q (.bl true) M'):gA [.str z] M Q:=by
  refine bZ rfl ?_
  unfold kL
  refine fB (fC (fA (dN (Ad (z:=z) rfl hl) ?_)))
  rintro _ rfl
  refine fD ?_
  walk_at "env"
  have gi:dt (tx z) ↔ ((0 < (tx z).length/\(tx z).length < 8)/\(tx z=[48]\/(tx z).head? ≠ some 48))/\∀ c ∈ tx z,c ∈ tx ("0123456789" : Str):=by
    rw[kX,az]
    exact⟨fun g=>⟨⟨by have:=g.1.1;omega,g.2⟩,fun c hc=>mem_figs.mpr (g.1.2 c hc)⟩,fun g=>⟨⟨by have:=g.1.1;omega,fun c hc=>mem_figs.mp (g.2 c hc)⟩,g.1.2⟩⟩
  refine fB (fC (fA (dN (pE (bE rfl rfl) (pD rfl ha hl)) ?_)))
  rintro _ rfl
  refine fD ?_
  walk_at "env"
  by_cases g:dt (tx z)
  · rw[decide_eq_true (gi.mp g)]
    walk_at "run"
    refine pA ha hl (fun hb=>absurd g hb) fun _=>?_
    walk_at "run"
    refine bi (fun _=>?_) fun hb=>absurd rfl hb
    walk_at "env"
    walk_at "run"
    refine nA ?_
    walk_at "run"
    refine nB ?_
    refine vB rfl ?_
    walk_at "run"
    have g1:tx z ≠ []:=fun e=>by have:=g.1.1.1;rw[e] at this;simp at this
    have lt:=pv (tx z) g.1.2
    have le:10 ^ (tx z).length<=10 ^ 7:=Nat.pow_le_pow_right (by omega) g.1.1.2
    refine yU (n:=bg (tx z)) (by omega) ⟨rfl,?_⟩
    walk_at "run"
    rw[(pw (tx z) g1 g.1.2 g.2).1,cI,decide_eq_true rfl]
    exact h _ (Kp.refl)
  · rw[decide_eq_false fun q=>g (gi.mpr q)]
    walk_at "run"
    refine pA ha hl (fun _ M' k=>?_) fun q=>absurd q g
    walk_at "run"
    refine ge (d:=fK) rfl ⟨rfl,?_⟩
    walk_at "run"
    exact h _ k
theorem Af{z:Str}{ρ:ae}(hρ:aa 0 ρ=some (.str z))(hl:(tx z).length<=10000):
    WE (bc (e2 ltI (eC (.int 0)) (eA (aA br) (aj (aa 0) (aB)))) (e2 ltI (eA (aA br) (aj (aa 0) (aB))) (eC (.int 9)))) ρ fun d=>d=.bl (decide (0 < (tx z).length/\(tx z).length < 9)):=by
  have hl':(tx z).length<=100000:=by omega
  refine df (bF (bY (fg (ff (bE hρ (eZ (fG hl' ?_)))))))
  walk_at "run"
  refine bi (fun h1=>?_) fun h1=>?_
  · refine bF (fg (ff (bE hρ (eZ (fG hl' (bY ?_))))))
    walk_at "run"
    refine congrArg D.bl (decide_eq_decide.mpr ?_)
    omega
  · exact congrArg D.bl (decide_eq_false fun h=>h1 (by omega)).symm
theorem Ag{z:Str}{M:Sto}{Q:QE}(ha:Asc z)(hl:(tx z).length<=10000)(h:∀ M',Kp (fun _=>False) M M'->Q (.bl true) M'):gz [.str z] M Q:=by
  refine bZ rfl ?_
  unfold kK
  refine fB (fC (fA (dN (Af (z:=z) rfl hl) ?_)))
  rintro _ rfl
  refine fD ?_
  walk_at "env"
  have gi:fJ (tx z) ↔ (0 < (tx z).length/\(tx z).length < 9)/\∀ c ∈ tx z,c ∈ tx ("abcdefghijklmnopqrstuvwxyz" : Str):=by
    rw[kY,az]
    exact⟨fun g=>⟨by have:=g.1;omega,g.2⟩,fun g=>⟨by have:=g.1;omega,g.2⟩⟩
  refine fB (fC (fA (dN (pE (bE rfl rfl) (pD rfl ha hl)) ?_)))
  rintro _ rfl
  refine fD ?_
  walk_at "env"
  by_cases g:fJ (tx z)
  · rw[decide_eq_true (gi.mp g)]
    walk_at "run"
    refine pB ha hl (fun hb=>absurd g hb) fun _=>?_
    walk_at "run"
    refine ge (d:=.lst [.str "told",.str z]) rfl ⟨rfl,?_⟩
    walk_at "run"
    exact h _ Kp.refl
  · rw[decide_eq_false fun q=>g (gi.mpr q)]
    walk_at "run"
    refine pB ha hl (fun _ M' k=>?_) fun q=>absurd q g
    walk_at "run"
    refine ge (d:=fK) rfl ⟨rfl,?_⟩
    walk_at "run"
    exact h _ k
theorem Ah{l:List Nat}{c:Nat}(h:l.getLast?=some c):atI l ((l.length:Int) - 1)=some c:=by
  cases l with
  | nil=>cases h
  | cons a r =>
    rw[List.getLast?_eq_getElem?] at h
    have hi:(0:Int)<=((a::r).length:Int) - 1:=by rw[List.length_cons];omega
    have hl:((a::r).length:Int) - 1 < ((a::r).length:Nat):=by omega
    unfold atI ixN
    rw[if_pos hi,if_pos hl]
    show (a::r)[(((a::r).length:Int) - 1).toNat]?=some c
    have e2:(((a::r).length:Int) - 1).toNat=(a::r).length - 1:=by omega
    rw[e2];exact h
def gG(l:List Nat):Prop:=l ≠ []/\l.head? ≠ some 32/\l.getLast? ≠ some 32/\bj l [32,32]=false
instance (l:List Nat):Decidable (gG l):=inferInstanceAs (Decidable (_/\_))
theorem grow_iff{l:List Nat}:gG l ↔ [] ∉ aC 32 l:=by
  rw[A3]
  unfold gG
  constructor
  · rintro⟨h1,h2,h3,h4⟩ (h | h | h | h)
    · exact h1 h
    · exact h2 h
    · exact h3 h
    · rw[h] at h4;cases h4
  · intro h
    refine⟨fun q=>h (.inl q),fun q=>h (.inr (.inl q)),fun q=>h (.inr (.inr (.inl q))),?_⟩
    cases e:bj l [32,32] with
    | false=>rfl
    | true=>exact absurd (.inr (.inr (.inr e))) h
theorem one_is{c d:Nat}:mkT [c]=mkT [d] ↔ c=d:=by rw[gF,az,az];simp
theorem Ai{z:Str}{ρ:ae}(hρ:aa 0 ρ=some (.str z))(hl:(tx z).length<=10000):
    WE (bc (e2 neD (aa 0) (eC (.str ""))) (bc (e2 neD (e2 ixT (aa 0) (eC (.int 0))) (eC (.str " "))) (bc (e2 neD (e2 ixT (aa 0) (e2 fU (eA (aA br) (aj (aa 0) (aB))) (eC (.int 1)))) (eC (.str " "))) (e2 cJ (eC (.str "  ")) (aa 0))))) ρ
      fun d=>d=.bl (decide (gG (tx z))):=by
  have hl':(tx z).length<=100000:=by omega
  refine df (bF (bE hρ (bY (iK (gd ?_)))))
  rw[fI]
  refine dg (fun h1=>?_) fun h1=>?_
  · have h1:tx z ≠ []:=fun e=>h1 (str_is.mpr e)
    cases ez:tx z with
    | nil=>exact absurd ez h1
    | cons c r =>
    refine df (bF (bF (bE hρ (bY (gr (c:=c) hl' (by rw[ez];exact at0) (bY (iK (gd ?_))))))))
    rw[fH]
    refine dg (fun h2=>?_) fun h2=>?_
    · have h2:c ≠ 32:=fun e=>h2 (one_is.mpr e)
      obtain⟨q,hq⟩:∃ q,(tx z).getLast?=some q:=by
        rw[ez];exact⟨_,List.getLast?_cons⟩
      refine df (bF (bF (bE hρ (bF (fg (ff (bE hρ (eZ (fG hl' (bY (nq (gr (c:=q) hl' (Ah hq) (bY (iK (gd ?_)))))))))))))))
      refine dg (fun h3=>?_) fun h3=>?_
      · have h3:q ≠ 32:=fun e=>h3 (one_is.mpr e)
        refine bF (bY (bE hρ (ou ?_)))
        rw[A4,az]
        refine congrArg D.bl ?_
        rw[Bool.eq_iff_iff,Bool.not_eq_true',decide_eq_true_iff,<- ez]
        refine⟨fun h=>⟨h1,?_,?_,h⟩,fun h=>h.2.2.2⟩
        · rw[ez];simpa using h2
        · rw[hq];simpa using h3
      · have h3:q=32:=one_is.mp h3
        refine congrArg D.bl (decide_eq_false fun h=>h.2.2.1 ?_).symm
        rw[<- ez,hq,h3]
    · have h2:c=32:=one_is.mp h2
      refine congrArg D.bl (decide_eq_false fun h=>h.2.1 ?_).symm
      rw[h2];rfl
  · refine congrArg D.bl (decide_eq_false fun h=>h.1 (str_is.mp h1)).symm
theorem ld(c:Nat):∀ (ls:List (List Nat)),ls ≠ []->(ls.map List.length).sum+ls.length=(aR [c] ls).length+1
  | [],h=>absurd rfl h
  | [a],_=>by simp[aR]
  | a::b::r,_=>by
    have ih:=ld c (b::r) (by simp)
    rw[aR]
    simp only[List.map_cons,List.sum_cons,List.length_cons,List.length_append,List.length_nil] at ih ⊢
    omega
theorem Aj{M:Sto}{a:Nat}{ls:List (List Nat)}(h:M a=some (.lst (b5 ls))):vw3 M (.lst [.str "told",.ptr a])=.lst [.str "told",.lst (b5 ls)]:=by
  have e:=pz h
  show D.lst [vw2 M (.str "told"),vw2 M (.ptr a)]=_
  have e2:vw2 M (.ptr a)=.lst (b5 ls):=e
  rw[e2]
  rfl
theorem Ak(ls:List (List Nat)):aN 4 (.lst [.str "told",.lst (b5 ls)])=true:=by
  show (true && (aN 3 (.lst (b5 ls)) && true))=true
  rw[pC 2 ls]
  rfl
theorem Al{z:Str}{M:Sto}{Q:QE}(hl:(tx z).length<=10000)(h:∀ M',Kp (fun _=>False) M M'->Q (.bl true) M'):gE [.str z] M Q:=by
  refine bZ rfl ?_
  unfold kQ
  refine fB (fC (fA (dN (Ai (z:=z) rfl hl) ?_)))
  rintro _ rfl
  refine fD ?_
  walk_at "env"
  by_cases g:gG (tx z)
  · rw[decide_eq_true g]
    walk_at "run"
    refine kZ hl (fun hb=>absurd hb (grow_iff.mp g)) fun _ a M1 hn h1 k1=>?_
    obtain⟨j1,j2,j3⟩:=fF 32 (tx z)
    walk_at "run"
    refine dg (fun hb=>absurd rfl hb) fun _=>?_
    walk_at "env"
    walk_at "run"
    rw[p9 h1]
    refine nC ?_
    walk_at "run"
    have et:b5 (aC 32 (tx z))=((aC 32 (tx z)).map mkT).map D.str:=by rw[b5,List.map_map];rfl
    refine⟨a,(aC 32 (tx z)).map mkT,rfl,?_⟩
    refine zb _ (fun _ ρ M=>M=M1/\∃ b,ρ=[some (.str z),some (.bl true),some (.lst [.str "told",.ptr a]),b,none]) ?_ ⟨rfl,_,rfl⟩ ?_ ?_
    · rintro k ρ M ⟨rfl,_⟩
      rw[<- et];exact h1
    · rintro ρ M ⟨rfl,b,rfl⟩
      walk_at "run"
      refine⟨_,p9 h1,?_⟩
      walk_at "run"
      have sl:=kr 32 (tx z)
      refine⟨a,_,rfl,h1,?_⟩
      walk_at "run"
      refine⟨_,h1,by rw[b5,List.length_map];omega,?_⟩
      walk_at "run"
      have jl:=ld 32 (aC 32 (tx z)) j3
      rw[j1] at jl
      rw[fH]
      refine kt (ls:=aC 32 (tx z)) (by rw[az];simp only[List.length_cons,List.length_nil];omega) ?_
      rw[az,j1,cI]
      walk_at "run"
      refine bi (fun _=>?_) fun hb=>absurd rfl hb
      walk_at "env"
      walk_at "run"
      refine kZ hl (fun hb=>absurd hb (grow_iff.mp g)) fun _ a2 M2 hn2 h2 k2=>?_
      walk_at "run"
      rw[Aj h2]
      refine ge (Ak _) ⟨rfl,?_⟩
      walk_at "run"
      exact h _ ((k1.trans (Kp.upd (S:=(· = a)) (.inl rfl)) fun x e hx=>absurd (e ▸ hn) hx).trans k2 fun _ q _=>q)
    · rintro k hk ρ M ⟨rfl,b,rfl⟩ N hN
      obtain⟨w,hw,ew⟩:∃ w ∈ aC 32 (tx z),((aC 32 (tx z)).map mkT)[k]=mkT w:=⟨(aC 32 (tx z))[k]'(by simpa using hk),List.getElem_mem _,by simp⟩
      rw[ew]
      have w0:w ≠ []:=fun e=>grow_iff.mp g (e ▸ hw)
      have kb:∀ s,bO "str" (tyD (D.str s))=true:=fun _=>rfl
      walk_at "env"
      walk_at "run"
      refine vY rfl ?_
      rw[kb]
      walk_at "run"
      rw[fI,fH]
      refine bi (fun e=>absurd (by rw[gF,az,az] at e;exact e) w0) fun _=>?_
      walk_at "run"
      rw[az,az,iM,decide_eq_false (j2 w hw)]
      walk_at "run"
      exact hN _ _ ⟨rfl,_,rfl⟩
  · rw[decide_eq_false g]
    walk_at "run"
    refine kZ hl (fun _ M' k=>?_) fun q=>absurd (grow_iff.mpr q) g
    walk_at "run"
    refine ge (d:=fK) rfl ⟨rfl,?_⟩
    walk_at "run"
    exact h _ k
def fL:List Nat:=[65,66,67,68,69,70,71,72,73,74,75,76,77,78,79,80,81,82,83,84,85,86,87,88,89,90,33,34,35,36,38,39,40,41,42,43,44,45,46,47,58,59,60,61,62,63,64,91,92,93,94,95,96,123,124,125,126,9,10]
theorem Am:("ABCDEFGHIJKLMNOPQRSTUVWXYZ!\"#$&'()*+,-./:;<=>?\x40[\\]^_`{|}~\t\n" : Str)=mkT fL:=by decide +kernel
theorem asc_mk{l:List Nat}:Asc (mkT l) ↔ ∀ c ∈ l,c < 128:=by
  unfold Asc
  rw[az,List.all_eq_true]
  exact⟨fun h c hc=>of_decide_eq_true (h c hc),fun h c hc=>decide_eq_true (h c hc)⟩
theorem pF{z:Str}(h:Asc z):∀ c ∈ tx z,c < 128:=by rw[<- cI z,asc_mk] at h;exact h
def Src(d:D):Prop:=∃ z,d=.str z/\Asc z/\1<=(tx z).length/\(tx z).length<=200
theorem gH{l:List Nat}(h:∀ c ∈ l,c < 128)(h1:1<=l.length)(h2:l.length<=200):Src (.str (mkT l)):=⟨_,rfl,asc_mk.mpr h,h1,h2⟩
theorem pG:∀ (cs:List Nat),aR [] (cs.map fun c=>[c])=cs
  | []=>rfl
  | [c]=>rfl
  | c::d::r=>by
    have ih:=pG (d::r)
    rw[List.map_cons,List.map_cons,aR]
    have e:aR [] ([d]::List.map (fun c=>[c]) r)=d::r:=ih
    rw[e]
    rfl
theorem cr{K:D->Prop}{l r:List Nat}(hl:l.length+r.length<=100000)(h:K (.str (mkT (l++r)))):W2 bq (.str (mkT l)) (.str (mkT r)) K:=oq hl h
theorem gJ(l:List Nat)(lo hi:Option Int):(bL l lo hi).length<=l.length:=by
  unfold bL
  rw[List.length_drop,List.length_take]
  omega
theorem fM{l:List Nat}{lo hi:Option Int}{c:Nat}(h:c ∈ bL l lo hi):c ∈ l:=List.mem_of_mem_take (List.mem_of_mem_drop h)
theorem eF{l:List Nat}{i:Int}(h0:0<=i)(h1:i < (l.length:Int)):∃ c ∈ l,atI l i=some c:=by
  have hi:i.toNat < l.length:=by omega
  refine⟨l[i.toNat],List.getElem_mem _,?_⟩
  unfold atI ixN
  rw[if_pos h0,if_pos h1]
  show l[i.toNat]?=_
  rw[List.getElem?_eq_getElem hi]
theorem An{cs:List Nat}:((cs.map fun c=>[c]).map List.length).sum=cs.length:=by
  induction cs with
  | nil=>rfl
  | cons c r ih=>simp only[List.map_cons,List.sum_cons,List.length_cons,List.length_nil] at ih ⊢;omega
theorem Ao{a n:Nat}{M:Sto}{Q:QE}(hp:Pool M a n)(hn:n<=50000)(h:∀ z M',Asc z->(tx z).length<=40->Pool M' a (n+20)->Kp (· = a) M M'->Q (.str z) M'):gD [.ptr a] M Q:=by
  have hp2:Pool M a n:=hp
  refine bZ rfl ?_
  unfold kP
  walk_at "env"
  walk_at "run"
  rw[kY,kX,Am]
  refine cr (by decide) ?_
  walk_at "run"
  refine cr (by decide) ?_
  walk_at "run"
  refine cr (by decide) ?_
  walk_at "run"
  refine d6 hp (by omega) (by omega) (by omega) fun i M1 i0 i1 p1 k1=>?_
  walk_at "run"
  refine jP (P:=Src) i0 (by simpa using i1) ?_ ?_
  · intro v hv
    simp only[List.mem_cons,List.not_mem_nil,or_false] at hv
    rcases hv with rfl | rfl | rfl | rfl | rfl
    · exact gH (by decide) (by decide) (by decide)
    · exact gH (by decide) (by decide) (by decide)
    · exact gH (by decide) (by decide) (by decide)
    · exact gH (by decide) (by decide) (by decide)
    · exact gH (by decide) (by decide) (by decide)
  rintro _ ⟨s,rfl,sa,s1,s2⟩
  have s3:(tx s).length<=100000:=by omega
  walk_at "run"
  refine yE ?_
  walk_at "env"
  walk_at "run"
  refine d6 p1 (by omega) (by omega) (by omega) fun m M2 m0 m1 p2 k2=>?_
  walk_at "run"
  refine⟨⟨by omega,by omega⟩,by omega,?_⟩
  obtain⟨J,rfl⟩:∃ J:Nat,m=J:=⟨m.toNat,by omega⟩
  rw[show (1+(J:Int)).toNat=J+1 by omega]
  refine oo _ _ (fun k ds M'=>∃ cs:List Nat,ds=b5 (cs.map fun c=>[c])/\cs.length=k/\(∀ c ∈ cs,c < 128)/\Pool M' a (n+2+k)/\Kp (· = a) M M') ⟨[],rfl,rfl,fun _ z=>(nomatch z),p2,k1.trans k2 fun _ z _=>z⟩ ?_ ?_
  · rintro _ M3 ⟨cs,rfl,cl,ca,p3,k3⟩
    rw[List.length_range] at cl p3
    rw[fI]
    refine kt (ls:=cs.map fun c=>[c]) (by rw[An,az,List.length_map];simp;omega) ?_
    rw[az,pG]
    walk_at "run"
    refine d6 p3 (by omega) (by omega) (by omega) fun x8 M4 x0 x1 p4 k4=>?_
    walk_at "run"
    refine wb ⟨rfl,?_⟩
    refine jP (P:=fun d=>∃ l,d=.str (mkT l)/\(∀ c ∈ l,c < 128)/\l.length<=1) (by split <;> omega) (by split <;> simp) ?_ ?_
    · intro v hv
      simp only[List.mem_cons,List.not_mem_nil,or_false] at hv
      rcases hv with rfl | rfl
      · exact⟨[],rfl,fun _ z=>(nomatch z),by decide⟩
      · exact⟨[48],by rw[c_0],by decide,by decide⟩
    rintro _ ⟨l0,rfl,la,ll⟩
    walk_at "run"
    refine cr (by omega) ?_
    have wl:(l0++cs).length<=14:=by rw[List.length_append];omega
    have wa:∀ c ∈ l0++cs,c < 128:=fun c hc=>(List.mem_append.mp hc).elim (la c) (ca c)
    generalize l0++cs=w at wl wa
    have w3:(tx (mkT w)).length<=100000:=by rw[az];omega
    have g3:(tx (mkT (dq++dn++fL))).length<=100000:=by decide
    have ga:∀ c ∈ tx (mkT (dq++dn++fL)),c < 128:=by decide
    have g1:1<=(tx (mkT (dq++dn++fL))).length:=by decide
    have g2:(tx (mkT (dq++dn++fL))).length<=1000:=by decide
    generalize mkT (dq++dn++fL)=sg at g3 ga g1 g2
    walk_at "run"
    refine d6 p4 (by omega) (by omega) (by omega) fun x4 M5 y0 y1 p5 k5=>?_
    walk_at "run"
    refine bi (fun e=>?_) fun e=>?_
    · walk_at "run"
      refine d6 p5 (by omega) (by rw[az];omega) (by rw[az];omega) fun at' M6 z0 z1 p6 k6=>?_
      walk_at "run"
      refine⟨⟨rfl,decide_eq_true z0,w3⟩,?_⟩
      walk_at "env"
      walk_at "run"
      refine d6 p6 (by omega) (by omega) (by omega) fun x9 M7 v0 v1 p7 k7=>?_
      obtain⟨c,hc,ec⟩:=eF v0 v1
      refine gr g3 ec ?_
      have c1:=gJ w none (some at')
      have c2:=gJ w (some at') none
      refine cr (by rw[az];simp only[List.length_cons,List.length_nil];omega) ?_
      walk_at "run"
      refine⟨⟨decide_eq_true z0,rfl,w3⟩,?_⟩
      refine cr (by rw[az,List.length_append];simp only[List.length_cons,List.length_nil];omega) ?_
      walk_at "run"
      refine h _ _ (asc_mk.mpr fun x hx=>?_) ?_ (p7.le (by omega)) ((((k3.trans k4 fun _ z _=>z).trans k5 fun _ z _=>z).trans k6 fun _ z _=>z).trans k7 fun _ z _=>z)
      · rcases List.mem_append.mp hx with hx | hx
        · rcases List.mem_append.mp hx with hx | hx
          · exact wa x (fM hx)
          · rw[List.mem_singleton.mp hx];exact ga c hc
        · exact wa x (fM hx)
      · rw[az,az,List.length_append,List.length_append];simp only[List.length_cons,List.length_nil];omega
    · walk_at "run"
      exact h _ _ (asc_mk.mpr wa) (by rw[az];omega) (p5.le (by omega)) ((k3.trans k4 fun _ z _=>z).trans k5 fun _ z _=>z)
  · rintro k hk _ M3 ⟨cs,rfl,cl,ca,p3,k3⟩ N hN
    rw[List.length_range] at hk
    walk_at "env"
    walk_at "run"
    refine d6 p3 (by omega) (by omega) (by omega) fun i M4 i0 i1 p4 k4=>?_
    obtain⟨c,hc,ec⟩:=eF i0 i1
    refine gr s3 ec ?_
    refine hN _ _ ⟨cs++[c],?_,by simp[cl],?_,p4,k3.trans k4 fun _ z _=>z⟩
    · simp[b5]
    · intro x hx
      rcases List.mem_append.mp hx with hx | hx
      · exact ca x hx
      · rw[List.mem_singleton.mp hx];exact pF sa c hc
theorem Ap{a n:Nat}{l:List Nat}{M:Sto}{Q:QE}(hp:Pool M a n)(hn:n<=50000)(la:∀ c ∈ l,c < 128)(ll:l.length<=4000)(h:∀ y M',Asc y->(tx y).length<=10000->Kp (· = a) M M'->Q (.str y) M'):gC [.str (mkT l),.ptr a] M Q:=by
  have hl':(tx (mkT l)).length<=100000:=by rw[az];omega
  refine bZ rfl ?_
  unfold kO
  walk_at "env"
  walk_at "run"
  refine d6 hp (by omega) (by omega) (by omega) fun way M1 a0 a1 p1 k1=>?_
  walk_at "run"
  refine d6 p1 (by omega) (by rw[az];omega) (by rw[az];omega) fun at' M2 b0 b1 p2 k2=>?_
  walk_at "run"
  rw[fH,fI]
  have c1:=gJ l none (some at')
  have c2:=gJ l (some at') none
  have c3:=gJ l (some (at'+1)) none
  have o1:[32].length=1:=rfl
  refine cr (by omega) ?_
  walk_at "env"
  walk_at "run"
  refine cr (by omega) ?_
  walk_at "run"
  refine⟨⟨rfl,decide_eq_true b0,hl'⟩,?_⟩
  walk_at "run"
  refine cr (by rw[az];omega) ?_
  walk_at "run"
  refine⟨⟨decide_eq_true b0,rfl,hl'⟩,?_⟩
  walk_at "run"
  refine cr (by rw[az,List.length_append];omega) ?_
  walk_at "run"
  refine⟨⟨rfl,decide_eq_true b0,hl'⟩,?_⟩
  walk_at "run"
  refine⟨⟨decide_eq_true (by omega),rfl,hl'⟩,?_⟩
  walk_at "run"
  refine cr (by rw[az];omega) ?_
  walk_at "run"
  refine il (d:=.lst [.str (mkT l),.str (mkT l),.str (mkT l),.str (mkT l),.str (mkT l)]) rfl ?_
  walk_at "run"
  refine jP (P:=fun d=>∃ y,d=.str (mkT y)/\(∀ c ∈ y,c < 128)/\y.length<=10000) a0 (by simpa using a1) ?_ ?_
  · intro v hv
    simp only[List.cons_append,List.nil_append,List.mem_cons,List.not_mem_nil,or_false] at hv
    have bl:∀ c ∈ [32],c < 128:=by decide
    rcases hv with rfl | rfl | rfl | rfl | rfl | rfl | rfl | rfl | rfl | rfl
    · exact⟨_,rfl,fun _ z=>(nomatch z),by decide⟩
    · exact⟨_,rfl,fun c hc=>(List.mem_append.mp hc).elim (la c) (bl c),by rw[List.length_append];omega⟩
    · exact⟨_,rfl,fun c hc=>(List.mem_append.mp hc).elim (bl c) (la c),by rw[List.length_cons];omega⟩
    · exact⟨_,rfl,fun c hc=>(List.mem_append.mp hc).elim (fun hc=>(List.mem_append.mp hc).elim (fun hc=>la c (fM hc)) (bl c)) fun hc=>la c (fM hc),by rw[az,List.length_append,List.length_append];omega⟩
    · exact⟨_,rfl,fun c hc=>(List.mem_append.mp hc).elim (fun hc=>la c (fM hc)) fun hc=>la c (fM hc),by rw[az,List.length_append];omega⟩
    all_goals exact⟨l,rfl,la,by omega⟩
  rintro _ ⟨y,rfl,ya,yl⟩
  walk_at "run"
  exact h _ _ (asc_mk.mpr ya) (by rw[az];exact yl) (k1.trans k2 fun _ z _=>z)
theorem pH{c x:Nat}:∀ {ls:List (List Nat)},x ∈ aR [c] ls->x=c\/∃ l ∈ ls,x ∈ l
  | [],h=>by cases h
  | [a],h=>.inr ⟨a,List.mem_cons_self,h⟩
  | a :: b::r,h=>by
    rw[aR] at h
    rcases List.mem_append.mp h with h | h
    · rcases List.mem_append.mp h with h | h
      · exact .inr ⟨a,List.mem_cons_self,h⟩
      · exact .inl (List.mem_singleton.mp h)
    · rcases pH h with h | ⟨l,h1,h2⟩
      · exact .inl h
      · exact .inr ⟨l,List.mem_cons_of_mem _ h1,h2⟩
theorem Aq{ls:List (List Nat)}(h:∀ l ∈ ls,l.length<=40):(ls.map List.length).sum<=40 * ls.length:=by
  induction ls with
  | nil=>simp
  | cons a r ih =>
    have h1:=h a List.mem_cons_self
    have h2:=ih fun l hl=>h l (List.mem_cons_of_mem _ hl)
    rw[List.map_cons,List.sum_cons,List.length_cons]
    omega
theorem c_9:("9" : Str)=mkT [57]:=by decide +kernel
theorem c_1:("1" : Str)=mkT [49]:=by decide +kernel
theorem c_z:("z" : Str)=mkT [122]:=by decide +kernel
theorem Ar(ns:List Int)(hl:ns.length<=63):kS [.scr ns] (fun _=>none) fun d _=>d=.bl true:=by
  refine bZ rfl ?_
  unfold kR
  walk_at "env"
  walk_at "run"
  refine⟨_,_,rfl,⟨by omega,by omega⟩,⟨by omega,by omega⟩,by omega,?_⟩
  refine oo (fun k:Nat=>D.int (1+(k:Nat))) _ (fun k ds M'=>∃ ls:List (List Nat),ds=b5 ls/\ls.length=k/\∀ l ∈ ls,(∀ c ∈ l,c < 128)/\l.length<=40) ⟨[],rfl,rfl,fun _ z=>(nomatch z)⟩ ?_ ?_
  · rintro _ M1 ⟨ls,rfl,l1,l2⟩
    rw[List.length_range] at l1
    have l3:ls.length<=62:=by omega
    have sm:=Aq fun l hl=>(l2 l hl).2
    walk_at "env"
    walk_at "run"
    rw[fH]
    refine kt (ls:=ls) (by rw[az];simp only[List.length_cons,List.length_nil];omega) ?_
    rw[az]
    walk_at "run"
    refine om ?_
    walk_at "run"
    refine jN (kU (by omega)) ?_
    rintro _ ⟨x,rfl⟩
    walk_at "run"
    intro a ha
    walk_at "run"
    refine Ap (n:=0) ⟨_,_,_,bG,by omega,by omega⟩ (by omega) ?_ ?_ fun row M2 ra rl k2=>?_
    · intro c hc
      rcases pH hc with rfl | ⟨l,h1,h2⟩
      · decide
      · exact (l2 l h1).1 c h2
    · by_cases e:ls=[]
      · rw[e];decide
      · have:=ld 32 ls e
        omega
    walk_at "run"
    refine Al rl fun M3 k3=>?_
    walk_at "run"
    rw[c_9,c_1,c_0,c_z,fI]
    refine iJ (x:=mkT [57]) (by decide) ?_
    walk_at "env"
    walk_at "run"
    refine iJ (x:=mkT [48]) (by decide) ?_
    refine oq (x:=mkT [49]) (by decide) ?_
    walk_at "run"
    refine iJ (x:=mkT [122]) (by decide) ?_
    walk_at "run"
    refine iJ (x:=mkT [122]) (by decide) ?_
    walk_at "run"
    have tail:∃ ys:List Str,(∀ y ∈ ys,Asc y/\(tx y).length<=10000)/\[D.str row,D.str (mkT []),D.str (mkT [48]),D.str (mkT (List.replicate (7:Int).toNat (tx (mkT [57]))).flatten),D.str (mkT (tx (mkT [49])++tx (mkT (List.replicate (7:Int).toNat (tx (mkT [48]))).flatten))),D.str (mkT (List.replicate (8:Int).toNat (tx (mkT [122]))).flatten),D.str (mkT (List.replicate (9:Int).toNat (tx (mkT [122]))).flatten)]=ys.map D.str:=by
      refine⟨[row,mkT [],mkT [48],mkT (List.replicate (7:Int).toNat (tx (mkT [57]))).flatten,mkT (tx (mkT [49])++tx (mkT (List.replicate (7:Int).toNat (tx (mkT [48]))).flatten)),mkT (List.replicate (8:Int).toNat (tx (mkT [122]))).flatten,mkT (List.replicate (9:Int).toNat (tx (mkT [122]))).flatten],fun y hy=>?_,rfl⟩
      simp only[List.mem_cons,List.not_mem_nil,or_false] at hy
      rcases hy with rfl | rfl | rfl | rfl | rfl | rfl | rfl
      · exact⟨ra,rl⟩
      all_goals exact⟨by unfold Asc;decide,by decide⟩
    obtain⟨ys,hy,ey⟩:=tail
    rw[ey]
    have ex:b5 ls++ys.map D.str=(ls.map mkT++ys).map D.str:=by rw[List.map_append,b5,List.map_map];rfl
    rw[ex]
    have hx:∀ y ∈ ls.map mkT++ys,Asc y/\(tx y).length<=10000:=fun y h=>by
      rcases List.mem_append.mp h with h | h
      · obtain⟨l,h1,rfl⟩:=List.mem_map.mp h
        exact⟨asc_mk.mpr (l2 l h1).1,by rw[az];have:=(l2 l h1).2;omega⟩
      · exact hy y h
    refine yO D.str _ (fun _ ρ M=>∃ b,ρ=[some (.scr ns),some (.lst (b5 ls)),some (.str row),b]) ⟨_,rfl⟩ ?_ ?_
    · rintro ρ M ⟨b,rfl⟩
      walk_at "run"
    · rintro k hk ρ M ⟨b,rfl⟩ N hN
      obtain⟨xa,xl⟩:=hx _ (List.getElem_mem hk)
      walk_at "env"
      walk_at "run"
      refine Ae xa xl fun M4 k4=>?_
      walk_at "run"
      refine Ag xa xl fun M5 k5=>?_
      walk_at "run"
      exact hN _ _ ⟨_,rfl⟩
  · rintro k hk _ M1 ⟨ls,rfl,l1,l2⟩ N hN
    rw[List.length_range] at hk
    rw[List.getElem_range]
    walk_at "env"
    walk_at "run"
    refine A1 (by omega) (by omega) fun p M2 hp P2 K2=>?_
    walk_at "run"
    refine Ao P2 (by omega) fun z M3 za zl P3 K3=>?_
    refine hN _ _ ⟨ls++[tx z],?_,by simp[l1],?_⟩
    · simp[b5,cI]
    · intro l hl
      rcases List.mem_append.mp hl with hl | hl
      · exact l2 l hl
      · rw[List.mem_singleton.mp hl];exact⟨pF za,zl⟩
end My
end VL
namespace VL
namespace My
open PySem PySem.Spec PyProof.Rows L2
def top(i:Nat):Stmt:=PySem.Challenge.pw_latefare_k47_words_numbers_names.main.body.getD i (.Pass ⟨0,0,0,0⟩)
section
variable {P:Program} {w:World} {K:PySem.W.Frag} {mg:Str->Option Value} {base:Heap}
abbrev du:Stmt:=top 20
theorem pI:FnScope ["word","signs","most"] ["word","signs","most"] (ak du):=⟨rfl,rfl,rfl,by decide +kernel,rfl,by decide +kernel,by decide +kernel⟩
theorem As{a:Addr}{fd:FuncData}(Fn:Fun K "is_made_of" "is_made_of" du a fd)(b_all:mg "all" = none)(b_len:mg "len" = none):FnOk P w K mg base CX0 1 a fd ["word","signs","most"] (spF K p0 false):=by
  refine nj (np:=3) (n:=3) (body:=kE) [] [] rfl rfl rfl Fn pI (fun cdv A outer s H E F hn hr=>?_)
  have sc:=pI
  exact (jJ (jK (O':=[]) (cW (uY am (cK b_len (ao (ad 0) aO)) (ad 2)) (dL (vg rfl b_all (ao (bo (jL (own:=["sign"]) (caps:=[1]) (cn:=["signs"]) ⟨rfl,by decide +kernel,by decide +kernel,g9 (ak du) rfl (by decide +kernel),by first | rfl | decide +kernel,by decide +kernel,by decide +kernel⟩ rfl (kB (ad 0)) (fun _ _ _ _=>cO (i:=0) (show (["sign","signs"]:List Str).Nodup from by decide +kernel) rfl (Or.inl rfl) (.inr rfl)) (jt 0) (by decide) (fun _ _ _ _=>uv) (fun _ _ _ _=>(zt (ad 0) (ad 1))))) aO))))))
theorem At{a:Addr}{fd:FuncData}(Fn:Fun K "is_made_of" "is_made_of" du a fd)(m:mg "is_made_of" = some (.ref a))(b_all:mg "all" = none)(b_len:mg "len" = none):Def P w K mg base "is_made_of" 1 ["word","signs","most"] d5 false :=
  Def.sc ⟨a,fd,As Fn b_all b_len,m,Fn.kp,Fn.binds fun _ _ _ _ _ _ us hl=>match us,hl with | [_,_,_],_=>rfl⟩
abbrev dW:Stmt:=top 22
theorem pJ:FnScope ["script","k","cell"] ["script","k"] (ak dW):=⟨rfl,rfl,rfl,by decide +kernel,rfl,by decide +kernel,by decide +kernel⟩
theorem Au{a:Addr}{fd:FuncData}(Fn:Fun K "_law_nth" "_law_nth" dW a fd):FnOk P w K mg base CX0 1 a fd ["script","k"] (spF K p8 false):=by
  refine nj (np:=2) (n:=3) (body:=kF) [] [] rfl rfl rfl Fn pJ (fun cdv A outer s H E F hn hr=>?_)
  have sc:=pJ
  exact (va (vc 2 [] sc.nd rfl (bo (v6 (jI 0) (cX (ad 1)) (cX (eV (ad 1) am)))) (jJ (jK (O':=[]) (ad 2)))) (jJ (jK (O':=[]) am)))
theorem Aw{a:Addr}{fd:FuncData}(Fn:Fun K "_law_nth" "_law_nth" dW a fd)(m:mg "_law_nth" = some (.ref a)):Def P w K mg base "_law_nth" 1 ["script","k"] dU false :=
  Def.sc ⟨a,fd,Au Fn , m,Fn.kp,Fn.binds fun _ _ _ _ _ _ us hl=>match us,hl with | [_,_],_=>rfl⟩
abbrev dX:Stmt:=top 27
theorem pK:FnScope ["caught","others"] ["caught"] (ak dX):=⟨rfl,rfl,rfl,by decide +kernel,rfl,by decide +kernel,by decide +kernel⟩
theorem Ax{a:Addr}{fd:FuncData}(Fn:Fun K "_law_refused" "_law_refused" dX a fd)(b_ValueError:mg "ValueError" = none)(b_isinstance:mg "isinstance" = none)(xt:bp K=true):FnOk P w K mg base CX0 1 a fd ["caught"] (spN K (gu)):=by
  refine cH (np:=1) (n:=2) (body:=kG) rfl rfl rfl Fn pK (fun cdv A outer s H E hr=>?_)
  have sc:=pK
  exact (aD (aS 1 sc.nd (iD (aw (cG xt b_isinstance (ag (ad 0))) (aw (cG xt b_isinstance (ag (ad 0))) (aw (cG xt b_isinstance (ag (ad 0))) aP))))) (aD (aS 1 sc.nd (ol (ag (ad 1)) (iD (aw (cG xt b_isinstance (ag (ad 0))) (aw (cG xt b_isinstance (ag (ad 0))) (aw (cG xt b_isinstance (ag (ad 0))) aP)))))) (aD (aS 1 sc.nd (ol (ag (ad 1)) (iD (aw (cG xt b_isinstance (ag (ad 0))) (aw (cG xt b_isinstance (ag (ad 0))) (aw (cG xt b_isinstance (ag (ad 0))) aP)))))) (b8 (b9 (fu (cG xt b_isinstance (ag (ad 0))) (fu (yg xt b_isinstance b_ValueError (ag (ad 0))) (kg (ag (vi cC (ad 1)))))))))))
abbrev dY:Stmt:=top 17
theorem pL:FnScope ["row","words"] ["row"] (ak dY):=⟨rfl,rfl,rfl,by decide +kernel,rfl,by decide +kernel,by decide +kernel⟩
theorem Ay{a:Addr}{fd:FuncData}(Fn:Fun K "read_words" "read_words" dY a fd)(xt:bp K=true):FnOk P w K mg base (CXN P w) 1 a fd ["row"] (spE K (gv)):=by
  refine kn (np:=1) (n:=2) (body:=kH) rfl rfl rfl Fn pL (fun cdv A outer s H E PP EX hr ho=>?_)
  have sc:=pL
  exact (iG (iF (aS 1 sc.nd (xZ (zK (ad 0))))) (iG (kl (zW (ag aH) (ag (ad 1))) (fw (yf xt ho)) ki) (fw (iF (b9 (ag (ad 1)))))))
abbrev dZ:Stmt:=top 18
theorem pM:FnScope ["word"] ["word"] (ak dZ):=⟨rfl,rfl,rfl,by decide +kernel,rfl,by decide +kernel,by decide +kernel⟩
theorem Az{a:Addr}{fd:FuncData}(Fn:Fun K "read_number" "read_number" dZ a fd)(b_int:mg "int" = none){t_FIGURES:Tok}(c_FIGURES:mg "FIGURES" = some (.str "0123456789" t_FIGURES)){t_MOST_FIGURES:Tok}(c_MOST_FIGURES:mg "MOST_FIGURES" = some (.int 7 t_MOST_FIGURES))(xt:bp K=true)(d_is_made_of:Def P w K mg base "is_made_of" 1 ["word","signs","most"] d5 false):FnOk P w K mg base (CXN P w) 2 a fd ["word"] (spE K (gw)):=by
  refine kn (np:=1) (n:=1) (body:=kI) rfl rfl rfl Fn pM (fun cdv A outer s H E PP EX hr ho=>?_)
  have sc:=pM
  exact (iG (kl (d2 (jG (jF (eY (eX (gc d_is_made_of hr (ao (ad 0) (ao (oA c_FIGURES) (ao (n9 c_MOST_FIGURES) aO)))))) (ng (jG (v3 (ik hr (ky (ad 0) am (fun _ _=>rfl)) aH) (uZ (vd hr (ad 0) aH)))))))) (fw (oX xt ho (ad 0))) ki) (fw (iF (b9 (ag (zA b_int (ao (ad 0) aO)))))))
abbrev e7:Stmt:=top 19
theorem pN:FnScope ["word"] ["word"] (ak e7):=⟨rfl,rfl,rfl,by decide +kernel,rfl,by decide +kernel,by decide +kernel⟩
theorem AB{a:Addr}{fd:FuncData}(Fn:Fun K "read_name" "read_name" e7 a fd){t_LETTERS:Tok}(c_LETTERS:mg "LETTERS" = some (.str "abcdefghijklmnopqrstuvwxyz" t_LETTERS)){t_MOST_LETTERS:Tok}(c_MOST_LETTERS:mg "MOST_LETTERS" = some (.int 8 t_MOST_LETTERS))(xt:bp K=true)(d_is_made_of:Def P w K mg base "is_made_of" 1 ["word","signs","most"] d5 false):FnOk P w K mg base (CXN P w) 2 a fd ["word"] (spE K (gx)):=by
  refine kn (np:=1) (n:=1) (body:=kJ) rfl rfl rfl Fn pN (fun cdv A outer s H E PP EX hr ho=>?_)
  have sc:=pN
  exact (iG (kl (d2 (eY (eX (gc d_is_made_of hr (ao (ad 0) (ao (oA c_LETTERS) (ao (n9 c_MOST_LETTERS) aO))))))) (fw (oX xt ho (ad 0))) ki) (fw (iF (b9 (ag (ad 0))))))
abbrev e8:Stmt:=top 28
theorem pO:FnScope ["way","text","caught","found","e"] ["way","text"] (ak e8):=⟨rfl,rfl,rfl,by decide +kernel,rfl,by decide +kernel,by decide +kernel⟩
theorem AC{a:Addr}{fd:FuncData}(Fn:Fun K "_law_told" "_law_told" e8 a fd)(xt:bp K=true)(d_law_refused:DefN P w K mg base "_law_refused" 2 ["caught"] (gu))(x_read_words:DefE P w K mg base "read_words" 2 ["row"] (gv))(x_read_number:DefE P w K mg base "read_number" 2 ["word"] (gw))(x_read_name:DefE P w K mg base "read_name" 2 ["word"] (gx)):FnOk P w K mg base CX0 3 a fd ["way","text"] (spN K (bS)):=by
  refine cH (np:=2) (n:=5) (body:=gy) rfl rfl rfl Fn pO (fun cdv A outer s H E hr=>?_)
  have sc:=pO
  exact (aD (aS 2 sc.nd (ag n8)) (aD (aS 3 sc.nd (ag n8)) (aD (zT 2 4 xt sc.nd (oY (d2 (ik hr (ad 0) am)) (kC 3 sc.nd (km x_read_words hr (aw (ag (ad 1)) aP))) (oY (d2 (ik hr (ad 0) am)) (kC 3 sc.nd (km x_read_number hr (aw (ag (ad 1)) aP))) (kC 3 sc.nd (km x_read_name hr (aw (ag (ad 1)) aP)))))) (aD (cF (d2 (vh (ad 2))) (b8 (b9 (ag (bo (bP (ao aH (ao (ad 3) aO))))))) cE) (b8 (b9 (iD (aw (ag aH) (aw (bf d_law_refused hr (aw (ag (ad 2)) aP)) aP)))))))))
abbrev dA:Stmt:=top 31
theorem pP:FnScope ["word","good"] ["word"] (ak dA):=⟨rfl,rfl,rfl,by decide +kernel,rfl,by decide +kernel,by decide +kernel⟩
theorem AD{a:Addr}{fd:FuncData}(Fn:Fun K "_law_name_right" "_law_name_right" dA a fd)(b_len:mg "len" = none)(d_law_told:DefN P w K mg base "_law_told" 3 ["way","text"] (bS)):FnOk P w K mg base CX0 4 a fd ["word"] (spN K (gz)):=by
  refine cH (np:=1) (n:=2) (body:=kK) rfl rfl rfl Fn pP (fun cdv A outer s H E hr=>?_)
  have sc:=pP
  exact (aD (aS 1 sc.nd (ag (cW (ig am (cK b_len (ao (ad 0) aO))) (dL (ig (cK b_len (ao (ad 0) aO)) am))))) (aD (aS 1 sc.nd (ag (cW (ad 1) (dL (ii hr (bo (jL (own:=["sign"]) (caps:=[]) (cn:=[]) ⟨rfl,by decide +kernel,by decide +kernel,g9 (ak dA) rfl (by decide +kernel),by first | rfl | decide +kernel,by decide +kernel,by decide +kernel⟩ rfl (kB (ad 0)) (fun _ _ _ _=>cO (i:=0) (show (["sign"]:List Str).Nodup from by decide +kernel) rfl (Or.inl rfl) (.inr rfl)) (jt 0) (by decide) (fun _ _ _ _=>ni (oN (ad 0) aH)) (fun _ _ _ _=>(ad 0)))) (bo (bP aO))))))) (aD (cF (d2 (eY (eX (ad 1)))) (b8 (b9 (gt hr (bf d_law_told hr (aw (ag am) (aw (ag (ad 0)) aP))) (ag (bo (bP (ao aH (ao cC aO)))))))) cE) (b8 (b9 (gt hr (bf d_law_told hr (aw (ag am) (aw (ag (ad 0)) aP))) (ag (bo (bP (ao aH (ao (ad 0) aO)))))))))))
abbrev dC:Stmt:=top 30
theorem pQ:FnScope ["word","good","told"] ["word"] (ak dC):=⟨rfl,rfl,rfl,by decide +kernel,rfl,by decide +kernel,by decide +kernel⟩
theorem AE{a:Addr}{fd:FuncData}(Fn:Fun K "_law_number_right" "_law_number_right" dC a fd)(b_bool:mg "bool" = none)(b_int:mg "int" = none)(b_isinstance:mg "isinstance" = none)(b_len:mg "len" = none)(b_str:mg "str" = none)(d_law_told:DefN P w K mg base "_law_told" 3 ["way","text"] (bS)):FnOk P w K mg base CX0 4 a fd ["word"] (spN K (gA)):=by
  refine cH (np:=1) (n:=3) (body:=kL) rfl rfl rfl Fn pQ (fun cdv A outer s H E hr=>?_)
  have sc:=pQ
  exact (aD (aS 1 sc.nd (ag (cW (ig am (cK b_len (ao (ad 0) aO))) (cW (ig (cK b_len (ao (ad 0) aO)) am) (dL (v4 (ii hr (ad 0) aH) (dL (ij hr (dS (ad 0) dM (cX am)) aH)))))))) (aD (aS 1 sc.nd (ag (cW (ad 1) (dL (ii hr (bo (jL (own:=["sign"]) (caps:=[]) (cn:=[]) ⟨rfl,by decide +kernel,by decide +kernel,g9 (ak dC) rfl (by decide +kernel),by first | rfl | decide +kernel,by decide +kernel,by decide +kernel⟩ rfl (kB (ad 0)) (fun _ _ _ _=>cO (i:=0) (show (["sign"]:List Str).Nodup from by decide +kernel) rfl (Or.inl rfl) (.inr rfl)) (jt 0) (by decide) (fun _ _ _ _=>ni (oN (ad 0) aH)) (fun _ _ _ _=>(ad 0)))) (bo (bP aO))))))) (aD (aS 2 sc.nd (bf d_law_told hr (aw (ag am) (aw (ag (ad 0)) aP)))) (aD (cF (d2 (eY (eX (ad 1)))) (b8 (b9 (gt hr (ag (ad 2)) (ag (bo (bP (ao aH (ao cC aO)))))))) cE) (b8 (b9 (fu (iC hr (cm (ag (ad 2)) (ag am) (fun _ _=>rfl)) (ag aH)) (fu (kD uh (by decide +kernel) b_isinstance b_int (cm (ag (ad 2)) (ag am) (fun _ _=>rfl))) (fu (xY (kD ui (by decide +kernel) b_isinstance b_bool (cm (ag (ad 2)) (ag am) (fun _ _=>rfl)))) (kg (iC hr (A0 b_str (aw (cm (ag (ad 2)) (ag am) (fun _ _=>rfl)) aP)) (ag (ad 0)))))))))))))
abbrev e9:Stmt:=top 23
theorem pR:FnScope ["script","k"] ["script","k"] (ak e9):=⟨rfl,rfl,rfl,by decide +kernel,rfl,by decide +kernel,by decide +kernel⟩
theorem AF{a:Addr}{fd:FuncData}(Fn:Fun K "_law_pool" "_law_pool" e9 a fd)(d_law_nth:Def P w K mg base "_law_nth" 1 ["script","k"] dU false):FnOk P w K mg base CX0 2 a fd ["script","k"] (spN K (gB)):=by
  refine cH (np:=2) (n:=2) (body:=kM) rfl rfl rfl Fn pR (fun cdv A outer s H E hr=>?_)
  have sc:=pR
  exact (b8 (b9 (oj (ns:=["rest","mixed","count"]) (fv (gc d_law_nth hr (ao (ad 0) (ao (ad 1) aO))) (fv (ii hr (eW (gc d_law_nth hr (ao (ad 0) (ao am aO))) am) am) (fv (eV am (ad 1)) oi))))))
abbrev ef:Stmt:=top 24
theorem pS:FnScope ["pool","many","rest"] ["pool","many"] (ak ef):=⟨rfl,rfl,rfl,by decide +kernel,rfl,by decide +kernel,by decide +kernel⟩
theorem AG{a:Addr}{fd:FuncData}(Fn:Fun K "_law_take" "_law_take" ef a fd):FnOk P w K mg base CX0 1 a fd ["pool","many"] (spN K (bM)):=by
  refine cH (np:=2) (n:=3) (body:=kN) rfl rfl rfl Fn pS (fun cdv A outer s H E hr=>?_)
  have sc:=pS
  exact (aD (aS 2 sc.nd (iE (ns:=["rest","mixed","count"]) (i:=0) hr (ag (ad 0)) (fun _ _=>rfl))) (aD (cF (gm (gk (iE (ns:=["rest","mixed","count"]) (i:=1) hr (ag (ad 0)) (fun _ _=>rfl)))) (aD (kh (ns:=["rest","mixed","count"]) (i:=0) hr (ag (ad 0)) (ag (jE (ad 2) (ad 1)))) (b8 (b9 (ag (eW (ad 2) (ad 1)))))) cE) (aD (kh (ns:=["rest","mixed","count"]) (i:=2) hr (ag (ad 0)) (kf (iE (ns:=["rest","mixed","count"]) (i:=2) hr (ag (ad 0)) (fun _ _=>rfl)) (ag am))) (aD (aS 2 sc.nd (kf (ag (eW (ad 2) am)) (xV (ag am) (iE (ns:=["rest","mixed","count"]) (i:=2) hr (ag (ad 0)) (fun _ _=>rfl))))) (aD (aS 2 sc.nd (ag (eW (nc (ad 2) (eV (ad 2) am)) am))) (aD (aS 2 sc.nd (ag (eW (nc (ad 2) (ad 2)) am))) (aD (kh (ns:=["rest","mixed","count"]) (i:=0) hr (ag (ad 0)) (ag (ad 2))) (b8 (b9 (ag (eW (jE (ad 2) am) (ad 1))))))))))))
abbrev eg:Stmt:=top 26
theorem pT:FnScope ["row","pool","way","at","some"] ["row","pool"] (ak eg):=⟨rfl,rfl,rfl,by decide +kernel,rfl,by decide +kernel,by decide +kernel⟩
theorem AH{a:Addr}{fd:FuncData}(Fn:Fun K "_law_spoilt" "_law_spoilt" eg a fd)(b_len:mg "len" = none)(d_law_take:DefN P w K mg base "_law_take" 1 ["pool","many"] (bM)):FnOk P w K mg base CX0 2 a fd ["row","pool"] (spN K (gC)):=by
  refine cH (np:=2) (n:=5) (body:=kO) rfl rfl rfl Fn pT (fun cdv A outer s H E hr=>?_)
  have sc:=pT
  exact (aD (aS 2 sc.nd (bf d_law_take hr (aw (ag (ad 1)) (aw (ag am) aP)))) (aD (aS 3 sc.nd (bf d_law_take hr (aw (ag (ad 1)) (aw (ag (eV (cK b_len (ao (ad 0) aO)) am)) aP)))) (aD (aS 4 sc.nd (ag (bo (bP (ao aH (ao (d4 (ad 0) aH) (ao (d4 aH (ad 0)) (ao (d4 (d4 (dS (ad 0) dM (cX (ad 3))) aH) (dS (ad 0) (cX (ad 3)) dM)) (ao (d4 (dS (ad 0) dM (cX (ad 3))) (dS (ad 0) (cX (eV (ad 3) am)) dM)) aO))))))))) (b8 (b9 (ag (v5 (jH (bo (nh (jI 4) (jH (bo (v7 (bP (ao (ad 0) aO)) am)))))) (ad 2) (fun _ _=>rfl))))))))
abbrev dD:Stmt:=top 25
theorem pU:FnScope ["pool","letters","figures","signs","some","word","at"] ["pool"] (ak dD):=⟨rfl,rfl,rfl,by decide +kernel,rfl,by decide +kernel,by decide +kernel⟩
theorem AI{a:Addr}{fd:FuncData}(Fn:Fun K "_law_word" "_law_word" dD a fd)(b_int:mg "int" = none)(b_len:mg "len" = none)(b_range:mg "range" = none)(d_law_take:DefN P w K mg base "_law_take" 1 ["pool","many"] (bM)):FnOk P w K mg base CX0 2 a fd ["pool"] (spN K (gD)):=by
  refine cH (np:=1) (n:=7) (body:=kP) rfl rfl rfl Fn pU (fun cdv A outer s H E hr=>?_)
  have sc:=pU
  exact (aD (aS 1 sc.nd (ag aH)) (aD (aS 2 sc.nd (ag aH)) (aD (aS 3 sc.nd (ag (d4 (d4 (ad 1) (ad 2)) aH))) (aD (aS 4 sc.nd (cm (ag (bo (bP (ao (ad 1) (ao (ad 2) (ao (ad 2) (ao (d4 (ad 1) (ad 2)) (ao (ad 3) aO)))))))) (bf d_law_take hr (aw (ag (ad 0)) (aw (ag am) aP))) (fun _ _=>rfl))) (aD (aS 5 sc.nd (kA (yd (y:="k") (caps:=[0,4]) (cn:=["pool","some"]) ⟨rfl,by decide +kernel,by decide +kernel,g9 (ak dD) rfl (by decide +kernel),by first | rfl | decide +kernel,by decide +kernel,by decide +kernel⟩ rfl b_range (aw (kf (ag am) (bf d_law_take hr (aw (ag (ad 0)) (aw (ag am) aP)))) aP) (fun _ _ _ _=>cO (i:=0) (show (["k","pool","some"]:List Str).Nodup from by decide +kernel) rfl (Or.inl rfl) (.inr rfl)) (fun _ _ _ _=>(oF (ag (ad 2)) (bf d_law_take hr (aw (ag (ad 1)) (aw (ag (cK b_len (ao (ad 2) aO))) aP))) (fun _ _=>rfl)))))) (aD (aS 5 sc.nd (ku (cm (ag (bo (bP (ao aH (ao aH aO))))) (yh b_int (aw (iC hr (bf d_law_take hr (aw (ag (ad 0)) (aw (ag am) aP))) (ag am)) aP)) (fun _ _=>rfl)) (ag (ad 5)))) (aD (cF (xW hr (bf d_law_take hr (aw (ag (ad 0)) (aw (ag am) aP))) (ag am)) (aD (aS 6 sc.nd (bf d_law_take hr (aw (ag (ad 0)) (aw (ag (eV (cK b_len (ao (ad 5) aO)) am)) aP)))) (b8 (aS 5 sc.nd (ku (ku (ag (dS (ad 5) dM (cX (ad 6)))) (oF (ag (ad 3)) (bf d_law_take hr (aw (ag (ad 0)) (aw (ag (cK b_len (ao (ad 3) aO))) aP))) (fun _ _=>rfl))) (ag (dS (ad 5) (cX (ad 6)) dM)))))) cE) (b8 (b9 (ag (ad 5)))))))))))
abbrev eh:Stmt:=top 29
theorem pV:FnScope ["row","good","told","word","kept"] ["row"] (ak eh):=⟨rfl,rfl,rfl,by decide +kernel,rfl,by decide +kernel,by decide +kernel⟩
theorem AJ{a:Addr}{fd:FuncData}(Fn:Fun K "_law_words_right" "_law_words_right" eh a fd)(b_isinstance:mg "isinstance" = none)(b_len:mg "len" = none)(b_list:mg "list" = none)(b_str:mg "str" = none)(d_law_told:DefN P w K mg base "_law_told" 3 ["way","text"] (bS)):FnOk P w K mg base CX0 4 a fd ["row"] (spN K (gE)):=by
  refine cH (np:=1) (n:=5) (body:=kQ) rfl rfl rfl Fn pV (fun cdv A outer s H E hr=>?_)
  have sc:=pV
  exact (aD (aS 1 sc.nd (ag (cW (ij hr (ad 0) aH) (cW (ij hr (ky (ad 0) am (fun _ _=>rfl)) aH) (cW (ij hr (ky (ad 0) (uX (cK b_len (ao (ad 0) aO)) am) (fun _ _=>rfl)) aH) (dL (zv aH (ad 0)))))))) (aD (aS 2 sc.nd (bf d_law_told hr (aw (ag am) (aw (ag (ad 0)) aP)))) (aD (cF (d2 (eY (eX (ad 1)))) (b8 (b9 (gt hr (ag (ad 2)) (ag (bo (bP (ao aH (ao cC aO)))))))) cE) (aD (cF (oh (og (xX hr (cm (ag (ad 2)) (ag am) (fun _ _=>rfl)) (ag aH)) (oe (gm (gk (kD uj (by decide +kernel) b_isinstance b_list (cm (ag (ad 2)) (ag am) (fun _ _=>rfl)))))))) (b8 (b9 (ag cC))) cE) (aD (zX 3 sc.nd rfl (cm (ag (ad 2)) (ag am) (fun _ _=>rfl)) (b8 (cF (d2 (jG (jF (eY (eX (vf uk (by decide +kernel) b_isinstance b_str (ad 3)))) (jF (ik hr (ad 3) aH) (ng (zu aH (ad 3))))))) (b8 (b9 (ag cC))) cE))) (aD (aS 4 sc.nd (ye b_list (cm (ag (ad 2)) (ag am) (fun _ _=>rfl)))) (aD (yb (cm (ag (ad 2)) (ag am) (fun _ _=>rfl)) (ag aH)) (b8 (b9 (fu (iC hr (kA (ag (ad 4))) (ag (ad 0))) (kg (gt hr (bf d_law_told hr (aw (ag am) (aw (ag (ad 0)) aP))) (ag (bo (bP (ao aH (ao (ad 4) aO)))))))))))))))))
abbrev cL:Stmt:=top 32
theorem pW:FnScope ["script","words","row","word"] ["script"] (ak cL):=⟨rfl,rfl,rfl,by decide +kernel,rfl,by decide +kernel,by decide +kernel⟩
theorem AK{a:Addr}{fd:FuncData}(Fn:Fun K "law" "law" cL a fd)(b_len:mg "len" = none)(b_min:mg "min" = none)(b_range:mg "range" = none)(d_law_nth:Def P w K mg base "_law_nth" 4 ["script","k"] dU false)(d_law_spoilt:DefN P w K mg base "_law_spoilt" 4 ["row","pool"] (gC))(d_law_word:DefN P w K mg base "_law_word" 4 ["pool"] (gD))(d_law_words_right:DefN P w K mg base "_law_words_right" 4 ["row"] (gE))(d_law_pool:DefN P w K mg base "_law_pool" 4 ["script","k"] (gB))(d_law_number_right:DefN P w K mg base "_law_number_right" 4 ["word"] (gA))(d_law_name_right:DefN P w K mg base "_law_name_right" 4 ["word"] (gz)):FnOk P w K mg base CX0 5 a fd ["script"] (spN K (kS)):=by
  refine cH (np:=1) (n:=4) (body:=kR) rfl rfl rfl Fn pW (fun cdv A outer s H E hr=>?_)
  have sc:=pW
  exact (aD (zZ 1 sc.nd (y:="k") (caps:=[0]) (cn:=["script"]) ⟨rfl,by decide +kernel,by decide +kernel,g9 (ak cL) rfl (by decide +kernel),by first | rfl | decide +kernel,by decide +kernel,by decide +kernel⟩ rfl b_range (aw (ag am) (aw (ag (v9 rfl b_min (ao am (ao (v8 b_len (ao (ad 0) aO)) aO)))) aP)) (fun _ _ _ _=>cO (i:=0) (show (["k","script"]:List Str).Nodup from by decide +kernel) rfl (Or.inl rfl) (.inr rfl)) (fun _ _ _ _=>(bf d_law_word hr (aw (bf d_law_pool hr (aw (ag (ad 1)) (aw (ag (ad 0)) aP))) aP)))) (aD (aS 2 sc.nd (bf d_law_spoilt hr (aw (kA (ag (ad 1))) (aw (oj (ns:=["rest","mixed","count"]) (fv (jE (gc d_law_nth hr (ao (ad 0) (ao am aO))) am) (fv cC (fv am oi)))) aP)))) (aD (cF (gm (gk (bf d_law_words_right hr (aw (ag (ad 2)) aP)))) (b8 (b9 (ag cC))) cE) (aD (yc 3 sc.nd rfl (ag (bo (nh (jI 1) (jH (bo (bP (ao (ad 2) (ao aH (ao aH (ao (iL aH am) (ao (d4 aH (iL aH am)) (ao (iL aH am) (ao (iL aH am) aO))))))))))))) (b8 (cF (oh (og (gm (gk (bf d_law_number_right hr (aw (ag (ad 3)) aP)))) (oe (gm (gk (bf d_law_name_right hr (aw (ag (ad 3)) aP))))))) (b8 (b9 (ag cC))) cE))) (b8 (b9 (ag cC)))))))
end
def lf(K:PySem.W.Frag):Sp:=fun vs H Q E=>spN K (kS) vs H Q E
theorem all_mk{l:PySem.W.OpenLaw}{w:World}{K:PySem.W.Frag}{h:Heap}{mg:Str->Option Value}{fa f1 f2 f3 f4 f5 f6 f7 f8 f9 f10 f11 f12 f13 f14 f15:Addr}(X:K.In h)(G:h.Ns mainGlobals mg)(hfa:mg "law" = some (.ref fa)){od1 an1 od2 an2 od3 an3 od4 an4 od5 an5 od6 an6 od7 an7 od8 an8 od9 an9 od10 an10 od11 an11 od12 an12 od13 an13 od14 an14 od15 an15:Option Addr}{sl1 sl2 sl3 sl4 sl5 sl6 sl7 sl8 sl9 sl10 sl11 sl12 sl13 sl14 sl15:Array (Option Value)}{oc1 kV1 dc1 pm1 cd1 ct1 oc2 kV2 dc2 pm2 cd2 ct2 oc3 kV3 dc3 pm3 cd3 ct3 oc4 kV4 dc4 pm4 cd4 ct4 oc5 kV5 dc5 pm5 cd5 ct5 oc6 kV6 dc6 pm6 cd6 ct6 oc7 kV7 dc7 pm7 cd7 ct7 oc8 kV8 dc8 pm8 cd8 ct8 oc9 kV9 dc9 pm9 cd9 ct9 oc10 kV10 dc10 pm10 cd10 ct10 oc11 kV11 dc11 pm11 cd11 ct11 oc12 kV12 dc12 pm12 cd12 ct12 oc13 kV13 dc13 pm13 cd13 ct13 oc14 kV14 dc14 pm14 cd14 ct14 oc15 kV15 dc15 pm15 cd15 ct15:Value}{t_FIGURES t_LETTERS t_MOST_FIGURES t_MOST_LETTERS:Tok}(a1:PySem.W.nsIn K mainGlobals "is_made_of" = some (some (.ref f1)))(l1:K.lookup f1=some ⟨oc1,od1,.func (PySem.W.fnOf "is_made_of" "is_made_of" (bh du) (aU du) (ak du) .none kV1 dc1 pm1 an1 cd1 ct1),sl1⟩)(c1:PySem.W.codeIn K cd1 "is_made_of" = true)(k1:PySem.W.keepIn K (.ref f1)=true)(a2:PySem.W.nsIn K mainGlobals "_law_nth" = some (some (.ref f2)))(l2:K.lookup f2=some ⟨oc2,od2,.func (PySem.W.fnOf "_law_nth" "_law_nth" (bh dW) (aU dW) (ak dW) .none kV2 dc2 pm2 an2 cd2 ct2),sl2⟩)(c2:PySem.W.codeIn K cd2 "_law_nth" = true)(k2:PySem.W.keepIn K (.ref f2)=true)(a3:PySem.W.nsIn K mainGlobals "_law_refused" = some (some (.ref f3)))(l3:K.lookup f3=some ⟨oc3,od3,.func (PySem.W.fnOf "_law_refused" "_law_refused" (bh dX) (aU dX) (ak dX) .none kV3 dc3 pm3 an3 cd3 ct3),sl3⟩)(c3:PySem.W.codeIn K cd3 "_law_refused" = true)(k3:PySem.W.keepIn K (.ref f3)=true)(a4:PySem.W.nsIn K mainGlobals "read_words" = some (some (.ref f4)))(l4:K.lookup f4=some ⟨oc4,od4,.func (PySem.W.fnOf "read_words" "read_words" (bh dY) (aU dY) (ak dY) .none kV4 dc4 pm4 an4 cd4 ct4),sl4⟩)(c4:PySem.W.codeIn K cd4 "read_words" = true)(k4:PySem.W.keepIn K (.ref f4)=true)(a5:PySem.W.nsIn K mainGlobals "read_number" = some (some (.ref f5)))(l5:K.lookup f5=some ⟨oc5,od5,.func (PySem.W.fnOf "read_number" "read_number" (bh dZ) (aU dZ) (ak dZ) .none kV5 dc5 pm5 an5 cd5 ct5),sl5⟩)(c5:PySem.W.codeIn K cd5 "read_number" = true)(k5:PySem.W.keepIn K (.ref f5)=true)(a6:PySem.W.nsIn K mainGlobals "read_name" = some (some (.ref f6)))(l6:K.lookup f6=some ⟨oc6,od6,.func (PySem.W.fnOf "read_name" "read_name" (bh e7) (aU e7) (ak e7) .none kV6 dc6 pm6 an6 cd6 ct6),sl6⟩)(c6:PySem.W.codeIn K cd6 "read_name" = true)(k6:PySem.W.keepIn K (.ref f6)=true)(a7:PySem.W.nsIn K mainGlobals "_law_told" = some (some (.ref f7)))(l7:K.lookup f7=some ⟨oc7,od7,.func (PySem.W.fnOf "_law_told" "_law_told" (bh e8) (aU e8) (ak e8) .none kV7 dc7 pm7 an7 cd7 ct7),sl7⟩)(c7:PySem.W.codeIn K cd7 "_law_told" = true)(k7:PySem.W.keepIn K (.ref f7)=true)(a8:PySem.W.nsIn K mainGlobals "_law_name_right" = some (some (.ref f8)))(l8:K.lookup f8=some ⟨oc8,od8,.func (PySem.W.fnOf "_law_name_right" "_law_name_right" (bh dA) (aU dA) (ak dA) .none kV8 dc8 pm8 an8 cd8 ct8),sl8⟩)(c8:PySem.W.codeIn K cd8 "_law_name_right" = true)(k8:PySem.W.keepIn K (.ref f8)=true)(a9:PySem.W.nsIn K mainGlobals "_law_number_right" = some (some (.ref f9)))(l9:K.lookup f9=some ⟨oc9,od9,.func (PySem.W.fnOf "_law_number_right" "_law_number_right" (bh dC) (aU dC) (ak dC) .none kV9 dc9 pm9 an9 cd9 ct9),sl9⟩)(c9:PySem.W.codeIn K cd9 "_law_number_right" = true)(k9:PySem.W.keepIn K (.ref f9)=true)(a10:PySem.W.nsIn K mainGlobals "_law_pool" = some (some (.ref f10)))(l10:K.lookup f10=some ⟨oc10,od10,.func (PySem.W.fnOf "_law_pool" "_law_pool" (bh e9) (aU e9) (ak e9) .none kV10 dc10 pm10 an10 cd10 ct10),sl10⟩)(c10:PySem.W.codeIn K cd10 "_law_pool" = true)(k10:PySem.W.keepIn K (.ref f10)=true)(a11:PySem.W.nsIn K mainGlobals "_law_take" = some (some (.ref f11)))(l11:K.lookup f11=some ⟨oc11,od11,.func (PySem.W.fnOf "_law_take" "_law_take" (bh ef) (aU ef) (ak ef) .none kV11 dc11 pm11 an11 cd11 ct11),sl11⟩)(c11:PySem.W.codeIn K cd11 "_law_take" = true)(k11:PySem.W.keepIn K (.ref f11)=true)(a12:PySem.W.nsIn K mainGlobals "_law_spoilt" = some (some (.ref f12)))(l12:K.lookup f12=some ⟨oc12,od12,.func (PySem.W.fnOf "_law_spoilt" "_law_spoilt" (bh eg) (aU eg) (ak eg) .none kV12 dc12 pm12 an12 cd12 ct12),sl12⟩)(c12:PySem.W.codeIn K cd12 "_law_spoilt" = true)(k12:PySem.W.keepIn K (.ref f12)=true)(a13:PySem.W.nsIn K mainGlobals "_law_word" = some (some (.ref f13)))(l13:K.lookup f13=some ⟨oc13,od13,.func (PySem.W.fnOf "_law_word" "_law_word" (bh dD) (aU dD) (ak dD) .none kV13 dc13 pm13 an13 cd13 ct13),sl13⟩)(c13:PySem.W.codeIn K cd13 "_law_word" = true)(k13:PySem.W.keepIn K (.ref f13)=true)(a14:PySem.W.nsIn K mainGlobals "_law_words_right" = some (some (.ref f14)))(l14:K.lookup f14=some ⟨oc14,od14,.func (PySem.W.fnOf "_law_words_right" "_law_words_right" (bh eh) (aU eh) (ak eh) .none kV14 dc14 pm14 an14 cd14 ct14),sl14⟩)(c14:PySem.W.codeIn K cd14 "_law_words_right" = true)(k14:PySem.W.keepIn K (.ref f14)=true)(a15:PySem.W.nsIn K mainGlobals "law" = some (some (.ref f15)))(l15:K.lookup f15=some ⟨oc15,od15,.func (PySem.W.fnOf "law" "law" (bh cL) (aU cL) (ak cL) .none kV15 dc15 pm15 an15 cd15 ct15),sl15⟩)(c15:PySem.W.codeIn K cd15 "law" = true)(k15:PySem.W.keepIn K (.ref f15)=true)(xt:bp K=true)(z_ValueError:PySem.W.nsIn K mainGlobals "ValueError" = some none)(z_all:PySem.W.nsIn K mainGlobals "all" = some none)(z_bool:PySem.W.nsIn K mainGlobals "bool" = some none)(z_int:PySem.W.nsIn K mainGlobals "int" = some none)(z_isinstance:PySem.W.nsIn K mainGlobals "isinstance" = some none)(z_len:PySem.W.nsIn K mainGlobals "len" = some none)(z_list:PySem.W.nsIn K mainGlobals "list" = some none)(z_min:PySem.W.nsIn K mainGlobals "min" = some none)(z_range:PySem.W.nsIn K mainGlobals "range" = some none)(z_str:PySem.W.nsIn K mainGlobals "str" = some none)(y_FIGURES:PySem.W.nsIn K mainGlobals "FIGURES" = some (some (.str "0123456789" t_FIGURES)))(y_LETTERS:PySem.W.nsIn K mainGlobals "LETTERS" = some (some (.str "abcdefghijklmnopqrstuvwxyz" t_LETTERS)))(y_MOST_FIGURES:PySem.W.nsIn K mainGlobals "MOST_FIGURES" = some (some (.int 7 t_MOST_FIGURES)))(y_MOST_LETTERS:PySem.W.nsIn K mainGlobals "MOST_LETTERS" = some (some (.int 8 t_MOST_LETTERS))):
    ∃ fd:FuncData,(∀ (s:Shared) (v:Value),BindsTo s fd ⟨[v],[]⟩ [("script",v)])/\∀ base:Heap,K.In base->base.Ns mainGlobals mg->FnOk l.prog w K mg base CX0 5 fa fd ["script"] (lf K):=by
  have e:=hfa.symm.trans (PySem.W.mg_of X G a15)
  cases e
  have b_ValueError:=PySem.W.mg_none_of X G z_ValueError
  have b_all:=PySem.W.mg_none_of X G z_all
  have b_bool:=PySem.W.mg_none_of X G z_bool
  have b_int:=PySem.W.mg_none_of X G z_int
  have b_isinstance:=PySem.W.mg_none_of X G z_isinstance
  have b_len:=PySem.W.mg_none_of X G z_len
  have b_list:=PySem.W.mg_none_of X G z_list
  have b_min:=PySem.W.mg_none_of X G z_min
  have b_range:=PySem.W.mg_none_of X G z_range
  have b_str:=PySem.W.mg_none_of X G z_str
  have c_FIGURES:=PySem.W.mg_of X G y_FIGURES
  have c_LETTERS:=PySem.W.mg_of X G y_LETTERS
  have c_MOST_FIGURES:=PySem.W.mg_of X G y_MOST_FIGURES
  have c_MOST_LETTERS:=PySem.W.mg_of X G y_MOST_LETTERS
  refine⟨PySem.W.fnOf "law" "law" (bh cL) (aU cL) (ak cL) .none kV15 dc15 pm15 an15 cd15 ct15,fun s v=>.of_eq rfl,fun base _ _=>?_⟩
  have d_is_made_of:=At (P:=l.prog) (w:=w) (base:=base) (aW (st:=du) l1 c1 k1) (PySem.W.mg_of X G a1) b_all b_len
  have d_law_nth:=Aw (P:=l.prog) (w:=w) (base:=base) (aW (st:=dW) l2 c2 k2) (PySem.W.mg_of X G a2)
  have d_law_refused:DefN l.prog w K mg base "_law_refused" 1 ["caught"] (gu):=⟨_,_,Ax (P:=l.prog) (w:=w) (base:=base) (aW (st:=dX) l3 c3 k3) b_ValueError b_isinstance xt,PySem.W.mg_of X G a3,k3,(aW (st:=dX) l3 c3 k3).binds (ps:=["caught"]) fun _ _ _ _ _ _ us hl=>match us,hl with | [_],_=>rfl⟩
  have x_read_words:DefE l.prog w K mg base "read_words" 1 ["row"] (gv):=⟨_,_,Ay (P:=l.prog) (w:=w) (base:=base) (aW (st:=dY) l4 c4 k4) xt,PySem.W.mg_of X G a4,k4,(aW (st:=dY) l4 c4 k4).binds (ps:=["row"]) fun _ _ _ _ _ _ us hl=>match us,hl with | [_],_=>rfl⟩
  have d_read_words:=x_read_words.quiet
  have x_read_number:DefE l.prog w K mg base "read_number" 2 ["word"] (gw):=⟨_,_,Az (P:=l.prog) (w:=w) (base:=base) (aW (st:=dZ) l5 c5 k5) b_int c_FIGURES c_MOST_FIGURES xt (d_is_made_of.mono (k:=1)),PySem.W.mg_of X G a5,k5,(aW (st:=dZ) l5 c5 k5).binds (ps:=["word"]) fun _ _ _ _ _ _ us hl=>match us,hl with | [_],_=>rfl⟩
  have d_read_number:=x_read_number.quiet
  have x_read_name:DefE l.prog w K mg base "read_name" 2 ["word"] (gx):=⟨_,_,AB (P:=l.prog) (w:=w) (base:=base) (aW (st:=e7) l6 c6 k6) c_LETTERS c_MOST_LETTERS xt (d_is_made_of.mono (k:=1)),PySem.W.mg_of X G a6,k6,(aW (st:=e7) l6 c6 k6).binds (ps:=["word"]) fun _ _ _ _ _ _ us hl=>match us,hl with | [_],_=>rfl⟩
  have d_read_name:=x_read_name.quiet
  have d_law_told:DefN l.prog w K mg base "_law_told" 3 ["way","text"] (bS):=⟨_,_,AC (P:=l.prog) (w:=w) (base:=base) (aW (st:=e8) l7 c7 k7) xt (d_law_refused.mono (k:=2)) (x_read_words.mono (k:=2)) (x_read_number.mono (k:=2)) (x_read_name.mono (k:=2)),PySem.W.mg_of X G a7,k7,(aW (st:=e8) l7 c7 k7).binds (ps:=["way","text"]) fun _ _ _ _ _ _ us hl=>match us,hl with | [_,_],_=>rfl⟩
  have d_law_name_right:DefN l.prog w K mg base "_law_name_right" 4 ["word"] (gz):=⟨_,_,AD (P:=l.prog) (w:=w) (base:=base) (aW (st:=dA) l8 c8 k8) b_len (d_law_told.mono (k:=3)),PySem.W.mg_of X G a8,k8,(aW (st:=dA) l8 c8 k8).binds (ps:=["word"]) fun _ _ _ _ _ _ us hl=>match us,hl with | [_],_=>rfl⟩
  have d_law_number_right:DefN l.prog w K mg base "_law_number_right" 4 ["word"] (gA):=⟨_,_,AE (P:=l.prog) (w:=w) (base:=base) (aW (st:=dC) l9 c9 k9) b_bool b_int b_isinstance b_len b_str (d_law_told.mono (k:=3)),PySem.W.mg_of X G a9,k9,(aW (st:=dC) l9 c9 k9).binds (ps:=["word"]) fun _ _ _ _ _ _ us hl=>match us,hl with | [_],_=>rfl⟩
  have d_law_pool:DefN l.prog w K mg base "_law_pool" 2 ["script","k"] (gB):=⟨_,_,AF (P:=l.prog) (w:=w) (base:=base) (aW (st:=e9) l10 c10 k10) (d_law_nth.mono (k:=1)),PySem.W.mg_of X G a10,k10,(aW (st:=e9) l10 c10 k10).binds (ps:=["script","k"]) fun _ _ _ _ _ _ us hl=>match us,hl with | [_,_],_=>rfl⟩
  have d_law_take:DefN l.prog w K mg base "_law_take" 1 ["pool","many"] (bM):=⟨_,_,AG (P:=l.prog) (w:=w) (base:=base) (aW (st:=ef) l11 c11 k11) , PySem.W.mg_of X G a11,k11,(aW (st:=ef) l11 c11 k11).binds (ps:=["pool","many"]) fun _ _ _ _ _ _ us hl=>match us,hl with | [_,_],_=>rfl⟩
  have d_law_spoilt:DefN l.prog w K mg base "_law_spoilt" 2 ["row","pool"] (gC):=⟨_,_,AH (P:=l.prog) (w:=w) (base:=base) (aW (st:=eg) l12 c12 k12) b_len (d_law_take.mono (k:=1)),PySem.W.mg_of X G a12,k12,(aW (st:=eg) l12 c12 k12).binds (ps:=["row","pool"]) fun _ _ _ _ _ _ us hl=>match us,hl with | [_,_],_=>rfl⟩
  have d_law_word:DefN l.prog w K mg base "_law_word" 2 ["pool"] (gD):=⟨_,_,AI (P:=l.prog) (w:=w) (base:=base) (aW (st:=dD) l13 c13 k13) b_int b_len b_range (d_law_take.mono (k:=1)),PySem.W.mg_of X G a13,k13,(aW (st:=dD) l13 c13 k13).binds (ps:=["pool"]) fun _ _ _ _ _ _ us hl=>match us,hl with | [_],_=>rfl⟩
  have d_law_words_right:DefN l.prog w K mg base "_law_words_right" 4 ["row"] (gE):=⟨_,_,AJ (P:=l.prog) (w:=w) (base:=base) (aW (st:=eh) l14 c14 k14) b_isinstance b_len b_list b_str (d_law_told.mono (k:=3)),PySem.W.mg_of X G a14,k14,(aW (st:=eh) l14 c14 k14).binds (ps:=["row"]) fun _ _ _ _ _ _ us hl=>match us,hl with | [_],_=>rfl⟩
  have T:=AK (P:=l.prog) (w:=w) (base:=base) (aW (st:=cL) l15 c15 k15) b_len b_min b_range (d_law_nth.mono (k:=4)) (d_law_spoilt.mono (k:=4)) (d_law_word.mono (k:=4)) (d_law_words_right.mono (k:=4)) (d_law_pool.mono (k:=4)) (d_law_number_right.mono (k:=4)) (d_law_name_right.mono (k:=4))
  exact T.imp fun vs H Q E h=>h
theorem walk{l:PySem.W.OpenLaw}{q:Program}{loose:List Str}{XP:(Str->Option Value)->Heap->Prop}{YP:World->Heap->Prop}{d:DefRec}{K:Params->PySem.W.Frag}(hn:l.most=some 63)(hdf:d.params.defaults=[])(hY:∀ (w:World) (h:Heap),YP w h->(K w.params).In h)(Fm:∀ (w:World) (mg:Str->Option Value) (fa:Addr) (h:Heap),(K w.params).In h->h.Ns mainGlobals mg->mg d.name=some (.ref fa) ->
      ∃ fd:FuncData,(∀ (s:Shared) (u:Value),BindsTo s fd ⟨[u],[]⟩ [("script",u)])/\∀ base:Heap,(K w.params).In base->base.Ns mainGlobals mg->FnOk l.prog w (K w.params) mg base CX0 5 fa fd ["script"] (lf (K w.params))):
    PySem.W.WalkO q loose XP YP l.row.toRowW d [] (fun f vs=>PySem.call f vs) :=
  L2.walk_of (n:=63) (k:=5) (x:="script") (CX:=fun _=>CX0) (sp:=fun w=>lf (K w.params)) hn (by decide) hdf ⟨rfl,by decide,by decide⟩ hY Fm (fun _ _ a ns hl _ hS  => wS hS (Ar ns hl )) fun _ _ _ _ _ z=>z
end My
end VL
namespace PySem.W.Fast
def tw11168716257912552094:=0
def tw14897411845439636039:=0
def tw10877586665829697971:=0
def tw15173492044641673314:=0
def tw11650815604822554961:=0
def tw4228865147386262116:=0
def tw5449392256532841798:=0
def tw5243801381639391597:=0
def tw4821861607062778388:=0
def tw18333187244718954141:=0
def tw10991865511196052369:=0
def tw6125099345654437857:=0
def tw10978854134062578725:=0
def tw15613544338418544960:=0
def tw5489899477496220195:=0
def tw17647363241910740658:=0
def tw12512991765854788176:=0
def tw14554923704985160498:=0
def tw15468386925236560842:=0
def tw15956700637524317887:=0
def tw5250083863144145672:=0
def tw15705358248894133103:=0
def tw1220593087183055347:=0
def tw2631626821500490253:=0
def tw18185291604488385047:=0
def tw1371776207323252701:=0
def tw12681984550365546060:=0
def tw9687645672637203611:=0
def tw14206228850775916812:=0
def tw16713789223940913120:=0
def tw6454304154940806913:=0
def tw3958465299072564102:=0
def tw2170577181977862256:=0
def tw9355138132489360048:=0
def tw93773063644920262:=0
def tw16455818658856537653:=0
def tw17001588691865771229:=0
def tw13229805146490505877:=0
def tw4283648768569561913:=0
def tw13358054562830806618:=0
def tw13055647210314662168:=0
end PySem.W.Fast
open PySem PySem.W PyProof.Rows
theorem PySem.Challenge.cw_latefare_k47_words_numbers_names_holds : PySem.Challenge.rw_latefare_k47_words_numbers_names.Holds := by
  w_on;o_law;k_head;(case hw=>w_witness2)
  k_fill
  refine VL.My.walk (l:=PySem.Challenge.rw_latefare_k47_words_numbers_names) rfl rfl (fun w h Y=>PySem.W.kIn_of Y) ?F
  case F =>
    intro w mg fa h KX G hmg
    refine' VL.My.all_mk KX G hmg ?a1 ?l1 ?c1 ?k1 ?a2 ?l2 ?c2 ?k2 ?a3 ?l3 ?c3 ?k3 ?a4 ?l4 ?c4 ?k4 ?a5 ?l5 ?c5 ?k5 ?a6 ?l6 ?c6 ?k6 ?a7 ?l7 ?c7 ?k7 ?a8 ?l8 ?c8 ?k8 ?a9 ?l9 ?c9 ?k9 ?a10 ?l10 ?c10 ?k10 ?a11 ?l11 ?c11 ?k11 ?a12 ?l12 ?c12 ?k12 ?a13 ?l13 ?c13 ?k13 ?a14 ?l14 ?c14 ?k14 ?a15 ?l15 ?c15 ?k15 ?xt ?z_ValueError ?z_all ?z_bool ?z_int ?z_isinstance ?z_len ?z_list ?z_min ?z_range ?z_str ?y_FIGURES ?y_LETTERS ?y_MOST_FIGURES ?y_MOST_LETTERS
    (case a1=>k_is);(case l1=>k_is);(case c1=>k_is);(case k1=>k_is);(case a2=>k_is);(case l2=>k_is)
    (case c2=>k_is);(case k2=>k_is);(case a3=>k_is);(case l3=>k_is);(case c3=>k_is);(case k3=>k_is)
    (case a4=>k_is);(case l4=>k_is);(case c4=>k_is);(case k4=>k_is);(case a5=>k_is);(case l5=>k_is)
    (case c5=>k_is);(case k5=>k_is);(case a6=>k_is);(case l6=>k_is);(case c6=>k_is);(case k6=>k_is)
    (case a7=>k_is);(case l7=>k_is);(case c7=>k_is);(case k7=>k_is);(case a8=>k_is);(case l8=>k_is)
    (case c8=>k_is);(case k8=>k_is);(case a9=>k_is);(case l9=>k_is);(case c9=>k_is);(case k9=>k_is)
    (case a10=>k_is);(case l10=>k_is);(case c10=>k_is);(case k10=>k_is);(case a11=>k_is);(case l11=>k_is)
    (case c11=>k_is);(case k11=>k_is);(case a12=>k_is);(case l12=>k_is);(case c12=>k_is);(case k12=>k_is)
    (case a13=>k_is);(case l13=>k_is);(case c13=>k_is);(case k13=>k_is);(case a14=>k_is);(case l14=>k_is)
    (case c14=>k_is);(case k14=>k_is);(case a15=>k_is);(case l15=>k_is);(case c15=>k_is);(case k15=>k_is)
    (case xt=>kernel_rfl);(case z_ValueError=>k_is);(case z_all=>k_is);(case z_bool=>k_is);(case z_int=>k_is);(case z_isinstance=>k_is)
    (case z_len=>k_is);(case z_list=>k_is);(case z_min=>k_is);(case z_range=>k_is);(case z_str=>k_is);(case y_FIGURES=>k_is)
    (case y_LETTERS=>k_is);(case y_MOST_FIGURES=>k_is);(case y_MOST_LETTERS=>k_is)
