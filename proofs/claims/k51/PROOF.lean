import PyProof.Rows.All
import Wide.All
import KE.KDictOf
import KE.KIntText
import KE.KFromBytes
import KE.KIsAll
import KE.RegMulBits
import KE.KItem
import KE.KRevIter
import Wide.FinOn
import Lean
import PyProof.EqAt
import PyProof.EqKinds
import PyProof.TupleCall
import PySem.Challenge.RW_latefare_k51_whole_text_sale
set_option Elab.async false
set_option linter.all false
set_option compiler.extract_closed false
set_option tactic.hygienic false
set_option maxRecDepth 100000
set_option maxHeartbeats 8000000
noncomputable section
local macro_rules|`($x<|>$y)=>`(autoParam $x $y)
def J7z(a:True:=by rfl):True:=a
def J7:=J7z._auto_1
def J8z(a:True:=by decide):True:=a
def J8:=J8z._auto_1
def J9z(a:True:=by walk_at"o"):True:=a
def J9:=J9z._auto_1
def Q0z(a:True:=by intro _;rfl):True:=a
def Q0:=Q0z._auto_1
def Q1z(a:True:=by decide +kernel):True:=a
def Q1:=Q1z._auto_1
def Q2z(a:True:=by exact z6a):True:=a
def Q2:=Q2z._auto_1
def Q3z(a:True:=by with_unfolding_all rfl):True:=a
def Q3:=Q3z._auto_1
def Q4z(a:True:=by first|exact .inl rfl|exact .inr rfl|assumption):True:=a
def Q4:=Q4z._auto_1
abbrev K0:=PySem.W.Frag
local macro_rules|`(tactic| walk_at"o")=>`(tactic| first|exact .inl rfl|exact .inr rfl|exact .inr (.inl rfl)|exact .inr (.inr rfl))
def z9a:=@List.mem_cons_self
def z9b:=@List.length_map
def z9c:=@List.getElem?_eq_some_iff
def z9d:=@List.mem_cons_of_mem
def z9e:=@List.length_cons
def z9f:=@List.getElem?_set_ne
def z9g:=@Option.bind_some
def z9h:=@List.length_append
def z9i:=@Nat.le_refl
def z9j:=@List.mem_cons
def z9k:=@List.getElem?_eq_getElem
def z9l:=@PySem.Heap.get?_push_of_some
def z9m:=@PySem.Heap.lt_size
def z9n:=@List.map_cons
def z9o:=@PySem.wpAny_bind
def z9p:=@List.length_nil
def z9q:=@List.size_toArray
def z9r:=@List.getElem?_set_self
def z9s:=@List.getElem_mem
def z9t:=@List.mem_append_right
def z9u:=@Nat.lt_of_lt_of_le
def z9v:=@List.drop_eq_getElem_cons
def z9w:=@decide_eq_true
def z9x:=@List.getElem?_append_right
def z9y:=@List.all_eq_true
def z9z:=@List.getElem?_map
def z8a:=@List.mem_of_getElem?
def z8b:=@List.mem_singleton
def z8c:=@List.getD_eq_getElem?_getD
def z8d:=@List.getElem?_append_left
def z8e:=@List.length_set
def z8f:=@Int.toNat_natCast
def z8g:=@List.map_append
def z8h:=@List.length_range
def z8i:=@List.mem_append_left
def z8j:=@List.length_take
def z8k:=@List.take_succ_eq_append_getElem
def z8l:=@PySem.Heap.get?_push_size
def z8m:=@Bool.and_eq_true
def z8n:=@PySem.wpAny_pure
def z8o:=@List.nodup_cons
def z8p:=@PySem.wpAny_mono
def z8q:=@Nat.ne_of_lt
def z8r:=@Bool.false_ne_true
def z8s:=@List.length_replicate
def z8t:=@List.sum_cons
def z8u:=@List.lookup_cons
def z8v:=@List.append_nil
def z8w:=@congrArg
def z8x:=@PyProof.Rows.callWith_type1
def z8y:=@decide_eq_false
def z8z:=@Option.map_some
def z7a:=@Nat.zero_le
def z7b:=@Option.getD_some
def z7c:=@List.mem_map
def z7d:=@List.drop_eq_nil_of_le
def z7e:=@List.mem_range
def z7f:=@Option.some.inj
def z7g:=@List.mem_append
def z7h:=@List.map_map
def z7i:=@beq_eq_false_iff_ne
def z7j:=@List.length_reverse
def z7k:=@List.getElem?_replicate
def z7l:=@List.take_of_length_le
def z7m:=@Int.mul_le_mul_of_nonneg_left
def z7n:=@beq_iff_eq
def z7o:=@List.zip_cons_cons
def z7p:=@List.length_drop
def z7q:=@List.drop_length
def z7r:=@List.not_mem_nil
def z7s:=@Int.pow_succ
def z7t:=@Int.mul_le_mul
def z7u:=@Nat.le_trans
def z7v:=@List.map_nil
def z7w:=@List.getElem_range
def z7x:=@Nat.lt_irrefl
def z7y:=@PySem.sizeLine_eq
def z7z:=@Int.mul_nonneg
def z6a:=@PySem.PassesOwn.never
def z6b:=@PySem.mem_of_lookup
def z6c:=@List.map_congr_left
def z6d:=@List.all_cons
def z6e:=@List.cons_append
def z6f:=@PySem.W.kia_one
def z6g:=@PySem.wpAny_truthy_bool
def z6h:=@List.reverse_cons
def z6i:=@List.append_assoc
def z6j:=@List.any_cons
def z6k:=@PySem.Heap.get?_update_other
def z6l:=@PySem.wpAny_Call_Name_kw
def z6m:=@PySem.W.callWith_K
def z6n:=@PySem.W.methodCall_KW
def z6o:=@of_decide_eq_true
def z6p:=@Option.some.injEq
def z6q:=@List.getElem?_zip_eq_some
def z6r:=@List.reverse_reverse
def z6s:=@List.drop_zero
def z6t:=@List.map_reverse
def z6u:=@decide_eq_decide
def z6v:=@List.take_length
def z6w:=@List.getElem_of_mem
def z6x:=@List.drop_succ_cons
def z6y:=@PySem.F.plainAttrs_list
def z6z:=@PySem.W.mg_of
def z5a:=@List.mem_filter
def z5b:=@List.find?_cons
def z5c:=@PySem.codeAny_mono
def z5d:=@Int.pow_zero
def z5e:=@Option.getD_none
def z5f:=@beq_self_eq_true
def z5g:=@List.ext_getElem
def z5h:=@List.mem_reverse
def z5i:=@Sum.inr.inj
def z5j:=@Int.neg_mul
def z5k:=@List.filterMap_cons
def z5l:=@List.getD_cons_succ
def z5m:=@PySem.wpAny_execs_nil
def z5n:=@PySem.wpAny_passesOwn
def z5o:=@Nat.min_eq_left
def z5p:=@List.mem_or_eq_of_mem_set
def z5q:=@List.range_succ
def z5r:=@PySem.tupleKind_room_in1
def z5s:=@PySem.F.slot_list_append
def z5t:=@PySem.F.type_list_append
def z5u:=@PySem.wpAny_comprehension_free
def z5v:=@Nat.succ.inj
def z5w:=@or_false
def z5x:=@Bool.not_eq_true'
def z5y:=@Array.getElem?_eq_none
def z5z:=@List.zipWith_cons_cons
def z4a:=@Nat.min_le_right
def z4b:=@PySem.F.slot_str_split
def z4c:=@List.getElem_map
def z4d:=@List.length_singleton
def z4e:=@List.getElem?_reverse
def z4f:=@List.getElem?_eq_none
def z4g:=@List.map_uncurry_zip_eq_zipWith
def z4h:=@Nat.le_of_lt
def z4i:=@Nat.ne_of_gt
def z4j:=@List.of_mem_zip
def z4k:=@PySem.typeIs_str
def z4l:=@PySem.Calls.evalArgs_plain
def z4m:=@PySem.call_meets
def z4n:=@Bool.eq_iff_iff
def z4o:=@List.headD_cons
def z4p:=@List.cons.injEq
def z4q:=@List.sum_nil
def z4r:=@PySem.W.plainGet_of
def z4s:=@PySem.W.callWith_K0
def z4t:=@if_false
def z4u:=@PySem.W.of_hideAll
def z4v:=@List.mem_filterMap
def z4w:=@Bool.false_eq_true
def z4x:=@Nat.add_sub_cancel
def z4y:=@PySem.F.args_str_split_2
def z4z:=@decide_eq_true_iff
def z3a:=@PySem.Paired.length
def z3b:=@PySem.wpAny_holding
def z3c:=@List.take_sublist
def z3d:=@Option.isSome_map
def z3e:=@Function.comp_def
def z3f:=@PySem.F.entry_str_split
local macro_rules|`(tactic| ext)=>`(tactic| first|decide|(with_reducible assumption)|(with_reducible exact Int.natCast_nonneg _)|(with_reducible exact z7u (by with_reducible assumption) (by decide))|(with_reducible exact Nat.lt_of_le_of_lt (by with_reducible assumption) (by decide))|(with_reducible exact z9u (by with_reducible assumption) (by decide))|(with_reducible exact Int.le_trans (by with_reducible assumption) (by decide))|(with_reducible exact Int.lt_of_le_of_lt (by with_reducible assumption) (by decide))|(with_reducible exact Int.lt_of_lt_of_le (by decide) (by with_reducible assumption))|lia (config:={})|omega)
local macro_rules|`(∅)=>`(by ext)
section
open PySem PySem.Spec
abbrev y9:=List Nat
abbrev z_:=List Int
abbrev z0:=List Str
abbrev z5:=List Value
abbrev z6:=List Expr
abbrev z7:=List Addr
abbrev z8:=List Keyword
abbrev z9:=List Stmt
abbrev g_:=List Bool
abbrev h_:=List (Addr×Obj)
abbrev i_:=Option Value
abbrev j_:=Option Int
abbrev k_:=Option Bool
end
namespace L2
open PySem PySem.Spec PyProof.Rows
abbrev Key:=Sum Int Str
noncomputable def iZ:Key->Value->Bool
 |.inl k,v=>Value.isInt k v
 |.inr x,v=>Value.isStrOf x v
noncomputable def Bl(w:World):Key->Int
 |.inl k=>hashInt k
 |.inr x=>hashStr w x
theorem fW:∀{k:Key} {v:Value},iZ k v=true->(∃i t,k=Sum.inl i/\v=Value.int i t)\/(∃x t,k=Sum.inr x/\v=Value.str x t)
 |.inl i,v,h=>by obtain⟨t,e⟩:=Value.isInt_shape (k:=i) (v:=v) h;exact .inl ⟨i,t,rfl,e⟩
 |.inr x,v,h=>by obtain⟨t,e⟩:=Value.isStrOf_shape (x:=x) (v:=v) h;exact .inr ⟨x,t,rfl,e⟩
def Bm(i:Int)(t:Tok):iZ (.inl i) (.int i t)=true:=by simp[iZ,Value.isInt]
def Bn(x:Str)(t:Tok):iZ (.inr x) (.str x t)=true:=by simp[iZ,Value.isStrOf]
def Bo(a b:Int):decide ((Sum.inl a:Key)=Sum.inl b)=(a==b):=by
 by_cases e:a=b
 ·subst e;simp
 ·have h:¬(Sum.inl a:Key)=Sum.inl b:=λq=>e (Sum.inl.inj q)
  rw[z8y h];exact(z7i.mpr e).symm
def Bp(a b:Str):decide ((Sum.inr a:Key)=Sum.inr b)=decide (a=b):=by
 by_cases e:a=b
 ·subst e;simp
 ·have h:¬(Sum.inr a:Key)=Sum.inr b:=λq=>e (z5i q)
  rw[z8y h,z8y e]
def Bq(a:Int)(b:Str):decide ((Sum.inl a:Key)=Sum.inr b)=false:=z8y (λq=>nomatch q)
def Br(a:Str)(b:Int):decide ((Sum.inr a:Key)=Sum.inl b)=false:=z8y (λq=>nomatch q)
def dh(prog:Program)(w:World):PySem.KeyKind prog w Key where
 is:=iZ
 hash:=Bl w
 inj:= λv a b ha hb=>by
  rcases fW ha with⟨i,t,rfl,rfl⟩|⟨x,t,rfl,rfl⟩
  ·rcases fW hb with⟨j,u,rfl,e⟩|⟨y,u,rfl,e⟩
   ·injection e with e1 _;rw[e1]
   ·exact nomatch e
  ·rcases fW hb with⟨j,u,rfl,e⟩|⟨y,u,rfl,e⟩
   ·exact nomatch e
   ·injection e with e1 _;rw[e1]
 byValue:=λk v h=>by rcases fW h with⟨i,t,rfl,rfl⟩|⟨x,t,rfl,rfl⟩<;>rfl
 pyHash:=λhv h=>by
  rcases fW hv with⟨i,t,rfl,rfl⟩|⟨x,t,rfl,rfl⟩
  ·exact wpAny_pyHash_int h
  ·exact wpAny_pyHash_str h
 eqBool:=λhu hv h=>by
  rcases fW hu with⟨i,t,rfl,rfl⟩|⟨x,t,rfl,rfl⟩
  ·rcases fW hv with⟨j,u,rfl,rfl⟩|⟨y,u,rfl,rfl⟩
   ·rw[Bo]at h;exact wpAny_eqBool_int h
   ·rw[Bq]at h;exact SeqAt.EqAt.int_str i t y u _ _ _ _ h
  ·rcases fW hv with⟨j,u,rfl,rfl⟩|⟨y,u,rfl,rfl⟩
   ·rw[Br]at h;exact SeqAt.EqAt.str_int x t j u _ _ _ _ h
   ·rw[Bp]at h;exact wpAny_eqBool_str h
 «strs»:= λk x t v h=>by
  rcases fW h with⟨i,u,rfl,e⟩|⟨y,u,rfl,e⟩
  ·exact nomatch e
  ·injection e with e1 _
   subst e1;cases v<;>rfl
def Bs(prog:Program)(w:World)(i:Int)(t:Tok):(dh prog w).is (.inl i) (.int i t)=true:=Bm i t
def Bt(prog:Program)(w:World)(x:Str)(t:Tok):(dh prog w).is (.inr x) (.str x t)=true:=Bn x t
inductive V where
 |non|bl (b:Bool)|int (i:Int)|str (x:Str)|byt (b:Array UInt8)|flt (b:UInt64)|ref (a:Addr)|ty (n:String)
 deriving DecidableEq
abbrev _root_.l_:=List V
abbrev _root_.m_:=Option V
def RelV:V->Value->Prop
 |.non,u=>u=Value.none
 |.bl b,u=>u=Value.bool b
 |.int i,u=>∃t,u=Value.int i t
 |.str x,u=>∃t,u=Value.str x t
 |.byt b,u=>∃t,u=Value.bytes b t
 |.flt b,u=>∃t,u=Value.float b t
 |.ref a,u=>u=Value.ref a
 |.ty n,u=>u=Value.type n
abbrev Vals:l_->z5->Prop:=Paired RelV
def Vals.length{xs:l_}{us:z5}(r:Vals xs us):xs.length=us.length:=z3a r
theorem Vals.get:∀{xs:l_} {us:z5} {i:Nat} {x:V},Vals xs us->xs[i]?=some x->∃u,us[i]?=some u/\RelV x u
 |_,_,_,_,.nil,e=>by simp at e
 |_,_,0,_,.cons r _,e=>by simp at e;subst e;exact⟨_,rfl,r⟩
 |_,_,i+1,x,.cons _ t,e=>by obtain⟨u,h1,h2⟩:=Vals.get (i:=i) (x:=x) t (by simpa using e);exact⟨u,by simpa using h1,h2⟩
theorem Vals.set{x:V}{u:Value}(r:RelV x u):∀{xs:l_} {us:z5} (i:Nat),Vals xs us->Vals (xs.set i x) (us.set i u)
 |_,_,_,.nil=>.nil
 |_,_,0,.cons _ t=>.cons r t
 |_,_,i+1,.cons q t=>.cons q (Vals.set r i t)
theorem Vals.append:∀{xs ys:l_} {us ws:z5},Vals xs us->Vals ys ws->Vals (xs++ys) (us++ws)
 |_,_,_,_,.nil,s=>s
 |_,_,_,_,.cons r t,s=>.cons r (Vals.append t s)
theorem Vals.take:∀{xs:l_} {us:z5} (n:Nat),Vals xs us->Vals (xs.take n) (us.take n)
 |_,_,0,_=>.nil
 |_,_,_+1,.nil=>.nil
 |_,_,n+1,.cons r t=>.cons r (Vals.take n t)
theorem Vals.drop:∀{xs:l_} {us:z5} (n:Nat),Vals xs us->Vals (xs.drop n) (us.drop n)
 |_,_,0,r=>r
 |_,_,_+1,.nil=>.nil
 |_,_,n+1,.cons _ t=>Vals.drop n t
def RelO:m_->i_->Prop
 |some v,some u=>RelV v u
 |none,none=>True
 |_,_=>False
def KV{κ:Type}:List (κ×V)->List (κ×Value)->Prop:=Paired λ(p:κ×V) (q:κ×Value)=>p.1=q.1/\RelV p.2 q.2
noncomputable def kV:Key->V
 |.inl i=>.int i
 |.inr x=>.str x
inductive HO where
 |lst (xs:l_)
 |tup (xs:l_)
 |dK (kvs:List (Key×V))|dT (kvs:List (List Key×V))
 |set (S:Int->Bool) (n:Nat)
 |ins (C dx:Addr) (fs:List (Str×V))
 |own (x:Addr)
 |xd (fs:List (Str×V))
 |met (f x:Addr)
 |rng (lo hi:Int)
 |frz (o:Obj) (u:HO)
 |tbl (ps:Array Value)
 |ext (φ:Heap->Prop)
abbrev Hp:=Addr->Option HO
noncomputable def upd(H:Hp)(a:Addr)(o:HO):Hp:=λb=>if b=a then some o else H b
def bn{H:Hp}{a:Addr}{o:HO}:upd H a o a=some o:=by unfold upd;rw[if_pos rfl]
def aE{H:Hp}{a b:Addr}{o:HO}(h:b≠a):upd H a o b=H b:=by unfold upd;rw[if_neg h]
def Bu{H:Hp}{a b:Addr}{o u:HO}(h:H a=some o)(h':H b=some u)(d:o≠u):a≠b:=by intro e;subst e;rw[h]at h';exact d (z7f h')
def c6{H:Hp}{a b:Addr}{o:HO}(h:H a=some o)(h':H b=none):a≠b:=by intro e;subst e;rw[h]at h';cases h'
section
variable (P:Program)(w:World)
def ObjOk(H:Hp)(h:Heap)(a:Addr):HO->Prop
 |.lst xs=>xs.length<=sizeLine/\∃(its:z5) (n:Nat),Vals xs its/\h.get? a=some {cls:=.type "list",data:=.seq its.toArray n}
 |.tup xs=>xs.length<=sizeLine/\∃its:z5,Vals xs its/\IsTup h a its.toArray
 |.dK kvs=>kvs.length<=sizeLine/\(a==sysModules)=false/\∃vs,KV kvs vs/\h.DictOf (dh P w) a vs
 | .dT kvs=>kvs.length<=sizeLine/\(a==sysModules)=false/\∃xs:List (List Key×Addr×Value),
   Paired (λ(p:List Key×V) (q:List Key×Addr×Value)=>p.1=q.1/\H q.2.1=some (.tup (p.1.map kV))/\RelV p.2 q.2.2) kvs xs /\
   ∃o es ep,h.get? a=some o/\o.ExactDict/\o.data=.dict es ep/\es.toList=xs.map (entryOfKey (tupleKind (dh P w)))/\(xs.map (·.1)).Nodup
 |.set S n=>h.SetOf (intKind P w) a S n
 | .ins C dx fs=>H dx=some (.own a)/\fs.length<=1000/\dx≠a/\h.get? a=some (W.instObj C dx) /\
   ∃mA,h.Ns1 dx mA/\(∀f,RelO (fs.lookup f) (mA f))/\PySem.Within mA (fs.map (·.1))
 |.own _=>∃o,h.get? a=some o
 |.xd fs=>∃mA,h.Ns1 a mA/\∀f,RelO (fs.lookup f) (mA f)
 |.rng lo hi=>∃t u v,h.get? a=some {cls:=.type "range",data:=.fields #[.int lo t,.int hi u,.int 1 v]}
 |.frz o u=>h.get? a=some o/\ObjOk H h a u
 |.tbl ps=>h.get? a=some {cls:=.none,data:=.fields ps}
 |.met f x=>h.get? a=some (W.methodObj (.ref f) (.ref x))
 |.ext φ=>φ h/\(∃o,h.get? a=some o)/\∀h1 h2:Heap,φ h1->(∀o,h1.get? a=some o->h2.get? a=some o)->φ h2
def HOk(H:Hp)(h:Heap):Prop:=∀a o,H a=some o->ObjOk P w H h a o
end
section
variable {P:Program}{w:World}{H H':Hp}{h h':Heap}{a:Addr}{o:HO}
def ObjOk.lt(x:ObjOk P w H h a o):a<h.objs.size:=by
 cases o with
 |lst xs=>obtain⟨_,_,_,_,e⟩:=x;exact z9m e
 |tup xs=>obtain⟨_,_,_,p⟩:=x;exact p.lt
 |dK kvs=>obtain⟨_,_,_,_,o,_,_,e,_⟩:=x;exact z9m e
 |dT kvs=>obtain⟨_,_,_,_,o,_,_,e,_⟩:=x;exact z9m e
 |set S n=>obtain⟨o,_,_,_,e,_⟩:=x;exact z9m e
 |ins C dx fs=>obtain⟨_,_,_,e,_⟩:=x;exact z9m e
 |own y=>obtain⟨_,e⟩:=x;exact z9m e
 |xd fs=>obtain⟨_,⟨_,_,_,e,_⟩,_⟩:=x;exact z9m e
 |rng lo hi=>obtain⟨_,_,_,e⟩:=x;exact z9m e
 |frz ob u=>obtain⟨e,_⟩:=x;exact z9m e
 |tbl ps=>exact z9m (show h.get? a=some _ from x)
 |met f y=>exact z9m (show h.get? a=some _ from x)
 |ext φ=>obtain⟨_,⟨_,e⟩,_⟩:=x;exact z9m e
theorem Paired.mapP{α β:Type}{F G:α->β->Prop}:∀{x9:List α} {y_:List β},Paired F x9 y_->(∀a b,F a b->G a b)->Paired G x9 y_
 |_,_,.nil,_=>.nil
 |_,_,.cons r t,f=>.cons (f _ _ r) (Paired.mapP t f)
def ObjOk.stay(x:ObjOk P w H h a o)(k:∀b u,(b=a\/H b=some (.own a))->h.get? b=some u->h'.get? b=some u)(ho:∀b,H b=some (.own a)->H' b=some (.own a))(ht:∀b xs,H b=some (.tup xs)->H' b=some (.tup xs)):ObjOk P w H' h' a o:=by
 induction o with
 |lst xs=>obtain⟨z,its,n,r,e⟩:=x;exact⟨z,its,n,r,k _ _ (.inl rfl) e⟩
 |tup xs=>obtain⟨z,its,r,ob,e,c⟩:=x;exact⟨z,its,r,ob,k _ _ (.inl rfl) e,c⟩
 |dK kvs=>obtain⟨z,y,vs,r,ob,es,ep,e,c⟩:=x;exact⟨z,y,vs,r,ob,es,ep,k _ _ (.inl rfl) e,c⟩
 |dT kvs=>obtain⟨z,y,xs,r,ob,es,ep,e,c⟩:=x;exact⟨z,y,xs,Paired.mapP r λp q z=>⟨z.1,ht _ _ z.2.1,z.2.2⟩,ob,es,ep,k _ _ (.inl rfl) e,c⟩
 |set S n=>obtain⟨ob,es,ep,t,e,c⟩:=x;exact⟨ob,es,ep,t,k _ _ (.inl rfl) e,c⟩
 |ins C dx fs=>obtain⟨d,z,ne,e,mA,⟨od,es,ep,e2,c⟩,r⟩:=x;exact⟨ho _ d,z,ne,k _ _ (.inl rfl) e,mA,⟨od,es,ep,k _ _ (.inr d) e2,c⟩,r⟩
 |own y=>obtain⟨ob,e⟩:=x;exact⟨ob,k _ _ (.inl rfl) e⟩
 |xd fs=>obtain⟨mA,⟨od,es,ep,e,c⟩,r⟩:=x;exact⟨mA,⟨od,es,ep,k _ _ (.inl rfl) e,c⟩,r⟩
 |rng lo hi=>obtain⟨t,u,v,e⟩:=x;exact⟨t,u,v,k _ _ (.inl rfl) e⟩
 |frz ob u ih=>obtain⟨e,q⟩:=x;exact⟨k _ _ (.inl rfl) e,ih q⟩
 |tbl ps=>have e:h.get? a=some {cls:=.none,data:=.fields ps}:=x;show h'.get? a=some {cls:=.none,data:=.fields ps};exact k a _ (.inl rfl) e
 |met f y=>have e:h.get? a=some (W.methodObj (.ref f) (.ref y)):=x;show h'.get? a=some (W.methodObj (.ref f) (.ref y));exact k a _ (.inl rfl) e
 |ext φ=>obtain⟨p,⟨o,e⟩,st⟩:=x;exact⟨st _ _ p λo q=>k _ _ (.inl rfl) q,⟨o,k _ _ (.inl rfl) e⟩,st⟩
def HOk.lt(x:HOk P w H h)(e:H a=some o):a<h.objs.size:=(x a o e).lt
def HOk.fresh(x:HOk P w H h)(e:h.objs.size<=a):H a=none:=by
 cases q:H a with
 |none=>rfl
 |some u=>exact absurd (z9u (x.lt q) e) (z7x _)
def HOk.kept(x:HOk P w H h)(k:∀b u,h.get? b=some u->h'.get? b=some u):HOk P w H h':=λa o e=>(x a o e).stay (λb u _ q=>k b u q) (λ_ q=>q) λ_ _ q=>q
def HOk.laid(x:HOk P w H h)(k:∀b u,h.get? b=some u->h'.get? b=some u)(hp:h.objs.size<=a)(new:ObjOk P w (upd H a o) h' a o):HOk P w (upd H a o) h':=λb u e=>by
 have hn:=x.fresh hp;by_cases hb:b=a
 ·subst hb;rw[bn]at e;cases e;exact new
 ·rw[aE hb]at e
  exact(x b u e).stay (λc v _ q=>k c v q) (λc q=>by rw[aE (c6 q hn)];exact q) λc xs q=>by rw[aE (c6 q hn)];exact q
end
def Rd(H:Hp)(a:Addr)(u:HO):Prop:=H a=some u\/∃o,H a=some (.frz o u)
def Rd.ok{P:Program}{w:World}{H:Hp}{h:Heap}{a:Addr}{u:HO}(r:Rd H a u)(x:HOk P w H h):ObjOk P w H h a u:=by
 rcases r with r|⟨o,r⟩
 ·exact x a u r
 ·obtain⟨_,q⟩:=x a _ r
  exact q
def Mut:Option HO->Prop
 |some (.lst _)=>True
 |some (.dK _)=>True
 |some (.dT _)=>True
 |some (.set _ _)=>True
 |some (.ins _ _ _)=>True
 |some (.ext _)=>True
 |_=>False
section
variable {P:Program}{w:World}{H:Hp}{h h':Heap}{x e:Addr}{o':HO}
def HOk.write(ok:HOk P w H h)(mu:Mut (H x))(he:e=x\/H e=some (.own x))(k:∀b u,b≠e->h.get? b=some u->h'.get? b=some u)(heo:∃u,h'.get? e=some u)(new:ObjOk P w (upd H x o') h' x o'):HOk P w (upd H x o') h':=λb u q=>by
 have nown:∀c y,H c=some (.own y)->c≠x:=λc y r z=>by subst z;rw[r]at mu;exact mu
 have ntup:∀c xs,H c=some (.tup xs)->c≠x:=λc xs r z=>by subst z;rw[r]at mu;exact mu
 by_cases hb:b=x
 ·subst hb;rw[bn]at q;cases q;exact new
 ·rw[aE hb]at q
  by_cases hbe:b=e
  ·have q':H b=some (.own x):=by
    rcases he with z|z
    ·exact absurd (hbe.trans z) hb
    ·rw[hbe];exact z
   rw[q]at q';cases q';obtain⟨v,hv⟩:=heo;exact⟨v,by rw[hbe];exact hv⟩
  ·refine(ok b u q).stay (λc v hc r=>k c v ?_ r) (λc r=>by rw[aE (nown c b r)];exact r) λc xs r=>by rw[aE (ntup c xs r)];exact r
   rcases hc with rfl|hc
   ·exact hbe
   ·rintro rfl
    rcases he with z|z
    ·exact nown c b hc z
    ·rw[hc]at z;cases z;exact hb rfl
end
structure Un (fs ex:z7) (H H':Hp) (h h':Heap):Prop where
 keep:∀b o,h.get? b=some o->H b=none->b∉fs->b∉ex->h'.get? b=some o
 slot:∀b o,h.get? b=some o->H b=none->b∈fs->b∉ex->∃sl,h'.get? b=some {o with slots:=sl}
 free:∀b o,h.get? b=some o->H b=none->b∉ex->H' b=none
 there:∀b o,h.get? b=some o->b∉ex->∃o',h'.get? b=some o'
 tups:∀b xs,H b=some (.tup xs)->H' b=some (.tup xs)
 frzs:∀b o u,H b=some (.frz o u)->H' b=some (.frz o u)
 tbls:∀b ps,H b=some (.tbl ps)->∃more,H' b=some (.tbl (ps++more))
section
variable {fs ex:z7}{H H1:Hp}{h h1 h':Heap}{a x e:Addr}{o:HO}
def Un.any(u:Un fs ex H H1 h h1){b:Addr}{ob:Obj}(q:h.get? b=some ob)(n:H b=none)(hx:b∉ex):∃sl,h1.get? b=some {ob with slots:=sl}:=by
 by_cases hb:b∈fs
 ·exact u.slot b ob q n hb hx
 ·exact⟨ob.slots,u.keep b ob q n hb hx⟩
def Un.kept(k:∀b u,h.get? b=some u->h'.get? b=some u):Un fs ex H H h h':=
 ⟨λb ob q _ _ _=>k b ob q,λb ob q _ _ _=>⟨ob.slots,k b ob q⟩,λ_ _ _ n _=>n,λb ob q _=>⟨ob,k b ob q⟩,λ_ _ q=>q,λ_ _ _ q=>q,λ_ ps q=>⟨#[],by rw[q];simp⟩⟩
def Un.refl:Un fs ex H H h h:=Un.kept λ_ _ q=>q
def Un.laid(k:∀b u,h.get? b=some u->h'.get? b=some u)(hp:h.objs.size<=a)(hn:H a=none):Un fs ex H (upd H a o) h h' where
 keep:=λb u q _ _ _=>k b u q
 slot:=λb u q _ _ _=>⟨u.slots,k b u q⟩
 free:=λb u q n _=>by rw[aE (z8q (z9u (z9m q) hp))];exact n
 there:=λb u q _=>⟨u,k b u q⟩
 tups:=λb xs q=>by rw[aE (c6 q hn)];exact q
 frzs:=λb u xs q=>by rw[aE (c6 q hn)];exact q
 tbls:=λb ps q=>⟨#[],by rw[aE (c6 q hn),q];simp⟩
def Un.write(mu:Mut (H x))(he:e=x\/H e=some (.own x))(k:∀b u,b≠e->h.get? b=some u->h'.get? b=some u)(heo:∃u,h'.get? e=some u):Un fs ex H (upd H x o) h h':=by
 have hx:∀b,H b=none->b≠x:=λb n z=>by subst z;rw[n]at mu;exact mu
 have hb:∀b,H b=none->b≠e:=λb n z=>by
  subst z;rcases he with r|r
  ·exact hx b n r
  ·rw[n]at r;cases r
 have hm:∀b u,H b=some u->¬Mut (some u)->b≠x:=λb u q nm z=>by subst z;rw[q]at mu;exact nm mu
 refine⟨λb u q n _ _=>k b u (hb b n) q,λb u q n _ _=>⟨u.slots,k b u (hb b n) q⟩,λb u q n _=>by rw[aE (hx b n)];exact n,λb u q _=>?_,
  λb xs q=>by rw[aE (hm b _ q λz=>z)];exact q,λb u xs q=>by rw[aE (hm b _ q λz=>z)];exact q,λb ps q=>⟨#[],by rw[aE (hm b _ q λz=>z),q];simp⟩⟩
 by_cases hbe:b=e
 ·subst hbe;exact heo
 ·exact⟨u,k b u hbe q⟩
end
noncomputable def trk(h:Heap)(H:Hp):z7:=(List.range h.objs.size).filter λa=>(H a).isSome
def fX(h:Heap)(H:Hp):Heap:=W.hideAll h (trk h H)
def Bv(h:Heap)(H:Hp):(fX h H).objs.size=h.objs.size:=W.hideAll_size _ _
def Bw{h:Heap}{H:Hp}{b:Addr}{o:Obj}(e:h.get? b=some o)(n:H b=none):(fX h H).get? b=some o:=
 W.hideAll_get _ e λhm=>by have q:(H b).isSome=true:=(z5a.mp hm).2;rw[n]at q;simp at q
def Bx{h:Heap}{H:Hp}{b:Addr}{o:Obj}(e:(fX h H).get? b=some o):h.get? b=some o/\H b=none:=by
 have e':h.get? b=some o:=z4u (trk h H) e;refine⟨e',?_⟩;cases q:H b with
 |none=>rfl
 |some x=>have hm:b∈trk h H:=z5a.mpr ⟨z7e.mpr (z9m e'),by simp[q]⟩;have z:(fX h H).get? b=none:=W.hideAll_none (trk h H) hm;rw[z]at e;cases e
noncomputable def By(g h:Heap)(L:Addr):h_:=(List.range h.objs.size).filterMap λa=>if a=L\/(g.get? a).isSome=true then none else(h.get? a).map λo=>(a,o)
def rest(g h:Heap)(L d:Addr):h_:=(By g h L).filter λp=>decide (p.1≠d)
structure Mod (K:K0) (mg:Str->i_) (base:Heap):Prop where
 kin:K.In base
 glob:base.Ns mainGlobals mg
 blt:∃mb,base.Ns builtinsNs mb/\∀x:Str,x ≠ "__name__"->mb x=bootBuiltins x
 nolimit:base.NoLimit
structure Cx where
 prog:Program
 w:World
 K:K0
 mg:Str->i_
 base:Heap
 A:Around
 N:z0
 s₀:Shared
 H₀:Hp
 env:Env
 outer:List Env
 stack:List Env
 ex:z7
 fn:Str->Bool
 calm:Bool
 pn:h_
 xe:Value->Shared->Prop
abbrev SE(a:Expr)(l:z6)(X:Cx):Prop:=starEach (a::l) X.env=(false,eval a X.env)::starEach l X.env
abbrev BT(p:Pos)(l:z6)(X:Cx):Prop:=(backTo p (starEach l X.env)).any (·.1)=false
abbrev DB(x:Str):Prop:=(x==("__debug__" : Str))=false
noncomputable def frs(l:List Env):z7:=l.filterMap (·.frame)
abbrev Cx.fs(X:Cx):z7:=frs X.outer
def Vis(sc:Scope)(x:Str):Prop:=sc.names.lookup x=some .local\/sc.names.lookup x=some .cell\/sc.names.lookup x=some .free
def Loc(sc:Scope)(x:Str):Prop:=sc.names.lookup x=some .local\/sc.names.lookup x=some .cell
def Bz(env:Env)(h:Heap)(m:Str->i_)(x:Str)(u:Value):Prop:=
 (env.kindOf x=some .local/\m x=some u)\/((env.kindOf x=some .cell\/env.kindOf x=some .free)/\∃c,env.cells.lookup x=some c/\h.IsCell c (some u))
structure Cx.Ok (X:Cx):Prop where
 mod:Mod X.K X.mg X.base
 kind:X.env.scope.kind=.function
 glob:X.env.globals=mainGlobals
 blt:X.env.builtins=builtinsNs
 above:X.s₀.heap.objs.size<=X.env.locals
 inj:∀x y c,X.env.cells.lookup x=some c->X.env.cells.lookup y=some c->x=y
 has:∀x,(X.env.kindOf x=some .cell\/X.env.kindOf x=some .free)->∃c,X.env.cells.lookup x=some c
 cab:∀x c,X.fn x=true->X.env.cells.lookup x=some c->X.s₀.heap.objs.size<=c
 hd:X.calm=true->X.A.handled=none
 frames:X.A.frames=some X.stack
 stk:X.stack=X.outer\/(X.stack=X.env::X.outer/\X.env.frame=some X.env.locals)
 exf:∀b∈X.ex,b≠X.env.locals/\∀x c,X.env.cells.lookup x=some c->c≠b
 bs:∀b o,X.base.get? b=some o->X.s₀.heap.get? b=some o/\X.H₀ b=none
 bsz:X.base.objs.size<=X.s₀.heap.objs.size
 noex:∀b o,X.base.get? b=some o->b∉X.ex
 exfs:∀b∈X.ex,b∉X.fs
 funs:X.s₀.heap.FunFrames X.base X.outer
 frf:∀b∈X.fs,X.H₀ b=none
structure Inv (X:Cx) (G_:h_) (σ:List m_) (H:Hp) (s:Shared):Prop where
 ok:X.Ok
 os:s.os=X.s₀.os
 bare:AllBare s.gens
 base:Un X.fs X.ex X.H₀ H X.s₀.heap s.heap
 loc:∃m,s.heap.Ns X.env.locals m/\∀(i:Nat) (x:Str) (v:V),X.N[i]?=some x->σ[i]?=some (some v)->Vis X.env.scope x->∃u,RelV v u/\Bz X.env s.heap m x u
 cell:∀x c,X.env.cells.lookup x=some c->∃v,s.heap.IsCell c v
 free:H X.env.locals=none
 freeC:∀x c,X.env.cells.lookup x=some c->H c=none
 pin:∀p∈X.pn++G_,s.heap.get? p.1=some p.2/\H p.1=none/\p.1≠X.env.locals/\p.1∉X.fs/\∀v,p.2.data≠.cell v
 hok:HOk X.prog X.w H s.heap
 len:σ.length=X.N.length
section
variable {X:Cx}{G_:h_}{σ:List m_}{H H':Hp}{s:Shared}{h':Heap}
def Cx.Ok.nofr(ok:X.Ok){b:Addr}{o:Obj}(e:X.base.get? b=some o):b∉X.fs:=λhb=>by have:=(ok.funs.mem hb).1;rw[e]at this;cases this
def Inv.bs(I:Inv X G_ σ H s):∀b o,X.base.get? b=some o->s.heap.get? b=some o/\H b=none:=λb o e=>⟨I.base.keep b o (I.ok.bs b o e).1 (I.ok.bs b o e).2 (I.ok.nofr e) (I.ok.noex b o e),I.base.free b o (I.ok.bs b o e).1 (I.ok.bs b o e).2 (I.ok.noex b o e)⟩
def Inv.bk(I:Inv X G_ σ H s):∀b o,X.base.get? b=some o->s.heap.get? b=some o:=λb o e=>(I.bs b o e).1
def Inv.mod(I:Inv X G_ σ H s):Mod X.K X.mg X.base:=I.ok.mod
def Inv.kIn(I:Inv X G_ σ H s):X.K.In s.heap:=I.ok.mod.kin.keeps I.bk
def Inv.lt(I:Inv X G_ σ H s):X.env.locals<s.heap.objs.size:=let⟨_,hn,_⟩:=I.loc;hn.lt
def Inv.sz(I:Inv X G_ σ H s):X.s₀.heap.objs.size<=s.heap.objs.size:=z7u I.ok.above (z4h I.lt)
def Inv.nofs(I:Inv X G_ σ H s){a:Addr}(h:s.heap.objs.size<=a):a∉X.fs:=λhb=>by obtain⟨_,o,ho,_⟩:=I.ok.funs.mem hb;exact absurd (z9u (z9m ho) (z7u I.sz h)) (z7x _)
def Inv.cne(I:Inv X G_ σ H s):∀x c,X.env.cells.lookup x=some c->c≠X.env.locals:=λx c e z=>by obtain⟨v,o,ho,hd⟩:=I.cell x c e;obtain⟨m,⟨o',es,ep,ho',hd',_⟩,_⟩:=I.loc;rw[z,ho']at ho;cases ho;rw[hd']at hd;cases hd
def Inv.funs(I:Inv X G_ σ H s):s.heap.FunFrames X.base X.outer:=by
 have all:∀(l:List Env),(∀b∈frs l,b∈X.fs)->X.s₀.heap.FunFrames X.base l->s.heap.FunFrames X.base l:=by
  intro l
  induction l with
  |nil=>intro _ _;trivial
  | cons env r ih=>
    intro hs hl;obtain⟨hk,⟨L,o,hf,hn,ho,hd⟩,hr⟩:=hl;have hL:L∈X.fs:=hs L (by unfold frs;rw[z5k,hf];exact z9a);obtain⟨sl,e⟩:=I.base.slot L o ho (I.ok.frf L hL) hL λz=>I.ok.exfs L z hL
    exact⟨hk,⟨L,_,hf,hn,e,hd⟩,ih (λb hb=>hs b (by unfold frs;rw[z5k,hf];exact z9d _ hb)) hr⟩
 exact all X.outer (λ_ hb=>hb) I.ok.funs
def Inv.stack(I:Inv X G_ σ H s):s.heap.FunFrames X.base X.stack:=by
 rcases I.ok.stk with e|⟨e,hf⟩
 ·rw[e];exact I.funs
 ·rw[e]
  obtain⟨m,hn,_⟩:=I.loc;refine .cons (by rw[I.ok.kind];decide) hf hn ?_ I.funs;exact Heap.get?_none_of_le (z7u I.ok.bsz I.ok.above)
def Inv.stkSub(I:Inv X G_ σ H s):∀b∈frs X.stack,b∈X.env.locals::X.fs:=λb hb=>by
 rcases I.ok.stk with e|⟨e,hf⟩
 ·rw[e]at hb;exact z9d _ hb
 ·rw[e]at hb
  unfold frs at hb;rw[z5k,hf]at hb;exact hb
def Inv.stkFree(I:Inv X G_ σ H s):∀b∈frs X.stack,H b=none:=λb hb=>by
 rcases z9j.mp (I.stkSub b hb)with e|hb
 ·rw[e];exact I.free
 ·obtain⟨_,o,ho,_⟩:=I.ok.funs.mem hb
  exact I.base.free b o ho (I.ok.frf b hb) λz=>I.ok.exfs b z hb
def Inv.step{g':Array GenState}{t':Nat}{d':Drawn}{ch:z7}(I:Inv X G_ σ H s)(hch:∀b∈ch,(b∈X.ex\/X.s₀.heap.objs.size<=b)/\b≠X.env.locals/\(∀x c,X.env.cells.lookup x=some c->c≠b)/\∀p∈X.pn++G_,p.1≠b)(keep:∀b o,b≠X.env.locals->b∉X.fs->b∉ch->s.heap.get? b=some o->H b=none->h'.get? b=some o)(slot:∀b o,b≠X.env.locals->b∈X.fs->b∉ch->s.heap.get? b=some o->H b=none->∃sl,h'.get? b=some {o with slots:=sl})(free:∀b o,b∉ch->s.heap.get? b=some o->H b=none->H' b=none)(there:∀b o,b∉ch->s.heap.get? b=some o->∃o',h'.get? b=some o')(tups:∀b xs,H b=some (.tup xs)->H' b=some (.tup xs))(frzs:∀b o u,H b=some (.frz o u)->H' b=some (.frz o u))(tbls:∀b ps,H b=some (.tbl ps)->∃more,H' b=some (.tbl (ps++more)))(ns:∀m,s.heap.Ns X.env.locals m->h'.Ns X.env.locals m)(hok:HOk X.prog X.w H' h')(hg:AllBare g'):
  Inv X G_ σ H' {s with heap:=h',gens:=g',drawn:=d',toks:=t'}:=by
 have neL:∀b o,X.s₀.heap.get? b=some o->b≠X.env.locals:=λb o e=>z8q (z9u (z9m e) I.ok.above)
 have neC:∀b o,X.s₀.heap.get? b=some o->b∉X.ex->b∉ch:=λb o e hx hb=>by
  rcases(hch b hb).1 with z|z
  ·exact hx z
  ·exact absurd (z9u (z9m e) z) (z7x _)
 have cellK:∀x c,X.env.cells.lookup x=some c->∀v,s.heap.IsCell c v->h'.IsCell c v:=λx c e v y0=>by
  obtain⟨o,ho,hd⟩:=y0;have nch:c∉ch:=λz=>(hch c z).2.2.1 x c e rfl
  by_cases hc:c∈X.fs
  ·obtain⟨sl,q⟩:=slot c o (I.cne x c e) hc nch ho (I.freeC x c e)
   exact⟨_,q,hd⟩
  ·exact⟨o,keep c o (I.cne x c e) hc nch ho (I.freeC x c e),hd⟩
 refine⟨I.ok,I.os,hg,⟨λb o e n hb hx=>?_,λb o e n hb hx=>?_,λb o e n hx=>?_,λb o e hx=>?_,λb xs e=>tups b xs (I.base.tups b xs e),λb o xs e=>frzs b o xs (I.base.frzs b o xs e),λb ps e=>?_⟩,?_,λx c e=>?_,?_,λx c e=>?_,λp hp=>?_,hok,I.len⟩
 ·exact keep b o (neL b o e) hb (neC b o e hx) (I.base.keep b o e n hb hx) (I.base.free b o e n hx)
 ·obtain⟨sl,e1⟩:=I.base.slot b o e n hb hx
  obtain⟨sl',e2⟩:=slot b _ (neL b o e) hb (neC b o e hx) e1 (I.base.free b o e n hx);exact⟨sl',e2⟩
 ·obtain⟨o',e1⟩:=I.base.there b o e hx
  exact free b o' (neC b o e hx) e1 (I.base.free b o e n hx)
 ·obtain⟨o',e1⟩:=I.base.there b o e hx
  exact there b o' (neC b o e hx) e1
 ·obtain⟨m1,e1⟩:=I.base.tbls b ps e
  obtain⟨m2,e2⟩:=tbls b _ e1;exact⟨m1++m2,by rw[e2,Array.append_assoc]⟩
 ·obtain⟨m,hn,hl⟩:=I.loc
  refine⟨m,ns m hn,λi x v e1 e2 e3=>?_⟩;obtain⟨u,r,l⟩:=hl i x v e1 e2 e3;refine⟨u,r,?_⟩;rcases l with l|⟨k,c,e,z⟩
  ·exact .inl l
  ·exact .inr ⟨k,c,e,cellK x c e _ z⟩
 ·obtain⟨v,z⟩:=I.cell x c e
  exact⟨v,cellK x c e v z⟩
 ·obtain⟨m,⟨o,_,_,ho,_⟩,_⟩:=I.loc
  exact free _ o (λz=>(hch _ z).2.1 rfl) ho I.free
 ·obtain⟨v,o,ho,hd⟩:=I.cell x c e
  exact free c o (λz=>(hch c z).2.2.1 x c e rfl) ho (I.freeC x c e)
 ·obtain⟨e,n,ne,nf,d⟩:=I.pin p hp
  have nch:p.1∉ch:=λz=>(hch p.1 z).2.2.2 p hp rfl
  exact⟨keep p.1 p.2 ne nf nch e n,free p.1 p.2 nch e n,ne,nf,d⟩
def Inv.un{t':Nat}(I:Inv X G_ σ H s)(u:Un X.fs [] H H' s.heap h')(hok:HOk X.prog X.w H' h'):Inv X G_ σ H' {s with heap:=h',toks:=t'}:=by
 obtain⟨m,⟨o,es,ep,ho,r⟩,_⟩:=id I.loc;obtain⟨sl,hL⟩:=u.any ho I.free (by simp);exact I.step (g':=s.gens) (d':=s.drawn) (ch:=[]) (λ_ z=>nomatch z) (λb o _ hb _ e n=>u.keep b o e n hb (by simp)) (λb o _ hb _ e n=>u.slot b o e n hb (by simp)) (λb o _ e n=>u.free b o e n (by simp)) (λb o _ e=>u.there b o e (by simp)) u.tups u.frzs u.tbls (λm' hm=>by obtain⟨o',es',ep',ho',r'⟩:=hm;rw[ho]at ho';cases ho';exact⟨_,es',ep',hL,r'⟩) hok I.bare
def Inv.call{g':Array GenState}{t':Nat}{d':Drawn}{ch:z7}(I:Inv X G_ σ H s)(u:Un (frs X.stack) ch H H' s.heap h')(hok:HOk X.prog X.w H' h')(hg:AllBare g')(hch:∀b∈ch,(b∈X.ex\/X.s₀.heap.objs.size<=b)/\b≠X.env.locals/\(∀x c,X.env.cells.lookup x=some c->c≠b)/\∀p∈X.pn++G_,p.1≠b):
  Inv X G_ σ H' {s with heap:=h',gens:=g',drawn:=d',toks:=t'}:=by
 obtain⟨m,⟨o,es,ep,ho,r⟩,_⟩:=id I.loc;obtain⟨sl,hL⟩:=u.any ho I.free λz=>(hch _ z).2.1 rfl
 exact I.step (ch:=ch) hch (λb o hL hb hc e n=>u.keep b o e n (λz=>(z9j.mp (I.stkSub b z)).elim hL hb) hc) (λb o _ _ hc e n=>u.any e n hc) (λb o hc e n=>u.free b o e n hc) (λb o hc e=>u.there b o e hc) u.tups u.frzs u.tbls (λm' hm=>by obtain⟨o',es',ep',ho',r'⟩:=hm;rw[ho]at ho';cases ho';exact⟨_,es',ep',hL,r'⟩) hok hg
def Inv.turned{t':Nat}{it:Addr}(I:Inv X G_ σ H s)(k:∀b o,b≠it->s.heap.get? b=some o->h'.get? b=some o)(hn:H it=none)(hL:it≠X.env.locals)(h1:it∈X.ex\/X.s₀.heap.objs.size<=it)(h2:∀x c,X.env.cells.lookup x=some c->c≠it)(h3:∀p∈X.pn++G_,p.1≠it):Inv X G_ σ H {s with heap:=h',toks:=t'}:=by
 have nit:∀b u,H b=some u->b≠it:=λb u e z=>by rw[z,hn]at e;cases e
 refine I.step (g':=s.gens) (d':=s.drawn) (ch:=[it]) (λb hb=>?_) (λb o _ _ hc e _=>k b o (λz=>hc (by simp[z])) e) (λb o _ _ hc e _=>⟨o.slots,k b o (λz=>hc (by simp[z])) e⟩) (λ_ _ _ _ n=>n)
  (λb o hc e=>⟨o,k b o (λz=>hc (by simp[z])) e⟩) (λ_ _ e=>e) (λ_ _ _ e=>e) (λb ps e=>⟨#[],by rw[e];simp⟩) (λm hm=>?_) (λb u e=>?_) I.bare
 ·have e:b=it:=by simpa using hb
  subst e;exact⟨h1,hL,h2,h3⟩
 ·obtain⟨o,es,ep,ho,r⟩:=hm
  exact⟨o,es,ep,k _ o (Ne.symm hL) ho,r⟩
 ·refine(I.hok b u e).stay (λc v hc q=>k c v ?_ q) (λ_ q=>q) λ_ _ q=>q
  rcases hc with z|z
  ·rw[z];exact nit b u e
  ·exact nit c _ z
def Inv.tok(I:Inv X G_ σ H s)(t:Nat):Inv X G_ σ H {s with toks:=t}:=I.un (h':=s.heap) (t':=t) Un.refl I.hok
def Inv.kept{t':Nat}(I:Inv X G_ σ H s)(k:∀b u,s.heap.get? b=some u->h'.get? b=some u):Inv X G_ σ H {s with heap:=h',toks:=t'}:=I.un (Un.kept k) (I.hok.kept k)
def Inv.laid{a:Addr}{o:HO}{t':Nat}(I:Inv X G_ σ H s)(k:∀b u,s.heap.get? b=some u->h'.get? b=some u)(hp:s.heap.objs.size<=a)(new:ObjOk X.prog X.w (upd H a o) h' a o):
  Inv X G_ σ (upd H a o) {s with heap:=h',toks:=t'}:=I.un (Un.laid k hp (I.hok.fresh hp)) (I.hok.laid k hp new)
def Inv.write{x e:Addr}{o:HO}{t':Nat}(I:Inv X G_ σ H s)(mu:Mut (H x))(he:e=x\/H e=some (.own x))(k:∀b u,b≠e->s.heap.get? b=some u->h'.get? b=some u)(heo:∃u,h'.get? e=some u)(new:ObjOk X.prog X.w (upd H x o) h' x o):Inv X G_ σ (upd H x o) {s with heap:=h',toks:=t'}:=I.un (Un.write mu he k heo) (I.hok.write mu he k heo new)
def Inv.pins_of{pins':h_}(I:Inv X G_ σ H s)(h:∀p∈pins',s.heap.get? p.1=some p.2/\H p.1=none/\p.1≠X.env.locals/\p.1∉X.fs/\∀v,p.2.data≠.cell v):Inv X pins' σ H s:=
 ⟨I.ok,I.os,I.bare,I.base,I.loc,I.cell,I.free,I.freeC,λp hp=>(z7g.mp hp).elim (λz=>I.pin p (z8i _ z)) (h p),I.hok,I.len⟩
def oN{N:z0}(hN:N.Nodup){i j:Nat}{x:Str}(a:N[i]?=some x)(b:N[j]?=some x):i=j:=by obtain⟨h1,e1⟩:=z9c.mp a;obtain⟨h2,e2⟩:=z9c.mp b;exact(List.getElem_inj hN).mp (e1.trans e2.symm)
def tM{M:Model}{A:Around}{E:Value->Shared->Prop}{i:Nat}{x:Str}{v:V}{u:Value}{Q:Unit->Shared->Prop}(I:Inv X G_ σ H s)(hN:X.N.Nodup)(hi:X.N[i]?=some x)(hx:Loc X.env.scope x)(r:RelV v u)(h:∀s',Inv X G_ (σ.set i (some v)) H s'->(∃a,Heap.SameBut a s.heap s'.heap/\(a=X.env.locals\/X.env.cells.lookup x=some a))->Q () s')(hf:X.fn x=true\/X.env.scope.names.lookup x=some .local<|>Q4):wpAny M A (storeName X.env x u) Q E s:=by
 obtain⟨m,hn,hl⟩:=id I.loc;have hcls:(X.env.scope.kind==.class||(X.env.scope.kind==.module&&X.env.locals != X.env.globals))=false:=by rw[I.ok.kind];rfl
 have hiσ:i<σ.length:=by rw[I.len];exact(z9c.mp hi).1
 have cne:=I.cne;have tracked:∀{a:Addr} {h':Heap},(∃o,s.heap.get? a=some o/\H a=none)->Heap.SameBut a s.heap h'->HOk X.prog X.w H h':=λ{a h'} ha hs b ob e=>by
  obtain⟨_,_,hfree⟩:=ha;refine(I.hok b ob e).stay (λc w' hc q=>(hs.2 c ?_).trans q) (λ_ q=>q) λ_ _ q=>q
  rintro rfl;rcases hc with rfl|hc
  ·rw[hfree]at e;cases e
  ·rw[hfree]at hc;cases hc
 rcases hx with hk|hk
 ·refine wpAny_storeName_local hk hn (λh' hn' hs=>?_) hcls
  obtain⟨oL,_,_,hoL,_⟩:=id hn;refine h _ ⟨I.ok,I.os,I.bare,⟨λb o e n hb hx=>?_,λb o e n hb hx=>?_,I.base.free,λb o e hx=>?_,I.base.tups,I.base.frzs,I.base.tbls⟩,⟨_,hn',λj y v' e1 e2 e3=>?_⟩,λy c e=>?_,I.free,I.freeC,λp hp=>?_,tracked ⟨oL,hoL,I.free⟩ hs,by simpa using I.len⟩ ⟨_,hs,.inl rfl⟩
  ·exact(hs.2 b (z8q (z9u (z9m e) I.ok.above))).trans (I.base.keep b o e n hb hx)
  ·obtain⟨sl,e1⟩:=I.base.slot b o e n hb hx
   exact⟨sl,(hs.2 b (z8q (z9u (z9m e) I.ok.above))).trans e1⟩
  ·obtain⟨o',e1⟩:=I.base.there b o e hx
   exact⟨o',(hs.2 b (z8q (z9u (z9m e) I.ok.above))).trans e1⟩
  ·by_cases hj:j=i
   ·subst hj
    rw[hi]at e1;cases e1;rw[z9r hiσ]at e2;cases e2;exact⟨u,r,.inl ⟨hk,by simp⟩⟩
   ·rw[z9f (Ne.symm hj)]at e2
    obtain⟨u',r',q⟩:=hl j y v' e1 e2 e3;refine⟨u',r',?_⟩;rcases q with⟨k,e⟩|⟨k,c,e,z⟩
    ·refine .inl ⟨k,?_⟩
     have:y≠x:=λe=>hj (oN hN e1 (e▸hi))
     simp[this,e]
    ·exact .inr ⟨k,c,e,z.sameBut hs (cne y c e)⟩
  ·obtain⟨w',z⟩:=I.cell y c e
   exact⟨w',z.sameBut hs (cne y c e)⟩
  ·obtain⟨e,n,ne,nf,d⟩:=I.pin p hp
   exact⟨(hs.2 p.1 ne).trans e,n,ne,nf,d⟩
 ·have hfn:X.fn x=true:=by
   rcases hf with z|z
   ·exact z
   ·rw[z]at hk;cases hk
  obtain⟨c,hc⟩:=I.ok.has x (.inl hk);obtain⟨w',z⟩:=I.cell x c hc;refine wpAny_storeName_cell I.ok.kind hk hc z (λh' hc' hs=>?_);obtain⟨oc,hoc,hocd⟩:=id z;refine h {s with heap:=h'} ⟨I.ok,I.os,I.bare,⟨λb o e n hb hx=>?_,λb o e n hb hx=>?_,I.base.free,λb o e hx=>?_,I.base.tups,I.base.frzs,I.base.tbls⟩,⟨m,hn.sameBut hs (Ne.symm (cne x c hc)),λj y v' e1 e2 e3=>?_⟩,λy c' e=>?_,I.free,I.freeC,λp hp=>?_,tracked ⟨oc,hoc,I.freeC x c hc⟩ hs,by simpa using I.len⟩ ⟨c,hs,.inr hc⟩
  ·exact(hs.2 b (z8q (z9u (z9m e) (I.ok.cab x c hfn hc)))).trans (I.base.keep b o e n hb hx)
  ·obtain⟨sl,e1⟩:=I.base.slot b o e n hb hx
   exact⟨sl,(hs.2 b (z8q (z9u (z9m e) (I.ok.cab x c hfn hc)))).trans e1⟩
  ·obtain⟨o',e1⟩:=I.base.there b o e hx
   exact⟨o',(hs.2 b (z8q (z9u (z9m e) (I.ok.cab x c hfn hc)))).trans e1⟩
  ·by_cases hj:j=i
   ·subst hj
    rw[hi]at e1;cases e1;rw[z9r hiσ]at e2;cases e2;exact⟨u,r,.inr ⟨.inl hk,c,hc,hc'⟩⟩
   ·rw[z9f (Ne.symm hj)]at e2
    obtain⟨u',r',q⟩:=hl j y v' e1 e2 e3;refine⟨u',r',?_⟩;rcases q with q|⟨k,c',e,z'⟩
    ·exact .inl q
    ·refine .inr ⟨k,c',e,z'.sameBut hs ?_⟩
     rintro rfl;exact hj (oN hN e1 (I.ok.inj _ _ _ e hc▸hi))
  ·by_cases hcc:c'=c
   ·subst hcc;exact⟨_,hc'⟩
   ·obtain⟨w2,z2⟩:=I.cell y c' e
    exact⟨w2,z2.sameBut hs hcc⟩
  ·obtain⟨e,n,ne,nf,d⟩:=I.pin p hp
   refine⟨(hs.2 p.1 ?_).trans e,n,ne,nf,d⟩;intro q;rw[q,hoc]at e;have q':oc=p.2:=z7f e;exact d w' (by rw[<- q'];exact hocd)
def lN{M:Model}{A:Around}{E:Value->Shared->Prop}{i:Nat}{x:Str}{v:V}{u:Value}{Q:Unit->Shared->Prop}(I:Inv X G_ σ H s)(hN:X.N.Nodup)(hi:X.N[i]?=some x)(hx:Loc X.env.scope x)(r:RelV v u)(h:∀s',Inv X G_ (σ.set i (some v)) H s'->Q () s')(hf:X.fn x=true\/X.env.scope.names.lookup x=some .local<|>Q4):wpAny M A (storeName X.env x u) Q E s:=
 tM I hN hi hx r (λs' I' _=>h s' I') hf
def Inv.call'{s':Shared}{ch:z7}(I:Inv X G_ σ H s)(ho:s'.os=s.os)(u:Un (frs X.stack) ch H H' s.heap s'.heap)(hok:HOk X.prog X.w H' s'.heap)(hg:AllBare s'.gens)(hch:∀b∈ch,(b∈X.ex\/X.s₀.heap.objs.size<=b)/\b≠X.env.locals/\(∀x c,X.env.cells.lookup x=some c->c≠b)/\∀p∈X.pn++G_,p.1≠b):Inv X G_ σ H' s':=by obtain⟨h',g',d',t',o'⟩:=s';have e:o'=s.os:=ho;subst e;exact I.call (g':=g') (t':=t') (d':=d') u hok hg hch
end
abbrev XK:=Value->Option Addr->Hp->Prop
abbrev St:=List m_
abbrev VK:=V->Hp->Prop
abbrev TE:=St->Hp->VK->Prop
abbrev TT:=St->Hp->(Bool->Hp->Prop)->Prop
abbrev TA:=St->Hp->(l_->Hp->Prop)->Prop
structure Ends where
 nx:St->Hp->Prop
 rt:VK
 bk:St->Hp->Prop:=λ_ _=>False
 ct:St->Hp->Prop:=λ_ _=>False
abbrev TS:=Ends->St->Hp->Prop
def EP(X:Cx)(G_:h_)(σ:St)(Q:VK)(u:Value)(s':Shared):Prop:=∃v H',Inv X G_ σ H' s'/\RelV v u/\Q v H'
def TP(X:Cx)(G_:h_)(σ:St)(Q:Bool->Hp->Prop)(b:Bool)(s':Shared):Prop:=∃H',Inv X G_ σ H' s'/\Q b H'
def AP(X:Cx)(G_:h_)(σ:St)(Q:l_->Hp->Prop)(us:z5)(s':Shared):Prop:=∃vs H',Inv X G_ σ H' s'/\Vals vs us/\Q vs H'
def SP(X:Cx)(G_:h_)(D:Ends)(f:Flow)(s':Shared):Prop:=
 match f with
 |.next=>∃σ' H',Inv X G_ σ' H' s'/\D.nx σ' H'
 |.brk=>∃σ' H',Inv X G_ σ' H' s'/\D.bk σ' H'
 |.cont=>∃σ' H',Inv X G_ σ' H' s'/\D.ct σ' H'
 |.ret u=>∃v σ' H',Inv X G_ σ' H' s'/\RelV v u/\D.rt v H'
def PE(X:Cx)(e:Expr)(t:TE):Prop:=
 ∀(G_:h_) (s:Shared) (σ:St) (H:Hp) (Q:VK),Inv X G_ σ H s->t σ H Q->wpAny (model X.prog X.w) X.A (eval e X.env) (EP X G_ σ Q) X.xe s
def PT(X:Cx)(e:Expr)(t:TT):Prop:=
 ∀(G_:h_) (s:Shared) (σ:St) (H:Hp) (Q:Bool->Hp->Prop),Inv X G_ σ H s->t σ H Q->wpAny (model X.prog X.w) X.A (isTrue e X.env (eval e X.env)) (TP X G_ σ Q) X.xe s
def PW(X:Cx)(e:Expr)(t:TT):Prop:=
 ∀(whole:Sem Value) (G_:h_) (s:Shared) (σ:St) (H:Hp) (Q:Bool->Hp->Prop),Inv X G_ σ H s->t σ H Q->wpAny (model X.prog X.w) X.A (isTrue e X.env whole) (TP X G_ σ Q) X.xe s
def PW.pt{X:Cx}{e:Expr}{t:TT}(h:PW X e t):PT X e t:=h _
def PA(X:Cx)(es:z6)(t:TA):Prop:=
 ∀(pos:Pos) (G_:h_) (s:Shared) (σ:St) (H:Hp) (Q:l_->Hp->Prop),Inv X G_ σ H s->t σ H Q->wpAny (model X.prog X.w) X.A (spliced (backTo pos (starEach es X.env))) (AP X G_ σ Q) X.xe s
def PS(X:Cx)(st:Stmt)(t:TS):Prop:=
 ∀(G_:h_) (s:Shared) (σ:St) (H:Hp) (D:Ends),Inv X G_ σ H s->t D σ H->wpAny (model X.prog X.w) X.A (exec st X.env) (SP X G_ D) X.xe s
def PSs(X:Cx)(st:z9)(t:TS):Prop:=
 ∀(G_:h_) (s:Shared) (σ:St) (H:Hp) (D:Ends),Inv X G_ σ H s->t D σ H->wpAny (model X.prog X.w) X.A (execs st X.env) (SP X G_ D) X.xe s
def thn{α:Type}{t:Sem α}{Q Q':α->Shared->Prop}{M:Model}{A:Around}{E:Value->Shared->Prop}{s:Shared}(h:wpAny M A t Q E s)(hQ:∀a s,Q a s->Q' a s):wpAny M A t Q' E s:=z8p h hQ λ_ _ x=>x
def b9{X:Cx}{G_:h_}{σ:St}{Q:VK}{t:Sem Value}{Q':Value->Shared->Prop}{M:Model}{A:Around}{E:Value->Shared->Prop}{s:Shared}(h:wpAny M A t (EP X G_ σ Q) E s)(hQ:∀u s' v H',Inv X G_ σ H' s'->RelV v u->Q v H'->Q' u s'):wpAny M A t Q' E s:=z8p h (λu s' y0=>by obtain⟨v,H',I,r,q⟩:=y0;exact hQ u s' v H' I r q) λ_ _ x=>x
def cQ{X:Cx}{G_:h_}{σ:St}{Q:l_->Hp->Prop}{t:Sem z5}{Q':z5->Shared->Prop}{M:Model}{A:Around}{E:Value->Shared->Prop}{s:Shared}(h:wpAny M A t (AP X G_ σ Q) E s)(hQ:∀u s' v H',Inv X G_ σ H' s'->Vals v u->Q v H'->Q' u s'):wpAny M A t Q' E s:=z8p h (λu s' y0=>by obtain⟨v,H',I,r,q⟩:=y0;exact hQ u s' v H' I r q) λ_ _ x=>x
def jU{X:Cx}{G_:h_}{σ:St}{Q:Bool->Hp->Prop}{t:Sem Bool}{Q':Bool->Shared->Prop}{M:Model}{A:Around}{E:Value->Shared->Prop}{s:Shared}(h:wpAny M A t (TP X G_ σ Q) E s)(hQ:∀u s' H',Inv X G_ σ H' s'->Q u H'->Q' u s'):wpAny M A t Q' E s:=z8p h (λu s' y0=>by obtain⟨H',I,q⟩:=y0;exact hQ u s' H' I q) λ_ _ x=>x
section
variable {X:Cx}
def BA(i:Nat):TE:=λσ H Q=>∃v,σ[i]?=some (some v)/\Q v H
def tC(v:V):TE:=λ_ H Q=>Q v H
def fu{i:Nat}{x:Str}{pos:Pos}(hN:X.N[i]?=some x)(hv:Vis X.env.scope x)(hd:DB x<|>J8)(hcd:(x==("__classdict__" : Str))=false<|>J8):PE X (.Name x pos) (BA i):=by
 intro G_ s σ H Q I h;obtain⟨v,e,h⟩:=h;obtain⟨m,hn,hl⟩:=I.loc;obtain⟨u,r,l⟩:=hl i x v hN e hv;have fin:EP X G_ σ Q u s:=⟨v,H,I,r,h⟩;rcases l with⟨hk,hm⟩|⟨hk,c,hc,hcell⟩
 ·exact wpAny_Name (wpAny_loadName_local I.ok.kind hk hn hm fin) hd
 ·rcases hk with hk|hk
  ·exact wpAny_Name (wpAny_loadName_cell I.ok.kind hk hc hcell fin) hd
  ·exact wpAny_Name (wpAny_loadName_free I.ok.kind hk hc hcell fin hcd) hd
def tN{i j pos}:PE X (.Constant (.int i) j pos) (tC (.int i)):=λ_ _ _ H _ I h=>wpAny_Constant_int ⟨.int i,H,I.tok _,⟨_,rfl⟩,h⟩
def BB{b j pos}:PE X (.Constant (.bool b) j pos) (tC (.bl b)):=λ_ _ _ H _ I h=>Constant_bool ⟨.bl b,H,I,rfl,h⟩
def BC{j pos}:PE X (.Constant .none j pos) (tC .non):=λ_ _ _ H _ I h=>Constant_none ⟨.non,H,I,rfl,h⟩
def fv{x j pos}:PE X (.Constant (.str x) j pos) (tC (.str x)):=λ_ _ _ H _ I h=>Calls.Constant_str ⟨.str x,H,I.tok _,⟨_,rfl⟩,h⟩
def Gl(X:Cx)(x:Str):Prop:=X.env.kindOf x=some .globalImplicit
def gA{E:Value->Shared->Prop}{G_:h_}{s:Shared}{σ:St}{H:Hp}{x:Str}{u:Value}{pos:Pos}{Q:Value->Shared->Prop}(I:Inv X G_ σ H s)(hg:Gl X x)(hm:X.mg x=some u)(h:Q u s)(hd:DB x<|>J8):wpAny (model X.prog X.w) X.A (eval (.Name x pos) X.env) Q E s:=
 Calls.Name_function_global I.ok.kind hg (Calls.loadGlobal_global (by rw[I.ok.glob];exact I.mod.glob.keeps I.bk) hm h) hd
def eZ{E:Value->Shared->Prop}{G_:h_}{s:Shared}{σ:St}{H:Hp}{x:Str}{u:Value}{pos:Pos}{Q:Value->Shared->Prop}(I:Inv X G_ σ H s)(hg:Gl X x)(hm:X.mg x=none)(hv:bootBuiltins x=some u)(h:Q u s)(hn:x ≠ "__name__"<|>J8)(hd:DB x<|>J8):wpAny (model X.prog X.w) X.A (eval (.Name x pos) X.env) Q E s:=by obtain⟨mb,h1,h2⟩:=I.mod.blt;exact Calls.Name_function_global I.ok.kind hg (Calls.loadGlobal_builtin (by rw[I.ok.glob];exact I.mod.glob.keeps I.bk) hm (by rw[I.ok.blt];exact h1.keeps I.bk) ((h2 x hn).trans hv) h) hd
def tO{x:Str}{v:V}{u:Value}{pos:Pos}(hg:Gl X x)(hm:X.mg x=some u)(r:RelV v u)(hd:DB x<|>J8):PE X (.Name x pos) (tC v):=
 λ_ _ _ H _ I h=>gA I hg hm ⟨v,H,I,r,h⟩ hd
def BD{x:Str}{v:V}{u:Value}{pos:Pos}(hg:Gl X x)(hm:X.mg x=none)(hv:bootBuiltins x=some u)(r:RelV v u)(hn:x ≠ "__name__"<|>J8)(hd:DB x<|>J8):PE X (.Name x pos) (tC v):=
 λ_ _ _ H _ I h=>eZ I hg hm hv ⟨v,H,I,r,h⟩ hn hd
variable {a b:Expr}{ta tb:TE}{pos:Pos}
def PC(X:Cx)(op:CmpOp)(a b:Expr)(t:TE):Prop:=
 ∀(G_:h_) (s:Shared) (σ:St) (H:Hp) (Q:VK),Inv X G_ σ H s->t σ H Q ->
   wpAny (model X.prog X.w) X.A (eval a X.env) (λv y1=>wpAny (model X.prog X.w) X.A (eval b X.env) (λu y3=>wpAny (model X.prog X.w) X.A (compareOp op v u) (EP X G_ σ Q) X.xe y3) X.xe y1) X.xe s
def BE(b:Expr){op:CmpOp}(h:op≠.In)(h2:op≠.NotIn):behindInMarks op b=false:=by
 have e1:(op==CmpOp.In)=false:=by cases op<;>first|rfl|exact absurd rfl h
 have e2:(op==CmpOp.NotIn)=false:=by cases op<;>first|rfl|exact absurd rfl h2
 cases b<;>simp[behindInMarks,e1,e2]
def tB(t:TE):TT:=λσ H Q=>t σ H λx H1=>∃c,x=.bl c/\Q c H1
def tP{op:CmpOp}{t:TE}(h:PC X op a b t)(h1:behindInMarks op b=false:=by first|exact BE _ (by decide) (by decide)|rfl):PT X (.Compare a [op] [b] pos) (tB t):=by intro G_ s σ H Q I hw;refine wpAny_isTrue_Compare1 (thn (h G_ s σ H _ I hw) λv s1 h1=>thn h1 λu s2 h2=>b9 h2 λc s3 x H1 I1 r1 q1=>?_) h1;obtain⟨d,rfl,q⟩:=q1;cases r1;exact z6g ⟨H1,I1,q⟩
variable {tA tB':TT}{rest:z6}
def BF(t u:TT):TT:=λσ H Q=>t σ H λc H1=>if c=true then u σ H1 Q else Q false H1
def tOr(t u:TT):TT:=λσ H Q=>t σ H λc H1=>if c=true then Q true H1 else u σ H1 Q
def BG(t:TT):TT:=λσ H Q=>t σ H λc H1=>Q (!c) H1
def tQ(ha:PT X a tA):PW X (.BoolOp .And [a] pos) tA:=by
 intro wh G_ s σ H Q I h;refine isTrue_and (thn (ha G_ s σ H Q I h) λc s1 e=>?_);cases c with
 |true=>exact isTrue_and_nil e
 |false=>exact e
def tR(ha:PT X a tA):PW X (.BoolOp .Or [a] pos) tA:=by
 intro wh G_ s σ H Q I h;refine isTrue_or (thn (ha G_ s σ H Q I h) λc s1 e=>?_);cases c with
 |false=>exact isTrue_or_nil e
 |true=>exact e
def tS(ha:PT X a tA)(hb:PW X (.BoolOp .And (b::rest) pos) tB'):PW X (.BoolOp .And (a::b::rest) pos) (BF tA tB'):=by
 intro wh G_ s σ H Q I h;refine isTrue_and (jU (ha G_ s σ H _ I h) λc s1 H1 I1 q1=>?_);cases c with
 |true=>exact hb wh G_ s1 σ H1 Q I1 q1
 |false=>exact⟨H1,I1,q1⟩
def tT(ha:PT X a tA)(hb:PW X (.BoolOp .Or (b::rest) pos) tB'):PW X (.BoolOp .Or (a::b::rest) pos) (tOr tA tB'):=by
 intro wh G_ s σ H Q I h;refine isTrue_or (jU (ha G_ s σ H _ I h) λc s1 H1 I1 q1=>?_);cases c with
 |true=>exact⟨H1,I1,q1⟩
 |false=>exact hb wh G_ s1 σ H1 Q I1 q1
def tU(ha:PT X a tA):PT X (.UnaryOp .Not a pos) (BG tA):=by intro G_ s σ H Q I h;exact isTrue_not (ha G_ s σ H (λc H1=>Q (!c) H1) I h)
def BH(ta tb:TE):TE:=λσ H Q=>ta σ H λx H1=>∃c,x=.bl c/\if c=true then tb σ H1 Q else Q (.bl false) H1
def BI(ta:TE):TE:=λσ H Q=>ta σ H λx H1=>∃c,x=.bl c/\Q (.bl (!c)) H1
def tV{op}{t:TE}(h:PE X a t):PE X (.BoolOp op [a] pos) t:=λG_ s σ H Q I hw=>BoolOp_one (h G_ s σ H Q I hw)
def tW(ha:PE X a ta)(hb:PE X (.BoolOp .And (b::rest) pos) tb):PE X (.BoolOp .And (a::b::rest) pos) (BH ta tb):=by
 intro G_ s σ H Q I h;refine BoolOp_and (b9 (ha G_ s σ H _ I h) λv s1 x H1 I1 r1 q1=>?_);obtain⟨c,rfl,q1⟩:=q1;cases r1;refine z6g ?_;cases c with
 |true=>exact hb G_ s1 σ H1 Q I1 q1
 |false=>exact⟨.bl false,H1,I1,rfl,q1⟩
def BJ(ha:PE X a ta):PE X (.UnaryOp .Not a pos) (BI ta):=by intro G_ s σ H Q I h;refine UnaryOp_ (b9 (ha G_ s σ H _ I h) λv s1 x H1 I1 r1 q1=>?_);obtain⟨c,rfl,q1⟩:=q1;cases r1;exact not_of (z6g ⟨.bl (!c),H1,I1,rfl,q1⟩)
def tIf(t:TT)(ta tb:TE):TE:=λσ H Q=>t σ H λc H1=>if c=true then ta σ H1 Q else tb σ H1 Q
def tX{c:Expr}(hc:PT X c tA)(ha:PE X a ta)(hb:PE X b tb):PE X (.IfExp c a b pos) (tIf tA ta tb):=by
 intro G_ s σ H Q I h;refine wpAny_IfExp (jU (hc G_ s σ H _ I h) λd s1 H1 I1 q1=>?_);cases d with
 |true=>exact ha G_ s1 σ H1 Q I1 q1
 |false=>exact hb G_ s1 σ H1 Q I1 q1
end
def SqL(K:K0)(H:Hp)(a:Addr)(xs:l_):Prop:=
 Rd H a (.lst xs) \/
  ∃(o:Obj) (its:Array Value) (n:Nat),K.lookup a=some o/\o.cls=.type "list"/\o.dict=none/\o.data=.seq its n/\its.size<=sizeLine/\Vals xs its.toList
def SqT(K:K0)(H:Hp)(a:Addr)(xs:l_):Prop:=
 Rd H a (.tup xs) \/
  ∃(o:Obj) (its:Array Value) (n:Nat),K.lookup a=some o/\o.cls=.type "tuple"/\o.data=.seq its n/\its.size<=sizeLine/\Vals xs its.toList
noncomputable def BK:Value->m_
 |.none=>some .non
 |.bool b=>some (.bl b)
 |.int i _=>some (.int i)
 |.str x _=>some (.str x)
 |.bytes b _=>some (.byt b)
 |.float b _=>some (.flt b)
 |.ref a=>some (.ref a)
 |.type n=>some (.ty n)
 |_=>none
def RelV.abs{x:V}{u:Value}(r:RelV x u):BK u=some x:=by
 cases x with
 |non=>cases r;rfl
 |bl _=>cases r;rfl
 |int _=>obtain⟨t,rfl⟩:=r;rfl
 |str _=>obtain⟨t,rfl⟩:=r;rfl
 |byt _=>obtain⟨t,rfl⟩:=r;rfl
 |flt _=>obtain⟨t,rfl⟩:=r;rfl
 |ref _=>cases r;rfl
 |ty _=>cases r;rfl
def RelV.inj{x y:V}{u:Value}(r:RelV x u)(q:RelV y u):x=y:=z7f (r.abs.symm.trans q.abs)
theorem Vals.inj:∀{xs ys:l_} {us:z5},Vals xs us->Vals ys us->xs=ys
 |_,_,_,.nil,.nil=>rfl
 |_,_,_,.cons r t,.cons r' t'=>by rw[r.inj r',Vals.inj t t']
section
variable {X:Cx}{G_:h_}{σ:St}{H:Hp}{s:Shared}{a:Addr}{xs ys:l_}
def SqL.of{K:K0}(h:H a=some (.lst xs)):SqL K H a xs:=.inl (.inl h)
def SqT.of{K:K0}(h:H a=some (.tup xs)):SqT K H a xs:=.inl (.inl h)
def Inv.list(I:Inv X G_ σ H s)(h:SqL X.K H a xs):∃its:z5,Vals xs its/\PlainL s.heap a its.toArray/\xs.length<=sizeLine:=by
 rcases h with h|⟨o,its,n,hk,hc,hd,hs,hz,r⟩
 ·obtain⟨z,its,n,r,e⟩:=h.ok I.hok
  exact⟨its,r,⟨_,n,e,rfl,rfl,rfl⟩,z⟩
 ·refine⟨its.toList,r,⟨o,n,I.kIn a o hk,hc,hd,by simpa using hs⟩,?_⟩
  have e:=r.length;simp only[Array.length_toList]at e;ext
def Inv.tuple(I:Inv X G_ σ H s)(h:SqT X.K H a xs):∃its:z5,Vals xs its/\IsTup s.heap a its.toArray/\xs.length<=sizeLine:=by
 rcases h with h|⟨o,its,n,hk,hc,hs,hz,r⟩
 ·obtain⟨z,its,r,p⟩:=h.ok I.hok
  exact⟨its,r,p,z⟩
 ·refine⟨its.toList,r,⟨o,I.kIn a o hk,hc,n,by simpa using hs⟩,?_⟩
  have e:=r.length;simp only[Array.length_toList]at e;ext
def Inv.list_inj(I:Inv X G_ σ H s)(h:SqL X.K H a xs)(h':SqL X.K H a ys):xs=ys:=by
 obtain⟨its,r,⟨o,n,e,_,_,d⟩,_⟩:=I.list h;obtain⟨its',r',⟨o',n',e',_,_,d'⟩,_⟩:=I.list h';rw[e]at e';cases e';rw[d]at d';injection d' with d1 _
 have:its=its':=by simpa using z8w Array.toList d1
 subst this;exact r.inj r'
def Inv.tuple_inj(I:Inv X G_ σ H s)(h:SqT X.K H a xs)(h':SqT X.K H a ys):xs=ys:=by
 obtain⟨its,r,⟨o,e,_,n,d⟩,_⟩:=I.tuple h;obtain⟨its',r',⟨o',e',_,n',d'⟩,_⟩:=I.tuple h';rw[e]at e';cases e';rw[d]at d';injection d' with d1 _
 have:its=its':=by simpa using z8w Array.toList d1
 subst this;exact r.inj r'
end
abbrev Cx.wish(X:Cx)(E:Value->Shared->Prop):Cx:={X with xe:=E}
abbrev Cx.nox(X:Cx):Cx:=X.wish λ_ _=>False
def Cx.Ok.wish{X:Cx}(ok:X.Ok)(E:Value->Shared->Prop):(X.wish E).Ok:=
 ⟨ok.mod,ok.kind,ok.glob,ok.blt,ok.above,ok.inj,ok.has,ok.cab,ok.hd,ok.frames,ok.stk,ok.exf,ok.bs,ok.bsz,ok.noex,ok.exfs,ok.funs,ok.frf⟩
def Cx.Ok.unwish{X:Cx}{E:Value->Shared->Prop}(ok:(X.wish E).Ok):X.Ok:=
 ⟨ok.mod,ok.kind,ok.glob,ok.blt,ok.above,ok.inj,ok.has,ok.cab,ok.hd,ok.frames,ok.stk,ok.exf,ok.bs,ok.bsz,ok.noex,ok.exfs,ok.funs,ok.frf⟩
section
variable {X:Cx}{G_:h_}{σ:St}{H:Hp}{s:Shared}{E:Value->Shared->Prop}
def Inv.wish(I:Inv X G_ σ H s)(E:Value->Shared->Prop):Inv (X.wish E) G_ σ H s:=⟨I.ok.wish E,I.os,I.bare,I.base,I.loc,I.cell,I.free,I.freeC,I.pin,I.hok,I.len⟩
def Inv.unwish(I:Inv (X.wish E) G_ σ H s):Inv X G_ σ H s:=⟨I.ok.unwish,I.os,I.bare,I.base,I.loc,I.cell,I.free,I.freeC,I.pin,I.hok,I.len⟩
def SP.unwish{D:Ends}{f:Flow}{s':Shared}(h:SP (X.wish E) G_ D f s'):SP X G_ D f s':=by
 cases f with
 |next=>obtain⟨σ',H',I,q⟩:=h;exact⟨σ',H',I.unwish,q⟩
 |brk=>obtain⟨σ',H',I,q⟩:=h;exact⟨σ',H',I.unwish,q⟩
 |cont=>obtain⟨σ',H',I,q⟩:=h;exact⟨σ',H',I.unwish,q⟩
 |ret u=>obtain⟨v,σ',H',I,r,q⟩:=h;exact⟨v,σ',H',I.unwish,r,q⟩
def PE.nox{e:Expr}{t:TE}(h:PE X.nox e t):PE X e t:=λG_ s σ H Q I hw=>z8p (h G_ s σ H Q (I.wish _) hw) (λ_ _ y0=>by obtain⟨v,H',I',r,q⟩:=y0;exact⟨v,H',I'.unwish,r,q⟩) λ_ _ z=>False.elim z
def PT.nox{e:Expr}{t:TT}(h:PT X.nox e t):PT X e t:=λG_ s σ H Q I hw=>z8p (h G_ s σ H Q (I.wish _) hw) (λ_ _ y0=>by obtain⟨H',I',q⟩:=y0;exact⟨H',I'.unwish,q⟩) λ_ _ z=>False.elim z
def PSs.nox{st:z9}{t:TS}(h:PSs X.nox st t):PSs X st t:=λG_ s σ H D I hw=>z8p (h G_ s σ H D (I.wish _) hw) (λ_ _ q=>q.unwish) λ_ _ z=>False.elim z
end
section
variable {X:Cx}{st:Stmt}{rest:z9}{t u:TS}{e:Expr}{te:TE}{pos:Pos}
def BL:TS:=λD σ H=>D.nx σ H
def BM(t u:TS):TS:=λD σ H=>t {D with nx:=u D} σ H
def oO:PSs X [] BL:=λ_ _ σ H _ I h=>z5m ⟨σ,H,I,h⟩
def j1(h1:PS X st t)(h2:PSs X rest u):PSs X (st::rest) (BM t u):=by
 intro G_ s σ H D I h;refine wpAny_execs_cons (thn (h1 G_ s σ H {D with nx:=u D} I h) λf s1 q=>?_);cases f with
 |next=>obtain⟨σ',H',I',q⟩:=q;exact h2 G_ s1 σ' H' D I' q
 |ret v=>exact q
 |brk=>exact q
 |cont=>exact q
def jV(h1:PS X st t):PSs X [st] t:=by
 intro G_ s σ H D I h;refine wpAny_execs_cons (thn (h1 G_ s σ H D I h) λf s1 q=>?_);cases f with
 |next=>exact z5m q
 |ret v=>exact q
 |brk=>exact q
 |cont=>exact q
def Inv.quiet{G_:h_}{σ:St}{H:Hp}{s:Shared}(I:Inv X G_ σ H s):interactive X.env=false:=by simp[interactive,I.ok.kind]
def BN(te:TE):TS:=λD σ H=>te σ H λ_ H1=>D.nx σ H1
def jW(he:PE X e te)(hs:swapsWith e none pos.line X.env=pure false<|>J7):PS X (.Expr e pos) (BN te):=by intro G_ s σ H D I h;exact wpAny_Expr_any (b9 (he G_ s σ H _ I h) λv s1 x H1 I1 r1 q1=>⟨σ,H1,I1,q1⟩) I.quiet hs
def BO(te:TE):TS:=λD σ H=>te σ H D.rt
def i9(he:PE X e te):PS X (.Return (some e) pos) (BO te):=by intro G_ s σ H D I h;exact wpAny_Return_some (b9 (he G_ s σ H _ I h) λv s1 x H1 I1 r1 q1=>⟨x,σ,H1,I1,r1,q1⟩)
def BP(c:TT)(t u:TS):TS:=λD σ H=>c σ H λb H1=>if b=true then t D σ H1 else u D σ H1
def oP{c:Expr}{a b:z9}{tc:TT}(hc:PT X c tc)(ha:PSs X a t)(hb:PSs X b u):PS X (.If c a b pos) (BP tc t u):=by
 intro G_ s σ H D I h;refine wpAny_If (jU (hc G_ s σ H _ I h) λd s1 H1 I1 q1=>?_);cases d with
 |true=>exact ha G_ s1 σ H1 D I1 q1
 |false=>exact hb G_ s1 σ H1 D I1 q1
def BQ:TS:=λ_ _ _=>False
def BR:PS X st BQ:=λ_ _ _ _ _ _ h=>h.elim
end
abbrev TG:=V->St->Hp->(St->Hp->Prop)->Prop
abbrev TGs:=l_->St->Hp->(St->Hp->Prop)->Prop
def PG(X:Cx)(target:Expr)(t:TG):Prop:=
 ∀(G_:h_) (s:Shared) (σ:St) (H:Hp) (v:V) (u:Value) (Q:St->Hp->Prop),Inv X G_ σ H s->RelV v u->t v σ H Q ->
   wpAny (model X.prog X.w) X.A (assign target X.env u) (λ_ s'=>∃σ' H',Inv X G_ σ' H' s'/\Q σ' H') X.xe s
def PGs(X:Cx)(ts:z6)(t:TGs):Prop:=
 ∀(G_:h_) (s:Shared) (σ:St) (H:Hp) (vs:l_) (us:z5) (Q:St->Hp->Prop),Inv X G_ σ H s->Vals vs us->t vs σ H Q ->
   wpAny (model X.prog X.w) X.A (assignInOrder ((assignEach ts X.env).map (·.2)) us) (λ_ s'=>∃σ' H',Inv X G_ σ' H' s'/\Q σ' H') X.xe s
abbrev oQ:=V->V->V->Hp->(Hp->Prop)->Prop
def tY(X:Cx)(t:oQ):Prop:=
 ∀(G_:h_) (s:Shared) (σ:St) (H:Hp) (o i v:V) (ov iv u:Value) (Q:Hp->Prop),Inv X G_ σ H s->RelV o ov->RelV i iv->RelV v u->t o i v H Q ->
   wpAny (model X.prog X.w) X.A (setItem ov iv u) (λ_ s'=>∃H',Inv X G_ σ H' s'/\Q H') X.xe s
section
variable {X:Cx}{pos:Pos}
def cq(i:Nat):TG:=λv σ H Q=>Q (σ.set i (some v)) H
def fY{i:Nat}{x:Str}(hN:X.N.Nodup)(hi:X.N[i]?=some x)(hx:Loc X.env.scope x)(hf:X.fn x=true\/X.env.scope.names.lookup x=some .local<|>Q4):PG X (.Name x pos) (cq i):=by intro G_ s σ H v u Q I r h;exact wpAny_assign_Name (lN I hN hi hx r (λs' I'=>⟨_,H,I',h⟩) hf)
def tZ:TGs:=λvs σ H Q=>vs=[]/\Q σ H
def u0(t:TG)(u:TGs):TGs:=λvs σ H Q=>∃v r,vs=v::r/\t v σ H λσ' H'=>u r σ' H' Q
def BS:PGs X [] tZ:=by intro G_ s σ H vs us Q I r h;obtain⟨e,h⟩:=h;subst e;cases r;exact assignInOrder_nil ⟨σ,H,I,h⟩
def BU{e:Expr}{es:z6}{t:TG}{u:TGs}(h1:PG X e t)(h2:PGs X es u)(hs:(assignEach (e::es) X.env).map (·.2)=assign e X.env::(assignEach es X.env).map (·.2)<|>J7):PGs X (e::es) (u0 t u):=by
 intro G_ s σ H vs us Q I r h;obtain⟨v,vr,e1,h⟩:=h;subst e1;cases r with
 |cons r rr=>rw[hs];refine assignInOrder_cons (thn (h1 G_ s σ H _ _ _ I r h) λ_ s1 y0=>?_);obtain⟨σ1,H1,I1,q1⟩:=y0;exact h2 G_ s1 σ1 H1 _ _ Q I1 rr q1
def jX(K:K0)(n:Nat)(t:TGs):TG:=λv σ H Q=>∃a xs,v=.ref a/\SqT K H a xs/\xs.length=n/\t xs σ H Q
def gB{es:z6}{k:Nat}{t:TGs}{n:Nat}(hc:X.calm=true)(h:PGs X es t)(hn:(assignEach es X.env).length=n<|>J7)(hst:(assignEach es X.env).findIdx? (·.1)=none<|>J7):PG X (.Tuple es k pos) (jX X.K n t):=by
 intro G_ s σ H v u Q I r hw;obtain⟨a,xs,e1,hq,hl,hw⟩:=hw;subst e1;cases r;obtain⟨its,rv,ht,hz⟩:=I.tuple hq;refine assign_Tuple_tuple (I.ok.hd hc) ht (by simp[hn,<- hl,rv.length]) hst λh' hx=>?_
 have I1:Inv X G_ σ H {s with heap:=h'}:=I.kept (t':=s.toks) λb o e=>hx b o (z8q (z9m e)) e
 exact h G_ _ σ H xs _ Q I1 (by simpa using rv) hw
def BV(to ti:TE)(t:oQ):TG:=λv σ H Q=>to σ H λo H1=>ti σ H1 λi H2=>t o i v H2 λH3=>Q σ H3
def u1{o i:Expr}{to ti:TE}{t:oQ}(ho:PE X o to)(hi:PE X i ti)(hs:tY X t)(ha:(∀v,assign (.Subscript o i pos) X.env v=(do
   let ov <- holding [v] (eval o X.env);let iv <- holding [v,ov] (eval i X.env)
   standAt pos
   holding [v,ov,iv] (setItem ov iv v)
   release [v,ov,iv] []))<|>Q0):PG X (.Subscript o i pos) (BV to ti t):=by
 intro G_ s σ H v u Q I r h;rw[ha];refine z9o (z3b (b9 (ho G_ s σ H _ I h) λov s1 x H1 I1 r1 q1=>?_));refine z9o (z3b (b9 (hi G_ s1 σ H1 _ I1 q1) λiv s2 y H2 I2 r2 q2=>?_));refine z9o (wpAny_standAt (z9o (z3b (thn (hs G_ s2 σ H2 x y v ov iv u _ I2 r1 r2 r q2) λ_ s3 y0=>?_))));obtain⟨H3,I3,q3⟩:=y0;exact wpAny_release ⟨σ,H3,I3,q3⟩
def oR(te:TE)(g:TG):TS:=λD σ H=>te σ H λx H1=>g x σ H1 D.nx
def lO{tg e:Expr}{te:TE}{g:TG}(he:PE X e te)(hg:PG X tg g)(hs:swapsWithSole [tg] e pos.line X.env=pure false<|>J7)(hw:swappedStores [tg] e X.env=pure none<|>J7)(h1:(assignEach [tg] X.env).map (·.2)=[assign tg X.env]<|>J7):PS X (.Assign [tg] e pos) (oR te g):=by intro G_ s σ H D I h;refine wpAny_Assign_stores (b9 (he G_ s σ H _ I h) λv s1 x H1 I1 r1 q1=>?_) hs hw;rw[h1];exact thn (hg G_ s1 σ H1 x v _ I1 r1 q1) λ_ s2 q=>q
def j2{i:Nat}{x:Str}{e:Expr}{te:TE}{pos':Pos}(hN:X.N.Nodup)(hi:X.N[i]?=some x)(hx:Loc X.env.scope x)(he:PE X e te)(hs:swapsWith e (some (.Name x pos')) pos.line X.env=pure false<|>J7)(hf:X.fn x=true\/X.env.scope.names.lookup x=some .local<|>Q4):
  PS X (.Assign [.Name x pos'] e pos) (oR te (cq i)):=by
 intro G_ s σ H D I h;refine wpAny_Assign_Name (b9 (he G_ s σ H _ I h) λv s1 y H1 I1 r1 q1=>?_) hs;exact lN I1 hN hi hx r1 (λs2 I2=>⟨_,H1,I2,q1⟩) hf
end
structure It where
 go:Nat->Hp->Prop
 yld:Nat->Hp->V->Hp->Prop
 stop:Nat->Hp->Prop
def cE(X:Cx)(G_:h_)(H:Hp)(b:Addr):Prop:=
 H b=none/\b≠X.env.locals/\b∉X.fs/\(b∈X.ex\/X.s₀.heap.objs.size<=b)/\(∀x c,X.env.cells.lookup x=some c->c≠b)/\∀p∈X.pn++G_,p.1≠b
def Inv.fpOk{X:Cx}{G_:h_}{σ:St}{H H':Hp}{s:Shared}{b:Addr}(I:Inv X G_ σ H s)(hb:s.heap.objs.size<=b)(hn:H' b=none):cE X G_ H' b:=by
 refine⟨hn,z4i (z9u I.lt hb),I.nofs hb,.inr (z7u I.sz hb),λx c e z=>?_,λp hp z=>?_⟩
 ·obtain⟨v,q⟩:=I.cell x c e
  exact absurd (z9u q.lt (by rw[z];exact hb)) (z7x _)
 ·exact absurd (z9u (z9m (I.pin p hp).1) (by rw[z];exact hb)) (z7x _)
structure Turn (P:Program) (w:World) (K:K0) (tg:Expr) (J:It) (fp:z7) (it:Addr) (tn:Nat->Heap->Prop):Prop where
 mem:it∈fp
 obj:∀i h,tn i h->∀b∈fp,∃o,h.get? b=some o/\∀v,o.data≠.cell v
 keep:∀i h h',tn i h->(∀b∈fp,∀o,h.get? b=some o->h'.get? b=some o)->tn i h'
 item:∀(X:Cx),X.prog=P->X.w=w->X.K=K->X.calm=true->∀(i:Nat) (G_:h_) (s:Shared) (σ:St) (H:Hp) (E:Value->Shared->Prop),Inv X G_ σ H s->(∀b∈fp,cE X G_ H b)->tn i s.heap->J.go i H ->
  wpAny (model P w) X.A (pyNext (.ref it)) (λr s1=>∃u,r=some u /\
   wpAny (model P w) X.A (letOwnedTupleGo tg (.ref it) u) (λ_ s2=>∃x H',Inv X G_ σ H' s2/\RelV x u/\J.yld i H x H'/\tn (i+1) s2.heap/\∀b∈fp,H' b=none) E s1) E s
 done:∀(X:Cx),X.prog=P->X.w=w->X.K=K->X.calm=true->∀(i:Nat) (G_:h_) (s:Shared) (σ:St) (H:Hp) (E:Value->Shared->Prop),Inv X G_ σ H s->(∀b∈fp,cE X G_ H b)->tn i s.heap->J.stop i H ->
  wpAny (model P w) X.A (pyNext (.ref it)) (λr s1=>r=none/\Inv X G_ σ H s1) E s
 self:∀(A:Around) (i:Nat) (s:Shared) (Q:Value->Shared->Prop) (E:Value->Shared->Prop),tn i s.heap->Q (.ref it) s->wpAny (model P w) A (pyIter (.ref it)) Q E s
abbrev TI:=St->Hp->(It->Hp->Prop)->Prop
def PIE(X:Cx)(G_:h_)(σ:St)(tg:Expr)(R:It->Hp->Prop)(itv:Value)(s2:Shared):Prop:=
 ∃(it:Addr) (fp:z7) (tn:Nat->Heap->Prop) (J:It) (H':Hp),itv=.ref it/\Inv X G_ σ H' s2/\Turn X.prog X.w X.K tg J fp it tn/\tn 0 s2.heap/\(∀b∈fp,cE X G_ H' b)/\R J H'
def PI(X:Cx)(tg iter:Expr)(wi:TI):Prop:=
 ∀(G_:h_) (s:Shared) (σ:St) (H:Hp) (R:It->Hp->Prop),Inv X G_ σ H s->wi σ H R ->
   wpAny (model X.prog X.w) X.A (eval iter X.env) (λv s1=>wpAny (model X.prog X.w) X.A (pyIter v) (PIE X G_ σ tg R) X.xe s1) X.xe s
def j3{M:Model}{A:Around}{E:Value->Shared->Prop}{s:Shared}{tg:Expr}{it:Addr}{u:Value}{o:Obj}{n:String}{vs:Array Value}{Q:Unit->Shared->Prop}(ho:s.heap.get? it=some o)(hc:o.cls=.type n)(hd:o.data=.fields vs)(hn:["enumerate","zip","dict_itemiterator","dict_reverseitemiterator","odict_iterator","itertools.zip_longest","itertools.pairwise"].contains n=false)(hQ:Q () s):wpAny M A (letOwnedTupleGo tg (.ref it) u) Q E s:=by
 unfold letOwnedTupleGo;cases tg<;>first
  |exact z8n hQ
  | (cases u<;>first
    |exact z8n hQ
    | (refine z9o (wpAny_load ho ?_)
       rw[hc,hd];show wpAny M A (if(["enumerate","zip","dict_itemiterator","dict_reverseitemiterator","odict_iterator","itertools.zip_longest","itertools.pairwise"].contains n&&vs[0]?==some (rawInt _))=true then _ else _) Q E s;rw[if_neg (by intro h;rw[hn,Bool.false_and]at h;cases h)];exact z8n hQ))
noncomputable def Itl(K:K0)(a:Addr):It:=
 ⟨λi H=>∃xs x,SqL K H a xs/\xs[i]?=some x,λi H x H'=>H'=H/\∀xs,SqL K H a xs->xs[i]?=some x,λi H=>∃xs,SqL K H a xs/\xs.length<=i⟩
noncomputable def Itt(K:K0)(a:Addr):It:=
 ⟨λi H=>∃xs x,SqT K H a xs/\xs[i]?=some x,λi H x H'=>H'=H/\∀xs,SqT K H a xs->xs[i]?=some x,λi H=>∃xs,SqT K H a xs/\xs.length<=i⟩
noncomputable def Itr(lo:Int)(n:Nat):It:=⟨λi _=>i<n,λi H x H'=>H'=H/\x=.int (lo+i),λi _=>n<=i⟩
def BW{P:Program}{w:World}{K:K0}{tg:Expr}(a it:Addr):Turn P w K tg (Itl K a) [it] it (λi h=>h.IsListIter it a i) where
 mem:=by simp
 obj:=λi h st b hb=>by
  have e:b=it:=by simpa using hb
  subst e;obtain⟨o,e,c,d⟩:=st;exact⟨o,e,λv z=>by rw[d]at z;cases z⟩
 keep:=λi h h' st k=>st.at λo e=>k it (by simp) o e
 item:=by
  intro X hP hw hK hc i G_ s σ H E I hf st hg;subst hP hw hK;obtain⟨xs,x,hq,hx⟩:=hg;obtain⟨its,rv,p,hz⟩:=I.list hq;obtain⟨u,hu,ru⟩:=rv.get hx;obtain⟨f0,f1,f2,f3,f4,f5⟩:=hf it (by simp);refine wpAny_pyNext_list_item st p.isList (x:=u) (by simpa using hu) λh' st' sb=>?_
  have I1:Inv X G_ σ H {s with heap:=h'}:=I.turned (t':=s.toks) (λb o hb e=>(sb.2 b hb).trans e) f0 f1 f3 f4 f5;obtain⟨o,e,c,d⟩:=id st';exact⟨u,rfl,j3 (s:={s with heap:=h'}) e c d (by decide) ⟨x,H,I1,ru,⟨rfl,λys hy=>by rw[I.list_inj hy hq];exact hx⟩,st',λb hb=>(hf b hb).1⟩⟩
 done:=by intro X hP hw hK hc i G_ s σ H E I hf st hg;subst hP hw hK;obtain⟨xs,hq,hx⟩:=hg;obtain⟨its,rv,p,hz⟩:=I.list hq;obtain⟨f0,f1,f2,f3,f4,f5⟩:=hf it (by simp);have hl:=rv.length;exact wpAny_pyNext_list_end (I.ok.hd hc) st p.isList (by simp;ext) λh' eb=>⟨rfl,I.turned (t':=s.toks) (λb o hb e=>eb b o hb e) f0 f1 f3 f4 f5⟩
 self:=λ_ _ _ _ _ st h=>wpAny_pyIter_listiter st h
def BX{P:Program}{w:World}{K:K0}{tg:Expr}(a it:Addr):Turn P w K tg (Itt K a) [it] it (λi h=>h.IsTupleIter it a i) where
 mem:=by simp
 obj:=λi h st b hb=>by
  have e:b=it:=by simpa using hb
  subst e;obtain⟨o,e,c,d⟩:=st;exact⟨o,e,λv z=>by rw[d]at z;cases z⟩
 keep:=λi h h' st k=>st.at λo e=>k it (by simp) o e
 item:=by
  intro X hP hw hK hc i G_ s σ H E I hf st hg;subst hP hw hK;obtain⟨xs,x,hq,hx⟩:=hg;obtain⟨its,rv,p,hz⟩:=I.tuple hq;obtain⟨u,hu,ru⟩:=rv.get hx;obtain⟨f0,f1,f2,f3,f4,f5⟩:=hf it (by simp);refine wpAny_pyNext_tuple_item st (show s.heap.IsTuple a its.toArray from p) (x:=u) (by simpa using hu) λh' st' sb=>?_
  have I1:Inv X G_ σ H {s with heap:=h'}:=I.turned (t':=s.toks) (λb o hb e=>(sb.2 b hb).trans e) f0 f1 f3 f4 f5;obtain⟨o,e,c,d⟩:=id st';exact⟨u,rfl,j3 (s:={s with heap:=h'}) e c d (by decide) ⟨x,H,I1,ru,⟨rfl,λys hy=>by rw[I.tuple_inj hy hq];exact hx⟩,st',λb hb=>(hf b hb).1⟩⟩
 done:=by intro X hP hw hK hc i G_ s σ H E I hf st hg;subst hP hw hK;obtain⟨xs,hq,hx⟩:=hg;obtain⟨its,rv,p,hz⟩:=I.tuple hq;obtain⟨f0,f1,f2,f3,f4,f5⟩:=hf it (by simp);have hl:=rv.length;exact wpAny_pyNext_tuple_end (I.ok.hd hc) st (show s.heap.IsTuple a its.toArray from p) (by simp;ext) λh' eb=>⟨rfl,I.turned (t':=s.toks) (λb o hb e=>eb b o hb e) f0 f1 f3 f4 f5⟩
 self:=λ_ _ _ _ _ st h=>wpAny_pyIter_tupleiter st h
def BY{P:Program}{w:World}{K:K0}{tg:Expr}(it:Addr)(lo:Int)(n:Nat):Turn P w K tg (Itr lo n) [it] it (λi h=>IsRangeIter h it (lo+(i:Nat)*1) ((n:Int)-(i:Nat)) 1) where
 mem:=by simp
 obj:= λi h st b hb=>by
  have e:b=it:=by simpa using hb
  subst e;exact⟨_,st,λv z=>by have z':Data.fields _=Data.cell v:=z;cases z'⟩
 keep:=λi h h' st k=>k it (by simp) _ st
 item:=by
  intro X hP hw hK hc i G_ s σ H E I hf st hg;subst hP hw hK;obtain⟨f0,f1,f2,f3,f4,f5⟩:=hf it (by simp);have W:=Walks.range (prog:=X.prog) (w:=X.w) (I.ok.hd hc) it lo 1 n;refine W.item i s _ _ hg st λv h' tk hv st' kk=>?_
  obtain⟨t,rfl⟩:=hv;have I1:Inv X G_ σ H {s with heap:=h',toks:=tk}:=I.turned (λb o hb e=>kk b o (by simpa using hb) e) f0 f1 f3 f4 f5;refine⟨_,rfl,j3 (s:={s with heap:=h',toks:=tk}) (n:="range_iterator") st' rfl rfl (by decide) ⟨.int (lo+i),H,I1,⟨t,?_⟩,⟨rfl,rfl⟩,st',λb hb=>(hf b hb).1⟩⟩;rw[Int.mul_one]
 done:=by intro X hP hw hK hc i G_ s σ H E I hf st hg;subst hP hw hK;obtain⟨f0,f1,f2,f3,f4,f5⟩:=hf it (by simp);exact wpAny_pyNext_range_end (I.ok.hd hc) st (by have:n<=i:=hg;ext) λh' eb=>⟨rfl,I.turned (t':=s.toks) (λb o hb e=>eb b o hb e) f0 f1 f3 f4 f5⟩
 self:=λ_ _ _ _ _ st h=>wpAny_pyIter_rangeiter st h
section
variable {X:Cx}{tg:Expr}
def u2(K:K0)(tl:TE):TI:=λσ H R=>tl σ H λx H1=>∃a,x=.ref a/\(∃xs,SqL K H1 a xs)/\R (Itl K a) H1
def BZ(K:K0)(tl:TE):TI:=λσ H R=>tl σ H λx H1=>∃a,x=.ref a/\(∃xs,SqT K H1 a xs)/\R (Itt K a) H1
def lP{l:Expr}{tl:TE}(hl:PE X l tl):PI X tg l (u2 X.K tl):=by
 intro G_ s σ H R I h;refine b9 (hl G_ s σ H _ I h) λv s1 x H1 I1 r1 q1=>?_
 obtain⟨a,e,⟨xs,hq⟩,q⟩:=q1;subst e;cases r1;obtain⟨its,rv,p,hz⟩:=I1.list hq;refine wpAny_pyIter_list p.isList ?_;refine⟨s1.heap.objs.size,[s1.heap.objs.size],_,_,H1,rfl,I1.kept (t':=s1.toks) λb o e=>z9l _ e,BW a _,⟨_,z8l _ rfl,rfl,rfl⟩,λb hb=>?_,q⟩;have e:b=s1.heap.objs.size:=by simpa using hb
 subst e;exact I1.fpOk (z9i _) (I1.hok.fresh (z9i _))
def oS{l:Expr}{tl:TE}(hl:PE X l tl):PI X tg l (BZ X.K tl):=by
 intro G_ s σ H R I h;refine b9 (hl G_ s σ H _ I h) λv s1 x H1 I1 r1 q1=>?_
 obtain⟨a,e,⟨xs,hq⟩,q⟩:=q1;subst e;cases r1;obtain⟨its,rv,p,hz⟩:=I1.tuple hq;refine wpAny_pyIter_tuple (show s1.heap.IsTuple a its.toArray from p) ?_;refine⟨s1.heap.objs.size,[s1.heap.objs.size],_,_,H1,rfl,I1.kept (t':=s1.toks) λb o e=>z9l _ e,BX a _,⟨_,z8l _ rfl,rfl,rfl⟩,λb hb=>?_,q⟩;have e:b=s1.heap.objs.size:=by simpa using hb
 subst e;exact I1.fpOk (z9i _) (I1.hok.fresh (z9i _))
def u6{G_:h_}{σ:St}{H:Hp}{s:Shared}{R:It->Hp->Prop}{E:Value->Shared->Prop}{lo hi:Int}{t u v:Tok}{tk:Nat}(I:Inv X G_ σ H s)(h1:-(2 ^ 62)<=lo)(h2:lo<2 ^ 62)(h3:-(2 ^ 62)<=hi)(h4:hi<2 ^ 62)(q:R (Itr lo (hi-lo).toNat) H):wpAny (model X.prog X.w) X.A (pyIter (.ref s.heap.objs.size)) (PIE X G_ σ tg R) E {s with heap:=s.heap.push {cls:=.type "range",data:=.fields #[.int lo t,.int hi u,.int 1 v]},toks:=tk}:=by
 refine wpAny_pyIter_range (IsRange.new ..) (small_one h1 h2 h3 h4) ?_;have I1:Inv X G_ σ H {s with heap:=s.heap.push {cls:=.type "range",data:=.fields #[.int lo t,.int hi u,.int 1 v]},toks:=tk}:=I.kept λb o e=>z9l _ e
 refine⟨(s.heap.push {cls:=.type "range",data:=.fields #[.int lo t,.int hi u,.int 1 v]}).objs.size,[(s.heap.push {cls:=.type "range",data:=.fields #[.int lo t,.int hi u,.int 1 v]}).objs.size],_,_,H,rfl,
  I1.kept (t':=tk) λb o e=>z9l _ e,BY _ lo (hi-lo).toNat,?_,λb hb=>?_,q⟩
 ·have e1:lo+((0:Nat):Int)*1=lo:=by simp
  have e2:(((hi-lo).toNat:Nat):Int)-((0:Nat):Int)=Builtin.Range.rangeSize lo hi 1:=by rw[rangeSize_one];split<;>ext
  show IsRangeIter _ _ (lo+((0:Nat):Int)*1) ((((hi-lo).toNat:Nat):Int)-((0:Nat):Int)) 1;rw[e1,e2];exact z8l _ rfl
 ·have e:b=(s.heap.push {cls:=.type "range",data:=.fields #[.int lo t,.int hi u,.int 1 v]}).objs.size:=by simpa using hb
  subst e;exact I1.fpOk (z9i _) (I1.hok.fresh (z9i _))
def u7(ta:TA):TI:=λσ H R=>ta σ H λvs H1=>∃j:Int,vs=[.int j]/\-(2 ^ 62)<=j/\j<2 ^ 62/\R (Itr 0 j.toNat) H1
def C0(ta:TA):TI:=λσ H R=>ta σ H λvs H1=>∃i j:Int,vs=[.int i,.int j]/\(-(2 ^ 62)<=i/\i<2 ^ 62/\-(2 ^ 62)<=j/\j<2 ^ 62)/\R (Itr i (j-i).toNat) H1
def lQ{a:Expr}{ta:TA}{p pos:Pos}(hg:Gl X "range")(hm:X.mg "range"=none)(ha:PA X [a] ta)(hs:starEach [a] X.env=[(false,eval a X.env)]<|>J7):PI X tg (.Call (.Name "range" p) [a] [] pos) (u7 ta):=by
 intro G_ s σ H R I h;refine Call_ (eZ I hg hm boot_range (z8x (cQ (ha pos G_ s σ H _ I h) λus s1 vs H1 I1 r1 q1=>?_) hs rfl));obtain⟨j,e,q1,q2,q⟩:=q1;subst e;cases r1 with
 |cons r rr=>cases rr;obtain⟨t,rfl⟩:=r;exact call_range_1 (u6 I1 ∅ ∅ q1 q2 (by simpa using q))
def C2{a b:Expr}{ta:TA}{p pos:Pos}(hg:Gl X "range")(hm:X.mg "range"=none)(ha:PA X [a,b] ta)(hs:starEach [a,b] X.env=[(false,eval a X.env),(false,eval b X.env)]<|>J7)(hs2:starEach [b] X.env=[(false,eval b X.env)]<|>J7):
  PI X tg (.Call (.Name "range" p) [a,b] [] pos) (C0 ta):=by
 intro G_ s σ H R I h;refine Call_ (eZ I hg hm boot_range (z8x (cQ (ha pos G_ s σ H _ I h) λus s1 vs H1 I1 r1 q1=>?_) (by rw[hs,hs2]) (by rw[hs2];rfl)));obtain⟨i,j,e,⟨q1,q2,q3,q4⟩,q⟩:=q1;subst e;cases r1 with
 | cons r rr=>
   cases rr with
   |cons r' rr=>cases rr;obtain⟨t,rfl⟩:=r;obtain⟨t',rfl⟩:=r';exact call_range_2 (u6 I1 q1 q2 q3 q4 q)
def C3(wi:TI)(g:TG)(tb:TS):TS:=λD σ H=>wi σ H λJ H1=>∃W:Nat->Nat->St->Hp->Prop,(∃m,W 0 m σ H1)/\∀i m σ H,W i m σ H ->
 (J.stop i H/\D.nx σ H)\/(J.go i H/\∃N:St->Hp->Prop,(∀σ' H',N σ' H'->∃m',m'<m/\W (i+1) m' σ' H')/\∀x H',J.yld i H x H'->g x σ H' λσ2 H2=>tb {D with nx:=N,ct:=N,bk:=D.nx} σ2 H2)
noncomputable def jY(fp:z7)(h:Heap):h_:=fp.filterMap λb=>(h.get? b).map λo=>(b,o)
def lR{fp:z7}{h:Heap}{b:Addr}{o:Obj}(hb:b∈fp)(e:h.get? b=some o):(b,o)∈jY fp h:=z4v.mpr ⟨b,hb,by rw[e];rfl⟩
def C4{fp:z7}{h:Heap}{p:Addr×Obj}(hp:p∈jY fp h):p.1∈fp/\h.get? p.1=some p.2:=by
 obtain⟨b,hb,e⟩:=z4v.mp hp;cases q:h.get? b with
 |none=>rw[q]at e;cases e
 |some o=>rw[q]at e;have e':(b,o)=p:=z7f e;subst e';exact⟨hb,q⟩
def Inv.pinned{G_:h_}{σ:St}{H:Hp}{s:Shared}{fp:z7}(I:Inv X G_ σ H s)(hf:∀b∈fp,cE X G_ H b)(ho:∀b∈fp,∃o,s.heap.get? b=some o/\∀v,o.data≠.cell v):Inv X (G_++jY fp s.heap) σ H s:=
 I.pins_of λp hp=>(z7g.mp hp).elim (λz=>I.pin p (z9t _ z)) λz=>by obtain⟨hb,e⟩:=C4 z;obtain⟨f0,f1,f2,_⟩:=hf p.1 hb;obtain⟨o,e',d⟩:=ho p.1 hb;rw[e]at e';cases e';exact⟨e,f0,f1,f2,d⟩
def Inv.unpinned{G_ pl:h_}{σ:St}{H:Hp}{s:Shared}(I:Inv X (G_++pl) σ H s):Inv X G_ σ H s:=I.pins_of λp hp=>I.pin p (z9t _ (z8i _ hp))
def fZ{iter:Expr}{body:z9}{wi:TI}{g:TG}{tb:TS}{pos:Pos}(hp:PassesOwn (model X.prog X.w) X.A X.env X.xe)(hc:X.calm=true)(hi:PI X tg iter wi)(hg:PG X tg g)(hb:PSs X body tb)(hs:(∀x,foldedSetIterable iter X.env x=pure x)<|>Q0):PS X (.For tg iter body [] pos) (C3 wi g tb):=by
 intro G_ s σ H D I h;refine wpAny_For (thn (hi G_ s σ H _ I h) λv s1 h1=>thn h1 λitv s2 h2=>?_) hs;obtain⟨it,fp,tn,J,H2,e,I2,T,st2,f2,W,⟨m0,w0⟩,turn⟩:=h2;subst e;have stat:∀{H':Hp},(∀b∈fp,H' b=none)->∀b∈fp,cE X G_ H' b:=λhn b hb=>⟨hn b hb,(f2 b hb).2⟩
 refine codeAny_forLoop_any (λn s'=>∃i σ' H',Inv X G_ σ' H' s'/\tn i s'.heap/\(∀b∈fp,H' b=none)/\W i n σ' H') ?_ m0 ⟨0,σ,H2,I2,st2,λb hb=>(f2 b hb).1,w0⟩;rintro n s3 ⟨i,σ3,H3,I3,st3,fr3,w3⟩;rcases turn i n σ3 H3 w3 with⟨stop,qn⟩|⟨go,N,hN,step⟩
 ·refine z5n hp (thn (T.done X rfl rfl rfl hc i G_ s3 σ3 H3 X.xe I3 (stat fr3) st3 stop) λr s4 y0=>?_)
  obtain⟨hr,I4⟩:=y0;subst hr;exact z5m ⟨σ3,H3,I4,qn⟩
 ·refine z5n hp (thn (T.item X rfl rfl rfl hc i G_ s3 σ3 H3 X.xe I3 (stat fr3) st3 go) λr s4 y0=>?_)
  obtain⟨u,hr,h4⟩:=y0;subst hr;refine z5n hp (thn h4 λ_ s5 y0=>?_);obtain⟨x,H5,I5,r5,y5,st5,fr5⟩:=y0;have I5':=I5.pinned (stat fr5) (T.obj _ _ st5);refine z5n hp (thn (hg _ s5 σ3 H5 x u _ I5' r5 (step x H5 y5)) λ_ s6 y0=>?_);obtain⟨σ6,H6,I6,q6⟩:=y0;refine z5n hp (thn (hb _ s6 σ6 H6 _ I6 q6) λf s7 q7=>?_);have again:∀{σ7:St} {H7:Hp},Inv X (G_++jY fp s5.heap) σ7 H7 s7->N σ7 H7->∃m,m<n/\∃i σ' H',Inv X G_ σ' H' s7/\tn i s7.heap/\(∀b∈fp,H' b=none)/\W i m σ' H':=λ{σ7 H7} I7 n7=>by obtain⟨m',hm,w7⟩:=hN σ7 H7 n7;refine⟨m',hm,i+1,σ7,H7,I7.unpinned,T.keep _ _ _ st5 λb hb o e=>(I7.pin (b,o) (z9t _ (z9t _ (lR hb e)))).1,λb hb=>?_,w7⟩;obtain⟨o,e,d⟩:=T.obj _ _ st5 b hb;exact(I7.pin (b,o) (z9t _ (z9t _ (lR hb e)))).2.1
  cases f with
  |next=>obtain⟨σ7,H7,I7,n7⟩:=q7;exact again I7 n7
  |cont=>obtain⟨σ7,H7,I7,n7⟩:=q7;exact again I7 n7
  |brk=>obtain⟨σ7,H7,I7,q7⟩:=q7;exact⟨σ7,H7,I7.unpinned,q7⟩
  |ret v=>obtain⟨x7,σ7,H7,I7,r7,q7⟩:=q7;exact⟨x7,σ7,H7,I7.unpinned,r7,q7⟩
end
def u8{K:K0}{a:Addr}{xs:l_}{g:TG}{tb:TS}{D:Ends}{σ:St}{H:Hp}(Pv:Nat->St->Hp->Prop)(h0:Pv 0 σ H)(hl:∀i σ H,i<=xs.length->Pv i σ H->SqL K H a xs)(hs:∀i x σ H,xs[i]?=some x->Pv i σ H->g x σ H λσ2 H2=>tb {D with nx:=Pv (i+1),ct:=Pv (i+1),bk:=D.nx} σ2 H2)(hd:∀σ H,Pv xs.length σ H->D.nx σ H):
  ∃W:Nat->Nat->St->Hp->Prop,(∃m,W 0 m σ H)/\∀i m σ H,W i m σ H ->
    ((Itl K a).stop i H/\D.nx σ H)\/((Itl K a).go i H/\∃N:St->Hp->Prop,(∀σ' H',N σ' H'->∃m',m'<m/\W (i+1) m' σ' H')/\∀x H',(Itl K a).yld i H x H'->g x σ H' λσ2 H2=>tb {D with nx:=N,ct:=N,bk:=D.nx} σ2 H2):=by
 refine⟨λi m σ H=>m=xs.length-i/\i<=xs.length/\Pv i σ H,⟨xs.length,by simp,z7a _,h0⟩,?_⟩;rintro i m σ H ⟨rfl,hi,p⟩;have q:=hl i σ H hi p;by_cases hlt:i<xs.length
 ·refine .inr ⟨⟨xs,xs[i],q,by simp[hlt]⟩,Pv (i+1),λσ' H' p'=>⟨xs.length-(i+1),by ext,rfl,hlt,p'⟩,λx H' y=>?_⟩
  obtain⟨e,y⟩:=y;subst e;exact hs i x σ _ (y xs q) p
 ·have e:i=xs.length:=by ext
  subst e;exact .inl ⟨⟨xs,q,z9i _⟩,hd σ H p⟩
def u9{lo:Int}{n:Nat}{g:TG}{tb:TS}{D:Ends}{σ:St}{H:Hp}(Pv:Nat->St->Hp->Prop)(h0:Pv 0 σ H)(hs:∀i σ H,i<n->Pv i σ H->g (.int (lo+i)) σ H λσ2 H2=>tb {D with nx:=Pv (i+1),ct:=Pv (i+1),bk:=D.nx} σ2 H2)(hd:∀σ H,Pv n σ H->D.nx σ H):
  ∃W:Nat->Nat->St->Hp->Prop,(∃m,W 0 m σ H)/\∀i m σ H,W i m σ H ->
    ((Itr lo n).stop i H/\D.nx σ H)\/((Itr lo n).go i H/\∃N:St->Hp->Prop,(∀σ' H',N σ' H'->∃m',m'<m/\W (i+1) m' σ' H')/\∀x H',(Itr lo n).yld i H x H'->g x σ H' λσ2 H2=>tb {D with nx:=N,ct:=N,bk:=D.nx} σ2 H2):=by
 refine⟨λi m σ H=>m=n-i/\i<=n/\Pv i σ H,⟨n,by simp,z7a _,h0⟩,?_⟩;rintro i m σ H ⟨rfl,hi,p⟩;by_cases hlt:i<n
 ·refine .inr ⟨hlt,Pv (i+1),λσ' H' p'=>⟨n-(i+1),by ext,rfl,hlt,p'⟩,λx H' y=>?_⟩
  obtain⟨e,y⟩:=y;subst e y;exact hs i σ _ hlt p
 ·have e:i=n:=by ext
  subst e;exact .inl ⟨z9i _,hd σ H p⟩
abbrev R2:=V->V->Hp->VK->Prop
def OpR(X:Cx)(f:Value->Value->Sem Value)(r:R2):Prop:=
 ∀(G_:h_) (s:Shared) (σ:St) (H:Hp) (x y:V) (v u:Value) (Q:VK),Inv X G_ σ H s->RelV x v->RelV y u->r x y H Q ->
   wpAny (model X.prog X.w) X.A (f v u) (EP X G_ σ Q) X.xe s
def UnR(X:Cx)(f:Value->Sem Value)(r:V->Hp->VK->Prop):Prop:=
 ∀(G_:h_) (s:Shared) (σ:St) (H:Hp) (x:V) (v:Value) (Q:VK),Inv X G_ σ H s->RelV x v->r x H Q ->
   wpAny (model X.prog X.w) X.A (f v) (EP X G_ σ Q) X.xe s
def di(X:Cx)(f:Value)(r:l_->Hp->VK->Prop):Prop:=
 ∀(G_:h_) (s:Shared) (σ:St) (H:Hp) (xs:l_) (us:z5) (Q:VK),Inv X G_ σ H s->Vals xs us->r xs H Q ->
   wpAny (model X.prog X.w) X.A (call f us) (EP X G_ σ Q) X.xe s
def C5(X:Cx)(r:V->Hp->(Bool->Hp->Prop)->Prop):Prop:=
 ∀(G_:h_) (s:Shared) (σ:St) (H:Hp) (x:V) (v:Value) (Q:Bool->Hp->Prop),Inv X G_ σ H s->RelV x v->r x H Q ->
   wpAny (model X.prog X.w) X.A (truthy v) (TP X G_ σ Q) X.xe s
def tOp(r:R2)(ta tb:TE):TE:=λσ H Q=>ta σ H λx H1=>tb σ H1 λy H2=>r x y H2 Q
def tUn(r:V->Hp->VK->Prop)(ta:TE):TE:=λσ H Q=>ta σ H λx H1=>r x H1 Q
def rI(C:Int->Int->Prop)(g:Int->Int->V):R2:=λx y H Q=>∃i j,x=.int i/\y=.int j/\C i j/\Q (g i j) H
def rI0(g:Int->Int->V):R2:=λx y H Q=>∃i j,x=.int i/\y=.int j/\Q (g i j) H
def rU(g:Int->V):V->Hp->VK->Prop:=λx H Q=>∃i,x=.int i/\Q (g i) H
section
variable {X:Cx}{a b:Expr}{ta tb:TE}{pos:Pos}
def oT(ha:PE X a ta)(hb:PE X b tb){G_:h_}{s:Shared}{σ:St}{H:Hp}{R:V->V->Hp->Prop}(I:Inv X G_ σ H s)(h:ta σ H λx H1=>tb σ H1 λy H2=>R x y H2){Q:Value->Shared->Prop}{f:Value->Value->Sem Value}(hf:∀v u s2 x y H2,Inv X G_ σ H2 s2->RelV x v->RelV y u->R x y H2->wpAny (model X.prog X.w) X.A (f v u) Q X.xe s2):
  wpAny (model X.prog X.w) X.A (eval a X.env) (λv y1=>wpAny (model X.prog X.w) X.A (eval b X.env) (λu y3=>wpAny (model X.prog X.w) X.A (f v u) Q X.xe y3) X.xe y1) X.xe s:=by
 refine b9 (ha G_ s σ H _ I h) λv s1 x H1 I1 r1 q1=>?_
 refine b9 (hb G_ s1 σ H1 _ I1 q1) λu s2 y H2 I2 r2 q2=>?_
 exact hf v u s2 x y H2 I2 r1 r2 q2
def jZ{op:Operator}{r:R2}(ho:OpR X (binaryOp op) r)(ha:PE X a ta)(hb:PE X b tb):PE X (.BinOp a op b pos) (tOp r ta tb):=by intro G_ s σ H Q I h;exact wpAny_BinOp (oT ha hb I h λv u s2 x y H2 I2 rx ry q=>ho G_ s2 σ H2 x y v u Q I2 rx ry q)
def C6{op:UnaryOp}{r:V->Hp->VK->Prop}(ho:UnR X (unaryOp op) r)(ha:PE X a ta):PE X (.UnaryOp op a pos) (tUn r ta):=by intro G_ s σ H Q I h;exact UnaryOp_ (b9 (ha G_ s σ H _ I h) λv s1 x H1 I1 r1 q1=>ho G_ s1 σ H1 x v Q I1 r1 q1)
def opI{f:Value->Value->Sem Value}{C:Int->Int->Prop}{g:Int->Int->Int}(rule:∀(i j:Int) (t u:Tok) (s:Shared) (Q:Value->Shared->Prop) (E:Value->Shared->Prop),C i j->Q (.int (g i j) s.toks) {s with toks:=s.toks+1}->wpAny (model X.prog X.w) X.A (f (.int i t) (.int j u)) Q E s):
  OpR X f (rI C λi j=>.int (g i j)):=by
 intro G_ s σ H x y v u Q I rx ry h;obtain⟨i,j,rfl,rfl,hc,q⟩:=h;obtain⟨t,rfl⟩:=rx;obtain⟨t',rfl⟩:=ry;exact rule i j t t' s _ _ hc ⟨.int (g i j),H,I.tok _,⟨_,rfl⟩,q⟩
def ua{f:Value->Value->Sem Value}{g:Int->Int->Int}(rule:∀(i j:Int) (t u:Tok) (s:Shared) (Q:Value->Shared->Prop) (E:Value->Shared->Prop),Q (.int (g i j) s.toks) {s with toks:=s.toks+1}->wpAny (model X.prog X.w) X.A (f (.int i t) (.int j u)) Q E s):
  OpR X f (rI0 λi j=>.int (g i j)):=by
 intro G_ s σ H x y v u Q I rx ry h;obtain⟨i,j,rfl,rfl,q⟩:=h;obtain⟨t,rfl⟩:=rx;obtain⟨t',rfl⟩:=ry;exact rule i j t t' s _ _ ⟨.int (g i j),H,I.tok _,⟨_,rfl⟩,q⟩
def lS{f:Value->Value->Sem Value}{g:Int->Int->Bool}(rule:∀(i j:Int) (t u:Tok) (s:Shared) (Q:Value->Shared->Prop) (E:Value->Shared->Prop),Q (.bool (g i j)) s->wpAny (model X.prog X.w) X.A (f (.int i t) (.int j u)) Q E s):
  OpR X f (rI0 λi j=>.bl (g i j)):=by
 intro G_ s σ H x y v u Q I rx ry h;obtain⟨i,j,rfl,rfl,q⟩:=h;obtain⟨t,rfl⟩:=rx;obtain⟨t',rfl⟩:=ry;exact rule i j t t' s _ _ ⟨.bl (g i j),H,I,rfl,q⟩
def ub:OpR X (binaryOp .Add) (rI0 λi j=>.int (i+j)):=ua λ_ _ _ _ _ _ _ q=>add_int q
def uc:OpR X (binaryOp .Sub) (rI0 λi j=>.int (i-j)):=ua λ_ _ _ _ _ _ _ q=>sub_int q
def C7:OpR X (binaryOp .Mod) (rI (λ_ j=>0<j) λi j=>.int (i % j)):=opI λi j _ _ _ _ _ hc q=>by have h1:(0:Int)<j:=hc;exact mod_int' ∅ (by rw[Int.fmod_eq_emod_of_nonneg i ∅];exact q)
def unI{f:Value->Sem Value}{g:Int->Int}(rule:∀(i:Int) (t:Tok) (s:Shared) (Q:Value->Shared->Prop) (E:Value->Shared->Prop),Q (.int (g i) s.toks) {s with toks:=s.toks+1}->wpAny (model X.prog X.w) X.A (f (.int i t)) Q E s):
  UnR X f (rU λi=>.int (g i)):=by
 intro G_ s σ H x v Q I rx h;obtain⟨i,rfl,q⟩:=h;obtain⟨t,rfl⟩:=rx;exact rule i t s _ _ ⟨.int (g i),H,I.tok _,⟨_,rfl⟩,q⟩
def C8:UnR X (unaryOp .USub) (rU λi=>.int (-i)):=unI λ_ _ _ _ _ q=>neg_int q
end
section
variable {X:Cx}{a b c:Expr}{ta tb tc:TE}{pos:Pos}
def oU{G_:h_}{σ:St}{H:Hp}{s:Shared}{Q:VK}{k k':Bool}(I:Inv X G_ σ H s)(q:Q (.bl k) H)(e:k=k'):EP X G_ σ Q (.bool k') s:=by subst e;exact⟨.bl k,H,I,rfl,q⟩
def ud:OpR X (compareOp .Lt) (rI0 λi j=>.bl (decide (i<j))):=lS λ_ _ _ _ _ _ _ q=>lt_int q
def oV:OpR X (compareOp .LtE) (rI0 λi j=>.bl (decide (i<=j))):=lS λ_ _ _ _ _ _ _ q=>le_int q
def oW:OpR X (compareOp .Gt) (rI0 λi j=>.bl (decide (j<i))):=lS λ_ _ _ _ _ _ _ q=>gt_int q
def ue:OpR X (compareOp .GtE) (rI0 λi j=>.bl (decide (j<=i))):=lS λ_ _ _ _ _ _ _ q=>ge_int q
def C9:OpR X (compareOp .In) (λx y H Q=>∃i j,x=.str i/\y=.str j/\Q (.bl (!(Builtin.Str.occurrences j i 0 j.length 1).isEmpty)) H):=by intro G_ s σ H x y v u Q I rx ry h;obtain⟨i,j,rfl,rfl,q⟩:=h;obtain⟨t,rfl⟩:=rx;obtain⟨t',rfl⟩:=ry;exact in_str (oU I q rfl)
def uf:OpR X (compareOp .Is) (λx y H Q=>y=.non/\Q (.bl (decide (x=.non))) H):=by
 intro G_ s σ H x y v u Q I rx ry h;obtain⟨rfl,q⟩:=h;cases ry;refine is_none_gen (oU I q ?_);cases x<;>first
  |(cases rx;rfl)
  |(obtain⟨t,rfl⟩:=rx;rfl)
def oX:OpR X (compareOp .IsNot) (λx y H Q=>y=.non/\Q (.bl (!decide (x=.non))) H):=by
 intro G_ s σ H x y v u Q I rx ry h;obtain⟨rfl,q⟩:=h;cases ry;refine isnot_none_gen (oU I q ?_);cases x<;>first
  |(cases rx;rfl)
  |(obtain⟨t,rfl⟩:=rx;rfl)
noncomputable def Ca:HO->Bool
 |.lst _=>true
 |.ins _ _ _=>true
 |_=>false
def j4{G_:h_}{s:Shared}{σ:St}{H:Hp}{a:Addr}{o:HO}(I:Inv X G_ σ H s)(h:H a=some o)(p:Ca o=true):∃ob,s.heap.get? a=some ob/\ob.cls≠.type "tuple":=by
 cases o with
 |lst xs=>obtain⟨_,its,n,_,e⟩:xs.length<=sizeLine/\∃(its:z5) (n:Nat),Vals xs its/\s.heap.get? a=some {cls:=.type "list",data:=.seq its.toArray n}:=I.hok a _ h;exact⟨_,e,(by show Value.type "list" ≠ .type "tuple";decide +kernel)⟩
 |ins C dx fs=>have x:=I.hok a _ h;obtain⟨_,_,_,e,_⟩:=x;exact⟨_,e,(by show Value.ref C≠.type "tuple";exact λz=>by cases z)⟩
 |_=>exact absurd (show false=true from p) z8r
def cR(b:Expr){op:CmpOp}(h:op≠.In<|>J8)(h2:op≠.NotIn<|>J8):behindInMarks op b=false:=by
 have e1:(op==CmpOp.In)=false:=by cases op<;>first|rfl|exact absurd rfl h
 have e2:(op==CmpOp.NotIn)=false:=by cases op<;>first|rfl|exact absurd rfl h2
 cases b<;>simp[behindInMarks,e1,e2]
def ug{op:CmpOp}{r:R2}(ho:OpR X (compareOp op) r)(ha:PE X a ta)(hb:PE X b tb)(hm:behindInMarks op b=false):PE X (.Compare a [op] [b] pos) (tOp r ta tb):=by intro G_ s σ H Q I h;exact wpAny_Compare1 (oT ha hb I h λv u s2 x y H2 I2 rx ry q=>ho G_ s2 σ H2 x y v u Q I2 rx ry q) hm
def Cb(t:TE):TT:=λσ H Q=>t σ H λx H'=>∃k,x=.bl k/\Q k H'
def oY{op:CmpOp}{r:R2}(ho:OpR X (compareOp op) r)(ha:PE X a ta)(hb:PE X b tb)(hm:behindInMarks op b=false):PT X (.Compare a [op] [b] pos) (Cb (tOp r ta tb)):=by
 intro G_ s σ H Q I h;refine wpAny_isTrue_Compare1 (b9 (ha G_ s σ H _ I h) λv s1 x H1 I1 r1 q1=>b9 (hb G_ s1 σ H1 _ I1 q1) λu s2 y H2 I2 r2 q2=>b9 (ho G_ s2 σ H2 x y v u _ I2 r1 r2 q2) λc s3 z H3 I3 r3 ⟨k,e,q3⟩=>?_) hm
 subst e;cases r3;exact z6g ⟨H3,I3,q3⟩
def uh(r r':R2)(ta tb tc:TE):TE:=λσ H Q=>ta σ H λx H1=>tb σ H1 λy H2=>r x y H2 λz H3=>∃k,z=.bl k /\
 (if k=true then tc σ H3 λw' H4=>r' y w' H4 Q else Q (.bl false) H3)
def Cc{op op':CmpOp}{r r':R2}(ho:OpR X (compareOp op) r)(ho':OpR X (compareOp op') r')(ha:PE X a ta)(hb:PE X b tb)(hc:PE X c tc)(hm:lastMarks [op,op'] [b,c]=false<|>Q3):PE X (.Compare a [op,op'] [b,c] pos) (uh r r' ta tb tc):=by
 intro G_ s σ H Q I h;refine Compare_chain (b9 (ha G_ s σ H _ I h) λv s1 x H1 I1 r1 q1=>chain_link (b9 (hb G_ s1 σ H1 _ I1 q1) λu s2 y H2 I2 r2 q2=>b9 (ho G_ s2 σ H2 x y v u _ I2 r1 r2 q2) λd s3 z H3 I3 r3 ⟨k,e,q3⟩=>?_)) hm
 subst e;cases r3;refine z6g ?_;cases k with
 |false=>exact ite_ff ⟨.bl false,H3,I3,rfl,q3⟩
 |true=>exact ite_tt (chain_last (b9 (hc G_ s3 σ H3 _ I3 q3) λw' s4 z' H4 I4 r4 q4=>ho' G_ s4 σ H4 y z' u w' Q I4 r2 r4 q4))
def oZ(K:K0)(x:V)(H:Hp)(k:Bool):Prop:=
 match x with
 |.non=>k=false
 |.bl b=>k=b
 |.int i=>k=(i != 0)
 |.str y=>y.length<=sizeLine/\k=((y.length:Int) != 0)
 |.byt y=>y.size<=sizeLine/\k=((y.size:Int) != 0)
 |.ref p=>(∃xs,SqL K H p xs/\k = !xs.isEmpty)\/(∃xs,SqT K H p xs/\k = !xs.isEmpty)\/∃kvs,H p=some (.dK kvs)/\k = !kvs.isEmpty
 |_=>False
def Cd{κ:Type}{kvs:List (κ×V)}{vs:List (κ×Value)}(r:KV kvs vs):(!vs.isEmpty) = !kvs.isEmpty:=by cases r<;>rfl
def ui{xs:l_}{its:z5}(r:Vals xs its):(!its.toArray.isEmpty) = !xs.isEmpty:=by cases r<;>simp
def ia:(sizeLine:Nat)<2 ^ 63:=by rw[z7y];decide
def Ce:C5 X (λx H Q=>∃k,oZ X.K x H k/\Q k H):=by
 intro G_ s σ H x v Q I rx h;obtain⟨k,e,q⟩:=h;have hl:=ia;have hs:sizeLine=16777216:=z7y;cases x with
 |non=>cases rx;have e':k=false:=e;subst e';exact truthy_none ⟨H,I,q⟩
 |bl b=>cases rx;have e':k=b:=e;subst e';exact z6g ⟨H,I,q⟩
 |int i=>obtain⟨t,rfl⟩:=rx;have e':k=(i != 0):=e;subst e';exact PySem.P.truthy_int ⟨H,I,q⟩
 |str y=>obtain⟨t,rfl⟩:=rx;obtain⟨hy,e'⟩:y.length<=sizeLine/\k=((y.length:Int) != 0):=e;subst e';exact PySem.P.truthy_str ∅ ⟨H,I.tok _,q⟩
 |byt y=>obtain⟨t,rfl⟩:=rx;obtain⟨hy,e'⟩:y.size<=sizeLine/\k=((y.size:Int) != 0):=e;subst e';exact W.truthy_bytes ∅ ⟨H,I.tok _,q⟩
 | ref p=>
   cases rx;have e':(∃xs,SqL X.K H p xs/\k = !xs.isEmpty)\/(∃xs,SqT X.K H p xs/\k = !xs.isEmpty)\/∃kvs,H p=some (.dK kvs)/\k = !kvs.isEmpty:=e;rcases e' with⟨xs,hx,e'⟩|⟨xs,hx,e'⟩|⟨kvs,hx,e'⟩
   ·subst e'
    obtain⟨its,r,pl,hz⟩:=I.list hx;have hlen:=r.length;exact wpAny_truthy_list pl.isList (by simp only[z9q];ext) ⟨H,I.tok _,by rw[ui r];exact q⟩
   ·subst e'
    obtain⟨its,r,pl,hz⟩:=I.tuple hx;have hlen:=r.length;exact truthy_tuple pl (by simp only[z9q];ext) ⟨H,I.tok _,by rw[ui r];exact q⟩
   ·subst e'
    obtain⟨hz,hS,vs,r,m⟩:kvs.length<=sizeLine/\(p==sysModules)=false/\∃vs,KV kvs vs/\s.heap.DictOf (dh X.prog X.w) p vs:=I.hok p _ hx;have hlen:kvs.length=vs.length:=z3a r;exact wpAny_truthy_dict hS m ∅ ⟨H,I.tok _,by rw[Cd r];exact q⟩
 |_=>exact(show False from e).elim
def uj(ha:PE X a ta)(he:∀whole,isTrue a X.env whole=(do let v <- whole;standAt a.pos;holding [v] (truthy v))):
  PT X a (λσ H Q=>ta σ H λx H'=>∃k,oZ X.K x H' k/\Q k H'):=by
 intro G_ s σ H Q I h;exact isTrue_plain (b9 (ha G_ s σ H _ I h) λv s1 x H1 I1 r1 q1=>Ce G_ s1 σ H1 x v Q I1 r1 q1) (he _)
def uk:OpR X (binaryOp .Add) (λx y H Q=>∃i j,x=.str i/\y=.str j/\i.length+j.length<=sizeLine/\Q (.str (i++j)) H):=by intro G_ s σ H x y v u Q I rx ry h;obtain⟨i,j,rfl,rfl,hz,q⟩:=h;obtain⟨t,rfl⟩:=rx;obtain⟨t',rfl⟩:=ry;exact add_str (λt' tk=>⟨.str (i++j),H,I.tok _,⟨_,rfl⟩,q⟩) hz
def dH{x:V}{us:z5}(r:Vals [x] us):∃u,us=[u]/\RelV x u:=by
 cases r with
 |cons r1 r2=>cases r2;exact⟨_,rfl,r1⟩
def pb{x y:V}{us:z5}(r:Vals [x,y] us):∃u w',us=[u,w']/\RelV x u/\RelV y w':=by
 cases r with
 | cons r1 r2=>
   cases r2 with
   |cons r3 r4=>cases r4;exact⟨_,_,rfl,r1,r3⟩
def ul(hc:X.calm=true):di X (.builtin "max") (λxs H Q=>∃i j,xs=[.int i,.int j]/\Q (.int (if j > i then j else i)) H):=by
 intro G_ s σ H xs us Q I r h;obtain⟨i,j,rfl,q⟩:=h;obtain⟨u,w',rfl,⟨t,rfl⟩,⟨t',rfl⟩⟩:=pb r;refine max_two_ints (I.ok.hd hc) λh' tk k=>⟨_,H,I.kept k,?_,q⟩
 by_cases hj:j > i
 ·rw[if_pos hj,if_pos hj];exact⟨_,rfl⟩
 ·rw[if_neg hj,if_neg hj];exact⟨_,rfl⟩
def Cf(hc:X.calm=true):di X (.builtin "min") (λxs H Q=>∃i j,xs=[.int i,.int j]/\Q (.int (if j<i then j else i)) H):=by
 intro G_ s σ H xs us Q I r h;obtain⟨i,j,rfl,q⟩:=h;obtain⟨u,w',rfl,⟨t,rfl⟩,⟨t',rfl⟩⟩:=pb r;refine min_two_ints (I.ok.hd hc) λh' tk k=>⟨_,H,I.kept k,?_,q⟩
 by_cases hj:j<i
 ·rw[if_pos hj,if_pos hj];exact⟨_,rfl⟩
 ·rw[if_neg hj,if_neg hj];exact⟨_,rfl⟩
def Cg:di X (.type "int") (λxs H Q=>(∃i,xs=[.int i]/\Q (.int i) H)\/∃k,xs=[.bl k]/\Q (.int (if k then 1 else 0)) H):=by
 intro G_ s σ H xs us Q I r h;rcases h with⟨i,rfl,q⟩|⟨k,rfl,q⟩
 ·obtain⟨u,rfl,t,rfl⟩:=dH r
  exact call_int_int ⟨.int i,H,I,⟨_,rfl⟩,q⟩
 ·obtain⟨u,rfl,r1⟩:=dH r
  cases r1;exact call_int_bool ⟨.int (if k then 1 else 0),H,I.tok _,⟨_,rfl⟩,q⟩
def pe:di X (.type "str") (λxs H Q=>∃i,xs=[.int i]/\i.natAbs.log2<1920/\Q (.str (toString i)) H):=by intro G_ s σ H xs us Q I r h;obtain⟨i,rfl,hz,q⟩:=h;obtain⟨u,rfl,t,rfl⟩:=dH r;exact PySem.P.str_of_int hz ⟨.str _,H,I.tok _,⟨_,rfl⟩,q⟩
end
structure ObjM (h:Heap) (x dx C:Addr) (mA:Str->i_):Prop where
 obj:h.get? x=some (W.instObj C dx)
 ns:h.Ns1 dx mA
 ne:dx≠x
def Ch{h:Heap}{dx:Addr}{mA:Str->i_}(n:h.Ns1 dx mA):∃od,h.get? dx=some od/\∀name,W.lookIn name od=some (mA name):=by
 obtain⟨o,es,ep,ho,hd,hk,_,hm⟩:=n;refine⟨o,ho,λname=>?_⟩;have e:=hm name;unfold nsFind findBy at e;rw[<- Array.find?_toList]at e;unfold W.lookIn;rw[hd];dsimp only
 set_option tactic.hygienic true in split
 ·rename_i y q
  rw[q]at e;exact z8w some e
 ·rename_i q
  rw[q]at e;have a:es.toList.any (·.refKey)=false:=by rw[List.any_eq_false];intro y hy;obtain⟨z,t,hkey⟩:=hk y (Array.mem_toList_iff.mp hy);simp[DictEntry.refKey,hkey]
  have a':¬es.toList.any (·.refKey)=true:=by rw[a];exact z8r
  rw[if_neg a'];exact z8w some e
def ObjM.look{h:Heap}{x dx C:Addr}{mA:Str->i_}(I:ObjM h x dx C mA):∃od,W.InstAt h x (W.instObj C dx) C (some od)/\∀name,W.lookIn name od=some (mA name):=
 let⟨od,ho,hl⟩:=Ch I.ns
 ⟨od,⟨I.obj,rfl,rfl,ho⟩,hl⟩
section
variable {prog:Program}{w:World}{A:Around}{E:Value->Shared->Prop}{s:Shared}{K:K0}{x dx C f:Addr}{mA:Str->i_}{name:Str}{v:Value}
def Ci{expr:Bool}{Q:Value->Shared->Prop}(X:K.In s.heap)(I:ObjM s.heap x dx C mA)(hg:W.plainGet K C name=true)(hh:W.hasDictIn K C=true)(ha:W.findIn K (.ref C) name=some none)(hv:mA name=some v)(hv':W.handedIn v=true)(h:Q v {s with toks:=s.toks+1}):
  wpAny (model prog w) A (getAttr (.ref x) name expr) Q E s:=by
 obtain⟨od,J,hl⟩:=I.look;exact W.get_value X J (z4r hg).1 (W.findObj_own hh ha rfl (by rw[hl,hv])) hv' h
def Cj{pl:Sem Bool}{Q:Value×z5->Shared->Prop}(X:K.In s.heap)(I:ObjM s.heap x dx C mA)(hg:W.plainGet K C name=true)(hf:W.findIn K (.ref C) name=some (some (.ref f)))(ht:W.isFn K (.ref f)=true)(hv:mA name=none)(h:Q (.ref f,[.ref x]) s):
  wpAny (model prog w) A (getMethod (.ref x) name pl) Q E s:=by
 obtain⟨od,J,hl⟩:=I.look;exact W.method_fn X J (z4r hg).1 (z4r hg).2 hf (z7n.mp ht) (by show(W.lookIn name od).map (·.isSome)=some false;rw[hl,hv];rfl) h
def um{ns:z0}{Q:Unit->Shared->Prop}(X:K.In s.heap)(I:ObjM s.heap x dx C mA)(hs:W.findIn K (.ref C) "__setattr__"=some (some (.builtin "object.__setattr__")))(hp:W.plainOver K C=true)(ht:W.takerIn K C name=some none)(hh:W.hasDictIn K C=true)(hw:PySem.Within mA ns)(hsz:ns.length<=sizeLine)(h:∀h',ObjM h' x dx C (λy=>if y=name then some v else mA y)->Heap.SameBut dx s.heap h'->Q () {s with heap:=h',toks:=s.toks+2}):
  wpAny (model prog w) A (setAttr (.ref x) name v) Q E s:=by
 obtain⟨od,J,hl⟩:=I.look;refine W.set_plain X J hs (W.osa_open (s:={s with toks:=s.toks+1}) (r:=none) X J hp ht λb=>?_);obtain⟨cd,hc,hd'⟩:=W.any_some hh;have hx:s.heap.get? x=some ⟨.ref C,some dx,.plain,#[]⟩:=I.obj;refine z9o (z8n (z9o (z9o (wpAny_loadPart hx (z9o (W.Looks.here (s:={s with toks:=s.toks+1}) (W.looks_clsIn X hc) ?_))))));rw[hd'];refine z8n (a:=some dx) (z9o (z8n (z9o ?_)));refine wpAny_nsSet1 (s:={s with toks:=s.toks+1}) I.ns λh' hn2 hs2=>?_
 obtain⟨oD,esD,epD,hoD,hdD,hcD⟩:=hn2.count (PySem.Within.cons name v hw);refine z9o (wpAny_lookBehind hoD (by rw[hdD];exact pastItsLine_dict (z7u hcD (by rw[z9e];ext))) ?_);exact z8n (h _ ⟨(hs2.2 _ (Ne.symm I.ne)).trans I.obj,hn2,I.ne⟩ hs2)
def uo{R:Result->Shared->Prop}{vs:z5}{kw:List (Str×Value)}(X:K.In s.heap)(hm:W.makesIn K C=true)(hi:W.findIn K (.ref C) "__init__"=some (some (.ref f)))(hf:W.typeIn K (.ref f)=some (.type "function"))(h:codeAny (model prog w) (A.under (.builtin "type.__call__" ⟨.ref C::vs,kw⟩)) (.call (.ref f) ⟨.ref (s.heap.objs.size+1)::vs,kw⟩) (W.InitBack (s.heap.objs.size+1) R)
   {s with heap:=(s.heap.push W.emptyDict).push (W.instObj C s.heap.objs.size)}):
  codeAny (model prog w) A (.call (.ref C) ⟨vs,kw⟩) R s:=by
 obtain⟨hh,g,d,t,os⟩:=s;exact W.make_core (W.makes_of X hm) (W.looks_findIn X hi) (λself=>W.bind_fn X self hf) (.inl rfl) h
end
noncomputable def cF(f:Str)(v:V):List (Str×V)->List (Str×V)
 |[]=>[(f,v)]
 |(g,x)::r=>if g=f then(g,v)::r else(g,x)::cF f v r
theorem uq(f g:Str)(v:V):∀fs:List (Str×V),(cF f v fs).lookup g=if g=f then some v else fs.lookup g
 | []=>by
   show List.lookup g [(f,v)]=_;by_cases h:g=f
   ·have hb:(g==f)=true:=z7n.mpr h
    simp only[List.lookup,hb,if_pos h]
   ·have hb:(g==f)=false:=z7i.mpr h
    simp only[List.lookup,hb,if_neg h]
 | (k, x)::r=>by
   have ih:=uq f g v r;rw[show cF f v ((k,x)::r)=(if k=f then(k,v)::r else(k,x)::cF f v r)from rfl];by_cases hk:k=f
   ·rw[if_pos hk]
    by_cases h:g=k
    ·have hb:(g==k)=true:=z7n.mpr h
     simp only[List.lookup,hb,if_pos (h.trans hk)]
    ·have hb:(g==k)=false:=z7i.mpr h
     simp only[List.lookup,hb,if_neg (λe:g=f=>h (e.trans hk.symm))]
   ·rw[if_neg hk]
    by_cases h:g=k
    ·have hb:(g==k)=true:=z7n.mpr h
     simp only[List.lookup,hb,if_neg (λe:g=f=>hk (h.symm.trans e))]
    ·have hb:(g==k)=false:=z7i.mpr h
     simp only[List.lookup,hb];exact ih
theorem pj(f:Str)(v:V):∀fs:List (Str×V),f∈(cF f v fs).map (·.1)/\∀g,g∈fs.map (·.1)->g∈(cF f v fs).map (·.1)
 |[]=>⟨by simp[cF],λg h=>by simp at h⟩
 | (k, x)::r=>by
   obtain⟨i1,i2⟩:=pj f v r;rw[show cF f v ((k,x)::r)=(if k=f then(k,v)::r else(k,x)::cF f v r)from rfl];by_cases hk:k=f
   ·rw[if_pos hk]
    subst hk;exact⟨by simp,λg h=>by simpa using h⟩
   ·rw[if_neg hk]
    refine⟨?_,λg h=>?_⟩
    ·rw[z9n]
     exact z9d _ i1
    ·rw[z9n]at h ⊢
     rcases z9j.mp h with e|e
     ·exact z9j.mpr (.inl e)
     ·exact z9d _ (i2 g e)
theorem ur(f:Str)(v:V):∀fs:List (Str×V),(cF f v fs).length<=fs.length+1
 |[]=>by simp[cF]
 | (k,x)::r=>by
   have ih:=ur f v r;rw[show cF f v ((k,x)::r)=(if k=f then(k,v)::r else(k,x)::cF f v r)from rfl];by_cases hk:k=f
   ·rw[if_pos hk,z9e,z9e];ext
   ·rw[if_neg hk,z9e,z9e];ext
def RelO.some_of{v:V}{o:i_}(r:RelO (some v) o):∃u,o=some u/\RelV v u:=by
 cases o with
 |none=>exact(show False from r).elim
 |some u=>exact⟨u,rfl,r⟩
def RelO.none_of{o:i_}(r:RelO none o):o=none:=by
 cases o with
 |none=>rfl
 |some u=>exact(show False from r).elim
def Ck{v:V}{u:Value}(r:RelV v u):W.handedIn u=true:=by
 cases v with
 |non=>cases(show u=Value.none from r);rfl
 |bl b=>cases(show u=Value.bool b from r);rfl
 |int i=>obtain⟨t,e⟩:=(show ∃t,u=Value.int i t from r);cases e;rfl
 |str x=>obtain⟨t,e⟩:=(show ∃t,u=Value.str x t from r);cases e;rfl
 |byt b=>obtain⟨t,e⟩:=(show ∃t,u=Value.bytes b t from r);cases e;rfl
 |flt b=>obtain⟨t,e⟩:=(show ∃t,u=Value.float b t from r);cases e;rfl
 |ref a=>cases(show u=Value.ref a from r);rfl
 |ty n=>cases(show u=Value.type n from r);rfl
section
variable {P:Program}{w:World}{H:Hp}{h:Heap}{a C dx:Addr}{fs:List (Str×V)}
def pk(hok:HOk P w H h)(e:H a=some (.ins C dx fs)):∃mA,ObjM h a dx C mA/\(∀f,RelO (fs.lookup f) (mA f))/\PySem.Within mA (fs.map (·.1))/\fs.length<=1000/\H dx=some (.own a):=by obtain⟨d,z,ne,ob,mA,n,r,q⟩:=(show ObjOk P w H h a (.ins C dx fs)from hok a _ e);exact⟨mA,⟨ob,n,ne⟩,r,q,z,d⟩
end
structure Cls (K:K0) (C:Addr):Prop where
 pg:W.plainGet K C Str.empty=true
 hd:W.hasDictIn K C=true
 po:W.plainOver K C=true
 sa:W.findIn K (.ref C) "__setattr__"=some (some (.builtin "object.__setattr__"))
def Cls.get{K:K0}{C:Addr}(c:Cls K C)(f:Str):W.plainGet K C f=true:=c.pg
def NoAttr(K:K0)(C:Addr)(f:Str):Prop:=W.findIn K (.ref C) f=some none
def NoAttr.taker{K:K0}{C:Addr}{f:Str}(n:NoAttr K C f):W.takerIn K C f=some none:=by unfold W.takerIn;rw[show W.findIn K (.ref C) f=some none from n];rfl
structure Meth (K:K0) (C:Addr) (m:Str) (f:Addr):Prop where
 at_:W.findIn K (.ref C) m=some (some (.ref f))
 fn:W.isFn K (.ref f)=true
 kp:W.keepIn K (.ref f)=true
section
variable {X:Cx}{G_:h_}{σ:St}{H:Hp}{s:Shared}{a C dx:Addr}{fs:List (Str×V)}{f:Str}{v:V}{A:Around}{E:Value->Shared->Prop}
def Cl{b:Bool}{Q:Value->Shared->Prop}(I:Inv X G_ σ H s)(e:H a=some (.ins C dx fs))(c:Cls X.K C)(n:NoAttr X.K C f)(l:fs.lookup f=some v)(h:∀u s',Inv X G_ σ H s'->RelV v u->Q u s'):wpAny (model X.prog X.w) A (getAttr (.ref a) f b) Q E s:=by obtain⟨mA,O,r,_,_,_⟩:=pk I.hok e;obtain⟨u,hu,ru⟩:=RelO.some_of (v:=v) (o:=mA f) (by rw[<- l];exact r f);exact Ci I.kIn O (c.get f) c.hd n hu (Ck ru) (h u _ (I.tok _) ru)
def kf{m:Str}{g:Addr}{pl:Sem Bool}{Q:Value×z5->Shared->Prop}(I:Inv X G_ σ H s)(e:H a=some (.ins C dx fs))(c:Cls X.K C)(k:Meth X.K C m g)(l:fs.lookup m=none)(h:Q (.ref g,[.ref a]) s):wpAny (model X.prog X.w) A (getMethod (.ref a) m pl) Q E s:=by obtain⟨mA,O,r,_,_,_⟩:=pk I.hok e;have hn:mA m=none:=RelO.none_of (by rw[<- l];exact r m);exact Cj I.kIn O (c.get m) k.at_ k.fn hn h
def Cm{y:V}{u:Value}{Q:Unit->Shared->Prop}(I:Inv X G_ σ H s)(e:H a=some (.ins C dx fs))(c:Cls X.K C)(n:NoAttr X.K C f)(hl:fs.length<1000)(ry:RelV y u)(h:∀s',Inv X G_ σ (upd H a (.ins C dx (cF f y fs))) s'->Q () s'):wpAny (model X.prog X.w) A (setAttr (.ref a) f u) Q E s:=by
 obtain⟨mA,O,r,wi,_,ho⟩:=pk I.hok e;have hz:(fs.map (·.1)).length<=sizeLine:=by rw[z9b,z7y];ext
 refine um I.kIn O c.sa c.po n.taker c.hd wi hz λh' O' sb=>h _ ?_
 have hd:∃o,h'.get? dx=some o:=let⟨o,_,_,e',_⟩:=O'.ns;⟨o,e'⟩;refine I.write (x:=a) (e:=dx) (by rw[e];exact True.intro) (.inr ho) (λb q hb z=>(sb.2 b hb).trans z) hd ?_;refine⟨by rw[aE O.ne];exact ho,?_,O.ne,O'.obj,_,O'.ns,λg=>?_,λg hg=>?_⟩
 ·have:=ur f y fs;ext
 ·show RelO ((cF f y fs).lookup g) (if g=f then some u else mA g)
  rw[uq];by_cases q:g=f
  ·rw[if_pos q,if_pos q];exact ry
  ·rw[if_neg q,if_neg q];exact r g
 ·by_cases q:g=f
  ·rw[q];exact(pj f y fs).1
  ·refine(pj f y fs).2 g (wi g λz=>hg ?_)
   show(if g=f then some u else mA g)=none;rw[if_neg q];exact z
def Inv.made(I:Inv X G_ σ H s):Inv X G_ σ (upd (upd H s.heap.objs.size (.own (s.heap.objs.size+1))) (s.heap.objs.size+1) (.ins C s.heap.objs.size []))
  {s with heap:=(s.heap.push W.emptyDict).push (W.instObj C s.heap.objs.size)}:=by
 have e1:(s.heap.push W.emptyDict).get? s.heap.objs.size=some W.emptyDict:=z8l s.heap rfl;have e2:((s.heap.push W.emptyDict).push (W.instObj C s.heap.objs.size)).get? (s.heap.objs.size+1)=some (W.instObj C s.heap.objs.size):=by
  have:=z8l (s.heap.push W.emptyDict) (o:=W.instObj C s.heap.objs.size) rfl
  rwa [Heap.size_push]at this
 have e3:(s.heap.push W.emptyDict).Ns s.heap.objs.size (λ_=>none):=⟨W.emptyDict,#[],_,e1,rfl,(λe he=>absurd he (by simp)),λ_=>rfl⟩;have I1:=I.laid (a:=s.heap.objs.size) (o:=.own (s.heap.objs.size+1)) (h':=s.heap.push W.emptyDict) (t':=s.toks) (λb u q=>z9l _ q) (z9i _) ⟨_,e1⟩;refine I1.laid (a:=s.heap.objs.size+1) (o:=.ins C s.heap.objs.size []) (t':=s.toks) (λb u q=>z9l _ q) (Nat.le_of_eq (Heap.size_push _ _)) ?_;have ne:s.heap.objs.size≠s.heap.objs.size+1:=z8q (Nat.lt_succ_self _);refine⟨by rw[aE ne,bn],z7a _,ne,e2,λ_=>none,(Heap.Ns1.of_empty e3).at λo q=>z9l _ q,λ_=>True.intro,λy hy=>absurd rfl hy⟩
def Cn{prog:Program}{w:World}{env:Env}{e:Expr}{f:Str}{pos:Pos}{s:Shared}{Q:Value->Shared->Prop}(hb:attributeBase e f env (eval e env)=eval e env)(h:wpAny (model prog w) A (eval e env) (λo y1=>wpAny (model prog w) A (getAttr o f true) Q E y1) E s):wpAny (model prog w) A (eval (.Attribute e f pos) env) Q E s:=
 Attribute_any_ h (by rw[arm_eval_Attribute,hb])
end
def Co(K:K0)(ta:TE)(f:Str):TE:=λσ H Q=>ta σ H λx H1=>∃a C dx fs v,x=.ref a/\H1 a=some (.ins C dx fs)/\Cls K C/\NoAttr K C f/\fs.lookup f=some v/\Q v H1
def Cp(K:K0)(ta tv:TE)(f:Str):TS:=λD σ H=>tv σ H λy H1=>ta σ H1 λx H2=>∃a C dx fs,x=.ref a/\H2 a=some (.ins C dx fs)/\Cls K C/\NoAttr K C f/\fs.length<1000 /\
 D.nx σ (upd H2 a (.ins C dx (cF f y fs)))
section
variable {X:Cx}{o e value:Expr}{f:Str}{pos pos':Pos}{ta tv:TE}
def Cq(he:PE X e ta)(hb:attributeBase e f X.env (eval e X.env)=eval e X.env):PE X (.Attribute e f pos) (Co X.K ta f):=by intro G_ s σ H Q I h;refine Cn hb (b9 (he G_ s σ H _ I h) λu s1 x H1 I1 rx y0=>?_);obtain⟨a,C,dx,fs,v,ex,ea,c,n,l,q⟩:=y0;subst ex;obtain rfl:u=Value.ref a:=rx;exact Cl I1 ea c n l λu' s2 I2 ru=>⟨v,H1,I2,ru,q⟩
def pp(ha:PE X o ta)(hv:PE X value tv)(hs:swapsWith value (some (.Attribute o f pos')) pos.line X.env=pure false):PS X (.Assign [.Attribute o f pos'] value pos) (Cp X.K ta tv f):=by intro G_ s σ H D I h;refine plainObj_wpAny_Assign_Attribute (b9 (hv G_ s σ H _ I h) λu s1 y H1 I1 ry q=>b9 (ha G_ s1 σ H1 _ I1 q) λov s2 x H2 I2 rx y0=>?_) hs;obtain⟨a,C,dx,fs,ex,ea,c,n,l,q2⟩:=y0;subst ex;obtain rfl:ov=Value.ref a:=rx;exact Cm I2 ea c n l ry λs3 I3=>⟨σ,_,I3,q2⟩
end
structure Room (k:Nat) (A:Around):Prop where
 hd:A.handled=none
 dp:A.depth+3*k+5<recursionLimit
 un:A.units+16*k+200<cLine
def Room.mono{j k:Nat}{A:Around}(r:Room k A)(h:j<=k):Room j A:=⟨r.hd,by have:=r.dp;ext,by have:=r.un;ext⟩
def Room.deeper{k:Nat}{A:Around}(r:Room (k+1) A)(env:Env):Room k (A.deeper env):=
 ⟨r.hd,by have:=r.dp;show A.depth+1+3*k+5<_;ext,by have:=r.un;show A.units+3+16*k+200<_;ext⟩
def Cr{A:Around}{C:Addr}{us:z5}{kw:List (Str×Value)}:(A.under (.builtin "type.__call__" ⟨.ref C::us,kw⟩)).depth=A.depth+1:=by first|rfl|simp[Around.under,Code.weight,Code.isCreation,Code.isGuard,Code.isCaller,Code.frames,Code.isFrame,guardIds]
def Cs{A:Around}{C:Addr}{us:z5}{kw:List (Str×Value)}:(A.under (.builtin "type.__call__" ⟨.ref C::us,kw⟩)).units=A.units+1:=by first|rfl|simp[Around.under,Code.cUnits,Code.frames,Code.isFrame]
def Room.make{k:Nat}{A:Around}(r:Room (k+1) A)(C:Addr)(us:z5)(kw:List (Str×Value)):Room k (A.under (.builtin "type.__call__" ⟨.ref C::us,kw⟩)):=
 ⟨r.hd,by have:=r.dp;rw[Cr];ext,by have:=r.un;rw[Cs];ext⟩
def Room.depth{k:Nat}{A:Around}(r:Room k A):A.depth<recursionLimit:=by have:=r.dp;ext
def Room.units{k:Nat}{A:Around}(r:Room k A):A.units+64<cLine:=by have:=r.un;ext
def lT:TA:=λ_ H Q=>Q [] H
def ut(ta:TE)(tr:TA):TA:=λσ H Q=>ta σ H λx H1=>tr σ H1 λxs H2=>Q (x::xs) H2
section
variable {X:Cx}{e:Expr}{es:z6}{te:TE}{t:TA}{pos:Pos}
def c7:PA X [] lT:=λ_ _ _ _ H Q I h=>Calls.spliced_nil ⟨[],H,I,.nil,h⟩
def bM(ha:PE X e te)(hr:PA X es t)(hs:SE e es X<|>J7):PA X (e::es) (ut te t):=by intro pos G_ s σ H Q I h;rw[hs];show wpAny _ _ (spliced ((false,eval e X.env)::backTo pos (starEach es X.env))) _ _ s;refine Calls.spliced_cons (b9 (ha G_ s σ H _ I h) λu s1 x H1 I1 r1 q1=>?_);exact cQ (hr pos G_ s1 σ H1 _ I1 q1) λus s2 xs H2 I2 r2 q2=>⟨x::xs,H2,I2,.cons r1 r2,q2⟩
def Ct(t:TA):TE:=λσ H Q=>t σ H λxs H1=>xs.length<=sizeLine/\∀p,H1 p=none->Q (.ref p) (upd H1 p (.tup xs))
def Cu(t:TA):TE:=λσ H Q=>t σ H λxs H1=>xs.length<=sizeLine/\∀p,H1 p=none->Q (.ref p) (upd H1 p (.lst xs))
def uv{x1}(h:PA X es t):PE X (.Tuple es x1 pos) (Ct t):=by intro G_ s σ H Q I hq;refine wpAny_Tuple_spliced (cQ (h pos G_ s σ H _ I hq) λus s1 xs H1 I1 r ⟨z,q⟩=>⟨by rw[<- r.length];exact z,?_⟩);have hf:H1 s1.heap.objs.size=none:=I1.hok.fresh (z9i _);refine⟨.ref s1.heap.objs.size,upd H1 s1.heap.objs.size (.tup xs),I1.laid (t':=s1.toks) (λb u e=>z9l _ e) (z9i _) ?_,rfl,q _ hf⟩;exact⟨z,us,r,⟨_,z8l _ rfl,rfl,_,rfl⟩⟩
def lU(h:PA X es t):PE X (.List es pos) (Cu t):=by intro G_ s σ H Q I hq;refine wpAny_List_spliced (cQ (h pos G_ s σ H _ I hq) λus s1 xs H1 I1 r ⟨z,q⟩=>⟨by rw[<- r.length];exact z,?_⟩);have hf:H1 s1.heap.objs.size=none:=I1.hok.fresh (z9i _);refine⟨.ref s1.heap.objs.size,upd H1 s1.heap.objs.size (.lst xs),I1.laid (t':=s1.toks) (λb u e=>z9l _ e) (z9i _) ?_,rfl,q _ hf⟩;exact⟨z,us,0,r,z8l _ rfl⟩
end
abbrev Sp:=l_->Hp->VK->XK->Prop
abbrev CXT:=List Env->Hp->Shared->XK->Value->Shared->Prop
structure Env0 (P:Program) (w:World) (K:K0) (mg:Str->i_) (base:Heap) (A:Around) (outer:List Env) (s:Shared) (H:Hp):Prop where
 frames:A.frames=some outer
 mod:Mod K mg base
 bs:∀b o,base.get? b=some o->s.heap.get? b=some o/\H b=none
 bsz:base.objs.size<=s.heap.objs.size
 funs:s.heap.FunFrames base outer
 frf:∀b∈frs outer,H b=none
 hok:HOk P w H s.heap
 bare:AllBare s.gens
def CE(outer:List Env)(P:Program)(w:World)(H:Hp)(s:Shared)(Q:VK)(u:Value)(s':Shared):Prop:=
 ∃v H',s'.os=s.os/\AllBare s'.gens/\Un (frs outer) [] H H' s.heap s'.heap/\HOk P w H' s'.heap/\RelV v u/\Q v H'
def CR(CX:CXT)(outer:List Env)(P:Program)(w:World)(H:Hp)(s:Shared)(Q:VK)(E:XK)(r:Result)(s':Shared):Prop:=
 match r with
 |.ok (.ret u)=>CE outer P w H s Q u s'
 |.ok _=>False
 |.error e=>CX outer H s E e s'
structure FnOk (P:Program) (w:World) (K:K0) (mg:Str->i_) (base:Heap) (CX:CXT) (k:Nat) (f:Addr) (fd:FuncData) (ps:z0) (sp:Sp):Prop where
 len:∀vs H Q E,sp vs H Q E->vs.length=ps.length
 run:∀(A:Around) (outer:List Env) (s:Shared) (H:Hp) (args:Args) (us:z5) (vs:l_) (Q:VK) (E:XK),Room k A->Env0 P w K mg base A outer s H->BindsTo s fd args (ps.zip us)->Vals vs us->sp vs H Q E ->
  codeAny (model P w) A (.call (.ref f) args) (CR CX outer P w H s Q E) s
theorem FnOk.mono{P:Program}{w:World}{K:K0}{mg:Str->i_}{base:Heap}{CX:CXT}{j k:Nat}{f:Addr}{fd:FuncData}{ps:z0}{sp:Sp}(F:FnOk P w K mg base CX j f fd ps sp)(h:j<=k):
  FnOk P w K mg base CX k f fd ps sp:=⟨F.len,λA outer s H args us vs Q E hr=>F.run A outer s H args us vs Q E (hr.mono h)⟩
theorem FnOk.imp{P:Program}{w:World}{K:K0}{mg:Str->i_}{base:Heap}{CX:CXT}{k:Nat}{f:Addr}{fd:FuncData}{ps:z0}{sp sp':Sp}(F:FnOk P w K mg base CX k f fd ps sp)(h:∀vs H Q E,sp' vs H Q E->sp vs H Q E):FnOk P w K mg base CX k f fd ps sp':=
 ⟨λvs H Q E q=>F.len vs H Q E (h _ _ _ _ q),λA outer s H args us vs Q E hr he hb hv hs=>F.run A outer s H args us vs Q E hr he hb hv (h _ _ _ _ hs)⟩
def Env0.make{P:Program}{w:World}{K:K0}{mg:Str->i_}{base:Heap}{A:Around}{outer:List Env}{s:Shared}{H:Hp}(e:Env0 P w K mg base A outer s H)(C:Addr)(us:z5)(kw:List (Str×Value)):
  Env0 P w K mg base (A.under (.builtin "type.__call__" ⟨.ref C::us,kw⟩)) outer s H:=⟨by first|exact e.frames|(simpa [Around.under,Code.envs,Code.isFrame,pushEnvs]using e.frames),e.mod,e.bs,e.bsz,e.funs,e.frf,e.hok,e.bare⟩
section
variable {X:Cx}{G_:h_}{σ:St}{H:Hp}{s s':Shared}
def Inv.env0(I:Inv X G_ σ H s):Env0 X.prog X.w X.K X.mg X.base X.A X.stack s H:=
 ⟨I.ok.frames,I.ok.mod,I.bs,z7u I.ok.bsz I.sz,I.stack,I.stkFree,I.hok,I.bare⟩
def Inv.after{Q:VK}{u:Value}(I:Inv X G_ σ H s)(h:CE X.stack X.prog X.w H s Q u s'):EP X G_ σ Q u s':=by obtain⟨v,H',os,bare,un,hok,r,q⟩:=h;obtain⟨hh,g,d,t,os'⟩:=s';obtain rfl:os'=s.os:=os;exact⟨v,H',I.call (h':=hh) (g':=g) (d':=d) (t':=t) (ch:=[]) un hok bare (λb z=>absurd z (by simp)),r,q⟩
end
def Cv(sp:Sp)(dvs:l_)(E:XK)(t:TA):TE:=λσ H Q=>t σ H λvs H1=>sp (vs++dvs) H1 Q E
def uw(C:Addr)(m:Str)(sp:Sp)(dvs:l_)(E:XK)(ta:TE)(t:TA):TE:=λσ H Q=>ta σ H λx H1=>∃a dx fs,x=.ref a/\H1 a=some (.ins C dx fs)/\fs.lookup m=none /\
 t σ H1 λvs H2=>sp (x::(vs++dvs)) H2 Q E
def Cw(C:Addr)(sp:Sp)(dvs:l_)(E:XK)(t:TA):TE:=λσ H Q=>t σ H λvs H1=>∀x dx,H1 x=none->H1 dx=none->dx≠x ->
 sp (.ref x::(vs++dvs)) (upd (upd H1 dx (.own x)) x (.ins C dx [])) (λv H2=>v=.non/\Q (.ref x) H2) E
def Binds(K:K0)(fd:FuncData)(ps:z0)(ds:z5):Prop:=
 ∀(s:Shared) (us:z5),K.In s.heap->(us++ds).length=ps.length->BindsTo s fd ⟨us,[]⟩ (ps.zip (us++ds))
def Binds.all{K:K0}{fd:FuncData}{ps:z0}(h:∀us:z5,us.length=ps.length->bindArgs fd ⟨us,[]⟩=pure (ps.zip us)):Binds K fd ps []:=λs us _ hl=>by rw[z8v]at hl ⊢;exact .of_eq (h us hl)
def gb(CX:CXT)(X:Cx)(E:XK):Prop:=∀(G_:h_) (σ:St) (H:Hp) (s:Shared) (e:Value) (s':Shared),Inv X G_ σ H s->CX X.stack H s E e s'->X.xe e s'
section
variable {X:Cx}{CX:CXT}{k:Nat}{f C:Addr}{fd:FuncData}{ps:z0}{sp:Sp}{dvs:l_}{ds:z5}{E:XK}{x m:Str}{p pos apos:Pos}{e o:Expr}{es:z6}{ta:TE}{t:TA}
theorem pv{G_:h_}{σ:St}{H:Hp}{s:Shared}{Q:VK}{us:z5}{vs:l_}(F:FnOk X.prog X.w X.K X.mg X.base CX k f fd ps sp)(hr:Room k X.A)(hb:Binds X.K fd ps ds)(hd:Vals dvs ds)(hx:gb CX X E)(I:Inv X G_ σ H s)(r:Vals vs us)(h:sp (vs++dvs) H Q E):wpAny (model X.prog X.w) X.A (call (.ref f) us) (EP X G_ σ Q) X.xe s:=by
 have r2:Vals (vs++dvs) (us++ds):=r.append hd;have hl:(us++ds).length=ps.length:=by rw[<- r2.length];exact F.len _ _ _ _ h
 refine wpAny_call (z5c (F.run X.A X.stack s H ⟨us,[]⟩ (us++ds) (vs++dvs) Q E hr I.env0 (hb s us I.kIn hl) r2 h) λr s' hq=>?_);cases r with
 |error e=>exact hx G_ σ H s e s' I hq
 | ok fl=>
   cases fl with
   |ret u=>exact I.after hq
   |next=>exact False.elim hq
   |brk=>exact False.elim hq
   |cont=>exact False.elim hq
def gC(F:FnOk X.prog X.w X.K X.mg X.base CX k f fd ps sp)(hr:Room k X.A)(hg:Gl X x)(hm:X.mg x=some (.ref f))(hk:W.keepIn X.K (.ref f)=true)(hb:Binds X.K fd ps ds)(hd:Vals dvs ds)(hx:gb CX X E)(ha:PA X (e::es) t)(hdb:DB x<|>J8)(he:SE e es X<|>J7)(hpl:BT pos es X<|>J7):
  PE X (.Call (.Name x p) (e::es) [] pos) (Cv sp dvs E t):=by
 intro G_ s σ H Q I h;refine z6l (gA I hg hm ?_ hdb);refine z6m (h₀:=X.base) I.ok.mod.kin hk (cQ (ha pos G_ s σ H _ I h) λus s1 vs H1 I1 r q=>⟨I1.kIn,?_⟩) he hpl;exact pv F hr hb hd hx I1 r q
def Cy{pl:Sem Bool}(he:PE X o ta)(c:Cls X.K C)(hm:Meth X.K C m f)(F:FnOk X.prog X.w X.K X.mg X.base CX k f fd ps sp)(hr:Room k X.A)(hb:Binds X.K fd ps ds)(hd:Vals dvs ds)(hx:gb CX X E)(ha:PA X (e::es) t)(hst:SE e es X<|>J7)(hpl:BT pos es X<|>J7)(ht:(eval (.Call (.Attribute o m apos) (e::es) [] pos) X.env=(do
   let ov <- eval o X.env
   standAt apos.atName
   let(f,first) <- holding [ov] (getMethod ov m pl)
   callWith pos f first (backTo pos (starEach (e::es) X.env)) (backToKw pos (keywordEach [] X.env))))<|>J7):
  PE X (.Call (.Attribute o m apos) (e::es) [] pos) (uw C m sp dvs E ta t):=by
 intro G_ s σ H Q I h;refine z6n (pl:=pl) (b9 (he G_ s σ H _ I h) λu s1 x H1 I1 rx y0=>?_) ht;obtain⟨a,dx,fs,ex,ea,l,q⟩:=y0;subst ex;obtain rfl:u=Value.ref a:=rx;refine kf I1 ea c hm l ?_;refine z6m (first:=[.ref a]) (h₀:=X.base) I.ok.mod.kin hm.kp (cQ (ha pos G_ s1 σ H1 _ I1 q) λus s2 vs H2 I2 r q2=>⟨I2.kIn,?_⟩) hst hpl;exact pv (us:=.ref a::us) (vs:=.ref a::vs) F hr hb hd hx I2 (.cons rfl r) q2
def Cz{pl:Sem Bool}(he:PE X o ta)(c:Cls X.K C)(hm:Meth X.K C m f)(F:FnOk X.prog X.w X.K X.mg X.base CX k f fd ps sp)(hr:Room k X.A)(hb:Binds X.K fd ps ds)(hd:Vals dvs ds)(hx:gb CX X E)(ht:(eval (.Call (.Attribute o m apos) [] [] pos) X.env=(do
   let ov <- eval o X.env
   standAt apos.atName
   let(f,first) <- holding [ov] (getMethod ov m pl)
   callWith pos f first (backTo pos (starEach [] X.env)) (backToKw pos (keywordEach [] X.env))))<|>J7):
  PE X (.Call (.Attribute o m apos) [] [] pos) (uw C m sp dvs E ta lT):=by
 intro G_ s σ H Q I h;refine z6n (pl:=pl) (b9 (he G_ s σ H _ I h) λu s1 x H1 I1 rx y0=>?_) ht;obtain⟨a,dx,fs,ex,ea,l,q⟩:=y0;subst ex;obtain rfl:u=Value.ref a:=rx;refine kf I1 ea c hm l ?_;exact z4s (first:=[.ref a]) I1.kIn hm.kp (pv (us:=[.ref a]) (vs:=[.ref a]) F hr hb hd hx I1 (.cons rfl .nil) q)
structure Mk (K:K0) (C f:Addr):Prop where
 makes:W.makesIn K C=true
 init:W.findIn K (.ref C) "__init__"=some (some (.ref f))
 fn:W.isFn K (.ref f)=true
 kp:W.keepIn K (.ref C)=true
theorem CA{G_:h_}{σ:St}{H:Hp}{s:Shared}{Q:VK}{us:z5}{vs:l_}(M:Mk X.K C f)(F:FnOk X.prog X.w X.K X.mg X.base CX k f fd ps sp)(hr:Room (k+1) X.A)(hb:Binds X.K fd ps ds)(hd:Vals dvs ds)(hx:gb CX X E)(I:Inv X G_ σ H s)(r:Vals vs us)(h:∀x dx,H x=none->H dx=none->dx≠x->sp (.ref x::(vs++dvs)) (upd (upd H dx (.own x)) x (.ins C dx [])) (λv H2=>v=.non/\Q (.ref x) H2) E):
  wpAny (model X.prog X.w) X.A (call (.ref C) us) (EP X G_ σ Q) X.xe s:=by
 have hq:=h (s.heap.objs.size+1) s.heap.objs.size (I.hok.fresh (Nat.le_succ _)) (I.hok.fresh (z9i _)) (z8q (Nat.lt_succ_self _));have I2:=Inv.made (C:=C) I;have r2:Vals (V.ref (s.heap.objs.size+1)::(vs++dvs)) (Value.ref (s.heap.objs.size+1)::(us++ds)):=.cons rfl (r.append hd);have hl:(Value.ref (s.heap.objs.size+1)::us++ds).length=ps.length:=by have e:=r2.length;rw[F.len _ _ _ _ hq]at e;exact e.symm
 refine wpAny_call (uo (f:=f) I.kIn M.makes M.init (z7n.mp M.fn) (z5c (F.run _ X.stack _ _ ⟨Value.ref (s.heap.objs.size+1)::us,[]⟩ (Value.ref (s.heap.objs.size+1)::(us++ds)) _ _ E (hr.make C us [])
  (I2.env0.make C us []) (hb _ (Value.ref (s.heap.objs.size+1)::us) I2.kIn hl) r2 hq) λr s' hq'=>?_))
 cases r with
 |error e=>exact hx G_ σ _ _ e s' I2 hq'
 | ok fl=>
   cases fl with
   |ret u=>obtain⟨v,H',I3,rv,ev,q3⟩:=I2.after hq';subst ev;exact⟨rv,⟨V.ref (s.heap.objs.size+1),H',I3,rfl,q3⟩⟩
   |next=>exact False.elim hq'
   |brk=>exact False.elim hq'
   |cont=>exact False.elim hq'
def CB(M:Mk X.K C f)(F:FnOk X.prog X.w X.K X.mg X.base CX k f fd ps sp)(hr:Room (k+1) X.A)(hg:Gl X x)(hm:X.mg x=some (.ref C))(hb:Binds X.K fd ps ds)(hd:Vals dvs ds)(hx:gb CX X E)(hdb:DB x<|>J8):PE X (.Call (.Name x p) [] [] pos) (Cw C sp dvs E lT):=by intro G_ s σ H Q I h;refine z6l (gA I hg hm ?_ hdb);exact z4s I.kIn M.kp (CA (us:=[]) M F hr hb hd hx I .nil h)
end
structure FnScope (N P:z0) (sc:Scope):Prop where
 kind:sc.kind=.function
 co:sc.isCoroutine=false
 gen:sc.isGenerator=false
 nd:N.Nodup
 pre:N.take P.length=P
 par:∀x∈P,sc.names.lookup x=some .local\/sc.names.lookup x=some .cell
 nofree:∀y∈sc.names,y.2≠.free
theorem ux{kindOf:Str->Option NameKind}{x:Str}:∀{binds:List (Str×Value)} {m:Str->i_},(∀v,(x,v)∉binds)->bindL kindOf binds m x=m x
 |[],_,_=>rfl
 | (n,v)::r,m,h=>by
   unfold bindL;rw[ux λw hw=>h w (z9d _ hw)];split
   ·have:x≠n:=by rintro rfl;exact h v z9a
    simp[this]
   ·rfl
theorem uy{kindOf:Str->Option NameKind}{x:Str}:∀{binds:List (Str×Value)} {m:Str->i_},(∀v,(x,v)∉binds)->bindC kindOf binds m x=m x
 |[],_,_=>rfl
 | (n,v)::r,m,h=>by
   unfold bindC;rw[uy λw hw=>h w (z9d _ hw)];split
   ·rfl
   ·have:x≠n:=by rintro rfl;exact h v z9a
    simp[this]
theorem uz{kindOf:Str->Option NameKind}{x:Str}{v:Value}:∀{P:z0} {vs:z5} {i:Nat} {m:Str->i_},P.Nodup->P[i]?=some x->vs[i]?=some v->kindOf x=some .local ->
  bindL kindOf (P.zip vs) m x=some v
 |[],_,_,_,_,h,_,_=>by simp at h
 |_::_,[],_,_,_,_,h,_=>by simp at h
 |p::P,w::vs,0,m,nd,h1,h2,hk=>by simp at h1 h2;subst h1;subst h2;show bindL kindOf ((p,w)::P.zip vs) m p=_;unfold bindL;rw[ux λv hv=>(z8o.mp nd).1 (z4j hv).1,if_pos hk];simp
 |p::P,w::vs,i+1,m,nd,h1,h2,hk=>by show bindL kindOf ((p,w)::P.zip vs) m x=_;unfold bindL;exact uz (i:=i) (z8o.mp nd).2 (by simpa using h1) (by simpa using h2) hk
theorem uA{kindOf:Str->Option NameKind}{x:Str}{v:Value}:∀{P:z0} {vs:z5} {i:Nat} {m:Str->i_},P.Nodup->P[i]?=some x->vs[i]?=some v->kindOf x≠some .local ->
  bindC kindOf (P.zip vs) m x=some v
 |[],_,_,_,_,h,_,_=>by simp at h
 |_::_,[],_,_,_,_,h,_=>by simp at h
 |p::P,w::vs,0,m,nd,h1,h2,hk=>by simp at h1 h2;subst h1;subst h2;show bindC kindOf ((p,w)::P.zip vs) m p=_;unfold bindC;rw[uy λv hv=>(z8o.mp nd).1 (z4j hv).1,if_neg hk];simp
 |p::P,w::vs,i+1,m,nd,h1,h2,hk=>by show bindC kindOf ((p,w)::P.zip vs) m x=_;unfold bindC;exact uA (i:=i) (z8o.mp nd).2 (by simpa using h1) (by simpa using h2) hk
noncomputable def start(N:z0)(vs:l_):St:=vs.map some++List.replicate (N.length-vs.length) none
noncomputable def cM(CX:CXT)(P:Program)(w:World)(K:K0)(mg:Str->i_)(base:Heap)(N:z0)(qual:Str)(scope:Scope)(f:Addr)(cd:Value)(A:Around)(outer:List Env)(s:Shared)(H:Hp)(E:XK):Cx where
 prog:=P
 w:=w
 K:=K
 mg:=mg
 base:=base
 A:=A.deeper (envOfC qual scope s.heap.objs.size f cd)
 N:=N
 s₀:=s
 H₀:=H
 env:=envOfC qual scope s.heap.objs.size f cd
 outer:=outer
 stack:=envOfC qual scope s.heap.objs.size f cd::outer
 ex:=[]
 calm:=true
 fn:=λ_=>true
 pn:=[]
 xe:=λe s'=>wpAny (model P w) (A.deeper (envOfC qual scope s.heap.objs.size f cd)) (leaving (envOfC qual scope s.heap.objs.size f cd) e) (λ_ s''=>CX outer H s E e s'') (λe' s''=>CX outer H s E e' s'') s'
def uB{sc:Scope}{n:Nat}{x:Str}(h:sc.names.lookup x=some .cell):∃c,(cellsFrom n sc.names []).lookup x=some c:=by have q:=W.cellsFrom_some sc.names n [] (.inl h);exact Option.isSome_iff_exists.mp q
def CC{CX:CXT}{P:Program}{w:World}{K:K0}{mg:Str->i_}{base:Heap}{N ps:z0}{qual:Str}{scope:Scope}{f:Addr}{cd:Value}{A:Around}{outer:List Env}{s s1:Shared}{H:Hp}{E:XK}{us:z5}{vs:l_}(S:FnScope N ps scope)(hd:A.handled=none)(e0:Env0 P w K mg base A outer s H)(hl:vs.length=ps.length)(r:Vals vs us)(x:InCallC s s.heap.objs.size (bindL (envOfC qual scope s.heap.objs.size f cd).kindOf (ps.zip us) λ_=>none) (cellsFrom (s.heap.objs.size+1) scope.names []) (bindC (envOfC qual scope s.heap.objs.size f cd).kindOf (ps.zip us) λ_=>none) s1):
  Inv (cM CX P w K mg base N qual scope f cd A outer s H E) [] (start N vs) H s1:=by
 have hpl:ps.length<=N.length:=by have:=z8w List.length S.pre;rw[z8j]at this;ext
 obtain⟨h1,tk,rfl,hk⟩:=x.done;have noA:∀b:Addr,b∉(cM CX P w K mg base N qual scope f cd A outer s H E).ex:=λb z=>absurd (show b∈([]:z7)from z) (by simp)
 refine⟨⟨e0.mod,S.kind,rfl,rfl,z9i _,λy z c h1 h2=>?_,λy hy=>?_,λy c _ h=>?_,λ_=>hd,Around.frames_deeper e0.frames,.inr ⟨rfl,rfl⟩,λb z=>absurd z (noA b),e0.bs,e0.bsz,λb _ _=>noA b,λb z=>absurd z (noA b),e0.funs,e0.frf⟩,
  rfl,e0.bare,Un.kept hk,⟨_,x.toInCall.ns,λi y v h1 h2 h3=>?_⟩,λy c h=>⟨_,x.cell y c h⟩,e0.hok.fresh (z9i _),λy c h=>?_,λp hp=>absurd (show p∈([]:h_)from hp) (by simp),e0.hok.kept hk,?_⟩
 ·exact name_of_addr x.apart (z6b h1) (z6b h2)
 ·have hy:scope.names.lookup y=some .cell\/scope.names.lookup y=some .free:=hy
  rcases hy with hy|hy
  ·exact uB hy
  ·exact absurd rfl (S.nofree _ (z6b hy))
 ·exact z4h (x.above y c (z6b h))
 ·have hi:i<vs.length:=by
   unfold start at h2;by_cases hi:i<vs.length
   ·exact hi
   ·rw[z9x (by simpa using hi)]at h2
    rw[z7k]at h2;split at h2<;>cases h2
  have ha:vs[i]?=some v:=by
   unfold start at h2;rw[z8d (by simpa using hi),z9z]at h2;cases e:vs[i]? with
   |none=>rw[e]at h2;cases h2
   |some a=>rw[e]at h2;cases h2;rfl
  obtain⟨u,hu,rv⟩:=r.get ha;have hp:ps[i]?=some y:=by rw[<- S.pre,List.getElem?_take_of_lt ∅];exact h1
  have ndP:ps.Nodup:=by rw[<- S.pre];exact S.nd.sublist (z3c _ _)
  refine⟨u,rv,?_⟩;rcases S.par y (z8a hp)with k|k
  ·exact .inl ⟨k,uz ndP hp hu k⟩
  ·obtain⟨c,e⟩:=uB (n:=s.heap.objs.size+1) k
   refine .inr ⟨.inl k,c,e,?_⟩;have q:=x.cell y c e;rw[uA ndP hp hu (by show scope.names.lookup y≠_;rw[k];decide)]at q;exact q
 ·exact e0.hok.fresh (z4h (x.above y c (z6b h)))
 ·unfold start
  show _=N.length;rw[z9h,z9b,z8s];ext
def uC{CX:CXT}{P:Program}{w:World}{K:K0}{mg:Str->i_}{base:Heap}{k:Nat}{f:Addr}{name qual:Str}{params:Arguments}{body:z9}{scope:Scope}{dV kV doc pm cdv ct oc:Value}{an od:Option Addr}{osl:Array i_}{N ps:z0}{sp:Sp}(lk:K.lookup f=some ⟨oc,od,.func (W.fnOf name qual params body scope dV kV doc pm an cdv ct),osl⟩)(hcd:W.codeIn K cdv qual=true)(S:FnScope N ps scope)(len:∀vs H Q E,sp vs H Q E->vs.length=ps.length)(hbody:∀(A:Around) (outer:List Env) (s:Shared) (H:Hp) (vs:l_) (Q:VK) (E:XK),Room k (A.deeper (envOfC qual scope s.heap.objs.size f cdv))->sp vs H Q E ->
   ∃t,PSs (cM CX P w K mg base N qual scope f cdv A outer s H E) body t/\t {nx:=λ_ H'=>Q .non H',rt:=Q} (start N vs) H):
  FnOk P w K mg base CX (k+1) f (W.fnOf name qual params body scope dV kV doc pm an cdv ct) ps sp:=by
 refine⟨len,λA outer s H args us vs Q E hr e0 hb r hsp=>?_⟩;have hl:=len _ _ _ _ hsp;have KX:K.In s.heap:=e0.mod.kin.keeps λb o e=>(e0.bs b o e).1
 have lim:s.heap.NoLimit:=e0.mod.nolimit.keeps λb o e=>(e0.bs b o e).1
 have hkind:∀y∈ps.zip us,scope.names.lookup y.1=some .local\/(scope.names.lookup y.1=some .cell/\((cellsFrom (s.heap.objs.size+1) scope.names []).lookup y.1).isSome=true):=λy0 hy=>by
  obtain⟨n,v⟩:=y0;rcases S.par n (z4j hy).1 with q|q
  ·exact .inl q
  ·exact .inr ⟨q,W.cellsFrom_some _ _ _ (.inl q)⟩
 refine codeAny_call_function hr.depth (KX _ _ lk) rfl S.co S.gen rfl (W.codeRec_of KX hcd) (hb _ _ _ _ ?_);refine wpAny_newFunctionEnv_cells S.kind hkind λenv he s1 x=>?_
 subst he;refine⟨lim.keeps x.toInCall.keep,codeAny_func ?_⟩;obtain⟨t,ht,hq⟩:=hbody A outer s H vs Q E (hr.deeper _) hsp;have I:Inv (cM CX P w K mg base N qual scope f cdv A outer s H E) [] (start N vs) H s1:=CC S hr.hd e0 hl r x;refine z8p (ht [] s1 (start N vs) H _ I hq) (λfl s' hs=>?_) λe s' hs=>hs
 have fin:∀{σ':St} {H':Hp} {v:V} {u:Value},Inv (cM CX P w K mg base N qual scope f cdv A outer s H E) [] σ' H' s'->RelV v u->Q v H'->CE outer P w H s Q u s':=
  λ{σ' H' v u} J rv q=>⟨v,H',J.os,J.bare,J.base,J.hok,rv,q⟩
 cases fl with
 |ret u=>obtain⟨v,σ',H',J,rv,q⟩:=hs;exact fin J rv q
 |next=>obtain⟨σ',H',J,q⟩:=hs;exact fin (v:=V.non) (u:=Value.none) J rfl q
 |brk=>obtain⟨_,_,_,q⟩:=hs;exact False.elim q
 |cont=>obtain⟨_,_,_,q⟩:=hs;exact False.elim q
section
variable {X:Cx}{x:Str}{p pos:Pos}{e:Expr}{es:z6}{t:TA}{id T:String}{r:l_->Hp->VK->Prop}
def tCB(r:l_->Hp->VK->Prop)(t:TA):TE:=λσ H Q=>t σ H λvs H1=>r vs H1 Q
def pw(hc:di X (.builtin id) r)(hg:Gl X x)(hm:X.mg x=none)(hv:bootBuiltins x=some (.builtin id))(ha:PA X (e::es) t)(hn:x ≠ "__name__"<|>J8)(hdb:DB x<|>J8)(he:SE e es X<|>J7)(hpl:BT pos es X<|>J7):PE X (.Call (.Name x p) (e::es) [] pos) (tCB r t):=by intro G_ s σ H Q I h;refine z6l (eZ I hg hm hv ?_ hn hdb);exact PyProof.Rows.callWith_builtin1 (cQ (ha pos G_ s σ H _ I h) λus s1 vs H1 I1 r1 q1=>hc G_ s1 σ H1 vs us Q I1 r1 q1) he hpl
def gD(hc:di X (.type T) r)(hg:Gl X x)(hm:X.mg x=none)(hv:bootBuiltins x=some (.type T))(ha:PA X (e::es) t)(hn:x ≠ "__name__"<|>J8)(hdb:DB x<|>J8)(he:SE e es X<|>J7)(hpl:BT pos es X<|>J7):PE X (.Call (.Name x p) (e::es) [] pos) (tCB r t):=by intro G_ s σ H Q I h;refine z6l (eZ I hg hm hv ?_ hn hdb);exact z8x (cQ (ha pos G_ s σ H _ I h) λus s1 vs H1 I1 r1 q1=>hc G_ s1 σ H1 vs us Q I1 r1 q1) he hpl
end
end L2
variable {xs vs ys:List L2.V}{us its its':List PySem.Value}{H H' H1 H2:L2.Hp}{a b e c tg iter value elt:PySem.Expr}{o o':L2.HO}{u cd doc pm cdv ct oc:PySem.Value}{P prog q:PySem.Program}{w:PySem.World}{h base h' B w_:PySem.Heap}{t' i j t n tk nown np ek:Nat}{d':PySem.Drawn}{ch fp ex:List PySem.Addr}{it f l C dx:PySem.Addr}{x m qual name:PySem.Str}{pins' G_:List (PySem.Addr×PySem.Obj)}{N ns ps loose cn own:List PySem.Str}{A:PySem.Around}{E Er:PySem.Value->PySem.Shared->Prop}{v y:L2.V}{Q:L2.VK}{s' s s1:PySem.Shared}{X:L2.Cx}{σ:L2.St}{pos pos' p p2 ap cp pr pn ep pos2 pc pa ph pf apos cpos p3 spos p1:PySem.Pos}{op op':PySem.CmpOp}{K:K0}{st:PySem.Stmt}{to tl:L2.TE}{R:PySem.Result->PySem.Shared->Prop}{lo:Int}{hi:Option PySem.Expr}{pl:PySem.Sem Bool}{body:List PySem.Stmt}{wi:L2.TI}{r r':L2.R2}{mA mg:PySem.Str->Option PySem.Value}{kw:List (PySem.Str×PySem.Value)}{env:PySem.Env}{CX:L2.CXT}{fd:PySem.FuncData}{sp:L2.Sp}{outer:List PySem.Env}{scope:PySem.Scope}{an od:Option PySem.Addr}{osl:Array (Option PySem.Value)}{vals elts tes es' ifs:List PySem.Expr}{XP:(PySem.Str->Option PySem.Value)->PySem.Heap->Prop}{kvs:List (List L2.Key×L2.V)}{trs:List (L2.TE×L2.TE)}{keys:List (Option PySem.Expr)}{fz fr:Bool}{C':Int->Int->Prop}{kv:Int->Int->L2.V}{O O' OL OL' Ol J3 is O1 O2:y9}{De:L2.Ends}{cl:List (PySem.Str×PySem.Addr)}{names:List (PySem.Str×PySem.NameKind)}{S:Nat->Prop}{tt:L2.TT}
namespace HT
open PySem PyProof.Rows
noncomputable def sIx(n d:Nat):j_->Nat
 |none=>d
 |some v=>if v<0 then(v+(n:Int)).toNat else min v.toNat n
end HT
namespace L2
open PySem PySem.Spec PyProof.Rows
abbrev TO:=St->Hp->(j_->Hp->Prop)->Prop
def PO(X:Cx)(e:Option Expr)(t:TO):Prop:=
 ∀(G_:h_) (s:Shared) (σ:St) (H:Hp) (Q:j_->Hp->Prop),Inv X G_ σ H s->t σ H Q ->
   wpAny (model X.prog X.w) X.A (evalPart e X.env) (λu s'=>∃o H',Inv X G_ σ H' s'/\IsPart u o/\Q o H') X.xe s
def CF:TO:=λ_ H Q=>Q none H
def CG(t:TE):TO:=λσ H Q=>t σ H λx H1=>∃i,x=.int i/\Q (some i) H1
def CH{ns:z_}:∀{us:z5},Vals (ns.map V.int) us->IntsAre us ns:=by
 induction ns with
 |nil=>intro us r;rw[z7v]at r;cases r;exact .nil
 | cons n ns ih=>
   intro us r;rw[z9n]at r;cases r with
   |cons r1 r2=>obtain⟨t,e⟩:=r1;subst e;exact .cons n t (ih r2)
section
variable {te:TE}{lo:Option Expr}{tl th:TO}
def py:PO X none CF:=by intro G_ s σ H Q I h;rw[evalPart_none];exact z8n ⟨none,H,I,.none,h⟩
def pz(h:PE X e te):PO X (some e) (CG te):=by
 intro G_ s σ H Q I hw;rw[evalPart_some];refine b9 (h G_ s σ H _ I hw) λu s1 x H1 I1 r1 q1=>?_
 obtain⟨i,rfl,q⟩:=q1;obtain⟨t,rfl⟩:=r1;exact⟨some i,H1,I1,.int i t,q⟩
def SlR(X:Cx)(r:V->j_->j_->Hp->VK->Prop):Prop:=
 ∀(G_:h_) (s:Shared) (σ:St) (H:Hp) (x:V) (v vl vu:Value) (lo hi:j_) (sl:Addr) (Q:VK),Inv X G_ σ H s->RelV x v->s.heap.IsSliceOf sl vl vu .none->IsPart vl lo->IsPart vu hi->r x lo hi H Q ->
   ∃T id,typeLookup (.type T) "__getitem__"=pure (some (.builtin id))/\s.TypeIs v T/\wpAny (model X.prog X.w) X.A (getItem v (.ref sl)) (EP X G_ σ Q) X.xe s
def tSl(r:V->j_->j_->Hp->VK->Prop)(te:TE)(tl th:TO):TE:=λσ H Q=>te σ H λx H1=>tl σ H1 λl H2=>th σ H2 λu H3=>r x l u H3 Q
def lV{r:V->j_->j_->Hp->VK->Prop}(hr:SlR X r)(he:PE X e te)(hl:PO X lo tl)(hu:PO X hi th):PE X (.Subscript e (.Slice lo hi none p2) pos) (tSl r te tl th):=by
 intro G_ s σ H Q I h;refine Subscript_ (b9 (he G_ s σ H _ I h) λv s1 x H1 I1 r1 q1=>?_);refine wpAny_Slice (thn (hl G_ s1 σ H1 _ I1 q1) λvl s2 ⟨l,H2,I2,pl,q2⟩=>thn (hu G_ s2 σ H2 _ I2 q2) λvu s3 ⟨u,H3,I3,pu,q3⟩=>?_);rw[evalPart_none];refine z8n ?_;have I4:Inv X G_ σ H3 {s3 with heap:=s3.heap.push {cls:=.type "slice",data:=.fields #[vl,vu,.none]}}:=I3.kept (t':=s3.toks) λb ob q=>z9l _ q
 obtain⟨T,id,hT,ht,hg⟩:=hr G_ {s3 with heap:=s3.heap.push {cls:=.type "slice",data:=.fields #[vl,vu,.none]}} σ H3 x v vl vu l u s3.heap.objs.size Q I4 r1 (Heap.IsSliceOf.new ..) pl pu q3;show wpAny (model X.prog X.w) X.A (subscriptTail e (.Slice lo hi none p2) v (.ref s3.heap.objs.size)) (EP X G_ σ Q) X.xe {s3 with heap:=s3.heap.push {cls:=.type "slice",data:=.fields #[vl,vu,.none]}};exact tail_any (ops:=[.ref s3.heap.objs.size,v]) ht hT hg (by with_unfolding_all rfl)
def j5(xs:l_)(lo hi:j_):l_:=(xs.drop (HT.sIx xs.length 0 lo)).take (HT.sIx xs.length xs.length hi-HT.sIx xs.length 0 lo)
def CI(xs:l_)(lo hi:j_):(j5 xs lo hi).length<=xs.length:=by unfold j5;rw[z8j,z7p];ext
end
noncomputable def ixN(n:Nat)(i:Int):Option Nat:=if 0<=i then(if i<n then some i.toNat else none)else if -(n:Int)<=i then some (i+n).toNat else none
def atI{α:Type}(xs:List α)(i:Int):Option α:=(ixN xs.length i).bind λj=>xs[j]?
def uD{i:Int}(h:ixN n i=some j):seqIndex? i n=some j/\j<n/\-(n:Int)<=i/\i<n:=by
 unfold ixN at h;by_cases h0:0<=i
 ·rw[if_pos h0]at h
  by_cases h1:i<n
  ·rw[if_pos h1]at h
   have e:i.toNat=j:=z7f h;exact⟨by rw[seqIndex_of h0 h1,e],by ext,by ext,h1⟩
  ·rw[if_neg h1]at h;cases h
 ·rw[if_neg h0]at h
  by_cases h1:-(n:Int)<=i
  ·rw[if_pos h1]at h
   have e:(i+n).toNat=j:=z7f h;exact⟨by rw[seqIndex_neg ∅ h1,e],by ext,h1,by ext⟩
  ·rw[if_neg h1]at h;cases h
def lW{α:Type}{xs:List α}{i:Int}{v:α}(h:atI xs i=some v):∃j,seqIndex? i xs.length=some j/\xs[j]?=some v/\j<xs.length/\-(xs.length:Int)<=i/\i<xs.length:=by
 unfold atI at h;cases e:ixN xs.length i with
 |none=>rw[e]at h;cases h
 |some j=>rw[e]at h;obtain⟨h1,h2,h3,h4⟩:=uD e;exact⟨j,h1,h,h2,h3,h4⟩
def j6(b:Expr):Prop:=∀o i,subscripted b false o i=operate [o,i] (getItem o i)
def IxR(X:Cx)(r:R2):Prop:=
 ∀(value slice:Expr) (G_:h_) (s:Shared) (σ:St) (H:Hp) (x y:V) (v u:Value) (Q:VK),Inv X G_ σ H s->RelV x v->RelV y u->r x y H Q ->
   subscripted slice false v u=operate [v,u] (getItem v u)->wpAny (model X.prog X.w) X.A (subscriptTail value slice v u) (EP X G_ σ Q) X.xe s
def MtR(X:Cx)(id:String)(r:V->l_->Hp->VK->Prop):Prop:=
 ∀(G_:h_) (s:Shared) (σ:St) (H:Hp) (x:V) (xs:l_) (v:Value) (us:z5) (Q:VK),Inv X G_ σ H s->RelV x v->Vals xs us->r x xs H Q ->
   wpAny (model X.prog X.w) X.A (call (.builtin id) (v::us)) (EP X G_ σ Q) X.xe s
section
variable {ta tb:TE}
def IxR.or(h:IxR X r)(h':IxR X r'):IxR X (λx y H Q=>r x y H Q\/r' x y H Q):=by
 intro value slice G_ s σ H x y v u Q I rx ry q hs;rcases q with q|q
 ·exact h value slice G_ s σ H x y v u Q I rx ry q hs
 ·exact h' value slice G_ s σ H x y v u Q I rx ry q hs
def kg(hr:IxR X r)(ha:PE X a ta)(hb:PE X b tb)(hs:j6 b):PE X (.Subscript a b pos) (tOp r ta tb):=by intro G_ s σ H Q I h;exact Subscript_ (oT ha hb I h λv u s2 x y H2 I2 rx ry q=>hr a b G_ s2 σ H2 x y v u Q I2 rx ry q (hs _ _))
def CJ(K:K0):R2:=λx y H Q=>∃p xs i v,x=.ref p/\y=.int i/\SqL K H p xs/\atI xs i=some v/\Q v H
def CK(K:K0):R2:=λx y H Q=>∃p xs i v,x=.ref p/\y=.int i/\SqT K H p xs/\atI xs i=some v/\Q v H
def uE:R2:=λx y H Q=>∃z i c,x=.str z/\y=.int i/\z.length<=sizeLine/\atI z.cps.toList i=some c/\Q (.str ⟨#[c]⟩) H
def ix_list:IxR X (CJ X.K):=by
 intro value slice G_ s σ H x y v u Q I rx ry h hs;obtain⟨p,xs,i,z,rfl,rfl,hq,he,q⟩:=h;cases rx;obtain⟨t,rfl⟩:=ry;obtain⟨its,r,pl,hz⟩:=I.list hq;obtain⟨j,h1,h2,h3,h4,h5⟩:=lW he;obtain⟨w,ew,rw'⟩:=r.get h2;have hl:=r.length;have hn:=ia;have fin:EP X G_ σ Q w s:=⟨z,H,I,rw',q⟩;by_cases h0:0<=i
 ·have hj:i.toNat=j:=by rw[seqIndex_of h0 h5]at h1;exact z7f h1
  exact item_listR pl.isList h0 ∅ (by rw[hj];simpa using ew) fin hs
 ·have hj:(i+(its.toArray.size:Int)).toNat=j:=by rw[seqIndex_neg ∅ h4]at h1;rw[z9q,<- hl];exact z7f h1
  exact subscriptTail_builtinR (x:=w) pl.isList.typeIs slot_list_getitem.lookup
   (wpAny_getItem_list_neg (Q:=λr s'=>r=w/\EP X G_ σ Q r s') pl.isList ∅ (by rw[z9q]<;>ext) ∅ (by rw[hj];simpa using ew) ⟨rfl,fin⟩) hs
def pA:IxR X (CK X.K):=by
 intro value slice G_ s σ H x y v u Q I rx ry h hs;obtain⟨p,xs,i,z,rfl,rfl,hq,he,q⟩:=h;cases rx;obtain⟨t,rfl⟩:=ry;obtain⟨its,r,pl,hz⟩:=I.tuple hq;obtain⟨j,h1,h2,h3,h4,h5⟩:=lW he;obtain⟨w,ew,rw'⟩:=r.get h2;have hl:=r.length;have hn:=ia;have fin:EP X G_ σ Q w s:=⟨z,H,I,rw',q⟩;exact subscriptTail_builtinR (x:=w) pl.typeIs slot_tuple_getitem.lookup
  (getItem_tuple (j:=j) (Q:=λr s'=>r=w/\EP X G_ σ Q r s') pl ∅ ∅ (by rw[z9q,<- hl];exact h1) (by simpa using ew) ⟨rfl,fin⟩) hs
def uF:IxR X uE:=by
 intro value slice G_ s σ H x y v u Q I rx ry h hs;obtain⟨z,i,c,rfl,rfl,hz,he,q⟩:=h;obtain⟨t,rfl⟩:=rx;obtain⟨t',rfl⟩:=ry;obtain⟨j,h1,h2,h3,h4,h5⟩:=lW he;have hl:z.cps.toList.length=z.length:=by simp[Str.length]
 rw[hl]at h1 h4 h5;have hn:=ia;exact tail_any (z4k s z t) slot_str_getitem.lookup (getItem_str (c:=c) (by
  have e1:decide (i < -(2 ^ 63:Int))=false:=z8y ∅;have e2:decide (i≥2 ^ 63)=false:=z8y ∅;rw[e1,e2,Bool.or_false]) (by rw[h1];simpa using h2) ⟨.str ⟨#[c]⟩,H,I.tok _,⟨_,rfl⟩,q⟩) hs
def CL(its:z5)(n j:Nat)(u:Value):Obj.mapSeq (·.setIfInBounds j u) {cls:=.type "list",data:=.seq its.toArray n}={cls:=.type "list",data:=.seq (its.set j u).toArray n}:=by simp[Obj.mapSeq]
def Inv.lst{G_:h_}{σ:St}{H:Hp}{s:Shared}{p:Addr}{xs:l_}(I:Inv X G_ σ H s)(h:H p=some (.lst xs)):
  ∃(its:z5) (n:Nat),Vals xs its/\s.heap.get? p=some {cls:=.type "list",data:=.seq its.toArray n}/\xs.length<=sizeLine:=by
 obtain⟨z,its,n,r,e⟩:=I.hok p _ h;exact⟨its,n,r,e,z⟩
def Inv.lstUpd{p:Addr}{n':Nat}{f:Obj->Obj}(I:Inv X G_ σ H s)(h:H p=some (.lst xs))(ho:s.heap.get? p=some {cls:=.type "list",data:=.seq its.toArray n})(hf:f {cls:=.type "list",data:=.seq its.toArray n}={cls:=.type "list",data:=.seq its'.toArray n'})(r:Vals ys its')(hz:ys.length<=sizeLine)(t:Nat):
  Inv X G_ σ (upd H p (.lst ys)) {s with heap:=s.heap.update p f,toks:=t}:=by
 have e:(s.heap.update p f).get? p=some {cls:=.type "list",data:=.seq its'.toArray n'}:=by rw[Heap.get?_update_self f ho (by rw[hf]<;>rfl),hf]
 refine I.write (x:=p) (e:=p) (by rw[h];trivial) (.inl rfl) (λb u hb q=>(z6k _ _ (Ne.symm hb)).trans q) ⟨_,e⟩ ?_;exact⟨hz,its',n',r,e⟩
def CM:V->V->V->Hp->(Hp->Prop)->Prop:=λo i v H Q=>∃p xs k j,o=.ref p/\i=.int k/\H p=some (.lst xs)/\ixN xs.length k=some j/\Q (upd H p (.lst (xs.set j v)))
def uG:tY X CM:=by
 intro G_ s σ H o i v ov iv u Q I ro ri rv h;obtain⟨p,xs,k,j,rfl,rfl,hp,hj,q⟩:=h;cases ro;obtain⟨t,rfl⟩:=ri;obtain⟨its,n,r,ho,hz⟩:=I.lst hp;obtain⟨h1,h2,h3,h4⟩:=uD hj;have hl:=r.length;have hn:=ia;have I':Inv X G_ σ (upd H p (.lst (xs.set j v))) {s with heap:=s.heap.update p (Obj.mapSeq (·.setIfInBounds j u))}:=
  I.lstUpd hp ho (CL its n j u) (r.set rv j) (by rw[z8e];exact hz) s.toks
 by_cases h0:0<=k
 ·have hk:k.toNat=j:=by rw[seqIndex_of h0 h4]at h1;exact z7f h1
  exact W.ki_setAt ho h0 ∅ (by rw[z9q,<- hl];exact h4) (by rw[hk];exact⟨_,I',q⟩)
 ·have hk:(k+(its.toArray.size:Int)).toNat=j:=by rw[seqIndex_neg ∅ h3]at h1;rw[z9q,<- hl];exact z7f h1
  exact W.ki_setBack ho ∅ (by rw[z9q,<- hl];exact h3) ∅ (by rw[hk];exact⟨_,I',q⟩)
def CN(lo hi:j_)(n:Nat):(sliceBounds lo hi none n).1=((HT.sIx n 0 lo:Nat):Int)/\(sliceBounds lo hi none n).2.1=((HT.sIx n n hi:Nat):Int)/\(sliceBounds lo hi none n).2.2=1:=by
 refine⟨?_,?_,rfl⟩
 ·cases lo with
  |none=>simp[sliceBounds,HT.sIx]
  | some i=>
    simp only[sliceBounds,HT.sIx,z5e,show(1:Int) > 0 by decide,if_true];by_cases h:i<0
    ·simp only[h,if_true]<;>ext
    ·simp only[h,z4t]<;>ext
 ·cases hi with
  |none=>simp[sliceBounds,HT.sIx]
  | some i=>
    simp only[sliceBounds,HT.sIx,z5e,show(1:Int) > 0 by decide,if_true];by_cases h:i<0
    ·simp only[h,if_true]<;>ext
    ·simp only[h,z4t]<;>ext
def CO(its:z5)(lo hi:j_):slicePick its.toArray lo hi none=((its.drop (HT.sIx its.length 0 lo)).take (HT.sIx its.length its.length hi-HT.sIx its.length 0 lo)).toArray:=by obtain⟨h1,h2,h3⟩:=CN lo hi its.toArray.size;unfold slicePick;rw[h1,h2,h3];simp only[sliceRange_one,pick_run,z9q]<;>rfl
def CP(K:K0):V->j_->j_->Hp->VK->Prop:=λx lo hi H Q=>∃a xs,x=.ref a/\SqL K H a xs/\∀p,H p=none->Q (.ref p) (upd H p (.lst (j5 xs lo hi)))
def uH:SlR X (CP X.K):=by intro G_ s σ H x v vl vu lo hi sl Q I rx hs pl pu h;obtain⟨a,xs,rfl,hx,q⟩:=h;cases rx;obtain⟨its,r,ht,hz⟩:=I.list hx;have hlen:=r.length;refine⟨"list",_,slot_list_getitem.lookup,ht.isList.typeIs,?_⟩;refine wpAny_getItem_list_slice ht.isList hs pl pu .none (by simp) ?_ (by rw[z9q]<;>ext);rw[CO,<- hlen];refine⟨.ref s.heap.objs.size,_,I.laid (t':=s.toks) (o:=.lst (j5 xs lo hi)) (λb ob q=>z9l _ q) (z9i _) ?_,rfl,q _ (I.hok.fresh (z9i _))⟩;exact⟨z7u (CI xs lo hi) hz,_,0,(r.drop (HT.sIx xs.length 0 lo)).take (HT.sIx xs.length xs.length hi-HT.sIx xs.length 0 lo),z8l _ rfl⟩
noncomputable def fw:V->Bool
 |.non=>true
 |.bl _=>true
 |.int _=>true
 |.str _=>true
 |_=>false
noncomputable def eqV:V->V->Bool
 |.non,.non=>true
 |.bl a,.bl b=>a==b
 |.bl a,.int b=>(if a then 1 else 0)==b
 |.int a,.bl b=>a==(if b then 1 else 0)
 |.int a,.int b=>a==b
 |.str a,.str b=>a==b
 |_,_=>false
def CQ{x:V}{v:Value}(ry:RelV y u)(rx:RelV x v)(fy:fw y=true)(fx:fw x=true):SeqAt.EqAt A s u v (eqV y x):=by
 cases y with
 | non=>
   cases ry;cases x with
   |non=>cases rx;exact SeqAt.EqAt.same _
   |bl b=>cases rx;exact SeqAt.EqAt.none_bool b
   |int b=>obtain⟨t,rfl⟩:=rx;exact SeqAt.EqAt.none_int b t
   |str b=>obtain⟨t,rfl⟩:=rx;exact SeqAt.EqAt.none_str b t
   |_=>exact absurd (show false=true from fx) z8r
 | bl a=>
   cases ry;cases x with
   |non=>cases rx;exact SeqAt.EqAt.bool_none a
   |bl b=>cases rx;exact SeqAt.EqAt.bool_bool a b
   |int b=>obtain⟨t,rfl⟩:=rx;exact SeqAt.EqAt.bool_int a b t
   |str b=>obtain⟨t,rfl⟩:=rx;exact SeqAt.EqAt.bool_str a b t
   |_=>exact absurd (show false=true from fx) z8r
 | int a=>
   obtain⟨t',rfl⟩:=ry;cases x with
   |non=>cases rx;exact SeqAt.EqAt.int_none a t'
   |bl b=>cases rx;exact SeqAt.EqAt.int_bool a t' b
   |int b=>obtain⟨t,rfl⟩:=rx;exact SeqAt.EqAt.int_int a t' b t
   |str b=>obtain⟨t,rfl⟩:=rx;exact SeqAt.EqAt.int_str a t' b t
   |_=>exact absurd (show false=true from fx) z8r
 | str a=>
   obtain⟨t',rfl⟩:=ry;cases x with
   |non=>cases rx;exact SeqAt.EqAt.str_none a t'
   |bl b=>cases rx;exact SeqAt.EqAt.str_bool a t' b
   |int b=>obtain⟨t,rfl⟩:=rx;exact SeqAt.EqAt.str_int a t' b t
   |str b=>obtain⟨t,rfl⟩:=rx;exact SeqAt.EqAt.str_str a t' b t
   |_=>exact absurd (show false=true from fx) z8r
 |_=>exact absurd (show false=true from fy) z8r
def eqU(x:V)(u:Value):Bool:=match u with
 |.none=>eqV .non x
 |.bool b=>eqV (.bl b) x
 |.int i _=>eqV (.int i) x
 |.str z _=>eqV (.str z) x
 |_=>false
def uI{x:V}(r:RelV y u)(f:fw y=true):eqU x u=eqV y x:=by
 cases y with
 |non=>cases r;rfl
 |bl b=>cases r;rfl
 |int i=>obtain⟨t,rfl⟩:=r;rfl
 |str z=>obtain⟨t,rfl⟩:=r;rfl
 |_=>exact absurd (show false=true from f) z8r
theorem kh{x:V}:∀{xs:l_} {us:z5},Vals xs us->xs.all fw=true->us.any (eqU x)=xs.any λy=>eqV y x
 |_,_,.nil,_=>rfl
 |y::xs,u::us,.cons r t,f=>by rw[z6d,z8m]at f;rw[z6j,z6j,uI r f.1,kh t f.2]
theorem ki{A:Around}{s:Shared}{x:V}{v:Value}(rx:RelV x v)(fx:fw x=true):∀{xs:l_} {us:z5},Vals xs us->xs.all fw=true->∀u∈us,SeqAt.EqAt A s u v (eqU x u)
 |_,_,.nil,_=>λu hu=>by cases hu
 | y::xs,u::us,.cons r t,f=>λu' hu=>by
   rw[z6d,z8m]at f;rcases z9j.mp hu with rfl|hu
   ·rw[uI r f.1];exact CQ r rx f.1 fx
   ·exact ki rx fx t f.2 u' hu
def inV(x:V)(xs:l_):Bool:=xs.any λy=>eqV y x
def rIn(K:K0)(neg:Bool):R2:=λx y H Q=>∃p xs,y=.ref p/\(SqL K H p xs\/SqT K H p xs)/\fw x=true/\xs.all fw=true/\Q (.bl (if neg then !inV x xs else inV x xs)) H
def CS:OpR X (compareOp .In) (rIn X.K false):=by
 intro G_ s σ H x y v u Q I rx ry h;obtain⟨p,xs,rfl,hq,fx,fs,q⟩:=h;cases ry;rcases hq with hq|hq
 ·obtain⟨its,r,pl,hz⟩:=I.list hq
  refine SeqAt.in_listAt (eqU x) pl.isList (λw hw=>ki rx fx r fs w (by simpa using hw)) ⟨.bl _,H,I,rfl,?_⟩;rw[show its.toArray.any (eqU x)=its.any (eqU x)by simp,kh r fs];exact q
 ·obtain⟨its,r,pl,hz⟩:=I.tuple hq
  refine SeqAt.in_tupleAt (eqU x) pl (λw hw=>ki rx fx r fs w (by simpa using hw)) ⟨.bl _,H,I,rfl,?_⟩;rw[show its.toArray.any (eqU x)=its.any (eqU x)by simp,kh r fs];exact q
def CT:OpR X (compareOp .NotIn) (rIn X.K true):=by
 intro G_ s σ H x y v u Q I rx ry h;obtain⟨p,xs,rfl,hq,fx,fs,q⟩:=h;cases ry;rcases hq with hq|hq
 ·obtain⟨its,r,pl,hz⟩:=I.list hq
  refine SeqAt.notIn_listAt (eqU x) pl.isList (λw hw=>ki rx fx r fs w (by simpa using hw)) ⟨.bl _,H,I,rfl,?_⟩;rw[show its.toArray.any (eqU x)=its.any (eqU x)by simp,kh r fs];exact q
 ·obtain⟨its,r,pl,hz⟩:=I.tuple hq
  refine SeqAt.notIn_tupleAt (eqU x) pl (λw hw=>ki rx fx r fs w (by simpa using hw)) ⟨.bl _,H,I,rfl,?_⟩;rw[show its.toArray.any (eqU x)=its.any (eqU x)by simp,kh r fs];exact q
def uJ:di X (.builtin "len") (λxs H Q=>∃p ys,xs=[.ref p]/\(SqL X.K H p ys\/SqT X.K H p ys)/\Q (.int ys.length) H):=by
 intro G_ s σ H xs us Q I r h;obtain⟨p,ys,rfl,hq,q⟩:=h;obtain⟨u,rfl,rx⟩:=dH r;cases rx;have hn:=ia;rcases hq with hq|hq
 ·obtain⟨its,r',pl,hz⟩:=I.list hq
  have hlen:=r'.length;exact Calls.call_len_list pl.isList (by simp only[z9q]<;>ext) ⟨.int ys.length,H,I.tok _,⟨s.toks+1,by rw[z9q,hlen]⟩,q⟩
 ·obtain⟨its,r',pl,hz⟩:=I.tuple hq
  have hlen:=r'.length;exact len_tuple pl (by simp only[z9q]<;>ext) ⟨.int ys.length,H,I.tok _,⟨s.toks+1,by rw[z9q,hlen]⟩,q⟩
def CU:di X (.builtin "len") (λxs H Q=>∃z,xs=[.str z]/\z.length<=sizeLine/\Q (.int z.length) H):=by intro G_ s σ H xs us Q I r h;obtain⟨z,rfl,hz,q⟩:=h;obtain⟨u,rfl,t,rfl⟩:=dH r;have hn:=ia;exact len_str ∅ ⟨.int z.length,H,I.tok _,⟨_,rfl⟩,q⟩
def uK:di X (.type "list") (λxs H Q=>∃p ys,xs=[.ref p]/\(SqL X.K H p ys\/SqT X.K H p ys)/\∀l,H l=none->Q (.ref l) (upd H l (.lst ys))):=by
 intro G_ s σ H xs us Q I r h;obtain⟨p,ys,rfl,hq,q⟩:=h;obtain⟨u,rfl,rx⟩:=dH r;cases rx;have fin:∀(its:z5),Vals ys its->ys.length<=sizeLine->∀(h':Heap) (c':Nat),(∀b o',s.heap.get? b=some o'->h'.get? b=some o') ->
   h'.get? s.heap.objs.size=some {cls:=.type "list",dict:=none,data:=.seq its.toArray c',slots:=#[]}->EP X G_ σ Q (.ref s.heap.objs.size) {s with heap:=h'}:=λits r' hz h' c' kp e=>
  ⟨.ref s.heap.objs.size,_,I.laid (t':=s.toks) kp (z9i _) (show ObjOk X.prog X.w _ h' _ (.lst ys)from⟨hz,its,c',r',e⟩),rfl,q _ (I.hok.fresh (z9i _))⟩
 rcases hq with hq|hq
 ·obtain⟨its,r',pl,hz⟩:=I.list hq
  have hlen:=r'.length;obtain⟨o,ho,hc,n,hd⟩:=pl.isList;exact call_list_seq p (.inl rfl) ho hc hd (λh' c' kp e=>fin its r' hz h' c' kp e) (by simp only[z9q]<;>ext)
 ·obtain⟨its,r',pl,hz⟩:=I.tuple hq
  have hlen:=r'.length;obtain⟨o,ho,hc,n,hd⟩:=pl;exact call_list_seq p (.inr rfl) ho hc hd (λh' c' kp e=>fin its r' hz h' c' kp e) (by simp only[z9q]<;>ext)
def CV:di X (.type "tuple") (λxs H Q=>∃p ys,xs=[.ref p]/\((SqL X.K H p ys/\∀l,H l=none->Q (.ref l) (upd H l (.tup ys)))\/(SqT X.K H p ys/\Q (.ref p) H))):=by
 intro G_ s σ H xs us Q I r h;obtain⟨p,ys,rfl,h⟩:=h;obtain⟨u,rfl,rx⟩:=dH r;cases rx;rcases h with⟨hq,q⟩|⟨hq,q⟩
 ·obtain⟨its,r',pl,hz⟩:=I.list hq
  have hlen:=r'.length;refine call_tuple_list pl.isList (λh' kp=>?_) (by simp only[z9q]<;>ext);have I1:Inv X G_ σ H {s with heap:=h'}:=I.kept (t':=s.toks) kp;have I2:Inv X G_ σ (upd H h'.objs.size (.tup ys)) {s with heap:=h'.push {cls:=.type "tuple",data:=.seq its.toArray}}:=
   I1.laid (t':=s.toks) (λb o e=>z9l _ e) (z9i _) (show ObjOk X.prog X.w _ _ _ (.tup ys)from⟨hz,its,r',IsTup.new _ _⟩)
  exact⟨.ref h'.objs.size,_,I2,rfl,q _ (I1.hok.fresh (z9i _))⟩
 ·obtain⟨its,r',pl,hz⟩:=I.tuple hq
  exact call_tuple_same pl ⟨.ref p,H,I,rfl,q⟩
def tyV(K:K0)(T:String)(x:V)(H:Hp):Prop:=match x with
 |.str _=>T="str"
 |.int _=>T="int"
 | .ref p=>(T="list"/\∃xs,SqL K H p xs)\/(T="tuple"/\∃o,K.lookup p=some o/\o.cls=.type "tuple"/\o.dict=none) \/
   (T="dict"/\((∃kvs,H p=some (.dK kvs))\/∃kvs,H p=some (.dT kvs)))\/(T="set"/\∃S n,H p=some (.set S n))
 |_=>False
def CW{T:String}{x:V}{v:Value}(I:Inv X G_ σ H s)(r:RelV x v)(ty:tyV X.K T x H):
  s.TypeIs v T/\∀a,v=.ref a->∃ob,s.heap.get? a=some ob/\ob.dict=none:=by
 cases x with
 |str z=>obtain⟨t,rfl⟩:=r;cases(show T="str" from ty);exact⟨z4k s z t,λ_ e=>nomatch e⟩
 |int i=>obtain⟨t,rfl⟩:=r;cases(show T="int" from ty);exact⟨typeIs_int s i t,λ_ e=>nomatch e⟩
 | ref p=>
   cases r;rcases ty with⟨rfl,xs,hq⟩|⟨rfl,o,hk,hc,hd⟩|⟨rfl,hk⟩|⟨rfl,S,n,hk⟩
   ·obtain⟨its,_,pl,_⟩:=I.list hq
    refine⟨pl.isList.typeIs,λa e=>?_⟩;cases e;obtain⟨o,n,e,c,hd,_⟩:=pl;exact⟨o,e,hd⟩
   ·refine⟨⟨o,I.kIn p o hk,hc⟩,λa e=>?_⟩
    cases e;exact⟨o,I.kIn _ o hk,hd⟩
   ·have z:∃o,s.heap.get? p=some o/\o.ExactDict:=by
     rcases hk with⟨kvs,hk⟩|⟨kvs,hk⟩
     ·obtain⟨_,_,_,_,o,_,_,e,ex,_⟩:=I.hok p _ hk
      exact⟨o,e,ex⟩
     ·obtain⟨_,_,_,_,o,_,_,e,ex,_⟩:=I.hok p _ hk
      exact⟨o,e,ex⟩
    obtain⟨o,e,ex⟩:=z;refine⟨⟨o,e,ex.1⟩,λa e2=>?_⟩;cases e2;exact⟨o,e,ex.2.1⟩
   ·obtain⟨o,_,_,_,e,ex,_⟩:=I.hok p _ hk
    refine⟨⟨o,e,ex.1⟩,λa e2=>?_⟩;cases e2;exact⟨o,e,ex.2.1⟩
 |_=>exact False.elim ty
def tBM(K:K0)(T:String)(r:V->l_->Hp->VK->Prop)(to:TE)(t:TA):TE:=λσ H Q=>to σ H λx H1=>tyV K T x H1/\t σ H1 λxs H2=>r x xs H2 Q
variable {o:Expr}{es:z6}{t:TA}{T id:String}{r:V->l_->Hp->VK->Prop}
def ib(pa:PlainAttrs T)(slot:Slot T name id)(hty:typeOf (.builtin id)=pure (.type "method_descriptor"))(hm:MtR X id r)(ho:PE X o to)(ha:PA X (e::es) t)(hbase:attributeBase o name X.env (eval o X.env)=eval o X.env<|>J7)(hfew:(((backTo cpos (starEach (e::es) X.env)).all (λx=>!x.1)&&(backToKw cpos (keywordEach [] X.env)).all (λx=>x.1.isSome)
   && decide ((e::es).length+([]:z8).length+(if([]:z8).isEmpty then 0 else 1)<30))=true)<|>J7)(hline:(apos.endLine==cpos.line)=true<|>J7)(hs:SE e es X<|>J7)(hplain:BT cpos es X<|>J7):
  PE X (.Call (.Attribute o name apos) (e::es) [] cpos) (tBM X.K T r to t):=by
 intro G_ s σ H Q I h;refine wpAny_Call_method_late hbase hfew hline rfl (b9 (ho G_ s σ H _ I h) λv s1 x H1 I1 r1 y0=>?_);obtain⟨ty,q1⟩:=y0;obtain⟨h1,h2⟩:=CW I1 r1 ty;refine⟨T,id,pa,slot,hty,h1,h2,?_⟩;have hA:=ha cpos G_ s1 σ H1 _ I1 q1;rw[hs]at hA ⊢;refine Calls.callWith_builtin (by show(false||(backTo cpos (starEach es X.env)).any (·.1))=false;rw[hplain]<;>rfl) (z4l ?_);exact cQ hA λus s2 vs H2 I2 r2 q2=>hm G_ s2 σ H2 x vs v us Q I2 r1 r2 q2
end
def MtM(X:Cx)(id:String)(r:V->l_->Hp->VK->Prop):Prop:=
 ∀(G_:h_) (s:Shared) (σ:St) (H:Hp) (x:V) (xs:l_) (v:Value) (us:z5) (Q:VK),Inv X G_ σ H s->RelV x v->Vals xs us->r x xs H Q ->
   wpAny (model X.prog X.w) X.A (call (.builtin id) (v::us)) (EP X G_ σ Q) X.xe s
theorem Vals.one:∀{x:V} {us:z5},Vals [x] us->∃u,us=[u]/\RelV x u
 |_,_,.cons r .nil=>⟨_,rfl,r⟩
def Vals.reverse(h:Vals xs us):Vals xs.reverse us.reverse:=by
 induction h with
 |nil=>exact .nil
 |cons r t ih=>rw[z6h,z6h];exact Vals.append ih (.cons r .nil)
def Inv.lset{f:Array Value->Array Value}(I:Inv X G_ σ H s)(hH:H l=some (.lst xs))(e:s.heap.get? l=some {cls:=.type "list",data:=.seq its.toArray n})(hf:f its.toArray=its'.toArray)(hv:Vals ys its')(hz:ys.length<=sizeLine):
  Inv X G_ σ (upd H l (.lst ys)) {s with heap:=s.heap.update l (Obj.mapSeq f),toks:=t'}:=by
 have q:=PySem.IsL.update e f;rw[hf]at q;refine I.write (x:=l) (e:=l) (by rw[hH];exact trivial) (.inl rfl) (λb' u hb hu=>(z6k s.heap (Obj.mapSeq f) (Ne.symm hb)).trans hu) ⟨_,q⟩ ?_;exact⟨hz,its',_,hv,q⟩
def Inv.lnew(I:Inv X G_ σ H s)(hv:Vals ys its)(hz:ys.length<=sizeLine):
  Inv X G_ σ (upd H s.heap.objs.size (.lst ys)) {s with heap:=s.heap.push {cls:=.type "list",data:=.seq its.toArray},toks:=t'}:=
 I.laid (λ_ _ q=>z9l _ q) (z9i _) ⟨hz,its,0,hv,z8l _ rfl⟩
def Inv.fresh(I:Inv X G_ σ H s):H s.heap.objs.size=none:=I.hok.fresh (z9i _)
def Inv.lstM(I:Inv X G_ σ H s)(hH:H l=some (.lst xs)):xs.length<=sizeLine/\∃(its:z5) (n:Nat),Vals xs its/\xs.length=its.length/\s.heap.get? l=some {cls:=.type "list",data:=.seq its.toArray n}:=by obtain⟨z,its,n,r,e⟩:=I.hok l _ hH;exact⟨z,its,n,r,r.length,e⟩
def CY:V->l_->Hp->VK->Prop:=λx vs H Q=>∃l xs y,x=.ref l/\vs=[y]/\H l=some (.lst xs)/\xs.length<sizeLine/\Q .non (upd H l (.lst (xs++[y])))
theorem pB:MtM X "list.append" CY:=by intro G_ s σ H x vs v us Q I rx rv h;obtain⟨l,xs,y,rfl,rfl,hH,hz,q⟩:=h;cases rx;obtain⟨u,rfl,ru⟩:=rv.one;obtain⟨z,its,n,r,hl,e⟩:=I.lstM hH;refine z4m F.slot_list_append ⟨_,e,rfl⟩ F.entry_list_append (F.args_list_append_2 _ _) (PySem.list_append l its.toArray n u (by rw[z9q];ext)) ⟨e,?_⟩;refine⟨.non,_,I.lset (its':=its++[u]) hH e (by simp) (r.append (.cons ru .nil)) ?_,rfl,q⟩;rw[z9h,z4d];ext
end L2
namespace Att
open PySem PySem.W PySem.Calls PyProof.Rows
def CZ{P:Params}:∀(ns:z_) (vs:z5),WellAll P h vs (ns.map WData.int)->IntsAre vs ns:=by
 intro ns
 induction ns with
 |nil=>intro vs w;rw[z7v]at w;cases w;exact .nil
 | cons n ns ih=>
   intro vs w;rw[z9n]at w;cases w with
   |cons a b=>cases a;exact .cons _ _ (ih _ b)
def D0{l:OpenLaw}(hn:l.most=some n){P:Params}{args:List WData}{vals:z5}(hpre:l.row.toRowW.claim.pre args=true)(hwl:WellAll P h vals args):
  ∃a vs ns,vals=[Value.ref a]/\args=[WData.list (ns.map WData.int)]/\h.get? a=some {cls:=.type "list",data:=.seq vs.toArray}/\IntsAre vs ns/\ns.length<=n:=by
 have hsh:WShape.hasAll [] args [.list .int]=true:=(pre_splitW hpre).1;have hc:l.pre.holds [] {args:=args}=true:=(pre_splitW hpre).2;obtain⟨d,r,rfl,h1,h2⟩:=hasAllW_cons hsh;obtain rfl:=hasAllW_nil h2;obtain⟨xs,rfl,h3⟩:=hasW_list h1;obtain⟨ns,rfl⟩:=items_int h3;have hlen:ns.length<=n:=by
  unfold OpenLaw.pre at hc;have h4:(WTm.not (.lt (.lit (.int (n:Int))) (.len (.arg 0)))).holds [] {args:=[.list (ns.map .int)]}=true:=by have h4:=(holds_andW hc).1;rw[hn]at h4;exact h4
  have h5:=condW_of h4 (w_not (w_lt w_lit (w_len_list (w_arg rfl))));rw[z9b]at h5;refine Nat.le_of_not_lt λq=>?_
  have q':(n:Int)<((ns.length:Nat):Int):=by ext
  first
   |(rw[z9w q']at h5;exact absurd h5 (by decide))
   |(simp at h5;ext)
 cases hwl with
 | cons w1 w2=>
   cases w2;cases w1 with
   |list ho hall=>exact⟨_,_,ns,rfl,rfl,ho,CZ ns _ hall,hlen⟩
def D1(l:OpenLaw)(args:List WData):l.row.toRowW.claim.post args (.bool true) args=true:=
 postW_of (r:=l.row.toRowW) (X:=(true==true))
  (show WShape.has [] (.bool true) .bool=true by first|rfl|decide|simp[WShape.has,WShape.arms,WShape.armsAll])
  (show(WTm.eq .res (.lit (.bool true))).value [] {args:=args,res:=some (.bool true),after:=args}=some (.bool (true==true))from w_eq_bool (w_res rfl) w_lit) rfl
def attach_call{l:OpenLaw}{YP:World->Heap->Prop}{d:DefRec}(hn:l.most=some n)(hdf:d.params.defaults=[])(call:∀(w:World) (s₀ y1:Shared) (mg mb:Str->i_) (fa:Addr) (o:Obj) (pm cd doc:Value) (a:Addr) (vs:z5) (ns:z_),
   Ground q loose [] XP w s₀ mg mb y1.heap->YP w y1.heap ->
   y1.heap.get? fa=some o->o.data=.func (docDef d.name d.params d.body d.scope pm cd doc)->y1.heap.CodeRec cd d.name->mg d.name=some (.ref fa) ->
   y1.heap.get? a=some {cls:=.type "list",data:=.seq vs.toArray}->IntsAre vs ns->ns.length<=n->y1.gens=#[] ->
   codeAny (model l.prog w) callerA (.call (.ref fa) ⟨[.ref a],[]⟩) (λr s'=>r=.ok (.ret (.bool true))/\OldK y1.heap s'.heap/\s'.os=y1.os/\AllBare s'.gens) y1):
  WalkO q loose XP YP l.row.toRowW d [] (λf vs=>PySem.call f vs):=by
 intro w s₀ y1 mg mb G Y fa o pm cd doc dV kV ho hd hcd hD hmg hg args vals as hpre hlay hrd hwl hlo;obtain rfl:dV=.none:=Dflts.none hD hdf;obtain rfl:kV=.none:=Dflts.noKw hD;obtain⟨a,vs,ns,rfl,rfl,hobj,hints,hlen⟩:=D0 hn hpre hwl;refine enter_call (z5c (call w s₀ y1 mg mb fa o pm cd doc a vs ns G Y ho (fd_plain hd) hcd hmg hobj hints hlen hg) λr s' hq=>?_);obtain⟨rfl,h2,h3,h4⟩:=hq;exact⟨.inl ⟨.bool true,.bool true,[],rfl,λ_=>rfl,.bool true,D1 l _,λ_=>⟨List.Pairwise.nil,λ_ hm=>(nomatch hm)⟩⟩,h2,h3,h4⟩
end Att
namespace L2
open PySem PySem.Spec PyProof.Rows
theorem uL:∀{vs:z5} {ns:z_},IntsAre vs ns->Vals (ns.map V.int) vs
 |_,_,.nil=>.nil
 |_,_,.cons n t h=>.cons ⟨t,rfl⟩ (uL h)
def pC(H:Hp):Prop:=∀b,H b=none\/∃o xs,H b=some (.frz o (.lst xs))
def D2{mb:Str->i_}{k:Nat}{fa a:Addr}{y1:Shared}{vs:z5}{ns:z_}(KX:K.In y1.heap)(hns:y1.heap.Ns mainGlobals mg)(hb:y1.heap.Ns builtinsNs mb)(hbb:∀x:Str,x ≠ "__name__"->mb x=bootBuiltins x)(hlim:y1.heap.NoLimit)(hg:y1.gens=#[])(ha:y1.heap.get? a=some {cls:=.type "list",data:=.seq vs.toArray})(hi:IntsAre vs ns)(hl:ns.length<=sizeLine)(hr:Room k callerA)(F:∀base:Heap,K.In base->base.Ns mainGlobals mg->FnOk P w K mg base CX k fa fd [x] sp)(hbind:∀(s:Shared) (u:Value),BindsTo s fd ⟨[u],[]⟩ [(x,u)])(hsp:∀H:Hp,pC H->SqL K H a (ns.map V.int)->sp [.ref a] H (λv _=>v=.bl true) λ_ _ _=>False)(hCX:∀H e s',CX [] H y1 (λ_ _ _=>False) e s'->False):
  codeAny (model P w) callerA (.call (.ref fa) ⟨[.ref a],[]⟩) (λr s'=>r=.ok (.ret (.bool true))/\OldK y1.heap s'.heap/\s'.os=y1.os/\AllBare s'.gens) y1:=by
 have rv:=uL hi;have lenV:=hi.length;have core : ∀H:Hp,pC H->SqL K H a (ns.map V.int)->HOk P w H y1.heap->(∀b,H b≠none->b=a)->(H a≠none->K.lookup a=none) ->
   codeAny (model P w) callerA (.call (.ref fa) ⟨[.ref a],[]⟩) (λr s'=>r=.ok (.ret (.bool true))/\OldK y1.heap s'.heap/\s'.os=y1.os/\AllBare s'.gens) y1:=by
  intro H hO hS hok hA hK;have base_of:∀{b:Addr} {o:Obj},y1.heap.get? b=some o->H b=none->(fX y1.heap H).get? b=some o:=λe n=>Bw e n
  have noA:∀{b:Addr} {o:Obj} {es:Array DictEntry} {ep:Nat},y1.heap.get? b=some o->o.data=.dict es ep->H b=none:=λ{b o es ep} e d=>by
   cases q:H b with
   |none=>rfl
   |some u=>have e':b=a:=hA b (by rw[q];simp);subst e';rw[ha]at e;cases e;have d':Data.seq vs.toArray _=Data.dict es ep:=d;cases d'
  have nsK:∀{b:Addr} {m:Str->i_},y1.heap.Ns b m->(fX y1.heap H).Ns b m:=λ{b m} ⟨o,es,ep,e,d,r⟩=>⟨o,es,ep,base_of e (noA e d),d,r⟩
  have hKb:K.In (fX y1.heap H):=λb o e=>base_of (KX b o e) (by
   cases q:H b with
   |none=>rfl
   |some u=>have e':b=a:=hA b (by rw[q];simp);subst e';rw[hK (by rw[q];simp)]at e;cases e)
  have hM:Mod K mg (fX y1.heap H):=⟨hKb,nsK hns,⟨mb,nsK hb,hbb⟩,let⟨mc,h1,h2⟩:=hlim;⟨mc,nsK h1,h2⟩⟩;have e0:Env0 P w K mg (fX y1.heap H) callerA [] y1 H:=⟨rfl,hM,λb o e=>Bx e,Nat.le_of_eq (Bv _ _),trivial,λb hb=>absurd (show b∈([]:z7)from hb) (by simp),hok,.of_eq hg⟩;refine z5c ((F _ hKb (nsK hns)).run callerA [] y1 H ⟨[.ref a],[]⟩ [.ref a] [.ref a] _ _ hr e0 (hbind y1 (.ref a)) (.cons rfl .nil) (hsp H hO hS)) λr s' h=>?_
  cases r with
  |error e=>exact(hCX H e s' h).elim
  | ok fl=>
    cases fl with
    |next=>exact False.elim h
    |brk=>exact False.elim h
    |cont=>exact False.elim h
    | ret u=>
      obtain⟨v,H',os,bare,un,hok',r',q⟩:=h;have q':v=.bl true:=q;subst q';obtain rfl:u=Value.bool true:=r';refine⟨rfl,OldK.of_keep λb o e=>?_,os,bare⟩;cases q:H b with
      |none=>exact un.keep b o e q (by intro z;exact absurd (show b∈([]:z7)from z) (by simp)) (by simp)
      | some u=>
        rcases hO b with z|⟨ob,xs,z⟩
        ·rw[q]at z;cases z
        ·have z2:=un.frzs b ob _ z
         obtain⟨e1,_⟩:=hok b _ z;obtain⟨e2,_⟩:=hok' b _ z2;rw[e]at e1;cases e1;exact e2
 cases hk:K.lookup a with
 |some o=>have e:=KX a o hk;rw[ha]at e;cases e;refine core (λ_=>none) (λ_=>.inl rfl) (.inr ⟨_,vs.toArray,_,hk,rfl,rfl,rfl,by rw[z9q,lenV];exact hl,by simpa using rv⟩) (λb u z=>by have z':(none:Option HO)=some u:=z;cases z') (λb z=>absurd rfl z) λz=>absurd rfl z
 | none=>
   refine core (λb=>if b=a then some (.frz {cls:=.type "list",data:=.seq vs.toArray} (.lst (ns.map V.int)))else none) (λb=>?_) (.inl (.inr ⟨{cls:=.type "list",data:=.seq vs.toArray},if_pos rfl⟩)) (λb u z=>?_) (λb z=>?_) λ_=>hk
   ·by_cases hb:b=a
    ·exact .inr ⟨_,_,if_pos hb⟩
    ·exact .inl (if_neg hb)
   ·by_cases hb:b=a
    ·have z':=(if_pos hb).symm.trans z
     cases z';subst hb;exact⟨ha,by rw[z9b];exact hl,vs,_,rv,ha⟩
    ·have z':=(if_neg hb).symm.trans z
     cases z'
   ·by_cases hb:b=a
    ·exact hb
    ·exact absurd (if_neg hb) z
def walk_of{l:W.OpenLaw}{k:Nat}{YP:World->Heap->Prop}{d:DefRec}{K:Params->K0}{CX:World->CXT}{sp:World->Sp}(hn:l.most=some n)(hn2:n<=sizeLine)(hdf:d.params.defaults=[])(hr:Room k callerA)(hY:∀(w:World) (h:Heap),YP w h->(K w.params).In h)(F:∀(w:World) (mg:Str->i_) (fa:Addr) (h:Heap),(K w.params).In h->h.Ns mainGlobals mg->mg d.name=some (.ref fa) ->
   ∃fd:FuncData,(∀(s:Shared) (u:Value),BindsTo s fd ⟨[u],[]⟩ [(x,u)]) /\
     ∀base:Heap,(K w.params).In base->base.Ns mainGlobals mg->FnOk l.prog w (K w.params) mg base (CX w) k fa fd [x] (sp w))(hsp:∀(w:World) (H:Hp) (a:Addr) (ns:z_),ns.length<=n->pC H->SqL (K w.params) H a (ns.map V.int)->sp w [.ref a] H (λv _=>v=.bl true) λ_ _ _=>False)(hCX:∀(w:World) (H:Hp) (s:Shared) (e:Value) (s':Shared),CX w [] H s (λ_ _ _=>False) e s'->False):
  W.WalkO q loose XP YP l.row.toRowW d [] (λf vs=>PySem.call f vs):=by
 refine Att.attach_call hn hdf λw s₀ y1 mg mb fa o pm cd doc a vs ns G Y ho hd hcd hmg hobj hints hlen hg=>?_
 have KX:=hY w _ Y;obtain⟨fd,hb,hF⟩:=F w mg fa _ KX G.T.g hmg;exact D2 KX G.T.g G.T.b G.T.builtins G.T.nolimit hg hobj hints (z7u hlen hn2) hr hF hb (λH hO hS=>hsp w H a ns hlen hO hS) λH e s'=>hCX w H y1 e s'
noncomputable def cx(s:Stmt)(j:Nat):Stmt:=match s with
 |.ClassDef _ _ _ body _ _ _ _ _ _ _=>body.getD j (.Pass ⟨0,0,0,0⟩)
 |_=>.Pass ⟨0,0,0,0⟩
noncomputable def gE(s:Stmt):Arguments:=match s with
 |.FunctionDef _ a _ _ _ _ _ _ _ _=>a
 |_=>{posonlyargs:=[],args:=[],vararg:=none,kwonlyargs:=[],kw_defaults:=[],kwarg:=none,defaults:=[]}
noncomputable def cU(s:Stmt):z9:=match s with
 |.FunctionDef _ _ b _ _ _ _ _ _ _=>b
 |_=>[]
noncomputable def am(s:Stmt):Scope:=match s with
 |.FunctionDef _ _ _ _ _ _ sc _ _ _=>sc
 |_=>{kind:=.function,names:=[],isGenerator:=false,isCoroutine:=false}
abbrev CX0:CXT:=λ_ _ _ _ _ _=>False
abbrev E0:XK:=λ_ _ _=>False
def f6:gb CX0 X E0:=λ_ _ _ _ _ _ _ h=>h.elim
structure Fun (K:K0) (x qual:Str) (st:Stmt) (f:Addr) (fd:FuncData):Prop where
 ex:∃(oc:Value) (od:Option Addr) (kV doc pm:Value) (an:Option Addr) (cdv ct:Value) (osl:Array i_),
  fd=W.fnOf x qual (gE st) (cU st) (am st) .none kV doc pm an cdv ct/\K.lookup f=some ⟨oc,od,.func fd,osl⟩/\W.codeIn K cdv qual=true
 kp:W.keepIn K (.ref f)=true
theorem Fun.ok{k:Nat}(F:Fun K x qual st f fd)(S:FnScope N ps (am st))(len:∀vs H Q E,sp vs H Q E->vs.length=ps.length)(hbody:∀(cdv:Value) (A:Around) (outer:List Env) (s:Shared) (H:Hp) (vs:l_) (Q:VK) (E:XK),Room k (A.deeper (envOfC qual (am st) s.heap.objs.size f cdv))->sp vs H Q E ->
   ∃t,PSs (cM CX0 P w K mg base N qual (am st) f cdv A outer s H E).nox (cU st) t/\t {nx:=λ_ H'=>Q .non H',rt:=Q} (start N vs) H):FnOk P w K mg base CX0 (k+1) f fd ps sp:=by
 obtain⟨oc,od,kV,doc,pm,an,cdv,ct,osl,rfl,lk,hcd⟩:=F.ex;refine uC lk hcd S len λA outer s H vs Q E hr hsp=>?_
 obtain⟨t,h,q⟩:=hbody cdv A outer s H vs Q E hr hsp;exact⟨t,h.nox,q⟩
theorem Fun.binds(F:Fun K x qual st f fd)(h:∀(kV doc pm:Value) (an:Option Addr) (cdv ct:Value) (us:z5),us.length=ps.length->bindArgs (W.fnOf x qual (gE st) (cU st) (am st) .none kV doc pm an cdv ct) ⟨us,[]⟩=pure (ps.zip us)):Binds K fd ps []:=by obtain⟨oc,od,kV,doc,pm,an,cdv,ct,osl,rfl,lk,hcd⟩:=F.ex;exact .all (h kV doc pm an cdv ct)
def pE{kV:Value}(l:K.lookup f=some ⟨oc,od,.func (W.fnOf x qual (gE st) (cU st) (am st) .none kV doc pm an cdv ct),osl⟩)(c:W.codeIn K cdv qual=true)(k:W.keepIn K (.ref f)=true):Fun K x qual st f (W.fnOf x qual (gE st) (cU st) (am st) .none kV doc pm an cdv ct):=⟨⟨oc,od,kV,doc,pm,an,cdv,ct,osl,rfl,l,c⟩,k⟩
def D3(h:n<=1000):n<sizeLine:=Nat.lt_of_le_of_lt h (by decide)
def dU{A B:Prop}(h:B):if false=true then A else B:=by rw[if_neg z8r];exact h
def dW{A B:Prop}(h:A):if true=true then A else B:=by rw[if_pos rfl];exact h
def Same(H H':Hp):Prop:=∀b o,H b=some o->H' b=some o
def Same.refl(H:Hp):Same H H:=λ_ _ h=>h
def Same.trans(a:Same H H1)(b:Same H1 H2):Same H H2:=λc o h=>b c o (a c o h)
def Same.free(e:Same H H')(h:H' l=Option.none):H l=Option.none:=by
 cases q:H l with
 |none=>rfl
 |some o=>rw[e l o q]at h;cases h
def Same.seq{a:Addr}(e:Same H H')(h:SqL K H a xs):SqL K H' a xs:=by
 rcases h with(h|⟨o,h⟩)|h
 ·exact .inl (.inl (e _ _ h))
 ·exact .inl (.inr ⟨o,e _ _ h⟩)
 ·exact .inr h
section
variable {κ:Type}[DecidableEq κ]
noncomputable def bN(kvs:List (κ×V))(k:κ):m_:=(kvs.find? λkv=>decide (kv.1=k)).map (·.2)
noncomputable def cS(kvs:List (κ×V))(k:κ)(v:V):List (κ×V):=
 if(kvs.any λkv=>decide (kv.1=k))=true then kvs.map (λkv=>if kv.1=k then(kv.1,v)else kv)else kvs++[(k,v)]
def uM{k:κ}:bN ([]:List (κ×V)) k=none:=rfl
def lX{p:κ×V}{r:List (κ×V)}{k:κ}(e:p.1=k):bN (p::r) k=some p.2:=by simp[bN,z5b,e]
def lY{p:κ×V}{r:List (κ×V)}{k:κ}(e:¬p.1=k):bN (p::r) k=bN r k:=by simp[bN,z5b,e]
theorem lZ(k:κ):∀kvs:List (κ×V),(kvs.any λkv=>decide (kv.1=k))=(bN kvs k).isSome
 |[]=>rfl
 | p::r=>by
   rw[z6j];by_cases e:p.1=k
   ·simp only[lX e,z9w e,Bool.true_or,Option.isSome_some]
   ·rw[lY e,z8y e,Bool.false_or];exact lZ k r
def pF(kvs:List (κ×V))(k:κ)(v:V):(cS kvs k v).length<=kvs.length+1:=by
 unfold cS;split
 ·rw[z9b];ext
 ·rw[z9h,z9e,z9p];ext
def pG{kvs:List (κ×V)}{k:κ}(v:V)(h:bN kvs k=none):cS kvs k v=kvs++[(k,v)]:=by unfold cS;rw[lZ,h];exact if_neg (by decide)
def RelO.isSome_eq{o:m_}{u:i_}(r:RelO o u):o.isSome=u.isSome:=by
 cases o with
 | none=>cases u with
   |none=>rfl
   |some _=>exact(show False from r).elim
 | some _=>cases u with
   |none=>exact(show False from r).elim
   |some _=>rfl
def KV.val{kvs:List (κ×V)}{vs:List (κ×Value)}(r:KV kvs vs)(k:κ):RelO (bN kvs k) (valueAt vs k):=by
 unfold KV at r
 induction r with
 |nil=>exact True.intro
 | @cons p q ps qs h t ih=>
   obtain⟨h1,h2⟩:=h;by_cases e:p.1=k
   ·have e':q.1=k:=h1.symm.trans e
    have b:valueAt (q::qs) k=some q.2:=by simp[valueAt,z5b,e']
    rw[lX e,b];exact h2
   ·have e':¬q.1=k:=λz=>e (h1.trans z)
    have b:valueAt (q::qs) k=valueAt qs k:=by simp[valueAt,z5b,e']
    rw[lY e,b];exact ih
def KV.any{kvs:List (κ×V)}{vs:List (κ×Value)}(r:KV kvs vs)(k:κ):(kvs.any λkv=>decide (kv.1=k))=vs.any λkv=>decide (kv.1=k):=by
 unfold KV at r
 induction r with
 |nil=>rfl
 |cons h t ih=>rw[z6j,z6j,ih,h.1]
def KV.repl{kvs:List (κ×V)}{vs:List (κ×Value)}(r:KV kvs vs)(k:κ)(ry:RelV y u):
  KV (kvs.map λkv=>if kv.1=k then(kv.1,y)else kv) (vs.map λkv=>if kv.1=k then(kv.1,u)else kv):=by
 unfold KV at r ⊢
 induction r with
 |nil=>exact .nil
 | @cons p q ps qs h t ih=>
   rw[z9n,z9n];refine .cons ?_ ih;obtain⟨h1,h2⟩:=h;by_cases e:p.1=k
   ·rw[if_pos e,if_pos (h1.symm.trans e)];exact⟨h1,ry⟩
   ·rw[if_neg e,if_neg (λz=>e (h1.trans z))];exact⟨h1,h2⟩
def KV.put{kvs:List (κ×V)}{vs:List (κ×Value)}(r:KV kvs vs)(k:κ)(ry:RelV y u):KV (cS kvs k y) (stored vs k u):=by
 unfold cS stored;rw[r.any k];by_cases e:(vs.any λkv=>decide (kv.1=k))=true
 ·rw[if_pos e,if_pos e];exact r.repl k ry
 ·rw[if_neg e,if_neg e];exact Paired.snoc r ⟨rfl,ry⟩
def KV.length{kvs:List (κ×V)}{vs:List (κ×Value)}(r:KV kvs vs):kvs.length=vs.length:=z3a r
end
def j7{k:Key}(r:RelV (kV k) u):(dh P w).is k u=true:=by
 cases k with
 |inl i=>obtain⟨t,e⟩:=(show ∃t,u=Value.int i t from r);subst e;exact Bs P w i t
 |inr x=>obtain⟨t,e⟩:=(show ∃t,u=Value.str x t from r);subst e;exact Bt P w x t
theorem uN{P:Program}{w:World}:∀{ks:List Key} {us:z5},Vals (ks.map kV) us->ItemsAre (dh P w) ks us
 |[],_,r=>by rw[z7v]at r;cases r;exact .nil
 | k::ks,_,r=>by
   rw[z9n]at r;cases r with
   |cons h t=>exact .cons (j7 h) (uN t)
abbrev KT(H:Hp):List (List Key×V)->List (List Key×Addr×Value)->Prop:=Paired λp q=>p.1=q.1/\H q.2.1=some (.tup (p.1.map kV))/\RelV p.2 q.2.2
def KT.val{xs:List (List Key×Addr×Value)}(r:KT H kvs xs)(k:List Key):RelO (bN kvs k) ((atKey xs k).map (·.2)):=by
 induction r with
 |nil=>exact True.intro
 | @cons p q ps qs h t ih=>
   obtain⟨h1,_,h2⟩:=h;by_cases e:p.1=k
   ·have e':q.1=k:=h1.symm.trans e
    have b:atKey (q::qs) k=some q.2:=by simp[atKey,z5b,e']
    rw[lX e,b];exact h2
   ·have e':¬q.1=k:=λz=>e (h1.trans z)
    have b:atKey (q::qs) k=atKey qs k:=by simp[atKey,z5b,e']
    rw[lY e,b];exact ih
def KT.repl{xs:List (List Key×Addr×Value)}(r:KT H kvs xs)(k:List Key)(ry:RelV y u):
  KT H (kvs.map λkv=>if kv.1=k then(kv.1,y)else kv) (xs.map (putAt k u)):=by
 induction r with
 |nil=>exact .nil
 | @cons p q ps qs h t ih=>
   rw[z9n,z9n];refine .cons ?_ ih;obtain⟨h1,h2,h3⟩:=h;unfold putAt;by_cases e:p.1=k
   ·rw[if_pos e,if_pos (h1.symm.trans e)];exact⟨h1,h2,ry⟩
   ·rw[if_neg e,if_neg (λz=>e (h1.trans z))];exact⟨h1,h2,h3⟩
def KT.put{xs:List (List Key×Addr×Value)}(r:KT H kvs xs)(k:List Key){b:Addr}(hb:H b=some (.tup (k.map kV)))(ry:RelV y u):
  KT H (cS kvs k y) (storedH xs k b u):=by
 have e:(kvs.any λkv=>decide (kv.1=k))=(atKey xs k).isSome:=by rw[lZ,(r.val k).isSome_eq,z3d]
 unfold cS storedH;rw[e];by_cases q:(atKey xs k).isSome=true
 ·rw[if_pos q,if_pos q];exact r.repl k ry
 ·rw[if_neg q,if_neg q];exact Paired.snoc r ⟨rfl,hb,ry⟩
def KT.keeps{xs:List (List Key×Addr×Value)}(r:KT H kvs xs)(ht:∀b ys,H b=some (.tup ys)->H' b=some (.tup ys)):KT H' kvs xs:=
 Paired.mapP r λ_ _ z=>⟨z.1,ht _ _ z.2.1,z.2.2⟩
section
variable {a:Addr}
def uO{u:HO}(ok:HOk P w H h)(e:Rd H a u):ObjOk P w H h a u:=e.ok ok
def j8{kvs:List (Key×V)}(ok:HOk P w H h)(e:Rd H a (.dK kvs)):kvs.length<=sizeLine/\(a==sysModules)=false/\∃vs,KV kvs vs/\h.DictOf (dh P w) a vs:=
 show ObjOk P w H h a (.dK kvs)from uO ok e
def uP{kvs:List (Key×V)}(ok:HOk P w H h)(e:H a=some (.dK kvs)):kvs.length<=sizeLine/\(a==sysModules)=false/\∃vs,KV kvs vs/\h.DictOf (dh P w) a vs:=j8 ok (.inl e)
def kl{ks:List Key}(ok:HOk P w H h)(e:H a=some (.tup (ks.map kV))):(tupleKind (dh P w)).is h ks a:=by obtain⟨_,its,r,o,h1,h2,n,h3⟩:=(show ObjOk P w H h a (.tup (ks.map kV))from ok a _ e);exact⟨o,its.toArray,n,h1,h2,h3,by simpa using uN r⟩
def km(ok:HOk P w H h)(e:Rd H a (.dT kvs)):kvs.length<=sizeLine/\(a==sysModules)=false /\
  ∃xs,KT H kvs xs/\h.DictOfH (tupleKind (dh P w)) a xs:=by
 obtain⟨z,y,xs,r,o,es,ep,h1,h2,h3,h4,h5⟩:=(show ObjOk P w H h a (.dT kvs)from uO ok e);refine⟨z,y,xs,r,o,es,ep,h1,h2,h3,h4,λx hx=>?_,h5⟩;have all:∀{l:List (List Key×V)} {m:List (List Key×Addr×Value)},KT H l m->∀x∈m,(tupleKind (dh P w)).is h x.1 x.2.1:=by
  intro l m q
  induction q with
  |nil=>intro x hx;exact nomatch hx
  | @cons p q ps qs hq t ih=>
    intro x hx;rcases z9j.mp hx with e|hx
    ·subst e
     exact kl ok (by rw[<- hq.1];exact hq.2.1)
    ·exact ih x hx
 exact all r x hx
def D4(ok:HOk P w H h)(e:H a=some (.dT kvs)):kvs.length<=sizeLine/\(a==sysModules)=false /\
  ∃xs,KT H kvs xs/\h.DictOfH (tupleKind (dh P w)) a xs:=km ok (.inl e)
end
def DGet(H:Hp)(a:Addr)(y:V)(r:m_):Prop:=
 (∃kvs k,Rd H a (.dK kvs)/\y=kV k/\r=bN kvs k)\/∃kvs k b,Rd H a (.dT kvs)/\y=.ref b/\H b=some (.tup (k.map kV))/\r=bN kvs k
def uQ(H:Hp)(a:Addr)(y v:V)(H':Hp):Prop:=
 (∃kvs k,H a=some (.dK kvs)/\y=kV k/\kvs.length<sizeLine/\H'=upd H a (.dK (cS kvs k v))) \/
 ∃kvs k b,H a=some (.dT kvs)/\y=.ref b/\H b=some (.tup (k.map kV))/\kvs.length<sizeLine/\H'=upd H a (.dT (cS kvs k v))
def DGet.k{a:Addr}{kvs:List (Key×V)}{k:Key}(e:H a=some (.dK kvs)):DGet H a (kV k) (bN kvs k):=.inl ⟨kvs,k,.inl e,rfl,rfl⟩
section
variable {a:Addr}{r:Value}{o:m_}
def Inv.big(I:Inv X G_ σ H s):sysModules<s.heap.objs.size:=by have h:mainGlobals<s.heap.objs.size:=(I.mod.glob.keeps I.bk).lt;exact Nat.lt_trans (by decide) h
def D5{Q:Value->Shared->Prop}(hu:A.units+1<cLine)(I:Inv X G_ σ H s)(g:DGet H a y (some v))(ry:RelV y u)(h:∀w' s',Inv X G_ σ H s'->RelV v w'->Q w' s'):
  wpAny (model X.prog X.w) A (getItem (.ref a) u) Q E s:=by
 rcases g with⟨kvs,k,e,ey,l⟩|⟨kvs,k,b,e,ey,eb,l⟩
 ·subst ey
  obtain⟨z,hd,vs,rel,dd⟩:=j8 I.hok e;obtain⟨w',hw,rw'⟩:=RelO.some_of (v:=v) (o:=valueAt vs k) (by rw[l];exact rel.val k);exact wpAny_getItem_of (j7 ry) dd.mapOf hw (h w' _ (I.tok _) rw')
 ·subst ey
  cases(show u=Value.ref b from ry);obtain⟨z,hd,xs,rel,dd⟩:=km I.hok e;obtain⟨w',hw,rw'⟩:=RelO.some_of (v:=v) (o:=(atKey xs k).map (·.2)) (by rw[l];exact rel.val k);obtain⟨p,hp,hp2⟩:=Option.map_eq_some_iff.mp hw;refine wpAny_getItem_heap (z5r hu) (kl I.hok eb) dd hp ?_;rw[hp2];exact h w' _ (I.tok _) rw'
def D6{Q:Value->Shared->Prop}(hu:A.units+1<cLine)(I:Inv X G_ σ H s)(g:DGet H a y o)(ry:RelV y u)(h:∀s',Inv X G_ σ H s'->Q (.bool o.isSome) s'):
  wpAny (model X.prog X.w) A (compareOp .In u (.ref a)) Q E s:=by
 rcases g with⟨kvs,k,e,ey,l⟩|⟨kvs,k,b,e,ey,eb,l⟩
 ·subst ey
  obtain⟨z,hd,vs,rel,dd⟩:=j8 I.hok e;refine wpAny_in_of (j7 ry) hd dd.mapOf ?_;rw[<- (rel.val k).isSome_eq,<- l];exact h _ (I.tok _)
 ·subst ey
  cases(show u=Value.ref b from ry);obtain⟨z,hd,xs,rel,dd⟩:=km I.hok e;refine wpAny_in_heap (z5r hu) (kl I.hok eb) hd dd ?_;have q:=(rel.val k).isSome_eq;rw[z3d]at q;rw[<- q,<- l];exact h _ (I.tok _)
def D7{Q:Value->Shared->Prop}(hu:A.units+1<cLine)(I:Inv X G_ σ H s)(g:DGet H a y o)(ry:RelV y u)(h:∀s',Inv X G_ σ H s'->Q (.bool (!o.isSome)) s'):
  wpAny (model X.prog X.w) A (compareOp .NotIn u (.ref a)) Q E s:=by
 rcases g with⟨kvs,k,e,ey,l⟩|⟨kvs,k,b,e,ey,eb,l⟩
 ·subst ey
  obtain⟨z,hd,vs,rel,dd⟩:=j8 I.hok e;refine wpAny_notIn_of (j7 ry) hd dd.mapOf ?_;rw[<- (rel.val k).isSome_eq,<- l];exact h _ (I.tok _)
 ·subst ey
  cases(show u=Value.ref b from ry);obtain⟨z,hd,xs,rel,dd⟩:=km I.hok e;refine wpAny_notIn_heap (z5r hu) (kl I.hok eb) hd dd ?_;have q:=(rel.val k).isSome_eq;rw[z3d]at q;rw[<- q,<- l];exact h _ (I.tok _)
def pH{ob:HO}(I:Inv X G_ σ H s)(mu:Mut (H a))(hs:Heap.SameBut a s.heap h')(he:∃q,h'.get? a=some q)(new:ObjOk X.prog X.w (upd H a ob) h' a ob):
  Inv X G_ σ (upd H a ob) {s with heap:=h',toks:=t'}:=
 I.write (x:=a) (e:=a) mu (.inl rfl) (λb q hb z=>(hs.2 b hb).trans z) he new
def uR{kvs:List (Key×V)}{vs:List (Key×Value)}(z:kvs.length<=sizeLine)(hd:(a==sysModules)=false)(rel:KV kvs vs)(dd:h'.DictOf (dh P w) a vs):
  ObjOk P w H' h' a (.dK kvs):=⟨z,hd,vs,rel,dd⟩
def D8{Q:Unit->Shared->Prop}(hu:A.units+1<cLine)(I:Inv X G_ σ H s)(g:uQ H a y v H')(ry:RelV y u)(rv:RelV v r)(h:∀s',Inv X G_ σ H' s'->Q () s'):
  wpAny (model X.prog X.w) A (setItem (.ref a) u r) Q E s:=by
 rcases g with⟨kvs,k,e,ey,l,eH⟩|⟨kvs,k,b,e,ey,eb,l,eH⟩
 ·subst ey eH
  obtain⟨z,hd,vs,rel,dd⟩:=uP I.hok e;have hz:vs.length<=sizeLine:=by rw[<- rel.length];exact z
  have hl:(cS kvs k v).length<=sizeLine:=by have:=pF kvs k v;ext
  refine wpAny_setItem_pairs (hsz:=hz) (j7 ry) dd λh' dd' hs=>h _ ?_
  have he:∃q,h'.get? a=some q:=let⟨q,_,_,hq,_⟩:=dd';⟨q,hq⟩;exact pH I (by rw[e];exact True.intro) hs he (uR hl hd (rel.put k rv) dd')
 ·subst ey eH
  cases(show u=Value.ref b from ry);obtain⟨z,hd,xs,rel,dd⟩:=D4 I.hok e;have hz:xs.length<=sizeLine:=by rw[<- z3a rel];exact z
  have hl:(cS kvs k v).length<=sizeLine:=by have:=pF kvs k v;ext
  refine wpAny_setItem_heap (hsz:=hz) (z5r hu) (kl I.hok eb) dd λh' dd' hs=>h _ ?_
  obtain⟨q,es,ep,hq,h2,h3,h4,_,h5⟩:=dd';refine pH I (by rw[e];exact True.intro) hs ⟨q,hq⟩ ⟨hl,hd,_,(rel.put k eb rv).keeps λc ys ec=>?_,q,es,ep,hq,h2,h3,h4,h5⟩;rw[aE (Bu ec e (λz=>nomatch z))];exact ec
end
def m6(i:Expr):Prop:=∀ov iv,subscripted i false ov iv=operate [ov,iv] (getItem ov iv)
def D9{slice:Expr}{T id:String}{Q:Value->Shared->Prop}(hl:typeLookup (.type T) "__getitem__"=pure (some (.builtin id)))(hs:m6 slice)(h:wpAny (model prog w) A (eval value env) (λo y1=>wpAny (model prog w) A (eval slice env) (λi y3=>y3.TypeIs o T/\wpAny (model prog w) A (getItem o i) Q E y3) E y1) E s):
  wpAny (model prog w) A (eval (.Subscript value slice pos) env) Q E s:=by
 refine Subscript_ (z8p h (λo y1 w_=>z8p w_ (λi y3 x0=>?_) λ_ _ x=>x) λ_ _ x=>x);obtain⟨hT,x0⟩:=x0;unfold subscriptTail;refine z9o ?_;rw[getitemInPython_of_ne hT.not_modules];refine z9o (wpAny_specialOf hT hl ?_);have fin:wpAny (model prog w) A (subscripted slice false o i) (λr y4=>wpAny (model prog w) A (letTemporaryGo value o r >>= λ_=>pure r) Q E y4) E y3:=by rw[hs o i];exact wpAny_operating (z8p x0 (λr y4 x3=>z9o (wpAny_letTemporaryGo (z8n x3))) λ_ _ x=>x)
 first
  |exact z8n (z9o fin)
  |exact z9o (z8n (z9o fin))
  |exact z9o fin
def Da{a:Addr}{o:m_}(I:Inv X G_ σ H s)(g:DGet H a y o):s.TypeIs (.ref a) "dict":=by
 rcases g with⟨kvs,k,e,_,_⟩|⟨kvs,k,b,e,_,_,_⟩
 ·obtain⟨_,_,vs,_,dd⟩:=j8 I.hok e
  exact dd.typeIs
 ·obtain⟨_,_,xs,_,dd⟩:=km I.hok e
  exact dd.typeIs
def Db(td ty:TE):TE:=λσ H Q=>td σ H λx H1=>ty σ H1 λy H2=>∃a v,x=.ref a/\DGet H2 a y (some v)/\Q v H2
def uS(ty td:TE):TE:=λσ H Q=>ty σ H λy H1=>td σ H1 λx H2=>∃a o,x=.ref a/\DGet H2 a y o/\Q (.bl o.isSome) H2
def uT(ty td:TE):TE:=λσ H Q=>ty σ H λy H1=>td σ H1 λx H2=>∃a o,x=.ref a/\DGet H2 a y o/\Q (.bl (!o.isSome)) H2
def Dc(td ty tv:TE):TS:=λD σ H=>tv σ H λv H1=>td σ H1 λx H2=>ty σ H2 λy H3=>∃a H4,x=.ref a/\uQ H3 a y v H4/\D.nx σ H4
section
variable {o i:Expr}{td ty tv:TE}
def uU(hu:X.A.units+1<cLine)(ho:PE X o td)(hi:PE X i ty)(hs:m6 i):PE X (.Subscript o i pos) (Db td ty):=by intro G_ s σ H Q I h;refine D9 PySem.F.slot_dict_getitem.lookup hs (b9 (ho G_ s σ H _ I h) λu s1 x H1 I1 rx q1=>b9 (hi G_ s1 σ H1 _ I1 q1) λiv s2 y H2 I2 ry y0=>?_);obtain⟨a,v,ex,g,q2⟩:=y0;subst ex;obtain rfl:u=Value.ref a:=rx;exact⟨Da I2 g,D5 hu I2 g ry λw' s3 I3 rw'=>⟨v,H2,I3,rw',q2⟩⟩
def Dd(hu:X.A.units+1<cLine)(hi:PE X i ty)(ho:PE X o td):PC X .In i o (uS ty td):=by
 intro G_ s σ H Q I h;refine b9 (hi G_ s σ H _ I h) λiv s1 y H1 I1 ry q1=>b9 (ho G_ s1 σ H1 _ I1 q1) λu s2 x H2 I2 rx y0=>?_
 obtain⟨a,ov,ex,g,q2⟩:=y0;subst ex;obtain rfl:u=Value.ref a:=rx;exact D6 hu I2 g ry λs3 I3=>⟨.bl ov.isSome,H2,I3,rfl,q2⟩
def Df(hu:X.A.units+1<cLine)(hi:PE X i ty)(ho:PE X o td):PC X .NotIn i o (uT ty td):=by
 intro G_ s σ H Q I h;refine b9 (hi G_ s σ H _ I h) λiv s1 y H1 I1 ry q1=>b9 (ho G_ s1 σ H1 _ I1 q1) λu s2 x H2 I2 rx y0=>?_
 obtain⟨a,ov,ex,g,q2⟩:=y0;subst ex;obtain rfl:u=Value.ref a:=rx;exact D7 hu I2 g ry λs3 I3=>⟨.bl (!ov.isSome),H2,I3,rfl,q2⟩
def pI(hu:X.A.units+1<cLine)(ho:PE X o td)(hi:PE X i ty)(hv:PE X value tv)(hs:swapsWith value (some (.Subscript o i pos')) pos.line X.env=pure false):
  PS X (.Assign [.Subscript o i pos'] value pos) (Dc td ty tv):=by
 intro G_ s σ H D I h;refine wpAny_Assign_Subscript (b9 (hv G_ s σ H _ I h) λr s1 v H1 I1 rv q1=>b9 (ho G_ s1 σ H1 _ I1 q1) λu s2 x H2 I2 rx q2=>b9 (hi G_ s2 σ H2 _ I2 q2) λiv s3 y H3 I3 ry y0=>?_) hs;obtain⟨a,H4,ex,g,q3⟩:=y0;subst ex;obtain rfl:u=Value.ref a:=rx;exact D8 hu I3 g ry rv λs4 I4=>⟨σ,H4,I4,q3⟩
end
def uV(h:Heap)(hb:sysModules<h.objs.size):ObjOk P w H (h.push {cls:=.type "dict",data:=.dict #[]}) h.objs.size (.dK []):=
 ⟨z7a _,z7i.mpr (Ne.symm (z8q hb)),[],.nil,Heap.DictOf.new h⟩
def Dg:TE:=λ_ H Q=>∀p,H p=none->Q (.ref p) (upd H p (.dK []))
def Dh:PE X (.Dict [] [] pos) Dg:=λG_ s σ H Q I h=>wpAny_Dict_empty ⟨.ref s.heap.objs.size,_,I.laid (a:=s.heap.objs.size) (o:=.dK []) (t':=s.toks) (λ_ _ q=>z9l _ q) (z9i _) (uV s.heap I.big),rfl,h _ (I.hok.fresh (z9i _))⟩
def ko:List (TE×TE)->St->Hp->(List (V×V)->Hp->Prop)->Prop
 |[],_,H,Q=>Q [] H
 |(tk,tv)::r,σ,H,Q=>tk σ H λx H1=>tv σ H1 λy H2=>ko r σ H2 λps H3=>Q ((x,y)::ps) H3
abbrev VV:List (V×V)->List (Value×Value)->Prop:=Paired λp q=>RelV p.1 q.1/\RelV p.2 q.2
def PPs(X:Cx)(pos:Pos)(keys:List (Option Expr))(values:z6)(trs:List (TE×TE)):Prop:=
 ∀(G_:h_) (s:Shared) (σ:St) (H:Hp) (Q:List (V×V)->Hp->Prop),Inv X G_ σ H s->ko trs σ H Q ->
   wpAny (model X.prog X.w) X.A (evalPairs (pairTrees keys values X.env pos)) (λvs s'=>∃ps H',Inv X G_ σ H' s'/\VV ps vs/\Q ps H') X.xe s
def uW:PPs X pos [] [] []:=λG_ s σ H Q I h=>pairTrees_nil_walk ⟨[],H,I,.nil,h⟩
def uX{k v:Expr}{ks:List (Option Expr)}{vs:z6}{tk tv:TE}(hk:PE X k tk)(hv:PE X v tv)(hr:PPs X pos ks vs trs):
  PPs X pos (some k::ks) (v::vs) ((tk,tv)::trs):=λG_ s σ H Q I h=>
 pairTrees_cons_walk (b9 (hk G_ s σ H _ I h) λu s1 x H1 I1 rx q1=>b9 (hv G_ s1 σ H1 _ I1 q1) λw2 s2 y H2 I2 ry q2=>thn (hr G_ s2 σ H2 _ I2 q2) λws s3 y0=>by obtain⟨ps,H3,I3,rel,q3⟩:=y0;exact⟨(x,y)::ps,H3,I3,.cons ⟨rx,ry⟩ rel,q3⟩)
def fA(kvs more:List (Key×V)):List (Key×V):=more.foldl (λacc kv=>cS acc kv.1 kv.2) kvs
def KV.merge:∀{more:List (Key×V)} {rs:List (Key×Value)} {kvs:List (Key×V)} {vs:List (Key×Value)},KV more rs->KV kvs vs->KV (fA kvs more) (merged vs rs):=by
 intro more rs kvs vs r;unfold KV at r
 induction r generalizing kvs vs with
 |nil=>intro q;exact q
 | @cons p q ps qs h t ih=>
   intro r0;have e:KV (cS kvs p.1 p.2) (stored vs q.1 q.2):=by have:=r0.put p.1 h.2;rw[<- h.1];exact this
   exact ih e
theorem uY:∀(more kvs:List (Key×V)),(fA kvs more).length<=kvs.length+more.length
 |[],kvs=>by show kvs.length<=kvs.length+0;ext
 |p::r,kvs=>by have h1:=uY r (cS kvs p.1 p.2);have h2:=pF kvs p.1 p.2;show(fA (cS kvs p.1 p.2) r).length<=_;rw[z9e];ext
theorem uZ{P:Program}{w:World}:∀{kvs:List (Key×V)} {ws:List (Value×Value)},VV (kvs.map λkv=>(kV kv.1,kv.2)) ws->∃rs,Carries (dh P w) ws rs/\KV kvs rs
 |[],_,r=>by rw[z7v]at r;cases r;exact⟨[],True.intro,.nil⟩
 | p::kvs,_,r=>by
   rw[z9n]at r;cases r with
   |@cons a b as bs h t=>obtain⟨rs,c,q⟩:=uZ (P:=P) (w:=w) t;obtain⟨b1,b2⟩:=b;exact⟨(p.1,b2)::rs,⟨j7 h.1,rfl,c⟩,.cons ⟨rfl,h.2⟩ q⟩
def Di(trs:List (TE×TE)):TE:=λσ H Q=>∀p,H p=none->ko trs σ (upd H p (.dK [])) λps H2=>H2 p=some (.dK [])/\∃kvs:List (Key×V),ps=kvs.map (λkv=>(kV kv.1,kv.2))/\kvs.length<=15/\Q (.ref p) (upd H2 p (.dK (fA [] kvs)))
def v6{values:z6}(h:PPs X pos keys values trs)(hall:keys.all (·.isSome)=true)(hl:keys.length=values.length)(h0:keys≠[])(h15:keys.length<=15):PE X (.Dict keys values pos) (Di trs):=by
 intro G_ s σ H Q I q;have hn:=I.hok.fresh (z9i s.heap.objs.size);have I1:=I.laid (a:=s.heap.objs.size) (o:=.dK []) (h':=s.heap.push {cls:=.type "dict",data:=.dict #[]}) (t':=s.toks) (λ_ _ q=>z9l _ q) (z9i _) (uV s.heap I.big);refine wpAny_Dict_walk (knd:=dh X.prog X.w) hall hl h0 h15 (thn (h G_ _ σ _ _ I1 (q _ hn)) λws s2 y0=>?_);obtain⟨ps,H2,I2,rel,e,kvs,ep,lk,q2⟩:=y0;subst ep;obtain⟨rs,c,rk⟩:=uZ (P:=X.prog) (w:=X.w) rel;obtain⟨z,hd,vs0,r0,dd⟩:=uP I2.hok e;cases r0;refine⟨rs,c,dd,λh' dd' hs=>⟨.ref s.heap.objs.size,_,?_,rfl,q2⟩⟩;have hz:(fA [] kvs).length<=sizeLine:=by have h1:=uY kvs [];rw[z9p]at h1;rw[z7y];ext
 have he:∃q,h'.get? s.heap.objs.size=some q:=let⟨q,_,_,hq,_⟩:=dd';⟨q,hq⟩;exact pH I2 (by rw[e];exact True.intro) hs he (uR hz hd (rk.merge .nil) dd')
structure M1 (X:Cx) (o:Expr) (m:Str) (apos:Pos) (e:Expr) (cpos:Pos):Prop where
 base:attributeBase o m X.env (eval o X.env)=eval o X.env
 few:((backTo cpos (starEach [e] X.env)).all (λx=>!x.1)&&(backToKw cpos (keywordEach [] X.env)).all (λx=>x.1.isSome)
  && decide (([e]:z6).length+([]:z8).length+(if([]:z8).isEmpty then 0 else 1)<30))=true
 line:(apos.endLine==cpos.line)=true
 trees:backTo cpos (starEach [e] X.env)=[(false,eval e X.env)]
structure M2 (X:Cx) (o:Expr) (m:Str) (apos:Pos) (e f:Expr) (cpos:Pos):Prop where
 base:attributeBase o m X.env (eval o X.env)=eval o X.env
 few:((backTo cpos (starEach [e,f] X.env)).all (λx=>!x.1)&&(backToKw cpos (keywordEach [] X.env)).all (λx=>x.1.isSome)
  && decide (([e,f]:z6).length+([]:z8).length+(if([]:z8).isEmpty then 0 else 1)<30))=true
 line:(apos.endLine==cpos.line)=true
 trees:backTo cpos (starEach [e,f] X.env)=[(false,eval e X.env),(false,eval f X.env)]
section
variable {κ:Type}[DecidableEq κ]
def m7{kvs:List (κ×V)}{k:κ}(h:bN kvs k=some v):k∈kvs.map (·.1):=by
 have q:(kvs.any λkv=>decide (kv.1=k))=true:=by
  rw[lZ,h]
  all_goals rfl
 obtain⟨p,hp,e⟩:=List.any_eq_true.mp q;exact z7c.mpr ⟨p,hp,z6o e⟩
end
end L2
namespace VL
open PySem PySem.Spec PyProof.Rows L2
abbrev St:=L2.St
inductive D where
 |non|bl (b:Bool)|int (i:Int)|str (x:Str)|lst (xs:List D)|tup (xs:List D)
 |scr (ns:z_)
 |dct (fz:Bool) (kvs:List (Int×Int))
 |ptr (a:Nat)
abbrev _root_.n_:=List D
abbrev _root_.o_:=Option D
noncomputable def kq(kvs:List (Int×Int)):List (Key×V):=kvs.map λp=>(Sum.inl p.1,V.int p.2)
def DRd(H:Hp)(a:Addr)(fz:Bool)(kvs:List (Int×Int)):Prop:=(fz=true/\∃o,H a=some (.frz o (.dK (kq kvs))))\/(fz=false/\H a=some (.dK (kq kvs)))
def DRd.same{a:Addr}{kvs:List (Int×Int)}(e:Same H H')(h:DRd H a fz kvs):DRd H' a fz kvs:=by
 rcases h with⟨z,o,h⟩|⟨z,h⟩
 ·exact .inl ⟨z,o,e _ _ h⟩
 ·exact .inr ⟨z,e _ _ h⟩
def DRd.rd{a:Addr}{kvs:List (Int×Int)}(h:DRd H a fz kvs):Rd H a (.dK (kq kvs)):=by
 rcases h with⟨_,o,h⟩|⟨_,h⟩
 ·exact .inr ⟨o,h⟩
 ·exact .inl h
mutual
inductive Rep (K:K0) (H:Hp):V->D->Prop where
 |non:Rep K H V.non D.non
 |bl (b:Bool):Rep K H (V.bl b) (D.bl b)
 |int (i:Int):Rep K H (V.int i) (D.int i)
 |str (x:Str):Rep K H (V.str x) (D.str x)
 |lst {a:Addr} {xs:l_} {ds:n_}:Rd H a (.lst xs)->Reps K H xs ds->Rep K H (V.ref a) (D.lst ds)
 |tup {a:Addr} {xs:l_} {ds:n_}:H a=some (.tup xs)->Reps K H xs ds->Rep K H (V.ref a) (D.tup ds)
 |scr {a:Addr} {ns:z_}:SqL K H a (ns.map V.int)->Rep K H (V.ref a) (D.scr ns)
 |dct {a:Addr} {fz:Bool} {kvs:List (Int×Int)}:DRd H a fz kvs->Rep K H (V.ref a) (D.dct fz kvs)
 |ptr (a:Addr):Rep K H (V.ref a) (D.ptr a)
inductive Reps (K:K0) (H:Hp):l_->n_->Prop where
 |nil:Reps K H [] []
 |cons {v:V} {d:D} {vs:l_} {ds:n_}:Rep K H v d->Reps K H vs ds->Reps K H (v::vs) (d::ds)
end
def dI{a:Addr}{u:HO}(e:Same H H')(h:Rd H a u):Rd H' a u:=by
 rcases h with h|⟨o,h⟩
 ·exact .inl (e _ _ h)
 ·exact .inr ⟨o,e _ _ h⟩
def eF{a:Addr}{u:HO}(h:H a=some u):Rd H a u:=.inl h
def ic{a:Addr}(h:Rd H a (.lst xs))(h':Rd H a (.lst ys)):xs=ys:=by rcases h with h|⟨o,h⟩<;>rcases h' with h' | ⟨o',h'⟩<;>rw[h]at h'<;>cases h'<;>rfl
def kr{a:Addr}(h:Rd H a (.tup xs))(h':Rd H a (.tup ys)):xs=ys:=by rcases h with h|⟨o,h⟩<;>rcases h' with h' | ⟨o',h'⟩<;>rw[h]at h'<;>cases h'<;>rfl
def v7{a:Addr}(h:Rd H a (.lst xs))(h':Rd H a (.tup ys)):False:=by rcases h with h|⟨o,h⟩<;>rcases h' with h' | ⟨o',h'⟩<;>rw[h]at h'<;>cases h'
def au(e:Same H H'){d:D}(h:Rep K H v d):Rep K H' v d:=
 Rep.rec (motive_1:=λv d _=>Rep K H' v d) (motive_2:=λvs ds _=>Reps K H' vs ds)
  .non (λb=>.bl b) (λi=>.int i) (λx=>.str x) (λh _ ih=>.lst (dI e h) ih) (λh _ ih=>.tup (e _ _ h) ih) (λh=>.scr (e.seq h)) (λh=>.dct (h.same e)) (λa=>.ptr a)
  .nil (λ_ _ ih1 ih2=>.cons ih1 ih2) h
def aV(e:Same H H'){ds:n_}(h:Reps K H vs ds):Reps K H' vs ds:=
 Reps.rec (motive_1:=λv d _=>Rep K H' v d) (motive_2:=λvs ds _=>Reps K H' vs ds)
  .non (λb=>.bl b) (λi=>.int i) (λx=>.str x) (λh _ ih=>.lst (dI e h) ih) (λh _ ih=>.tup (e _ _ h) ih) (λh=>.scr (e.seq h)) (λh=>.dct (h.same e)) (λa=>.ptr a)
  .nil (λ_ _ ih1 ih2=>.cons ih1 ih2) h
theorem Reps.length:∀{vs:l_} {ds:n_},Reps K H vs ds->vs.length=ds.length
 |[],_,h=>by cases h;rfl
 |_::vs,_,h=>by cases h with|cons _ t=>simp[Reps.length t]
theorem Reps.append:∀{vs ws:l_} {ds es:n_},Reps K H vs ds->Reps K H ws es->Reps K H (vs++ws) (ds++es)
 |[],_,_,_,h,h2=>by cases h;exact h2
 |_::_,_,_,_,h,h2=>by cases h with|cons a t=>exact .cons a (Reps.append t h2)
theorem Reps.get:∀{vs:l_} {ds:n_} {i:Nat} {d:D},Reps K H vs ds->ds[i]?=some d->∃v,vs[i]?=some v/\Rep K H v d
 |[],_,_,_,h,e=>by cases h;simp at e
 |_::_,_,0,_,h,e=>by cases h with|cons a t=>simp at e;subst e;exact⟨_,rfl,a⟩
 | _::_,_,i+1,_,h,e=>by
   cases h with
   |cons a t=>obtain⟨v,e1,r⟩:=Reps.get (i:=i) t (by simpa using e);exact⟨v,by simpa using e1,r⟩
theorem Reps.getV:∀{vs:l_} {ds:n_} {i:Nat} {v:V},Reps K H vs ds->vs[i]?=some v->∃d,ds[i]?=some d/\Rep K H v d
 |[],_,_,_,h,e=>by simp at e
 |_::_,_,0,_,h,e=>by cases h with|cons a t=>simp at e;subst e;exact⟨_,rfl,a⟩
 | _::_,_,i+1,_,h,e=>by
   cases h with
   |cons a t=>obtain⟨v,e1,r⟩:=Reps.getV (i:=i) t (by simpa using e);exact⟨v,by simpa using e1,r⟩
theorem Reps.take:∀{vs:l_} {ds:n_} (n:Nat),Reps K H vs ds->Reps K H (vs.take n) (ds.take n)
 |_,_,0,_=>by simpa using Reps.nil
 |[],_,n+1,h=>by cases h;simpa using Reps.nil
 |_::_,_,n+1,h=>by cases h with|cons a t=>exact .cons a (Reps.take n t)
theorem Reps.drop:∀{vs:l_} {ds:n_} (n:Nat),Reps K H vs ds->Reps K H (vs.drop n) (ds.drop n)
 |_,_,0,h=>by simpa using h
 |[],_,n+1,h=>by cases h;simpa using Reps.nil
 |_::_,_,n+1,h=>by cases h with|cons a t=>exact Reps.drop n t
theorem Reps.set{v:V}{d:D}(r:Rep K H v d):∀{vs:l_} {ds:n_} (i:Nat),Reps K H vs ds->Reps K H (vs.set i v) (ds.set i d)
 |[],_,_,h=>by cases h;simpa using Reps.nil
 |_::_,_,0,h=>by cases h with|cons a t=>exact .cons r t
 |_::_,_,i+1,h=>by cases h with|cons a t=>exact .cons a (Reps.set r i t)
theorem Reps.reverse:∀{vs:l_} {ds:n_},Reps K H vs ds->Reps K H vs.reverse ds.reverse
 |[],_,h=>by cases h;exact .nil
 | _::_,_,h=>by
   cases h with
   |cons a t=>rw[z6h,z6h];exact Reps.append (Reps.reverse t) (.cons a .nil)
theorem Reps.insertIdx{v:V}{d:D}(r:Rep K H v d):∀{vs:l_} {ds:n_} (i:Nat),Reps K H vs ds->Reps K H (vs.insertIdx i v) (ds.insertIdx i d)
 |_,_,0,h=>by simpa using Reps.cons r h
 |[],_,i+1,h=>by cases h;simpa using Reps.nil
 |_::_,_,i+1,h=>by cases h with|cons a t=>simpa using Reps.cons a (Reps.insertIdx r i t)
theorem Reps.ints:∀ns:z_,Reps K H (ns.map V.int) (ns.map D.int)
 |[]=>.nil
 |n::ns=>.cons (.int n) (Reps.ints ns)
noncomputable def ao(H:Hp)(A:Addr->Prop):Hp:=λb=>@ite _ (A b) (Classical.propDecidable _) none (H b)
def Dj{A:Addr->Prop}{b:Addr}(h:A b):ao H A b=none:=by unfold ao;rw[if_pos h]
def cr{A:Addr->Prop}{b:Addr}(h:¬A b):ao H A b=H b:=by unfold ao;rw[if_neg h]
def eG{A:Addr->Prop}{b:Addr}(h:ao H A b=some o):¬A b/\H b=some o:=by
 by_cases q:A b
 ·rw[Dj q]at h;cases h
 ·rw[cr q]at h;exact⟨q,h⟩
def aP(H:Hp)(A:Addr->Prop):Same (ao H A) H:=λ_ _ h=>(eG h).2
def cG{A B:Addr->Prop}(e:Same H H')(s:∀b,B b->A b):Same (ao H A) (ao H' B):=λb o h=>by obtain⟨n,h⟩:=eG h;rw[cr λq=>n (s b q)];exact e b o h
def v8{A:Addr->Prop}(e:Same H H')(n:∀b,A b->H b=none):Same H (ao H' A):=λb o h=>by rw[cr λq=>by rw[n b q]at h;cases h];exact e b o h
abbrev fB:Addr->Prop:=λ_=>False
def j9(H:Hp):Same H (ao H fB):=v8 (λ_ _ h=>h) λ_ h=>h.elim
def bo{p:Addr}(h:H p=none)(o:HO):Same H (upd H p o):=λb u q=>by rw[aE (c6 q h)];exact q
def Dom(H:Hp)(A:Addr->Prop):Prop:=∀b,A b->H b≠none
def Dom.mono{A:Addr->Prop}(d:Dom H A)(e:Same H H'):Dom H' A:=λb h n=>d b h (e.free n)
def Dom.none(H:Hp):Dom H fB:=λ_ h=>h.elim
def Dom.not_new{A:Addr->Prop}(d:Dom H A)(h:H l=Option.none):¬A l:=λq=>d l q h
noncomputable def aW:D->Bool
 |.lst _=>false
 |.tup _=>false
 |.scr _=>false
 |.dct _ _=>false
 |.ptr _=>false
 |_=>true
def kt{d:D}(s:aW d=true)(h:Rep K H v d):Rep K H' v d:=by
 cases h with
 |non=>exact .non
 |bl b=>exact .bl b
 |int i=>exact .int i
 |str x=>exact .str x
 |lst _ _=>cases s
 |tup _ _=>cases s
 |scr _=>cases s
 |dct _=>cases s
 |ptr a=>cases s
abbrev ag:=List o_
abbrev FE:=ag->o_
inductive Es where
 |full (j:Nat)
 |el (j:Nat)
abbrev _root_.p_:=List Es
def EnvR(K:K0)(H:Hp)(σ:St)(U:ag):Prop:=∀(i:Nat) (d:D),U[i]?=some (some d)->∃v,σ[i]?=some (some v)/\Rep K H v d
def EnvR.mono{U:ag}(h:EnvR K H σ U)(e:Same H H'):EnvR K H' σ U:=λi d q=>by obtain⟨v,h1,h2⟩:=h i d q;exact⟨v,h1,au e h2⟩
noncomputable def Dk:D->Option Unit
 |.scr _=>some ()
 |.dct _ _=>some ()
 |.ptr _=>some ()
 |_=>none
def ElR(K:K0)(H:Hp)(A:Addr->Prop)(v:V)(d:D):Prop:=
 (aW d=true\/∃u,Dk d=some u)\/∃p xs ds,v=V.ref p/\((d=.lst ds/\Rd H p (.lst xs))\/(d=.tup ds/\Rd H p (.tup xs)))/\Reps K (ao H A) xs ds
def Av(K:K0)(H:Hp)(σ:St)(U:ag)(A:Addr->Prop):Es->Prop
 |.full j=>∀v d,σ[j]?=some (some v)->U[j]?=some (some d)->Rep K (ao H A) v d
 |.el j=>∀v d,σ[j]?=some (some v)->U[j]?=some (some d)->ElR K H A v d
def c8{A:Addr->Prop}(e:Same H H'):Same (ao H A) (ao H' A):=cG e λ_ h=>h
def ElR.mono{A:Addr->Prop}{d:D}(e:Same H H')(h:ElR K H A v d):ElR K H' A v d:=by
 rcases h with h|⟨p,xs,ds,h1,h2,h3⟩
 ·exact .inl h
 ·refine .inr ⟨p,xs,ds,h1,?_,aV (c8 e) h3⟩
  rcases h2 with⟨h2,h4⟩|⟨h2,h4⟩
  ·exact .inl ⟨h2,dI e h4⟩
  ·exact .inr ⟨h2,dI e h4⟩
def Av.mono{U:ag}{A:Addr->Prop}{x:Es}(e:Same H H')(h:Av K H σ U A x):Av K H' σ U A x:=by
 cases x with
 |full j=>exact λv d h1 h2=>au (c8 e) (h v d h1 h2)
 |el j=>exact λv d h1 h2=>(h v d h1 h2).mono e
def Rep.el{A:Addr->Prop}{d:D}(h:Rep K (ao H A) v d):ElR K H A v d:=by
 cases h with
 |non=>exact .inl (.inl rfl)
 |bl b=>exact .inl (.inl rfl)
 |int i=>exact .inl (.inl rfl)
 |str x=>exact .inl (.inl rfl)
 |lst h1 h2=>exact .inr ⟨_,_,_,rfl,.inl ⟨rfl,dI (aP H A) h1⟩,h2⟩
 |tup h1 h2=>exact .inr ⟨_,_,_,rfl,.inr ⟨rfl,dI (aP H A) (eF h1)⟩,h2⟩
 |scr h1=>exact .inl (.inr ⟨_,rfl⟩)
 |dct h1=>exact .inl (.inr ⟨_,rfl⟩)
 |ptr a=>exact .inl (.inr ⟨_,rfl⟩)
structure Post (K:K0) (σ:St) (U:ag) (H:Hp) (es:p_) (d:D) (v:V) (H':Hp):Prop where
 same:Same H H'
 rep:Rep K H' v d
 av:∀A,Dom H A->(∀e∈es,Av K H σ U A e)->Rep K (ao H' A) v d
structure PostF (K:K0) (σ:St) (U:ag) (H:Hp) (es:p_) (d:D) (v:V) (H':Hp):Prop where
 same:Same H H'
 new:∃l xs ds,v=V.ref l/\d=.lst ds/\H l=none/\H' l=some (.lst xs)/\∀A,Dom H A->(∀e∈es,Av K H σ U A e)->Reps K (ao H' λb=>A b\/b=l) xs ds
def Av.none{U:ag}(hE:EnvR K H σ U)(e:Es):Av K H σ U fB e:=by
 have full:∀(j:Nat) (v:V) (d:D),σ[j]?=some (some v)->U[j]?=some (some d)->Rep K (ao H fB) v d:=λj v d h1 h2=>by obtain⟨v',h3,h4⟩:=hE j d h2;rw[h1]at h3;cases h3;exact au (j9 H) h4
 cases e with
 |full j=>exact full j
 |el j=>exact λv d h1 h2=>(full j v d h1 h2).el
def PostF.post{U:ag}{es:p_}{d:D}(h:PostF K σ U H es d v H')(hE:EnvR K H σ U):Post K σ U H es d v H':=by
 obtain⟨l,xs,ds,rfl,rfl,hl,hl',h3⟩:=h.new;have av:∀A,Dom H A->(∀e∈es,Av K H σ U A e)->Rep K (ao H' A) (V.ref l) (.lst ds):=λA hA ha=>.lst (.inl (by rw[cr (hA.not_new hl)];exact hl')) (aV (cG (λ_ _ q=>q) λb q=>.inl q) (h3 A hA ha))
 exact⟨h.same,au (aP H' _) (av fB (Dom.none H) λe _=>Av.none hE e),av⟩
def tv(K:K0)(f:FE)(es:p_):TE:=λσ H Q=>∃U d,EnvR K H σ U/\f U=some d/\∀v H',Post K σ U H es d v H'->Q v H'
def tvF(K:K0)(f:FE)(es:p_):TE:=λσ H Q=>∃U d,EnvR K H σ U/\f U=some d/\∀v H',PostF K σ U H es d v H'->Q v H'
def tvT(K:K0)(f:ag->k_):TT:=λσ H Q=>∃U b,EnvR K H σ U/\f U=some b/\∀H',Same H H'->Q b H'
abbrev FEs:=ag->Option n_
structure Posts (K:K0) (σ:St) (U:ag) (H:Hp) (es:p_) (ds:n_) (vs:l_) (H':Hp):Prop where
 same:Same H H'
 rep:Reps K H' vs ds
 av:∀A,Dom H A->(∀e∈es,Av K H σ U A e)->Reps K (ao H' A) vs ds
def tvA(K:K0)(f:FEs)(es:p_):TA:=λσ H Q=>∃U ds,EnvR K H σ U/\f U=some ds/\∀vs H',Posts K σ U H es ds vs H'->Q vs H'
abbrev VE(X:Cx)(e:Expr)(f:FE)(es:p_):Prop:=PE X e (tv X.K f es)
structure JE (X:Cx) (e:Expr) (f:FE) (es:p_):Prop where
 h:VE X e f es
abbrev VF(X:Cx)(e:Expr)(f:FE)(es:p_):Prop:=PE X e (tvF X.K f es)
structure JF (X:Cx) (e:Expr) (f:FE) (es:p_):Prop where
 h:VF X e f es
abbrev VT(X:Cx)(e:Expr)(f:ag->k_):Prop:=PT X e (tvT X.K f)
structure JT (X:Cx) (e:Expr) (f:ag->k_):Prop where
 h:VT X e f
abbrev VW(X:Cx)(e:Expr)(f:ag->k_):Prop:=PW X e (tvT X.K f)
structure JW (X:Cx) (e:Expr) (f:ag->k_):Prop where
 h:VW X e f
abbrev VA(X:Cx)(e:z6)(f:FEs)(es:p_):Prop:=PA X e (tvA X.K f es)
structure JA (X:Cx) (e:z6) (f:FEs) (es:p_):Prop where
 h:VA X e f es
def cV{t t':TE}(h:PE X e t)(i:∀σ H Q,t' σ H Q->t σ H Q):PE X e t':=λG_ s σ H Q I q=>h G_ s σ H Q I (i σ H Q q)
def m8{t t':TT}(h:PT X e t)(i:∀σ H Q,t' σ H Q->t σ H Q):PT X e t':=λG_ s σ H Q I q=>h G_ s σ H Q I (i σ H Q q)
def pJ{t t':TT}(h:PW X e t)(i:∀σ H Q,t' σ H Q->t σ H Q):PW X e t':=λw G_ s σ H Q I q=>h w G_ s σ H Q I (i σ H Q q)
def ku{e:z6}{t t':TA}(h:PA X e t)(i:∀σ H Q,t' σ H Q->t σ H Q):PA X e t':=λpos G_ s σ H Q I q=>h pos G_ s σ H Q I (i σ H Q q)
def dX{t:TE}{f:FE}{es:p_}(h:PE X e t)(i:∀σ H Q U d,EnvR X.K H σ U->f U=some d->(∀v H',Post X.K σ U H es d v H'->Q v H')->t σ H Q):PE X e (tv X.K f es):=cV h λσ H Q y0=>by obtain⟨U,d,hE,hf,hQ⟩:=y0;exact i σ H Q U d hE hf hQ
def ja{t:TE}{f:FE}{es:p_}(h:PE X e t)(i:∀σ H Q U d,EnvR X.K H σ U->f U=some d->(∀v H',PostF X.K σ U H es d v H'->Q v H')->t σ H Q):PE X e (tvF X.K f es):=cV h λσ H Q y0=>by obtain⟨U,d,hE,hf,hQ⟩:=y0;exact i σ H Q U d hE hf hQ
def pK{t:TT}{f:ag->k_}(h:PT X e t)(i:∀σ H Q U d,EnvR X.K H σ U->f U=some d->(∀H',Same H H'->Q d H')->t σ H Q):PT X e (tvT X.K f):=m8 h λσ H Q y0=>by obtain⟨U,d,hE,hf,hQ⟩:=y0;exact i σ H Q U d hE hf hQ
section
variable {es ea eb ec:p_}{fa fb fc:FE}
def VF.ve{f:FE}(h:VF X a f es):VE X a f es:=dX h λσ H Q U d hE hf hQ=>⟨U,d,hE,hf,λv H' p=>hQ v H' (p.post hE)⟩
noncomputable def a5(i:Nat):FE:=λU=>(U[i]?).getD none
def gc{U:ag}{d:D}(h:a5 i U=some d):U[i]?=some (some d):=by
 unfold a5 at h;cases e:U[i]? with
 |none=>rw[e]at h;cases h
 |some o=>rw[e]at h;simp only[z7b]at h;rw[h]
def a6(i:Nat)(hN:X.N[i]?=some x<|>J7)(hv:Vis X.env.scope x<|>J9)(hd:DB x<|>J8)(hcd:(x==("__classdict__" : Str))=false<|>J8):JE X (.Name x pos) (a5 i) [.full i]:=⟨
 dX (fu hN hv hd hcd) λσ H Q U d hE hf hQ=>by have h:=gc hf;obtain⟨v,hv,r⟩:=hE i d h;exact⟨v,hv,hQ v H ⟨Same.refl H,r,λA _ av=>av (.full i) (z8b.mpr rfl) v d hv h⟩⟩⟩
noncomputable def eC(d:D):FE:=λ_=>some d
def jb{d:D}(h:PE X e (tC v))(r:∀H,Rep X.K H v d):VE X e (eC d) []:=
 dX h λσ H Q U d' hE hf hQ=>by cases hf;exact hQ v H ⟨Same.refl H,r H,λA _ _=>r _⟩
def ae{i j pos}:JE X (.Constant (.int i) j pos) (eC (.int i)) []:=⟨jb tN λ_=>.int i⟩
def ge{i j pos}:JE X (.Constant (.bool i) j pos) (eC (.bl i)) []:=⟨jb BB λ_=>.bl i⟩
def jc{j pos}:VE X (.Constant .none j pos) (eC .non) []:=jb BC λ_=>.non
def aL{x j pos}:JE X (.Constant (.str x) j pos) (eC (.str x)) []:=⟨jb fv λ_=>.str x⟩
def eI{i:Int}{t:Tok}(hm:X.mg x=some (.int i t))(hg:Gl X x<|>J7)(hd:DB x<|>J8):JE X (.Name x pos) (eC (.int i)) []:=⟨
 jb (tO (v:=.int i) hg hm ⟨t,rfl⟩ hd) λ_=>.int i⟩
noncomputable def e2(g:D->D->o_)(a b:FE):FE:=λU=>(a U).bind λx=>(b U).bind λy=>g x y
noncomputable def e1(g:D->o_)(a:FE):FE:=λU=>(a U).bind g
def bind_some{α β:Type}{o:Option α}{f:α->Option β}{b:β}(h:o.bind f=some b):∃a,o=some a/\f a=some b:=by
 cases o with
 |none=>cases h
 |some a=>exact⟨a,rfl,h⟩
def Post.up{U:ag}{es:p_}{d:D}(h:Post K σ U H es d v H1)(e:Same H1 H2):Post K σ U H es d v H2:=
 ⟨h.same.trans e,au e h.rep,λA hA ha=>au (c8 e) (h.av A hA ha)⟩
def Post.down{U:ag}{es:p_}{d:D}(h:Post K σ U H1 es d v H2)(e:Same H H1):Post K σ U H es d v H2:=
 ⟨e.trans h.same,h.rep,λA hA ha=>h.av A (hA.mono e) λx hx=>(ha x hx).mono e⟩
def OpV(K:K0)(r:R2)(g:D->D->o_):Prop:=
 ∀(x y:V) (H:Hp) (dx dy d:D) (Q:VK),Rep K H x dx->Rep K H y dy->g dx dy=some d ->
   (∀v H',Same H H'->Rep K H' v d->(∀A,Dom H A->Rep K (ao H A) x dx->Rep K (ao H A) y dy->Rep K (ao H' A) v d)->Q v H')->r x y H Q
def UnV(K:K0)(r:V->Hp->VK->Prop)(g:D->o_):Prop:=
 ∀(x:V) (H:Hp) (dx d:D) (Q:VK),Rep K H x dx->g dx=some d ->
   (∀v H',Same H H'->Rep K H' v d->(∀A,Dom H A->Rep K (ao H A) x dx->Rep K (ao H' A) v d)->Q v H')->r x H Q
def m9{g:D->D->o_}(hr:OpV K r g)(h:tv K (e2 g fa fb) (ea++eb) σ H Q):tOp r (tv K fa ea) (tv K fb eb) σ H Q:=by
 obtain⟨U,d,hE,hf,hQ⟩:=h;obtain⟨dx,h1,hf⟩:=bind_some hf;obtain⟨dy,h2,hf⟩:=bind_some hf;refine⟨U,dx,hE,h1,λx H1 p1=>⟨U,dy,hE.mono p1.same,h2,λy H2 p2=>?_⟩⟩;have q1:=p1.up p2.same;have q2:=p2.down p1.same;refine hr x y H2 dx dy d Q q1.rep q2.rep hf λv H' e r' av=>hQ v H' ⟨q1.same.trans e,r',λA hA ha=>?_⟩
 exact av A (hA.mono q1.same) (q1.av A hA λz hz=>ha z (z8i _ hz)) (q2.av A hA λz hz=>ha z (z9t _ hz))
def Dl{r:V->Hp->VK->Prop}{g:D->o_}(hr:UnV K r g)(h:tv K (e1 g fa) ea σ H Q):tUn r (tv K fa ea) σ H Q:=by obtain⟨U,d,hE,hf,hQ⟩:=h;obtain⟨dx,h1,hf⟩:=bind_some hf;refine⟨U,dx,hE,h1,λx H1 p1=>?_⟩;exact hr x H1 dx d Q p1.rep hf λv H' e r' av=>hQ v H' ⟨p1.same.trans e,r',λA hA ha=>av A (hA.mono p1.same) (p1.av A hA ha)⟩
def v9{op:Operator}{g:D->D->o_}(ho:OpR X (binaryOp op) r)(hr:OpV X.K r g)(ha:VE X a fa ea)(hb:VE X b fb eb):VE X (.BinOp a op b pos) (e2 g fa fb) (ea++eb):=
 cV (jZ ho ha hb) λ_ _ _ h=>m9 hr h
def jd{f:FE}(h:VE X a f es)(hs:∀U d,f U=some d->aW d=true):VE X a f []:=
 dX h λσ H Q U d hE hf hQ=>⟨U,d,hE,hf,λv H' p=>hQ v H' ⟨p.same,p.rep,λA _ _=>kt (hs U d hf) p.rep⟩⟩
def ma{g:D->D->o_}(h:∀x y d,g x y=some d->aW d=true)(fa fb:FE)(U:ag)(d:D)(e:e2 g fa fb U=some d):aW d=true:=by obtain⟨x,_,e⟩:=bind_some e;obtain⟨y,_,e⟩:=bind_some e;exact h x y d e
def Dm{g:D->o_}(h:∀x d,g x=some d->aW d=true)(fa:FE)(U:ag)(d:D)(e:e1 g fa U=some d):aW d=true:=by obtain⟨x,_,e⟩:=bind_some e;exact h x d e
noncomputable def gI(C:Int->Int->Prop)[∀i j,Decidable (C i j)](k:Int->Int->D):D->D->o_
 |.int i,.int j=>if C i j then some (k i j)else none
 |_,_=>none
def va{C:Int->Int->Prop}[∀i j,Decidable (C i j)]{k:Int->Int->D}{x y d:D}(h:gI C k x y=some d):∃i j,x=.int i/\y=.int j/\C i j/\k i j=d:=by
 unfold gI at h;split at h
 ·split at h
  ·cases h;exact⟨_,_,rfl,rfl,‹_›,rfl⟩
  ·cases h
 ·cases h
def ky{C:Int->Int->Prop}[∀i j,Decidable (C' i j)]{k:Int->Int->D}(K:K0)(hC:∀i j,C' i j->C i j)(hk:∀i j H,Rep K H (kv i j) (k i j)):OpV K (rI C kv) (gI C' k):=by intro x y H dx dy d Q rx ry hg hQ;obtain⟨i,j,rfl,rfl,c,rfl⟩:=va hg;cases rx;cases ry;exact⟨i,j,rfl,rfl,hC i j c,hQ _ H (Same.refl H) (hk i j H) λA _ _ _=>hk i j _⟩
def kz[∀i j,Decidable (C' i j)]{k:Int->Int->D}(K:K0)(hk:∀i j H,Rep K H (kv i j) (k i j)):OpV K (rI0 kv) (gI C' k):=by intro x y H dx dy d Q rx ry hg hQ;obtain⟨i,j,rfl,rfl,c,rfl⟩:=va hg;cases rx;cases ry;exact⟨i,j,rfl,rfl,hQ _ H (Same.refl H) (hk i j H) λA _ _ _=>hk i j _⟩
abbrev je(_ _:Int):Prop:=True
def small(i:Int):Prop:=-18446744073709551616<i/\i<18446744073709551616
instance (i:Int):Decidable (small i):=inferInstanceAs (Decidable (_/\_))
def mid(i:Int):Prop:=i.natAbs.log2<4000
instance (i:Int):Decidable (mid i):=inferInstanceAs (Decidable (_<_))
def okMul(i j:Int):Prop:=small i\/small j\/(mid i/\mid j)
instance (i j:Int):Decidable (okMul i j):=inferInstanceAs (Decidable (_\/_))
def kA(_ j:Int):Prop:=0<j/\mid j
instance (i j:Int):Decidable (kA i j):=inferInstanceAs (Decidable (_/\_))
def md(_ j:Int):Prop:=0<j
instance (i j:Int):Decidable (md i j):=inferInstanceAs (Decidable (_<_))
def kB(i j:Int):Prop:=(0<=j/\j<=1000000)/\small i
instance (i j:Int):Decidable (kB i j):=inferInstanceAs (Decidable (_/\_))
def vb{i:Int}(h:mid i):Builtin.Int.intBits i<=4000:=by
 unfold Builtin.Int.intBits;split
 ·exact z7a _
 ·exact h
def okMul.ok{i j:Int}(h:okMul i j):IntMulOk i j:=by
 rcases h with h|h|⟨h1,h2⟩
 ·exact .of_left (intBits_le_64 h.1 h.2)
 ·exact .of_right (intBits_le_64 h.1 h.2)
 ·exact PyProof.Rows.mulOk_of_bits (vb h1) (vb h2) (by decide)
abbrev bd:=gI je λi j=>.int (i+j)
abbrev bI:=gI je λi j=>.int (i-j)
abbrev bJ:=gI okMul λi j=>.int (i*j)
abbrev ie:=gI kA λi j=>.int (i / j)
abbrev eJ:=gI md λi j=>.int (i % j)
abbrev me:=gI kB λi j=>.int (i ^ j.toNat)
def kC{C:Int->Int->Prop}[∀i j,Decidable (C i j)]{k:Int->Int->D}(hk:∀i j,aW (k i j)=true)(x y d:D)(h:gI C k x y=some d):aW d=true:=by
 unfold gI at h;split at h
 ·split at h
  ·cases h;exact hk _ _
  ·cases h
 ·cases h
def vc:OpR X (binaryOp .Mult) (rI okMul λi j=>.int (i*j)):=opI λ_ _ _ _ _ _ _ hc q=>mul_int q hc.ok
def Dn:OpR X (binaryOp .FloorDiv) (rI kA λi j=>.int (i / j)):=opI λi j _ _ _ _ _ hc q=>by have h1:(0:Int)<j:=hc.1;have h2:j.natAbs.log2<4000:=hc.2;exact floordiv_int ∅ (by rw[Int.fdiv_eq_ediv_of_nonneg i ∅];exact q) (.inl (PyProof.noPylong_of_log2 ∅))
def Do:OpR X (binaryOp .Pow) (rI kB λi j=>.int (i ^ j.toNat)):=opI λi j _ _ _ _ _ hc q=>by have h1:-18446744073709551616<i/\i<18446744073709551616:=hc.2;exact pow_int_small hc.1.1 hc.1.2 ∅ q
def jf{op:Operator}{C:Int->Int->Prop}[∀i j,Decidable (C i j)]{k:Int->Int->D}(ho:OpR X (binaryOp op) r)(hr:OpV X.K r (gI C k))(hk:∀i j,aW (k i j)=true)(ha:VE X a fa ea)(hb:VE X b fb eb):
  VE X (.BinOp a op b pos) (e2 (gI C k) fa fb) []:=jd (v9 ho hr ha hb) (ma (kC hk) fa fb)
def bO(ha:JE X a fa ea)(hb:JE X b fb eb):JE X (.BinOp a .Add b pos) (e2 bd fa fb) []:=⟨have ha:=ha.h;have hb:=hb.h;jf ub (kz X.K λ_ _ _=>.int _) (λ_ _=>rfl) ha hb⟩
def cN(ha:JE X a fa ea)(hb:JE X b fb eb):JE X (.BinOp a .Sub b pos) (e2 bI fa fb) []:=⟨have ha:=ha.h;have hb:=hb.h;jf uc (kz X.K λ_ _ _=>.int _) (λ_ _=>rfl) ha hb⟩
def c9(ha:JE X a fa ea)(hb:JE X b fb eb):JE X (.BinOp a .Mult b pos) (e2 bJ fa fb) []:=⟨have ha:=ha.h;have hb:=hb.h;jf vc (ky X.K (λ_ _ h=>h) λ_ _ _=>.int _) (λ_ _=>rfl) ha hb⟩
def kD(ha:JE X a fa ea)(hb:JE X b fb eb):JE X (.BinOp a .FloorDiv b pos) (e2 ie fa fb) []:=⟨have ha:=ha.h;have hb:=hb.h;jf Dn (ky X.K (λ_ _ h=>h) λ_ _ _=>.int _) (λ_ _=>rfl) ha hb⟩
def fC(ha:JE X a fa ea)(hb:JE X b fb eb):JE X (.BinOp a .Mod b pos) (e2 eJ fa fb) []:=⟨have ha:=ha.h;have hb:=hb.h;jf C7 (ky X.K (λ_ _ h=>h) λ_ _ _=>.int _) (λ_ _=>rfl) ha hb⟩
def vd(ha:JE X a fa ea)(hb:JE X b fb eb):JE X (.BinOp a .Pow b pos) (e2 me fa fb) []:=⟨have ha:=ha.h;have hb:=hb.h;jf Do (ky X.K (λ_ _ h=>h) λ_ _ _=>.int _) (λ_ _=>rfl) ha hb⟩
noncomputable def eK:D->o_
 |.int i=>some (.int (-i))
 |_=>none
def Dp(x d:D)(h:eK x=some d):aW d=true:=by
 cases x<;>simp only[eK]at h<;>cases h
 rfl
def ig(ha:JE X a fa ea):JE X (.UnaryOp .USub a pos) (e1 eK fa) []:=⟨have ha:=ha.h;
 jd (es:=ea) (cV (C6 C8 ha) λ_ _ _ h=>Dl (λx H dx d Q rx hg hQ=>by
  cases rx<;>simp only[eK]at hg<;>cases hg
  exact⟨_,rfl,hQ _ H (Same.refl H) (.int _) λA _ _=>.int _⟩) h) (Dm Dp fa)⟩
abbrev ltI:=gI je λi j=>.bl (decide (i<j))
abbrev leI:=gI je λi j=>.bl (decide (i<=j))
abbrev gtI:=gI je λi j=>.bl (decide (j<i))
abbrev geI:=gI je λi j=>.bl (decide (j<=i))
def jh{g:D->D->o_}(ho:OpR X (compareOp op) r)(hr:OpV X.K r g)(ha:VE X a fa ea)(hb:VE X b fb eb)(hm:behindInMarks op b=false)(hs:∀x y d,g x y=some d->aW d=true):
  VE X (.Compare a [op] [b] pos) (e2 g fa fb) []:=jd (es:=ea++eb) (cV (ug ho ha hb hm) λ_ _ _ h=>m9 hr h) (ma hs fa fb)
noncomputable def tru:D->k_
 |.bl b=>some b
 |.int i=>some (i != 0)
 |.non=>some false
 |.lst xs=>some (!xs.isEmpty)
 |.tup xs=>some (!xs.isEmpty)
 |.str _=>none
 |.scr ns=>some (!ns.isEmpty)
 |.dct _ _=>none
 |.ptr _=>none
noncomputable def eT(f:FE):ag->k_:=λU=>(f U).bind λd=>match d with | .bl b=>some b|_=>none
def ij{g:D->D->o_}(ho:OpR X (compareOp op) r)(hr:OpV X.K r g)(ha:VE X a fa ea)(hb:VE X b fb eb)(hm:behindInMarks op b=false):VT X (.Compare a [op] [b] pos) (eT (e2 g fa fb)):=
 pK (oY ho ha hb hm) λσ H Q U b hE hf hQ=>by
  obtain⟨d,h1,h2⟩:=bind_some hf;refine m9 hr ⟨U,d,hE,h1,λv H' p=>?_⟩;cases d<;>simp only at h2<;>cases h2
  cases p.rep;exact⟨b,rfl,hQ H' p.same⟩
def fD[∀i j,Decidable (C' i j)]{k:Int->Int->Bool}(K:K0):OpV K (rI0 λi j=>.bl (k i j)) (gI C' λi j=>.bl (k i j)):=kz K λ_ _ _=>.bl _
def Dq(ha:JE X a fa ea)(hb:JE X b fb eb):JE X (.Compare a [.LtE] [b] pos) (e2 leI fa fb) []:=⟨have ha:=ha.h;have hb:=hb.h;jh oV (fD X.K) ha hb (cR _) (kC λ_ _=>rfl)⟩
def pL(ha:JE X a fa ea)(hb:JE X b fb eb):JE X (.Compare a [.Gt] [b] pos) (e2 gtI fa fb) []:=⟨have ha:=ha.h;have hb:=hb.h;jh oW (fD X.K) ha hb (cR _) (kC λ_ _=>rfl)⟩
def vf(ha:JE X a fa ea)(hb:JE X b fb eb):JE X (.Compare a [.GtE] [b] pos) (e2 geI fa fb) []:=⟨have ha:=ha.h;have hb:=hb.h;jh ue (fD X.K) ha hb (cR _) (kC λ_ _=>rfl)⟩
def vg(ha:JE X a fa ea)(hb:JE X b fb eb):JT X (.Compare a [.Lt] [b] pos) (eT (e2 ltI fa fb)):=⟨have ha:=ha.h;have hb:=hb.h;ij ud (fD X.K) ha hb (cR _)⟩
def mf(ha:JE X a fa ea)(hb:JE X b fb eb):JT X (.Compare a [.Gt] [b] pos) (eT (e2 gtI fa fb)):=⟨have ha:=ha.h;have hb:=hb.h;ij oW (fD X.K) ha hb (cR _)⟩
def Dr(ha:JE X a fa ea)(hb:JE X b fb eb):JT X (.Compare a [.GtE] [b] pos) (eT (e2 geI fa fb)):=⟨have ha:=ha.h;have hb:=hb.h;ij ue (fD X.K) ha hb (cR _)⟩
noncomputable def e3c(g g':D->D->o_)(a b c:FE):FE:=λU=>(a U).bind λx=>(b U).bind λy=>(g x y).bind λz=>match z with
 |.bl true=>(c U).bind λw=>g' y w
 |.bl false=>some (.bl false)
 |_=>none
def Ds{g g':D->D->o_}(hr:OpV K r g)(hr':OpV K r' g')(hs:∀x y d,g' x y=some d->aW d=true)(h:tv K (e3c g g' fa fb fc) [] σ H Q):
  uh r r' (tv K fa ea) (tv K fb eb) (tv K fc ec) σ H Q:=by
 obtain⟨U,d,hE,hf,hQ⟩:=h;obtain⟨dx,h1,hf⟩:=bind_some hf;obtain⟨dy,h2,hf⟩:=bind_some hf;obtain⟨dz,h3,hf⟩:=bind_some hf;refine⟨U,dx,hE,h1,λx H1 p1=>⟨U,dy,hE.mono p1.same,h2,λy H2 p2=>?_⟩⟩;have q1:=p1.up p2.same;have q2:=p2.down p1.same;refine hr x y H2 dx dy dz _ q1.rep q2.rep h3 λv H3 e3 r3 _=>?_
 have e03:=q1.same.trans e3;cases dz with
 | bl k=>
   cases r3;refine⟨k,rfl,?_⟩;cases k with
   |false=>cases hf;exact dU (hQ _ H3 ⟨e03,.bl _,λA _ _=>.bl _⟩)
   |true=>obtain⟨dw,h4,hf⟩:=bind_some hf;refine dW ⟨U,dw,hE.mono e03,h4,λw H4 p4=>?_⟩;refine hr' y w H4 dy dw d Q (au (e3.trans p4.same) q2.rep) p4.rep hf λv' H' e r' _=>hQ v' H' ⟨(e03.trans p4.same).trans e,r',λA _ _=>kt (hs _ _ _ hf) r'⟩
 |_=>cases hf
def Dt{g g':D->D->o_}(ho:OpR X (compareOp op) r)(ho':OpR X (compareOp op') r')(hr:OpV X.K r g)(hr':OpV X.K r' g')(hs:∀x y d,g' x y=some d->aW d=true)(ha:VE X a fa ea)(hb:VE X b fb eb)(hc:VE X c fc ec)(hm:lastMarks [op,op'] [b,c]=false<|>Q3):VE X (.Compare a [op,op'] [b,c] pos) (e3c g g' fa fb fc) []:=
 cV (Cc ho ho' ha hb hc hm) λ_ _ _ h=>Ds hr hr' hs h
def pM(ha:JE X a fa ea)(hb:JE X b fb eb)(hc:JE X c fc ec)(hm:lastMarks [.LtE,.LtE] [b,c]=false<|>Q3):JE X (.Compare a [.LtE,.LtE] [b,c] pos) (e3c leI leI fa fb fc) []:=⟨have ha:=ha.h;have hb:=hb.h;have hc:=hc.h;Dt oV oV (fD X.K) (fD X.K) (kC λ_ _=>rfl) ha hb hc hm⟩
def f7(f:FE):ag->k_:=λU=>(f U).bind tru
def vh{d:D}{k:Bool}(r:Rep K H v d)(h:tru d=some k):oZ K v H k:=by
 cases r with
 |non=>cases h;rfl
 |bl b=>cases h;rfl
 |int i=>cases h;rfl
 |str x=>cases h
 |lst h1 h2=>cases h;refine .inl ⟨_,.inl h1,?_⟩;cases h2<;>rfl
 |tup h1 h2=>cases h;refine .inr (.inl ⟨_,.inl (eF h1),?_⟩);cases h2<;>rfl
 |@scr a ns h1=>cases h;exact .inl ⟨_,h1,by cases ns<;>rfl⟩
 |dct h1=>cases h
 |ptr a=>cases h
def gF{f:FE}(h:JE X a f es)(he:(∀whole,isTrue a X.env whole=(do let v <- whole;standAt a.pos;holding [v] (truthy v)))<|>Q0):JT X a (f7 f):=⟨have h:=h.h;
 pK (uj h he) λσ H Q U b hE hf hQ=>by obtain⟨d,h1,h2⟩:=bind_some hf;exact⟨U,d,hE,h1,λv H' p=>⟨b,vh p.rep h2,hQ H' p.same⟩⟩⟩
noncomputable def eM(f g:ag->k_):ag->k_:=λU=>(f U).bind λb=>if b=true then g U else some false
noncomputable def bOr(f g:ag->k_):ag->k_:=λU=>(f U).bind λb=>if b=true then some true else g U
noncomputable def fE(f:ag->k_):ag->k_:=λU=>(f U).map (!·)
variable {ta tb:ag->k_}{rest:z6}
def gG(ha:JT X a ta):JW X (.BoolOp .And [a] pos) ta:=⟨have ha:=ha.h;tQ ha⟩
def pN(ha:JT X a ta):JW X (.BoolOp .Or [a] pos) ta:=⟨have ha:=ha.h;tR ha⟩
theorem gH(ha:JT X a ta)(hb:JW X (.BoolOp .And (b::rest) pos) tb):JW X (.BoolOp .And (a::b::rest) pos) (eM ta tb):=⟨have ha:=ha.h;have hb:=hb.h;
 pJ (tS ha hb) λσ H Q y0=>by
  obtain⟨U,b,hE,hf,hQ⟩:=y0;obtain⟨k,h1,h2⟩:=bind_some hf;refine⟨U,k,hE,h1,λH1 e1=>?_⟩;cases k with
  |true=>exact dW ⟨U,b,hE.mono e1,h2,λH2 e2=>hQ H2 (e1.trans e2)⟩
  |false=>cases h2;exact dU (hQ H1 e1)⟩
theorem pO(ha:JT X a ta)(hb:JW X (.BoolOp .Or (b::rest) pos) tb):JW X (.BoolOp .Or (a::b::rest) pos) (bOr ta tb):=⟨have ha:=ha.h;have hb:=hb.h;
 pJ (tT ha hb) λσ H Q y0=>by
  obtain⟨U,b,hE,hf,hQ⟩:=y0;obtain⟨k,h1,h2⟩:=bind_some hf;refine⟨U,k,hE,h1,λH1 e1=>?_⟩;cases k with
  |false=>exact dU ⟨U,b,hE.mono e1,h2,λH2 e2=>hQ H2 (e1.trans e2)⟩
  |true=>cases h2;exact dW (hQ H1 e1)⟩
def f8(h:JW X a ta):JT X a ta:=⟨have h:=h.h;h.pt⟩
theorem ji(ha:JT X a ta):JT X (.UnaryOp .Not a pos) (fE ta):=⟨have ha:=ha.h;
 pK (tU ha) λσ H Q U b hE hf hQ=>by
  unfold fE at hf;cases h1:ta U with
  |none=>rw[h1]at hf;cases hf
  |some k=>rw[h1]at hf;cases hf;exact⟨U,k,hE,h1,hQ⟩⟩
noncomputable def cY(f g:FE):FE:=λU=>(f U).bind λd=>match d with | .bl true=>g U | .bl false=>some (.bl false)|_=>none
noncomputable def mh(f:FE):FE:=λU=>(f U).bind λd=>match d with | .bl b=>some (.bl (!b))|_=>none
def fF{op}{f:FE}(h:JE X a f es):JE X (.BoolOp op [a] pos) f es:=⟨have h:=h.h;tV h⟩
theorem dY(ha:JE X a fa ea)(hb:JE X (.BoolOp .And (b::rest) pos) fb eb):JE X (.BoolOp .And (a::b::rest) pos) (cY fa fb) eb:=⟨have ha:=ha.h;have hb:=hb.h;
 dX (tW ha hb) λσ H Q U d hE hf hQ=>by
  obtain⟨k,h1,h2⟩:=bind_some hf;refine⟨U,k,hE,h1,λx H1 p1=>?_⟩;cases k with
  | bl b=>
    cases p1.rep;refine⟨b,rfl,?_⟩;cases b with
    |true=>exact dW ⟨U,d,hE.mono p1.same,h2,λv H2 p2=>hQ v H2 (p2.down p1.same)⟩
    |false=>cases h2;exact dU (hQ _ H1 ⟨p1.same,.bl _,λA _ _=>.bl _⟩)
  |_=>cases h2⟩
theorem Du(ha:JE X a fa ea):JE X (.UnaryOp .Not a pos) (mh fa) []:=⟨have ha:=ha.h;
 dX (BJ ha) λσ H Q U d hE hf hQ=>by
  obtain⟨k,h1,h2⟩:=bind_some hf;refine⟨U,k,hE,h1,λx H1 p1=>?_⟩;cases k with
  |bl b=>cases p1.rep;cases h2;exact⟨b,rfl,hQ _ H1 ⟨p1.same,.bl _,λA _ _=>.bl _⟩⟩
  |_=>cases h2⟩
noncomputable def eIf(t:ag->k_)(f g:FE):FE:=λU=>(t U).bind λb=>if b=true then f U else g U
theorem vi(hc:JT X c ta)(ha:JE X a fa ea)(hb:JE X b fb eb):JE X (.IfExp c a b pos) (eIf ta fa fb) (ea++eb):=⟨have hc:=hc.h;have ha:=ha.h;have hb:=hb.h;
 dX (tX hc ha hb) λσ H Q U d hE hf hQ=>by
  obtain⟨k,h1,h2⟩:=bind_some hf;refine⟨U,k,hE,h1,λH1 e1=>?_⟩;have fin:∀{es':p_} {v H2},(∀z∈es',z∈ea++eb)->Post X.K σ U H1 es' d v H2->Q v H2:=λ{es' v H2} hs p2=>hQ v H2 ⟨e1.trans p2.same,p2.rep,λA hA hz=>p2.av A (hA.mono e1) λz q=>(hz z (hs z q)).mono e1⟩
  cases k with
  |true=>exact dW ⟨U,d,hE.mono e1,h2,λv H2 p2=>fin (λz q=>z8i _ q) p2⟩
  |false=>exact dU ⟨U,d,hE.mono e1,h2,λv H2 p2=>fin (λz q=>z9t _ q) p2⟩⟩
noncomputable def ai:FEs:=λ_=>some []
noncomputable def a8(f:FE)(g:FEs):FEs:=λU=>(f U).bind λd=>(g U).bind λds=>some (d::ds)
def aj:JA X [] ai []:=⟨ku c7 λσ H Q y0=>by obtain⟨U,ds,hE,hf,hQ⟩:=y0;cases hf;exact hQ [] H ⟨Same.refl H,.nil,λ_ _ _=>.nil⟩⟩
def a9{xs:z6}{fs:FEs}(ha:JE X a fa ea)(hr:JA X xs fs eb)(hs:SE a xs X<|>J7):JA X (a::xs) (a8 fa fs) (ea++eb):=⟨have ha:=ha.h;have hr:=hr.h;
 ku (bM ha hr hs) λσ H Q y0=>by obtain⟨U,ds,hE,hf,hQ⟩:=y0;obtain⟨d,h1,hf⟩:=bind_some hf;obtain⟨dr,h2,hf⟩:=bind_some hf;cases hf;refine⟨U,d,hE,h1,λv H1 p1=>⟨U,dr,hE.mono p1.same,h2,λvs H2 p2=>hQ _ H2 ⟨p1.same.trans p2.same,.cons (au p2.same p1.rep) p2.rep,λA hA hz=>?_⟩⟩⟩;exact .cons (au (c8 p2.same) (p1.av A hA λz q=>hz z (z8i _ q))) (p2.av A (hA.mono p1.same) λz q=>(hz z (z9t _ q)).mono p1.same)⟩
noncomputable def bV(f:FEs):FE:=λU=>(f U).bind λds=>if ds.length<=1000 then some (.lst ds)else none
noncomputable def kE(f:FEs):FE:=λU=>(f U).bind λds=>if ds.length<=1000 then some (.tup ds)else none
def kF(h:n<=1000):n<=sizeLine:=z4h (D3 h)
def bP{α:Type}{c:Prop}[Decidable c]{a b:α}(h:(if c then some a else none)=some b):c/\a=b:=by
 by_cases q:c
 ·rw[if_pos q]at h;exact⟨q,z7f h⟩
 ·rw[if_neg q]at h;cases h
def cy{xs:z6}{fs:FEs}(h:JA X xs fs es):JF X (.List xs pos) (bV fs) es:=⟨have h:=h.h;
 ja (lU h) λσ H Q U d hE hf hQ=>by obtain⟨ds,h1,hf⟩:=bind_some hf;obtain⟨hl,rfl⟩:=bP hf;refine⟨U,ds,hE,h1,λvs H1 p=>⟨by rw[p.rep.length];exact kF hl,λl hl1=>hQ _ _ ⟨p.same.trans (bo hl1 _),⟨l,vs,ds,rfl,rfl,p.same.free hl1,bn,λA hA hz=>?_⟩⟩⟩⟩;refine aV (λb o q=>?_) (p.av A hA hz);obtain⟨n,q⟩:=eG q;have ne:b≠l:=c6 q hl1;rw[cr (λz=>z.elim n ne),aE ne];exact q⟩
def vj{xs:z6}{fs:FEs}{x1}(h:JA X xs fs es):JE X (.Tuple xs x1 pos) (kE fs) es:=⟨have h:=h.h;
 dX (uv h) λσ H Q U d hE hf hQ=>by obtain⟨ds,h1,hf⟩:=bind_some hf;obtain⟨hl,rfl⟩:=bP hf;refine⟨U,ds,hE,h1,λvs H1 p=>⟨by rw[p.rep.length];exact kF hl,λl hl1=>hQ _ _ ⟨p.same.trans (bo hl1 _),.tup bn (aV (bo hl1 _) p.rep),λA hA hz=>?_⟩⟩⟩;have hA1:=hA.mono p.same;refine .tup ?_ (aV (c8 (bo hl1 _)) (p.av A hA hz));rw[cr (hA1.not_new hl1)];exact bn⟩
end
structure PostB (K:K0) (σ:St) (U:ag) (H:Hp) (es:p_) (d:D) (v:V) (H':Hp):Prop where
 same:Same H H'
 rep:Rep K H' v d
 av:∀A,Dom H A->(∀e∈es,Av K H σ U A e)->ElR K H' A v d
def tvB(K:K0)(f:FE)(es:p_):TE:=λσ H Q=>∃U d,EnvR K H σ U/\f U=some d/\∀v H',PostB K σ U H es d v H'->Q v H'
abbrev VB(X:Cx)(e:Expr)(f:FE)(es:p_):Prop:=PE X e (tvB X.K f es)
structure JB (X:Cx) (e:Expr) (f:FE) (es:p_):Prop where
 h:VB X e f es
def vk{t:TE}{f:FE}{es:p_}(h:PE X e t)(i:∀σ H Q U d,EnvR X.K H σ U->f U=some d->(∀v H',PostB X.K σ U H es d v H'->Q v H')->t σ H Q):PE X e (tvB X.K f es):=cV h λσ H Q y0=>by obtain⟨U,d,hE,hf,hQ⟩:=y0;exact i σ H Q U d hE hf hQ
def PostB.up{U:ag}{es:p_}{d:D}(h:PostB K σ U H es d v H1)(e:Same H1 H2):PostB K σ U H es d v H2:=
 ⟨h.same.trans e,au e h.rep,λA hA ha=>(h.av A hA ha).mono e⟩
def PostB.down{U:ag}{es:p_}{d:D}(h:PostB K σ U H1 es d v H2)(e:Same H H1):PostB K σ U H es d v H2:=
 ⟨e.trans h.same,h.rep,λA hA ha=>h.av A (hA.mono e) λx hx=>(ha x hx).mono e⟩
section
variable {es ea eb:p_}{fa fb:FE}
def cZ(h:JE X a fa es):JB X a fa es:=⟨have h:=h.h;vk h λσ H Q U d hE hf hQ=>⟨U,d,hE,hf,λv H' p=>hQ v H' ⟨p.same,p.rep,λA hA ha=>(p.av A hA ha).el⟩⟩⟩
def aD(i:Nat)(hN:X.N[i]?=some x<|>J7)(hv:Vis X.env.scope x<|>J9)(hd:DB x<|>J8)(hcd:(x==("__classdict__" : Str))=false<|>J8):JB X (.Name x pos) (a5 i) [.el i]:=⟨
 vk (fu hN hv hd hcd) λσ H Q U d hE hf hQ=>by have h:=gc hf;obtain⟨v,hv,r⟩:=hE i d h;exact⟨v,hv,hQ v H ⟨Same.refl H,r,λA _ av=>av (.el i) (z8b.mpr rfl) v d hv h⟩⟩⟩
noncomputable def items:D->Option n_
 |.lst ds=>some ds
 |.tup ds=>some ds
 |.scr ns=>some (ns.map .int)
 |_=>none
def jj{d:D}{ds:n_}(r:Rep K H v d)(h:items d=some ds):∃p xs,v=V.ref p/\(SqL K H p xs\/SqT K H p xs)/\Reps K H xs ds/\∀A,ElR K H A v d->Reps K (ao H A) xs ds:=by
 cases r with
 | @lst p xs ds' h1 h2=>
   cases h;refine⟨p,xs,rfl,.inl (.inl h1),h2,λA e=>?_⟩;rcases e with(e|⟨_,e⟩)|⟨q,ys,es',e,⟨e1,e2⟩|⟨e1,e2⟩,e3⟩
   ·cases e
   ·cases e
   ·cases e;cases e1;rw[ic h1 e2];exact e3
   ·cases e1
 | @tup p xs ds' h1 h2=>
   cases h;have h1:=eF h1;refine⟨p,xs,rfl,.inr (.inl h1),h2,λA e=>?_⟩;rcases e with(e|⟨_,e⟩)|⟨q,ys,es',e,⟨e1,e2⟩|⟨e1,e2⟩,e3⟩
   ·cases e
   ·cases e
   ·cases e1
   ·cases e;cases e1;rw[kr h1 e2];exact e3
 |@scr p ns h1=>cases h;exact⟨p,_,rfl,.inl h1,Reps.ints ns,λA _=>Reps.ints ns⟩
 |_=>cases h
noncomputable def dj:D->Bool
 |.tup _=>true
 |_=>false
def fG{d:D}{ds:n_}(r:Rep K H v d)(h:items d=some ds)(n:dj d=false):∃p xs,v=V.ref p/\SqL K H p xs/\Reps K H xs ds/\∀A,ElR K H A v d->Reps K (ao H A) xs ds:=by
 cases r with
 | @lst p xs ds' h1 h2=>
   cases h;refine⟨p,xs,rfl,.inl h1,h2,λA e=>?_⟩;rcases e with(e|⟨_,e⟩)|⟨q,ys,es',e,⟨e1,e2⟩|⟨e1,e2⟩,e3⟩
   ·cases e
   ·cases e
   ·cases e;cases e1;rw[ic h1 e2];exact e3
   ·cases e1
 |@scr p ns h1=>cases h;exact⟨p,_,rfl,h1,Reps.ints ns,λA _=>Reps.ints ns⟩
 |tup _ _=>cases n
 |_=>cases h
def gJ{ds:n_}(r:Rep K H v (.lst ds)):∃p xs,v=V.ref p/\Rd H p (.lst xs)/\Reps K H xs ds/\∀A,ElR K H A v (.lst ds)->Reps K (ao H A) xs ds:=by
 cases r with
 | @lst p xs _ h1 h2=>
   refine⟨p,xs,rfl,h1,h2,λA e=>?_⟩;rcases e with(e|⟨_,e⟩)|⟨q,ys,es',e,⟨e1,e2⟩|⟨e1,e2⟩,e3⟩
   ·cases e
   ·cases e
   ·cases e;cases e1;rw[ic h1 e2];exact e3
   ·cases e1
def ixD:D->D->o_
 |x,.int i=>(items x).bind λds=>atI ds i
 |_,_=>none
def mj{ds:n_}{i:Int}{d:D}(r:Reps K H xs ds)(h:atI ds i=some d):∃v,atI xs i=some v/\Rep K H v d:=by unfold atI at h ⊢;rw[r.length];obtain⟨j,h1,h2⟩:=bind_some h;obtain⟨v,h3,h4⟩:=r.get h2;exact⟨v,by rw[h1];exact h3,h4⟩
theorem aG(ha:JB X a fa ea)(hb:JE X b fb eb)(hs:j6 b):JE X (.Subscript a b pos) (e2 ixD fa fb) ea:=⟨have ha:=ha.h;have hb:=hb.h;
 dX (kg (ix_list.or pA) ha hb hs) λσ H Q U d hE hf hQ=>by
  obtain⟨dx,h1,hf⟩:=bind_some hf;obtain⟨dy,h2,hf⟩:=bind_some hf;refine⟨U,dx,hE,h1,λx H1 p1=>⟨U,dy,hE.mono p1.same,h2,λy H2 p2=>?_⟩⟩;have q1:=p1.up p2.same;cases dy with
  | int i=>
    cases p2.rep;obtain⟨ds,h3,h4⟩:=bind_some hf;obtain⟨p,xs,rfl,hp,hx,hA⟩:=jj q1.rep h3;obtain⟨v,h5,h6⟩:=mj hx h4;have fin:Q v H2:=hQ v H2 ⟨q1.same,h6,λA hD hz=>by obtain⟨v',h7,h8⟩:=mj (hA A (q1.av A hD hz)) h4;rw[h5]at h7;cases h7;exact h8⟩
    rcases hp with hp|hp
    ·exact .inl ⟨p,xs,i,v,rfl,rfl,hp,h5,fin⟩
    ·exact .inr ⟨p,xs,i,v,rfl,rfl,hp,h5,fin⟩
  |_=>cases hf⟩
def jk{U:ag}{es:p_}{ds:n_}(e:Same H H1)(hl:H1 l=none)(h:∀A,Dom H A->(∀z∈es,Av K H σ U A z)->Reps K (ao H1 A) xs ds):PostF K σ U H es (.lst ds) (.ref l) (upd H1 l (.lst xs)):=by refine⟨e.trans (bo hl _),⟨l,xs,ds,rfl,rfl,e.free hl,bn,λA hA hz=>?_⟩⟩;refine aV (λb o q=>?_) (h A hA hz);obtain⟨n,q⟩:=eG q;have ne:b≠l:=c6 q hl;rw[cr (λz=>z.elim n ne),aE ne];exact q
def eN{α:Type}(xs:List α)(lo hi:j_):List α:=(xs.drop (HT.sIx xs.length 0 lo)).take (HT.sIx xs.length xs.length hi-HT.sIx xs.length 0 lo)
def vm{ds:n_}(r:Reps K H xs ds)(lo hi:j_):Reps K H (j5 xs lo hi) (eN ds lo hi):=by unfold j5 eN;rw[r.length];exact(r.drop _).take _
abbrev FO:=ag->Option j_
def tvO(K:K0)(f:FO):TO:=λσ H Q=>∃U o,EnvR K H σ U/\f U=some o/\∀H',Same H H'->Q o H'
abbrev VO(X:Cx)(e:Option Expr)(f:FO):Prop:=PO X e (tvO X.K f)
structure JO (X:Cx) (e:Option Expr) (f:FO):Prop where
 h:VO X e f
def vn{e:Option Expr}{t t':TO}(h:PO X e t)(i:∀σ H Q,t' σ H Q->t σ H Q):PO X e t':=λG_ s σ H Q I q=>h G_ s σ H Q I (i σ H Q q)
noncomputable def jl:FO:=λ_=>some none
noncomputable def gf(f:FE):FO:=λU=>(f U).bind λd=>match d with | .int i=>some (some i)|_=>none
def mm:JO X none jl:=⟨vn py λσ H Q y0=>by obtain⟨U,o,hE,hf,hQ⟩:=y0;cases hf;exact hQ H (Same.refl H)⟩
def jm(h:JE X a fa ea):JO X (some a) (gf fa):=⟨have h:=h.h;vn (pz h) λσ H Q y0=>by
 obtain⟨U,o,hE,hf,hQ⟩:=y0;obtain⟨d,h1,hf⟩:=bind_some hf;refine⟨U,d,hE,h1,λv H' p=>?_⟩;cases d<;>simp only at hf<;>cases hf
 cases p.rep;exact⟨_,rfl,hQ H' p.same⟩⟩
def eSl(fa:FE)(lo hi:FO):FE:=λU=>(fa U).bind λx=>(lo U).bind λl=>(hi U).bind λh=>if dj x=true then none else(items x).bind λds=>some (.lst (eN ds l h))
theorem Dv{lo:Option Expr}{flo fhi:FO}(ha:JB X a fa ea)(hl:JO X lo flo)(hh:JO X hi fhi):JF X (.Subscript a (.Slice lo hi none p2) pos) (eSl fa flo fhi) ea:=⟨have ha:=ha.h;have hl:=hl.h;have hh:=hh.h;
 ja (lV uH ha hl hh) λσ H Q U d hE hf hQ=>by
  obtain⟨dx,h1,hf⟩:=bind_some hf;obtain⟨l,h2,hf⟩:=bind_some hf;obtain⟨h,h3,hf⟩:=bind_some hf;refine⟨U,dx,hE,h1,λx H1 p1=>⟨U,l,hE.mono p1.same,h2,λH2 e2=>⟨U,h,hE.mono (p1.same.trans e2),h3,λH3 e3=>?_⟩⟩⟩;have q:=p1.up (e2.trans e3);cases ht:dj dx with
  |true=>rw[if_pos ht]at hf;cases hf
  |false=>rw[if_neg (by rw[ht];exact z8r)]at hf;obtain⟨ds,h4,hf⟩:=bind_some hf;cases hf;obtain⟨p,xs,rfl,hp,hx,hA⟩:=fG q.rep h4 ht;exact⟨p,xs,rfl,hp,λr hr=>hQ _ _ (jk q.same hr λA hD hz=>vm (hA A (q.av A hD hz)) l h)⟩⟩
def Dw:R2:=λx y H Q=>∃l b xs zs,x=.ref l/\y=.ref b/\Rd H l (.lst xs)/\Rd H b (.lst zs)/\xs.length+zs.length<=sizeLine/\∀p,H p=none->Q (.ref p) (upd H p (.lst (xs++zs)))
def pP(I:Inv X G_ σ H s)(h:Rd H l (.lst xs)):xs.length<=sizeLine/\∃(its:z5) (n:Nat),Vals xs its/\xs.length=its.length/\s.heap.get? l=some {cls:=.type "list",data:=.seq its.toArray n}:=by obtain⟨z,its,n,r,e⟩:=h.ok I.hok;exact⟨z,its,n,r,r.length,e⟩
def pQ:OpR X (binaryOp .Add) Dw:=by
 intro G_ s σ H x y v u Q I rx ry h;obtain⟨l,b,xs,zs,rfl,rfl,hH,hB,hz,q⟩:=h;cases rx;cases ry;obtain⟨z,its,n,r,hl,e⟩:=pP I hH;obtain⟨z2,its2,n2,r2,hl2,e2⟩:=pP I hB;refine PySem.P.add_list e e2 ?_ (by rw[z9q,z9q];ext);have ea:its.toArray++its2.toArray=(its++its2).toArray:=by simp
 rw[ea];exact⟨.ref _,_,I.lnew (t':=s.toks) (r.append r2) (by rw[z9h];ext),rfl,q _ I.fresh⟩
noncomputable def gK:D->D->o_
 |.lst xs,.lst ys=>if xs.length+ys.length<=100000 then some (.lst (xs++ys))else none
 |_,_=>none
def dQ(h:n<=100000):n<=sizeLine:=z7u h (by decide)
theorem kG(ha:JB X a fa ea)(hb:JB X b fb eb):JF X (.BinOp a .Add b pos) (e2 gK fa fb) (ea++eb):=⟨have ha:=ha.h;have hb:=hb.h;
 ja (jZ pQ ha hb) λσ H Q U d hE hf hQ=>by
  obtain⟨dx,h1,hf⟩:=bind_some hf;obtain⟨dy,h2,hf⟩:=bind_some hf;refine⟨U,dx,hE,h1,λx H1 p1=>⟨U,dy,hE.mono p1.same,h2,λy H2 p2=>?_⟩⟩;have q1:=p1.up p2.same;have q2:=p2.down p1.same;cases dx with
  | lst ds=>
    cases dy with
    |lst es'=>obtain⟨hl,rfl⟩:=bP hf;obtain⟨p,xs,rfl,hp,hx,hA⟩:=gJ q1.rep;obtain⟨p',ys,rfl,hp',hy,hA'⟩:=gJ q2.rep;refine⟨p,p',xs,ys,rfl,rfl,hp,hp',by rw[hx.length,hy.length];exact dQ hl,λr hr=>hQ _ _ (jk q1.same hr λA hD hz=>?_)⟩;exact(hA A (q1.av A hD λz w=>hz z (z8i _ w))).append (hA' A (q2.av A hD λz w=>hz z (z9t _ w)))
    |_=>cases hf
  |_=>cases hf⟩
def bx:D->o_:=λd=>(items d).bind λds=>some (.int ds.length)
noncomputable def ar(g:D->o_):n_->o_
 |[x]=>g x
 |_=>none
noncomputable def d9(g:D->D->o_):n_->o_
 |[x,y]=>g x y
 |_=>none
noncomputable def eA(f:n_->o_)(as:FEs):FE:=λU=>(as U).bind f
def fH(K:K0)(r:l_->Hp->VK->Prop)(g:n_->o_):Prop:=
 ∀(xs:l_) (H:Hp) (ds:n_) (d:D) (Q:VK),Reps K H xs ds->g ds=some d->(∀v,(∀H',Rep K H' v d)->Q v H)->r xs H Q
def jn{id:String}{r:l_->Hp->VK->Prop}{g:n_->o_}{xs:z6}{as:FEs}(hc:di X (.builtin id) r)(hv:fH X.K r g)(hm:X.mg x=none)(hb:bootBuiltins x=some (.builtin id))(ha:VA X (a::xs) as es)(hg:Gl X x<|>J7)(hn:x ≠ "__name__"<|>J8)(hdb:DB x<|>J8)(he:SE a xs X<|>J7)(hpl:BT pos xs X<|>J7):
  VE X (.Call (.Name x p) (a::xs) [] pos) (eA g as) []:=
 dX (pw hc hg hm hb ha hn hdb he hpl) λσ H Q U d hE hf hQ=>by obtain⟨ds,h1,hf⟩:=bind_some hf;exact⟨U,ds,hE,h1,λvs H1 p=>hv vs H1 ds d Q p.rep hf λv hr=>hQ v H1 ⟨p.same,hr _,λA _ _=>hr _⟩⟩
def f9{d:D}(h:Reps K H vs [d]):∃v,vs=[v]/\Rep K H v d:=by
 cases h with
 |cons h1 h2=>cases h2;exact⟨_,rfl,h1⟩
def pR{d e:D}(h:Reps K H vs [d,e]):∃v w,vs=[v,w]/\Rep K H v d/\Rep K H w e:=by
 cases h with
 | cons h1 h2=>
   cases h2 with
   |cons h3 h4=>cases h4;exact⟨_,_,rfl,h1,h3⟩
def gL{g:D->o_}{ds:n_}{d:D}(h:ar g ds=some d):∃x,ds=[x]/\g x=some d:=by
 match ds,h with
 |[x],h=>exact⟨x,rfl,h⟩
def pS{g:D->D->o_}{ds:n_}{d:D}(h:d9 g ds=some d):∃x y,ds=[x,y]/\g x y=some d:=by
 match ds,h with
 |[x,y],h=>exact⟨x,y,rfl,h⟩
def vo:fH X.K (λxs H Q=>∃p ys,xs=[.ref p]/\(SqL X.K H p ys\/SqT X.K H p ys)/\Q (.int ys.length) H) (ar bx):=by intro xs H ds d Q r hg hQ;obtain⟨x,rfl,hg1⟩:=gL hg;obtain⟨v,rfl,r1⟩:=f9 r;obtain⟨es,h1,hg2⟩:=bind_some hg1;cases hg2;obtain⟨p,ys,rfl,hp,hx,_⟩:=jj r1 h1;exact⟨p,ys,rfl,hp,hQ _ λH'=>by rw[hx.length];exact .int _⟩
def cO{as:FEs}(ml:X.mg "len"=none)(ha:JA X [a] as es)(hg:Gl X "len"<|>J7)(he:SE a [] X<|>J7)(hpl:BT pos [] X<|>J7):
  JE X (.Call (.Name "len" p) [a] [] pos) (eA (ar bx) as) []:=⟨have ha:=ha.h;jn uJ vo ml PySem.boot_len ha hg (by decide) (by decide) he hpl⟩
def pT:D->o_:=λd=>(items d).bind λds=>some (.lst ds)
def Dx(ml:X.mg "list"=none)(ha:JB X a fa ea)(hg:Gl X "list"<|>J7)(he:SE a [] X<|>J7)(hpl:BT pos [] X<|>J7):
  JF X (.Call (.Name "list" p) [a] [] pos) (e1 pT fa) ea:=⟨have ha:=ha.h;
 ja (gD uK hg ml (by decide +kernel) (bM ha c7 he) (by decide) (by decide) he hpl) λσ H Q U d hE hf hQ=>by obtain⟨dx,h1,hf⟩:=bind_some hf;obtain⟨ds,h2,hf⟩:=bind_some hf;cases hf;refine⟨U,dx,hE,h1,λx H1 p1=>?_⟩;obtain⟨p,xs,rfl,hp,hx,hA⟩:=jj p1.rep h2;exact⟨p,xs,rfl,hp,λl hl=>hQ _ _ (jk p1.same hl λA hD hz=>hA A (p1.av A hD hz))⟩⟩
noncomputable def ik:n_->Option z_
 |[]=>some []
 |.int i::r=>(ik r).map (i::·)
 |_::_=>none
theorem vp:∀{ds:n_} {ns:z_},ik ds=some ns->ds=ns.map D.int
 |[],ns,h=>by cases h;rfl
 | .int i::r,ns,h=>by
   simp only[ik]at h;cases e:ik r with
   |none=>rw[e]at h;cases h
   |some ms=>rw[e]at h;cases h;rw[vp e];rfl
 |.non::_,_,h=>by cases h
 |.bl _::_,_,h=>by cases h
 |.str _::_,_,h=>by cases h
 |.lst _::_,_,h=>by cases h
 |.tup _::_,_,h=>by cases h
 |.scr _::_,_,h=>by cases h
theorem vq{K:K0}{H:Hp}:∀{ns:z_} {xs:l_},Reps K H xs (ns.map D.int)->xs=ns.map V.int
 |[],xs,h=>by cases h;rfl
 | n::ns,xs,h=>by
   cases h with
   |cons h1 h2=>cases h1;rw[vq h2];rfl
def vt(hc:X.calm=true):di X (.builtin "sum") (λxs H Q=>∃(p:Addr) (ns:z_),xs=[.ref p]/\SqL X.K H p (ns.map V.int)/\Q (.int ns.sum) H):=by
 intro G_ s σ H xs us Q I r h;obtain⟨p,ns,rfl,hp,q⟩:=h;obtain⟨u,rfl,ru⟩:=dH r;cases ru;obtain⟨its,rv,pl,hz⟩:=I.list hp;have hi:=CH rv;obtain⟨ys,e⟩:=hi.allInts.items;have hl:=pl.isList;rw[e]at hl;refine sum_intListG (I.ok.hd hc) hl λh' tk t' hk=>?_
 have e2:preSum (numAt ys) ys.size=ns.sum:=by rw[preSum_eq,z7l (by simp),<- hi.numsOf];rw[show its=its.toArray.toList from rfl,e,nums_intItems]
 rw[e2];exact⟨.int ns.sum,H,I.kept (t':=tk) hk,⟨_,rfl⟩,q⟩
def dZ:D->o_:=λd=>if dj d=true then none else(items d).bind λds=>(ik ds).bind λns=>some (.int ns.sum)
def vz:fH X.K (λxs H Q=>∃(p:Addr) (ns:z_),xs=[.ref p]/\SqL X.K H p (ns.map V.int)/\Q (.int ns.sum) H) (ar dZ):=by
 intro xs H ds d Q r hg hQ;obtain⟨x,rfl,hg1⟩:=gL hg;obtain⟨v,rfl,r1⟩:=f9 r;unfold dZ at hg1;cases ht:dj x with
 |true=>rw[if_pos ht]at hg1;cases hg1
 |false=>rw[if_neg (by rw[ht];exact z8r)]at hg1;obtain⟨es,h1,hg2⟩:=bind_some hg1;obtain⟨ns,h2,hg3⟩:=bind_some hg2;cases hg3;obtain⟨p,ys,rfl,hp,hx,_⟩:=fG r1 h1 ht;rw[vp h2]at hx;rw[vq hx]at hp;exact⟨p,ns,rfl,hp,hQ _ λH'=>.int _⟩
def kH{as:FEs}(hc:X.calm=true)(ml:X.mg "sum"=none)(ha:JA X [a] as es)(hg:Gl X "sum"<|>J7)(he:SE a [] X<|>J7)(hpl:BT pos [] X<|>J7):
  JE X (.Call (.Name "sum" p) [a] [] pos) (eA (ar dZ) as) []:=⟨have ha:=ha.h;jn (vt hc) vz ml PyProof.Rows.boot_sum ha hg (by decide) (by decide) he hpl⟩
noncomputable def e8:D->D->o_
 |.int i,.int j=>some (.int (if j > i then j else i))
 |_,_=>none
noncomputable def jo:D->D->o_
 |.int i,.int j=>some (.int (if j<i then j else i))
 |_,_=>none
def vA:fH X.K (λxs H Q=>∃i j,xs=[.int i,.int j]/\Q (.int (if j > i then j else i)) H) (d9 e8):=by
 intro xs H ds d Q r hg hQ;obtain⟨x,y,rfl,hg1⟩:=pS hg;obtain⟨v,w,rfl,r1,r2⟩:=pR r;clear hg r;unfold e8 at hg1;split at hg1
 ·cases hg1;cases r1;cases r2;exact⟨_,_,rfl,hQ _ λH'=>.int _⟩
 ·cases hg1
def Dy:fH X.K (λxs H Q=>∃i j,xs=[.int i,.int j]/\Q (.int (if j<i then j else i)) H) (d9 jo):=by
 intro xs H ds d Q r hg hQ;obtain⟨x,y,rfl,hg1⟩:=pS hg;obtain⟨v,w,rfl,r1,r2⟩:=pR r;clear hg r;unfold jo at hg1;split at hg1
 ·cases hg1;cases r1;cases r2;exact⟨_,_,rfl,hQ _ λH'=>.int _⟩
 ·cases hg1
def kI{as:FEs}(hc:X.calm=true)(ml:X.mg "max"=none)(ha:JA X [a,b] as es)(hg:Gl X "max"<|>J7)(he:SE a [b] X<|>J7)(hpl:BT pos [b] X<|>J7):
  JE X (.Call (.Name "max" p) [a,b] [] pos) (eA (d9 e8) as) []:=⟨have ha:=ha.h;jn (ul hc) vA ml PyProof.Rows.boot_max ha hg (by decide) (by decide) he hpl⟩
def vB{as:FEs}(hc:X.calm=true)(ml:X.mg "min"=none)(ha:JA X [a,b] as es)(hg:Gl X "min"<|>J7)(he:SE a [b] X<|>J7)(hpl:BT pos [b] X<|>J7):
  JE X (.Call (.Name "min" p) [a,b] [] pos) (eA (d9 jo) as) []:=⟨have ha:=ha.h;jn (Cf hc) Dy ml PyProof.Rows.boot_min ha hg (by decide) (by decide) he hpl⟩
noncomputable def tyD:D->String
 |.non=>"NoneType" | .bl _=>"bool" | .int _=>"int" | .str _=>"str" | .lst _=>"list" | .tup _=>"tuple" | .scr _=>"list" | .dct _ _=>"dict" | .ptr _=>"list"
noncomputable def il(T:String)(t:String):Bool:=t==T||(T=="int" && t=="bool")
end
inductive Out where
 |nx (U:ag)
 |rt (d:D)
 |bk (U:ag)
 |ct (U:ag)
abbrev FS:=ag->Option Out
def Dz(σ:St)(O:y9):Addr->Prop:=λa=>∃i∈O,σ[i]?=some (some (V.ref a))
structure Fr0 where
 H0:Hp
 PA:(Addr->Prop)->Prop
 n:Nat
 dom:∀A,PA A->Dom H0 A
 none:PA fB
structure Hd where
 P:Hp->Prop
 up:∀H H',Same H H'->P H->P H'
def HdOk(K:K0)(H:Hp)(p:Hd):Prop:=p.P H
def HdOk.mono{p:Hd}(e:Same H H')(h:HdOk K H p):HdOk K H' p:=p.up H H' e h
noncomputable def hdL(K:K0)(q:Addr)(xs:l_)(ds:n_):Hd:=⟨λH=>SqL K H q xs/\Reps K H xs ds,λ_ _ e h=>⟨e.seq h.1,aV e h.2⟩⟩
def hdD(q:Addr)(o:Obj)(kvs:List (Int×Int)):Hd:=⟨λH=>H q=some (.frz o (.dK (kq kvs))),λ_ _ e h=>e _ _ h⟩
def OwnC(K:K0)(H:Hp)(o:HO)(d:D):Prop:=(∃xs ds,o=.lst xs/\d=.lst ds/\Reps K H xs ds)\/∃kvs,o=.dK (kq kvs)/\d=.dct false kvs
def OwnC.mono{d:D}(e:Same H H')(h:OwnC K H o d):OwnC K H' o d:=by
 rcases h with⟨xs,ds,h1,h2,h3⟩|h
 ·exact .inl ⟨xs,ds,h1,h2,aV e h3⟩
 ·exact .inr h
def OwnC.rep{a:Addr}{d:D}(ha:H a=some o)(h:OwnC K H' o d)(e:Same H' H):Rep K H (.ref a) d:=by
 rcases h with⟨xs,ds,rfl,rfl,h3⟩|⟨kvs,rfl,rfl⟩
 ·exact .lst (.inl ha) (aV e h3)
 ·exact .dct (.inr ⟨rfl,ha⟩)
def OwnC.el{A:Addr->Prop}{a:Addr}{d:D}(ha:H a=some o)(h:OwnC K (ao H A) o d):ElR K H A (.ref a) d:=by
 rcases h with⟨xs,ds,rfl,rfl,h3⟩|⟨kvs,rfl,rfl⟩
 ·exact .inr ⟨a,xs,ds,rfl,.inl ⟨rfl,.inl ha⟩,h3⟩
 ·exact .inl (.inr ⟨_,rfl⟩)
def Off(σ:St)(O:y9)(A:Addr->Prop):Addr->Prop:=λb=>Dz σ O b\/A b
structure EnvO (K:K0) (F:Fr0) (J2:List Hd) (O:y9) (σ:St) (U:ag) (H:Hp):Prop where
 same:Same F.H0 H
 lσ:σ.length=F.n
 lρ:U.length=F.n
 val:∀i d,U[i]?=some (some d)->i∉O->∃v,σ[i]?=some (some v)/\∀A,F.PA A->Rep K (ao H (Off σ O A)) v d
 hld:∀p∈J2,∀A,F.PA A->HdOk K (ao H (Off σ O A)) p
 own:∀i∈O,∃a o d,σ[i]?=some (some (V.ref a))/\U[i]?=some (some d)/\H a=some o/\F.H0 a=Option.none/\∀A,F.PA A->OwnC K (ao H (Off σ O A)) o d
 inj:∀i∈O,∀j∈O,∀a,σ[i]?=some (some (V.ref a))->σ[j]?=some (some (V.ref a))->i=j
section
variable {F:Fr0}{J2:List Hd}{U:ag}
theorem EnvO.envR(h:EnvO K F J2 O σ U H):EnvR K H σ U:=λi d e=>by
 by_cases hi:i∈O
 ·obtain⟨a,xs,ds,h1,h2,h3,_,h5⟩:=h.own i hi
  rw[h2]at e;cases e;exact⟨_,h1,(h5 _ F.none).rep h3 (aP _ _)⟩
 ·obtain⟨v,h1,h2⟩:=h.val i d e hi
  exact⟨v,h1,au (aP _ _) (h2 _ F.none)⟩
def gM(hs:∀i∈O',i∈O){A:Addr->Prop}:∀b,Off σ O' A b->Off σ O A b:=λb h=>by
 rcases h with⟨i,hi,e⟩|h
 ·exact .inl ⟨i,hs i hi,e⟩
 ·exact .inr h
theorem EnvO.weaken(h:EnvO K F J2 O σ U H)(hs:∀i∈O',i∈O):EnvO K F J2 O' σ U H:=by
 have up:∀{A:Addr->Prop},Same (ao H (Off σ O A)) (ao H (Off σ O' A)):=cG (λ_ _ q=>q) (gM hs);refine⟨h.same,h.lσ,h.lρ,λi d e hi=>?_,λp hp A hA=>(h.hld p hp A hA).mono up,λi hi=>?_,λi hi j hj=>h.inj i (hs i hi) j (hs j hj)⟩
 ·by_cases hi':i∈O
  ·obtain⟨a,xs,ds,h1,h2,h3,h4,h5⟩:=h.own i hi'
   rw[h2]at e;cases e;refine⟨_,h1,λA hA=>(h5 A hA).rep ?_ up⟩;rw[cr]
   ·exact h3
   ·rintro(⟨j,hj,ej⟩|q)
    ·exact hi (h.inj i hi' j (hs j hj) a h1 ej▸hj)
    ·exact F.dom A hA a q h4
  ·obtain⟨v,h1,h2⟩:=h.val i d e hi'
   exact⟨v,h1,λA hA=>au up (h2 A hA)⟩
 ·obtain⟨a,xs,ds,h1,h2,h3,h4,h5⟩:=h.own i (hs i hi)
  exact⟨a,xs,ds,h1,h2,h3,h4,λA hA=>(h5 A hA).mono up⟩
def EnvO.up(h:EnvO K F J2 O σ U H)(e:Same H H'):EnvO K F J2 O σ U H':=
 ⟨h.same.trans e,h.lσ,h.lρ,λi d q hi=>let⟨v,h1,h2⟩:=h.val i d q hi;⟨v,h1,λA hA=>au (c8 e) (h2 A hA)⟩,λp hp A hA=>(h.hld p hp A hA).mono (c8 e),
  λi hi=>let⟨a,xs,ds,h1,h2,h3,h4,h5⟩:=h.own i hi;⟨a,xs,ds,h1,h2,e _ _ h3,h4,λA hA=>(h5 A hA).mono (c8 e)⟩,h.inj⟩
theorem EnvO.dom(h:EnvO K F J2 O σ U H){A:Addr->Prop}(hA:F.PA A):Dom H (Off σ O A):=λb q=>by
 rcases q with⟨i,hi,e⟩|q
 ·obtain⟨a,xs,ds,h1,h2,h3,_⟩:=h.own i hi
  rw[e]at h1;cases h1;rw[h3];exact λz=>nomatch z
 ·exact((F.dom A hA).mono h.same) b q
noncomputable def im(O:y9):Es->Bool
 |.full j=>!O.contains j
 |.el _=>true
theorem EnvO.av(h:EnvO K F J2 O σ U H){A:Addr->Prop}(hA:F.PA A){e:Es}(he:im O e=true):Av K H σ U (Off σ O A) e:=by
 have out:∀(j:Nat) (v:V) (d:D),j∉O->σ[j]?=some (some v)->U[j]?=some (some d)->Rep K (ao H (Off σ O A)) v d:=λj v d hj h1 h2=>by obtain⟨v',h3,h4⟩:=h.val j d h2 hj;rw[h1]at h3;cases h3;exact h4 A hA
 cases e with
 |full j=>exact λv d=>out j v d (by simpa [im]using he)
 | el j=>
   intro v d h1 h2;by_cases hj:j∈O
   ·obtain⟨a,xs,ds,h3,h4,h5,_,h6⟩:=h.own j hj
    rw[h1]at h3;cases h3;rw[h2]at h4;cases h4;exact(h6 A hA).el h5
   ·exact(out j v d hj h1 h2).el
def bR(O:y9)(es:p_):y9:=O.filter λi=>es.all (im [i])
def jp{es:p_}:∀i∈bR O es,i∈O:=λi h=>(z5a.mp h).1
def pU{es:p_}{e:Es}(he:e∈es):im (bR O es) e=true:=by
 cases e with
 |el j=>rfl
 |full j=>show(!(bR O es).contains j)=true;rw[z5x,Bool.eq_false_iff];intro q;have q':=List.contains_iff_mem.mp q;have:=z9y.mp (z5a.mp q').2 _ he;simp[im]at this
theorem EnvO.eval(h:EnvO K F J2 O σ U H){es:p_}{d:D}(p:Post K σ U H es d v H'):EnvO K F J2 (bR O es) σ U H'/\∀A,F.PA A->Rep K (ao H' (Off σ (bR O es) A)) v d:=by have h1:=h.weaken (O':=bR O es) jp;exact⟨h1.up p.same,λA hA=>p.av _ (h1.dom hA) λe he=>h1.av hA (pU he)⟩
def vC{v:m_}{A:Addr->Prop}(hi:i∉O)(b:Addr):Off (σ.set i v) O A b↔Off σ O A b:=by
 have:∀j∈O,(σ.set i v)[j]?=σ[j]?:=λj hj=>z9f (λ(e:i=j)=>hi (e▸hj))
 constructor
 ·rintro(⟨j,hj,e⟩|q)
  ·exact .inl ⟨j,hj,by rw[this j hj]at e;exact e⟩
  ·exact .inr q
 ·rintro(⟨j,hj,e⟩|q)
  ·exact .inl ⟨j,hj,by rw[this j hj];exact e⟩
  ·exact .inr q
theorem EnvO.set(h:EnvO K F J2 O σ U H){d:D}(hi:i∉O)(hv:∀A,F.PA A->Rep K (ao H (Off σ O A)) v d):EnvO K F J2 O (σ.set i (some v)) (U.set i (some d)) H:=by
 have ne:∀{j:Nat},j∈O->i≠j:=λhj e=>hi (e▸hj)
 have up:∀{A:Addr->Prop},Same (ao H (Off σ O A)) (ao H (Off (σ.set i (some v)) O A)):=cG (λ_ _ q=>q) λb q=>(vC hi b).mp q
 refine⟨h.same,by rw[z8e];exact h.lσ,by rw[z8e];exact h.lρ,λj e q hj=>?_,λp hp A hA=>(h.hld p hp A hA).mono up,λj hj=>?_,λj hj k hk a e1 e2=>?_⟩
 ·by_cases e1:j=i
  ·subst e1
   have hl:j<U.length:=by
    have:=(z9c.mp q).1
    rwa [z8e]at this
   rw[z9r hl]at q;cases q;exact⟨v,z9r (by rw[h.lσ,<- h.lρ];exact hl),λA hA=>au up (hv A hA)⟩
  ·rw[z9f (Ne.symm e1)]at q
   obtain⟨v',h1,h2⟩:=h.val j e q hj;exact⟨v',by rw[z9f (Ne.symm e1)];exact h1,λA hA=>au up (h2 A hA)⟩
 ·obtain⟨a,xs,ds,h1,h2,h3,h4,h5⟩:=h.own j hj
  exact⟨a,xs,ds,by rw[z9f (ne hj)];exact h1,by rw[z9f (ne hj)];exact h2,h3,h4,λA hA=>(h5 A hA).mono up⟩
 ·rw[z9f (ne hj)]at e1
  rw[z9f (ne hk)]at e2;exact h.inj j hj k hk a e1 e2
theorem EnvO.setF(h:EnvO K F J2 O σ U H){es:p_}{d:D}(p:PostF K σ U H es d v H')(hn:i<F.n)(hi:i∉O)(he:∀e∈es,im O e=true):EnvO K F J2 (i::O) (σ.set i (some v)) (U.set i (some d)) H':=by
 obtain⟨l,xs,ds,rfl,rfl,hl,hl',hr⟩:=p.new;have ne:∀{j:Nat},j∈O->i≠j:=λhj e=>hi (e▸hj)
 have at_i:(σ.set i (some (V.ref l)))[i]?=some (some (V.ref l)):=z9r (by rw[h.lσ];exact hn);have off:∀{A:Addr->Prop} (b:Addr),Off (σ.set i (some (V.ref l))) (i::O) A b↔(Off σ O A b\/b=l):=λ{A} b=>by
  constructor
  ·rintro(⟨j,hj,e⟩|q)
   ·rcases z9j.mp hj with e1|hj
    ·subst e1;rw[at_i]at e;cases e;exact .inr rfl
    ·rw[z9f (ne hj)]at e;exact .inl (.inl ⟨j,hj,e⟩)
   ·exact .inl (.inr q)
  ·rintro((⟨j,hj,e⟩|q)|rfl)
   ·exact .inl ⟨j,z9d _ hj,by rw[z9f (ne hj)];exact e⟩
   ·exact .inr q
   ·exact .inl ⟨i,z9a,at_i⟩
 have up:∀{A:Addr->Prop},Same (ao H (Off σ O A)) (ao H' (Off (σ.set i (some (V.ref l))) (i::O) A)):=λ{A} b o q=>by obtain⟨n,q⟩:=eG q;rw[cr λz=>((off b).mp z).elim n (c6 q hl)];exact p.same b o q
 refine⟨h.same.trans p.same,by rw[z8e];exact h.lσ,by rw[z8e];exact h.lρ,λj e q hj=>?_,λz hz A hA=>(h.hld z hz A hA).mono up,λj hj=>?_,λj hj k hk a e1 e2=>?_⟩
 ·have e1:j≠i:=λe=>hj (e▸z9a)
  rw[z9f (Ne.symm e1)]at q;obtain⟨v',h1,h2⟩:=h.val j e q λz=>hj (z9d _ z)
  exact⟨v',by rw[z9f (Ne.symm e1)];exact h1,λA hA=>au up (h2 A hA)⟩
 ·by_cases e1:j=i
  ·subst e1
   refine⟨l,_,_,at_i,z9r (by rw[h.lρ];exact hn),hl',h.same.free hl,λA hA=>.inl ⟨xs,ds,rfl,rfl,?_⟩⟩;exact aV (cG (λ_ _ q=>q) λb q=>(off b).mp q) (hr _ (h.dom hA) λe q=>h.av hA (he e q))
  ·have hj:j∈O:=(z9j.mp hj).resolve_left e1
   obtain⟨a,ys,es',h1,h2,h3,h4,h5⟩:=h.own j hj;exact⟨a,ys,es',by rw[z9f (Ne.symm e1)];exact h1,by rw[z9f (Ne.symm e1)];exact h2,p.same _ _ h3,h4,λA hA=>(h5 A hA).mono up⟩
 ·have key:∀{m:Nat} {b:Addr},m∈O->(σ.set i (some (V.ref l)))[m]?=some (some (V.ref b))->b≠l:=λ{m b} hm e z=>by subst z;rw[z9f (ne hm)]at e;obtain⟨a',_,_,h1,_,h3,_⟩:=h.own m hm;rw[e]at h1;cases h1;rw[hl]at h3;cases h3
  rcases z9j.mp hj with e3|hj'<;>rcases z9j.mp hk with e4|hk'
  ·rw[e3,e4]
  ·rw[e3,at_i]at e1;cases e1;exact absurd rfl (key hk' e2)
  ·rw[e4,at_i]at e2;cases e2;exact absurd rfl (key hj' e1)
  ·rw[z9f (ne hj')]at e1
   rw[z9f (ne hk')]at e2;exact h.inj j hj' k hk' a e1 e2
theorem EnvO.putC(h:EnvO K F J2 O σ U H){a:Addr}{d':D}(hi:i∈O)(ha:σ[i]?=some (some (V.ref a)))(hr:∀A,F.PA A->OwnC K (ao H (Off σ O A)) o' d'):
  EnvO K F J2 O σ (U.set i (some d')) (upd H a o'):=by
 obtain⟨a',xs,ds,h1,h2,h3,h4,h5⟩:=h.own i hi;rw[ha]at h1;cases h1;have up:∀{A:Addr->Prop},Same (ao H (Off σ O A)) (ao (upd H a o') (Off σ O A)):=λ{A} b o q=>by
  obtain⟨n,q⟩:=eG q;have ne:b≠a:=λe=>n (.inl ⟨i,hi,e▸ha⟩)
  rw[cr n,aE ne];exact q
 have hl:i<U.length:=(z9c.mp h2).1;refine⟨λb o q=>?_,h.lσ,by rw[z8e];exact h.lρ,λj e q hj=>?_,λp hp A hA=>(h.hld p hp A hA).mono up,λj hj=>?_,h.inj⟩
 ·rw[aE (c6 q h4)]
  exact h.same b o q
 ·have e1:j≠i:=λe=>hj (e▸hi)
  rw[z9f (Ne.symm e1)]at q;obtain⟨v',k1,k2⟩:=h.val j e q hj;exact⟨v',k1,λA hA=>au up (k2 A hA)⟩
 ·by_cases e1:j=i
  ·subst e1
   exact⟨a,_,_,ha,z9r hl,bn,h4,λA hA=>(hr A hA).mono up⟩
  ·obtain⟨b,zs,es',k1,k2,k3,k4,k5⟩:=h.own j hj
   have ne:b≠a:=λe=>e1 (h.inj j hj i hi a (e▸k1) ha)
   exact⟨b,zs,es',k1,by rw[z9f (Ne.symm e1)];exact k2,by rw[aE ne];exact k3,k4,λA hA=>(k5 A hA).mono up⟩
theorem EnvO.put(h:EnvO K F J2 O σ U H){a:Addr}{es:n_}(hi:i∈O)(ha:σ[i]?=some (some (V.ref a)))(hr:∀A,F.PA A->Reps K (ao H (Off σ O A)) ys es):
  EnvO K F J2 O σ (U.set i (some (.lst es))) (upd H a (.lst ys)):=h.putC hi ha λA hA=>.inl ⟨ys,es,rfl,rfl,hr A hA⟩
theorem EnvO.ownL(h:EnvO K F J2 O σ U H)(hi:i∈O){ds0:n_}(hd:U[i]?=some (some (.lst ds0))):∃a xs ds,σ[i]?=some (some (V.ref a))/\U[i]?=some (some (.lst ds))/\H a=some (.lst xs)/\F.H0 a=Option.none/\∀A,F.PA A->Reps K (ao H (Off σ O A)) xs ds:=by
 obtain⟨a,o,d,h1,h2,h3,h4,h5⟩:=h.own i hi;rw[hd]at h2;cases h2;rcases h5 _ F.none with⟨xs,ds,rfl,e,_⟩|⟨kvs,_,e⟩
 ·cases e
  refine⟨a,xs,ds0,h1,hd,h3,h4,λA hA=>?_⟩;rcases h5 A hA with⟨xs',ds',e1,e2,h6⟩|⟨kvs,e1,_⟩
  ·cases e1;cases e2;exact h6
  ·cases e1
 ·cases e
theorem EnvO.hold{p:Hd}(h:EnvO K F J2 O σ U H)(hv:∀A,F.PA A->HdOk K (ao H (Off σ O A)) p):EnvO K F (p::J2) O σ U H:=
 ⟨h.same,h.lσ,h.lρ,h.val,λq hq=>(z9j.mp hq).elim (λe=>e▸hv) (h.hld q),h.own,h.inj⟩
def EnvO.unhold{p:Hd}(h:EnvO K F (p::J2) O σ U H):EnvO K F J2 O σ U H:=⟨h.same,h.lσ,h.lρ,h.val,λq hq=>h.hld q (z9d _ hq),h.own,h.inj⟩
end
structure Ret (K:K0) (F:Fr0) (fr:Bool) (d:D) (v:V) (H':Hp):Prop where
 same:Same F.H0 H'
 rep:∀A,F.PA A->Rep K (ao H' A) v d
 new:fr=true->∃l xs ds,v=V.ref l/\d=.lst ds/\F.H0 l=none/\H' l=some (.lst xs)/\∀A,F.PA A->Reps K (ao H' λb=>A b\/b=l) xs ds
def tsP(K:K0)(F:Fr0)(J2:List Hd)(O' OL:y9)(fr:Bool)(De:Ends):Out->Prop
 |.nx ρ'=>∀σ' H',EnvO K F J2 O' σ' ρ' H'->De.nx σ' H'
 |.bk ρ'=>∀σ' H',EnvO K F J2 OL σ' ρ' H'->De.bk σ' H'
 |.ct ρ'=>∀σ' H',EnvO K F J2 OL σ' ρ' H'->De.ct σ' H'
 |.rt d=>∀v H',Ret K F fr d v H'->De.rt v H'
def ts(K:K0)(F:Fr0)(J2:List Hd)(O O' OL:y9)(fr:Bool)(f:FS):TS:=λDe σ H=>∃U o,EnvO K F J2 O σ U H/\f U=some o/\tsP K F J2 O' OL fr De o
abbrev VS(X:Cx)(F:Fr0)(O:y9)(st:Stmt)(f:FS)(O' OL:y9)(fr:Bool):Prop:=∀J2,PS X st (ts X.K F J2 O O' OL fr f)
structure JS (X:Cx) (F:Fr0) (O:y9) (st:Stmt) (f:FS) (O' OL:y9) (fr:Bool):Prop where
 h:VS X F O st f O' OL fr
abbrev VSs(X:Cx)(F:Fr0)(O:y9)(st:z9)(f:FS)(O' OL:y9)(fr:Bool):Prop:=∀J2,PSs X st (ts X.K F J2 O O' OL fr f)
structure JSs (X:Cx) (F:Fr0) (O:y9) (st:z9) (f:FS) (O' OL:y9) (fr:Bool):Prop where
 h:VSs X F O st f O' OL fr
def da{e:Stmt}{t t':TS}(h:PS X e t)(i:∀De σ H,t' De σ H->t De σ H):PS X e t':=λG_ s σ H De I q=>h G_ s σ H De I (i De σ H q)
def ff{e:z9}{t t':TS}(h:PSs X e t)(i:∀De σ H,t' De σ H->t De σ H):PSs X e t':=λG_ s σ H De I q=>h G_ s σ H De I (i De σ H q)
def fI{e:Stmt}{t:TS}{F:Fr0}{J2:List Hd}{f:FS}(h:PS X e t)(i:∀De σ H U o,EnvO X.K F J2 O σ U H->f U=some o->tsP X.K F J2 O' OL fr De o->t De σ H):PS X e (ts X.K F J2 O O' OL fr f):=da h λDe σ H y0=>by obtain⟨U,o,hE,hf,hQ⟩:=y0;exact i De σ H U o hE hf hQ
def pV{e:z9}{t:TS}{F:Fr0}{J2:List Hd}{f:FS}(h:PSs X e t)(i:∀De σ H U o,EnvO X.K F J2 O σ U H->f U=some o->tsP X.K F J2 O' OL fr De o->t De σ H):PSs X e (ts X.K F J2 O O' OL fr f):=ff h λDe σ H y0=>by obtain⟨U,o,hE,hf,hQ⟩:=y0;exact i De σ H U o hE hf hQ
section
variable {F:Fr0}{f g:FS}{rest:z9}{fe:FE}{es:p_}
noncomputable def jq:FS:=λU=>some (.nx U)
noncomputable def aR(f g:FS):FS:=λU=>(f U).bind λo=>match o with
 |.nx ρ'=>g ρ'
 |.rt d=>some (.rt d)
 |.bk ρ'=>some (.bk ρ')
 |.ct ρ'=>some (.ct ρ')
def mn:JSs X F O [] jq O OL fr:=⟨λJ2=>pV oO λDe σ H U o hE hf hQ=>by cases hf;exact hQ σ H hE⟩
theorem bf(h1:JS X F O st f O1 OL fr)(h2:JSs X F O1 rest g O2 OL fr):JSs X F O (st::rest) (aR f g) O2 OL fr:=⟨have h1:=h1.h;have h2:=h2.h;λJ2=>pV (j1 (h1 J2) (h2 J2)) λDe σ H U o hE hf hQ=>by
 obtain⟨o1,h1,hf⟩:=bind_some hf;refine⟨U,o1,hE,h1,?_⟩;cases o1 with
 |nx ρ'=>exact λσ' H' hE'=>⟨ρ',o,hE',hf,hQ⟩
 |rt d=>cases hf;exact hQ
 |bk ρ'=>cases hf;exact hQ
 |ct ρ'=>cases hf;exact hQ⟩
def bc(h1:JS X F O st f O1 OL fr):JSs X F O [st] f O1 OL fr:=⟨have h1:=h1.h;λJ2=>ff (jV (h1 J2)) λDe σ H h=>h⟩
theorem io(h:VSs X F O rest f O1 OL fr)(hs:∀i∈O',i∈O1):VSs X F O rest f O' OL fr:=λJ2=>pV (h J2) λDe σ H U o hE hf hQ=>⟨U,o,hE,hf,by
 cases o with
 |nx ρ'=>exact λσ' H' hE'=>hQ σ' H' (hE'.weaken hs)
 |rt d=>exact hQ
 |bk ρ'=>exact hQ
 |ct ρ'=>exact hQ⟩
noncomputable def sIf(t:ag->k_)(f g:FS):FS:=λU=>(t U).bind λb=>if b=true then f U else g U
theorem mo{tc:ag->k_}{a b:z9}(hc:JT X c tc)(ha:JSs X F O a f O1 OL fr)(hb:JSs X F O b g O2 OL fr)(h1:(∀i∈O',i∈O1)<|>J8)(h2:(∀i∈O',i∈O2)<|>J8):JS X F O (.If c a b pos) (sIf tc f g) O' OL fr:=⟨have hc:=hc.h;have ha:=ha.h;have hb:=hb.h;λJ2=>
 fI (oP hc (io ha h1 J2) (io hb h2 J2)) λDe σ H U o hE hf hQ=>by
  obtain⟨k,h1,hf⟩:=bind_some hf;refine⟨U,k,hE.envR,h1,λH1 e1=>?_⟩;cases k with
  |true=>exact dW ⟨U,o,hE.up e1,hf,hQ⟩
  |false=>exact dU ⟨U,o,hE.up e1,hf,hQ⟩⟩
noncomputable def bg(f:FE):FS:=λU=>(f U).map .rt
def pW{f:FE}{U:ag}{o:Out}(h:bg f U=some o):∃d,f U=some d/\o=.rt d:=by
 unfold bg at h;cases e:f U with
 |none=>rw[e]at h;cases h
 |some d=>rw[e]at h;cases h;exact⟨d,rfl,rfl⟩
def pX{A:Addr->Prop}:Same (ao H (Off σ O A)) (ao H A):=cG (λ_ _ q=>q) λ_ q=>.inr q
def bS(he:JE X e fe es):JS X F O (.Return (some e) pos) (bg fe) O' OL false:=⟨have he:=he.h;λJ2=>fI (i9 he) λDe σ H U o hE hf hQ=>by obtain⟨d,h1,rfl⟩:=pW hf;refine⟨U,d,hE.envR,h1,λv H' p=>hQ v H' ?_⟩;obtain⟨hE',hr⟩:=hE.eval p;exact⟨hE'.same,λA hA=>au pX (hr A hA),λz=>nomatch z⟩⟩
def mq(he:JF X e fe es):JS X F O (.Return (some e) pos) (bg fe) O' OL fr:=⟨have he:=he.h;λJ2=>fI (i9 he) λDe σ H U o hE hf hQ=>by obtain⟨d,h1,rfl⟩:=pW hf;refine⟨U,d,hE.envR,h1,λv H' p=>hQ v H' ?_⟩;obtain⟨hE',hr⟩:=hE.eval (p.post hE.envR);refine⟨hE'.same,λA hA=>au pX (hr A hA),λ_=>?_⟩;obtain⟨l,xs,ds,e1,e2,hl,hl',hA⟩:=p.new;have h1:=hE.weaken (O':=bR O es) jp;exact⟨l,xs,ds,e1,e2,hE.same.free hl,hl',λA hPA=>aV (cG (λ_ _ q=>q) λb q=>q.elim (λz=>.inl (.inr z)) .inr) (hA _ (h1.dom hPA) λe he=>h1.av hPA (pU he))⟩⟩
noncomputable def eL(f:FE):FE:=λU=>(f U).bind λd=>match d with
 |.lst ds=>some (.lst ds)
 |_=>none
def DA{f:FE}{U:ag}{d:D}(h:eL f U=some d):∃ds,d=.lst ds/\f U=some (.lst ds):=by
 obtain⟨x,h1,h2⟩:=bind_some h;cases x with
 |lst ds=>cases h2;exact⟨ds,rfl,h1⟩
 |_=>cases h2
theorem pY(i:Nat)(hi:i∈O<|>J8)(hN:X.N[i]?=some x<|>J7)(hv:Vis X.env.scope x<|>J9)(hd:DB x<|>J8)(hcd:(x==("__classdict__" : Str))=false<|>J8):JS X F O (.Return (some (.Name x p2)) pos) (bg (eL (a5 i))) O' OL fr:=⟨λJ2=>fI (i9 (fu hN hv hd hcd)) λDe σ H U o hE hf hQ=>by
 obtain⟨d,h1,rfl⟩:=pW hf;obtain⟨ds0,e0,h10⟩:=DA h1;subst e0;have h2:=gc h10;obtain⟨a,xs,ds,k1,k2,k3,k4,k5⟩:=hE.ownL hi h2;rw[k2]at h2;cases h2;refine⟨_,k1,hQ _ H ⟨hE.same,λA hA=>?_,λ_=>⟨a,xs,_,rfl,rfl,k4,k3,λA hA=>?_⟩⟩⟩
 ·refine .lst (.inl ?_) (aV pX (k5 A hA))
  rw[cr λq=>F.dom A hA a q k4];exact k3
 ·exact aV (cG (λ_ _ q=>q) λb q=>q.elim .inr λz=>.inl ⟨i,hi,z▸k1⟩) (k5 A hA)⟩
noncomputable def bj(i:Nat)(f:FE):FS:=λU=>(f U).map λd=>.nx (U.set i (some d))
def mv{f:FE}{U:ag}{o:Out}(h:bj i f U=some o):∃d,f U=some d/\o=.nx (U.set i (some d)):=by
 unfold bj at h;cases e:f U with
 |none=>rw[e]at h;cases h
 |some d=>rw[e]at h;cases h;exact⟨d,rfl,rfl⟩
noncomputable def mw(O:y9)(i:Nat):y9:=O.filter λj=>j != i
def mz:∀j∈mw O i,j∈O:=λj h=>(z5a.mp h).1
def vD:i∉mw O i:=λh=>by simpa using(z5a.mp h).2
def cW(i:Nat)(hN:X.N.Nodup)(he:JE X e fe es)(hi:X.N[i]?=some x<|>J7)(hx:Loc X.env.scope x<|>J9)(hs:swapsWith e (some (.Name x p2)) pos.line X.env=pure false<|>J7)(hfn:X.fn x=true\/X.env.scope.names.lookup x=some .local<|>J9):JS X F O (.Assign [.Name x p2] e pos) (bj i fe) (mw (bR O es) i) OL fr:=⟨have he:=he.h;λJ2=>
 fI (j2 hN hi hx he hs hfn) λDe σ H U o hE hf hQ=>by obtain⟨d,h1,rfl⟩:=mv hf;refine⟨U,d,hE.envR,h1,λv H' p=>hQ _ _ ?_⟩;obtain⟨hE',hr⟩:=hE.eval p;exact(hE'.weaken mz).set vD λA hA=>au (cG (λ_ _ q=>q) (gM mz)) (hr A hA)⟩
theorem e9(i:Nat)(hN:X.N.Nodup)(he:JF X e fe es)(hn:i<F.n)(hi:X.N[i]?=some x<|>J7)(hx:Loc X.env.scope x<|>J9)(hs:swapsWith e (some (.Name x p2)) pos.line X.env=pure false<|>J7)(hfn:X.fn x=true\/X.env.scope.names.lookup x=some .local<|>J9):JS X F O (.Assign [.Name x p2] e pos) (bj i fe) (i::mw (bR O es) i) OL fr:=⟨have he:=he.h;λJ2=>
 fI (j2 hN hi hx he hs hfn) λDe σ H U o hE hf hQ=>by
  obtain⟨d,h1,rfl⟩:=mv hf;refine⟨U,d,hE.envR,h1,λv H' p=>hQ _ _ ?_⟩;refine(hE.weaken λj hj=>jp j (mz j hj)).setF p hn vD λz hz=>?_
  have:=pU (O:=O) hz;cases z with
  |el j=>rfl
  |full j=>simp only[im,z5x,List.contains_eq_mem,decide_eq_false_iff_not]at this ⊢;exact λq=>this (mz j q)⟩
end
section
variable {F:Fr0}{f g:FS}{fe fb:FE}{es eb:p_}
def jr(i:Nat)(f:FE):FS:=λU=>(a5 i U).bind λx=>match x with
 |.lst ds=>(f U).bind λd=>if ds.length<100000 then some (.nx (U.set i (some (.lst (ds++[d])))))else none
 |_=>none
theorem DC(i:Nat)(he:VE X e fe es)(hi:i∈bR O es)(hN:X.N[i]?=some x)(hv:Vis X.env.scope x<|>J9)(hd:DB x)(hcd:(x==("__classdict__" : Str))=false)(hbase:attributeBase (.Name x p2) "append" X.env (eval (.Name x p2) X.env)=eval (.Name x p2) X.env)(hfew:(((backTo cp (starEach [e] X.env)).all (λx=>!x.1)&&(backToKw cp (keywordEach [] X.env)).all (λx=>x.1.isSome)
   && decide (([e]:z6).length+([]:z8).length+(if([]:z8).isEmpty then 0 else 1)<30))=true)<|>J7)(hline:(ap.endLine==cp.line)=true<|>J7)(hs:SE e [] X<|>J7)(hplain:BT cp [] X<|>J7)(hsw:swapsWith (.Call (.Attribute (.Name x p2) "append" ap) [e] [] cp) none pos.line X.env=pure false<|>J7):
  VS X F O (.Expr (.Call (.Attribute (.Name x p2) "append" ap) [e] [] cp) pos) (jr i fe) (bR O es) OL fr:=λJ2=>
 fI (jW (ib z6y z5s z5t pB (fu hN hv hd hcd) (bM he c7 hs) hbase hfew hline hs hplain) hsw) λDe σ H U o hE hf hQ=>by
  obtain⟨x,h1,hf⟩:=bind_some hf;have h1:=gc h1;obtain⟨ds0,rfl⟩:∃ds0,x=.lst ds0:=by cases x<;>first|exact⟨_,rfl⟩|cases hf
  obtain⟨a,xs,ds,k1,k2,k3,k4,k5⟩:=hE.ownL (jp i hi) h1;rw[k2]at h1;cases h1;obtain⟨d,h2,hf⟩:=bind_some hf;obtain⟨hl,rfl⟩:=bP hf;refine⟨_,k1,.inl ⟨rfl,xs,.inl (.inl k3)⟩,U,d,hE.envR,h2,λv H1 p=>?_⟩;obtain⟨hE1,hr⟩:=hE.eval p;obtain⟨a',ys,ds',m1,m2,m3,m4,m5⟩:=hE1.ownL hi k2;rw[k1]at m1;cases m1;rw[k2]at m2;cases m2;have e3:=p.same _ _ k3;have e4:xs=ys:=by rw[m3]at e3;cases e3;rfl
  subst e4;have len:=(m5 _ F.none).length;refine⟨a,xs,v,rfl,rfl,m3,z9u (show xs.length<100000 by ext) (by decide),hQ σ _ ?_⟩;exact hE1.put hi k1 λA hA=>(m5 A hA).append (.cons (hr A hA) .nil)
def kJ(i:Nat)(ix f:FE):FS:=λU=>(f U).bind λd=>(a5 i U).bind λx=>match x with
 | .lst ds=>(ix U).bind λk=>match k with
   |.int k=>(ixN ds.length k).bind λj=>some (.nx (U.set i (some (.lst (ds.set j d)))))
   |_=>none
 |_=>none
theorem DD(i:Nat)(he:VE X e fe es)(hb:VE X b fb eb)(hi:i∈bR O es)(hN:X.N[i]?=some x)(hv:Vis X.env.scope x<|>J9)(hd:DB x)(hcd:(x==("__classdict__" : Str))=false)(ha:(∀v,assign (.Subscript (.Name x p2) b p3) X.env v=(do
   let ov <- holding [v] (eval (.Name x p2) X.env);let iv <- holding [v,ov] (eval b X.env)
   standAt p3
   holding [v,ov,iv] (setItem ov iv v)
   release [v,ov,iv] []))<|>Q0)(hs:swapsWithSole [.Subscript (.Name x p2) b p3] e pos.line X.env=pure false<|>J7)(hw:swappedStores [.Subscript (.Name x p2) b p3] e X.env=pure none<|>J7)(h1:(assignEach [.Subscript (.Name x p2) b p3] X.env).map (·.2)=[assign (.Subscript (.Name x p2) b p3) X.env]<|>J7):
  VS X F O (.Assign [.Subscript (.Name x p2) b p3] e pos) (kJ i fb fe) (bR O es) OL fr:=λJ2=>
 fI (lO he (u1 (fu hN hv hd hcd) hb uG ha) hs hw h1) λDe σ H U o hE hf hQ=>by
  obtain⟨d,h2,hf⟩:=bind_some hf;obtain⟨x,h1,hf⟩:=bind_some hf;have h1:=gc h1;refine⟨U,d,hE.envR,h2,λv H1 p=>?_⟩;obtain⟨hE1,hr⟩:=hE.eval p;obtain⟨ds0,rfl⟩:∃ds0,x=.lst ds0:=by cases x<;>first|exact⟨_,rfl⟩|cases hf
  obtain⟨a,ys,ds,m1,m2,m3,m4,m5⟩:=hE1.ownL hi h1;rw[m2]at h1;cases h1;obtain⟨k,h3,hf⟩:=bind_some hf;refine⟨_,m1,U,k,hE1.envR,h3,λw H2 p2=>?_⟩;cases k with
  |int k=>cases p2.rep;obtain⟨j,h4,hf⟩:=bind_some hf;cases hf;have len:=(m5 _ F.none).length;have hE2:=hE1.up p2.same;refine⟨a,ys,k,j,rfl,rfl,p2.same _ _ m3,by rw[len];exact h4,hQ σ _ ?_⟩;exact hE2.put hi m1 λA hA=>Reps.set (au (c8 p2.same) (hr A hA)) j (aV (c8 p2.same) (m5 A hA))
  |_=>cases hf
noncomputable def kK(is:y9)(f:FE):FS:=λU=>(f U).bind λd=>match d with
 |.tup ds=>if ds.length=is.length then some (.nx ((is.zip ds).foldl (λr p=>r.set p.1 (some p.2)) U))else none
 |_=>none
inductive Tgs (X:Cx):z6->y9->Prop where
 |nil:Tgs X [] []
 | cons {i:Nat} {x:Str} {p:Pos} {es:z6} {is:y9} (hi:X.N[i]?=some x) (hx:Loc X.env.scope x) (hf:X.fn x=true\/X.env.scope.names.lookup x=some .local) (t:Tgs X es is)
   (hs:(assignEach (.Name x p::es) X.env).map (·.2)=assign (.Name x p) X.env::(assignEach es X.env).map (·.2)):Tgs X (.Name x p::es) (i::is)
def gg:y9->TGs
 |[]=>tZ
 |i::is=>u0 (cq i) (gg is)
theorem Tgs.ok(hN:X.N.Nodup):∀{es:z6} {is:y9},Tgs X es is->PGs X es (gg is)
 |_,_,.nil=>BS
 |_,_,.cons hi hx hf t hs=>BU (fY hN hi hx hf) (Tgs.ok hN t) hs
theorem pZ{K:K0}{J2:List Hd}{Q:St->Hp->Prop}:∀{is:y9} {xs:l_} {ds:n_} {σ:St} {U:ag} {H:Hp},EnvO K F J2 O σ U H->(∀i∈is,i∉O)->is.length=ds.length->(∀A,F.PA A->Reps K (ao H (Off σ O A)) xs ds) ->
  (∀σ' H',EnvO K F J2 O σ' ((is.zip ds).foldl (λr p=>r.set p.1 (some p.2)) U) H'->Q σ' H')->gg is xs σ H Q
 | [],xs,ds,σ,U,H,hE,_,hl,hr,hQ=>by
   cases ds with
   |nil=>cases hr _ F.none;exact⟨rfl,hQ σ H hE⟩
   |cons _ _=>cases hl
 | i::is,xs,ds,σ,U,H,hE,hO,hl,hr,hQ=>by
   cases ds with
   |nil=>cases hl
   | cons d ds=>
     cases xs with
     |nil=>cases hr _ F.none
     | cons v xs=>
       have hi:=hO i z9a;have h1:∀A,F.PA A->Rep K (ao H (Off σ O A)) v d:=λA hA=>by cases hr A hA with|cons h _=>exact h
       have h2:∀A,F.PA A->Reps K (ao H (Off (σ.set i (some v)) O A)) xs ds:=λA hA=>aV (cG (λ_ _ q=>q) λb q=>(vC hi b).mp q) (by cases hr A hA with|cons _ h=>exact h)
       exact⟨v,xs,rfl,pZ (hE.set hi h1) (λj hj=>hO j (z9d _ hj)) (by simpa using hl) h2 hQ⟩
def q9{ds:n_}(r:Rep K H v (.tup ds)):∃p xs,v=V.ref p/\Rd H p (.tup xs)/\Reps K H xs ds:=by
 cases r with
 |@tup p xs _ h1 h2=>exact⟨p,xs,rfl,.inl h1,h2⟩
def vE{A:Addr->Prop}{p:Addr}{ds:n_}(h1:Rd H p (.tup xs))(r:Rep K (ao H A) (.ref p) (.tup ds)):Reps K (ao H A) xs ds:=by
 cases r with
 |tup h2 h3=>rw[kr h1 (dI (aP H A) (.inl h2))];exact h3
theorem vF(is:y9){ts:z6}{k:Nat}(hc:X.calm=true)(hN:X.N.Nodup)(he:JE X e fe es)(ht:Tgs X ts is)(hO:∀i∈is,i∉O')(hO2:∀i∈O',i∈bR O es)(hn:(assignEach ts X.env).length=is.length<|>J7)(hst:(assignEach ts X.env).findIdx? (·.1)=none<|>J7)(hs:swapsWithSole [.Tuple ts k p2] e pos.line X.env=pure false<|>J7)(hw:swappedStores [.Tuple ts k p2] e X.env=pure none<|>J7)(h1:(assignEach [.Tuple ts k p2] X.env).map (·.2)=[assign (.Tuple ts k p2) X.env]<|>J7):JS X F O (.Assign [.Tuple ts k p2] e pos) (kK is fe) O' OL fr:=⟨have he:=he.h;λJ2=>
 fI (lO he (gB hc (Tgs.ok hN ht) hn hst) hs hw h1) λDe σ H U o hE hf hQ=>by
  obtain⟨d,h2,hf⟩:=bind_some hf;refine⟨U,d,hE.envR,h2,λv H1 p=>?_⟩;obtain⟨hE1,hr⟩:=hE.eval p;cases d with
  |tup ds=>obtain⟨hl,rfl⟩:=bP hf;obtain⟨q,xs,rfl,hq,hx⟩:=q9 p.rep;have up:∀{A:Addr->Prop},Same (ao H1 (Off σ (bR O es) A)) (ao H1 (Off σ O' A)):=cG (λ_ _ q=>q) (gM hO2);refine⟨q,xs,rfl,.inl hq,by rw[hx.length];exact hl,pZ (hE1.weaken hO2) hO hl.symm (λA hA=>aV up (vE hq (hr A hA))) hQ⟩
  |_=>cases hf⟩
noncomputable def br(body:D->FS):n_->FS
 |[],U=>some (.nx U)
 | x::r,U=>(body x U).bind λo=>match o with
   |.nx ρ'=>br body r ρ'
   |.ct ρ'=>br body r ρ'
   |.bk ρ'=>some (.nx ρ')
   |.rt d=>some (.rt d)
theorem ip{body:D->FS}{x:D}{r:n_}{U:ag}:br body (x::r) U=(body x U).bind λo=>match o with
  |.nx ρ'=>br body r ρ'
  |.ct ρ'=>br body r ρ'
  |.bk ρ'=>some (.nx ρ')
  |.rt d=>some (.rt d):=rfl
def kL{J2 held':List Hd}{d:D}{ds:n_}{o:Out}{U:ag}{body:D->FS}{N:St->Hp->Prop}{o1:Out}(h1:body d U=some o1)(hf:br body (d::ds) U=some o)(hQ:tsP K F J2 OL OL' fr De o)(hh:∀σ U H,EnvO K F held' OL σ U H->EnvO K F J2 OL σ U H)(hN:∀σ' H' ρ',EnvO K F held' OL σ' ρ' H'->br body ds ρ'=some o->N σ' H'):tsP K F held' OL OL fr {De with nx:=N,ct:=N,bk:=De.nx} o1:=by
 rw[ip,h1]at hf;cases o1 with
 |nx ρ'=>exact λσ' H' hE'=>hN σ' H' ρ' hE' hf
 |ct ρ'=>exact λσ' H' hE'=>hN σ' H' ρ' hE' hf
 |bk ρ'=>cases hf;exact λσ' H' hE'=>hQ σ' H' (hh _ _ _ hE')
 |rt d'=>cases hf;exact hQ
theorem kM{d:D}{ds:n_}(hr:∀A,F.PA A->Rep K (ao H (Off σ O A)) v d)(hds:items d=some ds)(ht:dj d=false):
  ∃q xs,v=V.ref q/\∀A,F.PA A->HdOk K (ao H (Off σ O A)) (hdL K q xs ds):=by
 have h0:=hr _ F.none;cases h0 with
 | @lst q xs ds' h1 h2=>
   cases hds;refine⟨q,xs,rfl,λA hA=>?_⟩;cases hr A hA with
   |@lst _ ys _ h3 h4=>have e:=ic (dI (aP _ _) h1) (dI (aP _ _) h3);subst e;exact⟨.inl h3,h4⟩
 | @scr q ns h1=>
   cases hds;refine⟨q,ns.map V.int,rfl,λA hA=>?_⟩;cases hr A hA with
   |scr h3=>exact⟨h3,Reps.ints ns⟩
 |tup _ _=>cases ht
 |_=>cases hds
def mB(t:Nat)(it:FE)(tb:FS):FS:=λU=>(it U).bind λd=>if dj d=true then none else(items d).bind λds=>br (λx U=>tb (U.set t (some x))) ds U
theorem DE(t:Nat){fi:FE}{ei:p_}{tb:FS}(Ol:y9)(hN:X.N.Nodup)(hc:X.calm=true)(hi:JE X iter fi ei)(hb:JSs X F Ol body tb O2 Ol fr)(h1:(∀i∈Ol,i∈bR O ei)<|>J8)(h2:(∀i∈Ol,i∈O2)<|>J8)(h3:t∉Ol<|>J8)(hp:PassesOwn (model X.prog X.w) X.A X.env X.xe<|>Q2)(hxN:X.N[t]?=some x<|>J7)(hx:Loc X.env.scope x<|>J9)(hfn:X.fn x=true\/X.env.scope.names.lookup x=some .local<|>J9)(hs:(∀x,foldedSetIterable iter X.env x=pure x)<|>Q0):JS X F O (.For (.Name x p2) iter body [] pos) (mB t fi tb) Ol OL fr:=⟨have hi:=hi.h;have hb:=hb.h;λJ2=>by
 have hb':PSs X body (λDe σ H=>∃p:Hd,ts X.K F (p::J2) Ol Ol Ol fr tb De σ H):=λG_ s σ H De I y0=>by obtain⟨p,h⟩:=y0;exact io hb h2 (p::J2) G_ s σ H De I h
 refine da (fZ hp hc (lP hi) (fY hN hxN hx hfn) hb' hs) λDe σ H h=>?_
 obtain⟨U,o,hE,hf,hQ⟩:=h;obtain⟨d,hd,hf⟩:=bind_some hf;cases ht:dj d with
 |true=>rw[if_pos ht]at hf;cases hf
 | false=>
   rw[if_neg (by rw[ht];exact z8r)]at hf;obtain⟨ds,hds,hf⟩:=bind_some hf;refine⟨U,d,hE.envR,hd,λv H1 p=>?_⟩;obtain⟨hE1,hr⟩:=hE.eval p;have hE2:=hE1.weaken h1;have hr2:∀A,F.PA A->Rep X.K (ao H1 (Off σ Ol A)) v d:=λA hA=>au (cG (λ_ _ q=>q) (gM h1)) (hr A hA)
   obtain⟨q,xs,rfl,hq⟩:=kM hr2 hds ht;have len:xs.length=ds.length:=(hq _ F.none).2.length;refine⟨q,rfl,⟨xs,(aP _ _).seq (hq _ F.none).1⟩,?_⟩;refine u8 (K:=X.K) (a:=q) (xs:=xs) (g:=cq t) (tb:=λDe σ H=>∃p:Hd,ts X.K F (p::J2) Ol Ol Ol fr tb De σ H) (D:=De) (λi σ' H'=>∃ρ',EnvO X.K F (hdL X.K q xs ds::J2) Ol σ' ρ' H'/\br (λx U=>tb (U.set t (some x))) (ds.drop i) ρ'=some o) ⟨U,hE2.hold hq,by simpa using hf⟩ ?_ ?_ ?_
   ·rintro i σ' H' _ ⟨ρ',hE',_⟩
    exact(aP _ _).seq (hE'.hld _ z9a _ F.none).1
   ·rintro i y σ' H' hy ⟨ρ',hE',hf'⟩
    obtain⟨dy,h4,_⟩:=(hE'.hld _ z9a _ F.none).2.getV hy;have h5:∀A,F.PA A->Rep X.K (ao H' (Off σ' Ol A)) y dy:=λA hA=>by obtain⟨dy',h6,h7⟩:=(hE'.hld _ z9a A hA).2.getV hy;rw[h4]at h6;cases h6;exact h7
    have hi':i<ds.length:=(z9c.mp h4).1;have ed:ds.drop i=dy::ds.drop (i+1):=by rw[z9v hi'];have e2:ds[i]=dy:=(z9c.mp h4).2;rw[e2]
    rw[ed]at hf';have hf2:=hf';rw[ip]at hf2;obtain⟨o1,h8,_⟩:=bind_some hf2;refine⟨hdL X.K q xs ds,ρ'.set t (some dy),o1,hE'.set h3 h5,h8,?_⟩;exact kL h8 hf' hQ (λ_ _ _ z=>z.unhold) λσ'' H'' ρ'' hE'' hf''=>⟨ρ'',hE'',hf''⟩
   ·rintro σ' H' ⟨ρ',hE',hf'⟩
    rw[len,z7q]at hf';cases hf';exact hQ σ' H' hE'.unhold⟩
noncomputable def db(lo:Int)(n:Nat):n_:=(List.range n).map λ(k:Nat)=>.int (lo+k)
def DF(h:i<n):(db lo n).drop i=.int (lo+i)::(db lo n).drop (i+1):=by
 have hl:i<(db lo n).length:=by simpa [db]using h
 rw[z9v hl];simp[db]
def okR(j:Int):Prop:=-4611686018427387904<=j/\j<4611686018427387904
instance (j:Int):Decidable (okR j):=inferInstanceAs (Decidable (_/\_))
def gN(t:Nat)(as:FEs)(tb:FS):FS:=λU=>(as U).bind λds=>match ds with
 |[.int j]=>if okR j then br (λx U=>tb (U.set t (some x))) (db 0 j.toNat) U else none
 |_=>none
def DG{J2:List Hd}{o:Out}{U:ag}{tb:FS}(hE:EnvO K F J2 Ol σ U H)(h3:t∉Ol)(hf:br (λx U=>tb (U.set t (some x))) (db lo n) U=some o)(hQ:tsP K F J2 Ol OL' fr De o):
  ∃W:Nat->Nat->St->Hp->Prop,(∃m,W 0 m σ H)/\∀i m σ H,W i m σ H ->
    ((Itr lo n).stop i H/\De.nx σ H)\/((Itr lo n).go i H/\∃N:St->Hp->Prop,(∀σ' H',N σ' H'->∃m',m'<m/\W (i+1) m' σ' H')/\∀x H',(Itr lo n).yld i H x H'->cq t x σ H' λσ2 H2=>ts K F J2 Ol Ol Ol fr tb {De with nx:=N,ct:=N,bk:=De.nx} σ2 H2):=by
 refine u9 (lo:=lo) (n:=n) (g:=cq t) (tb:=ts K F J2 Ol Ol Ol fr tb) (D:=De) (λi σ' H'=>∃ρ',EnvO K F J2 Ol σ' ρ' H'/\br (λx U=>tb (U.set t (some x))) ((db lo n).drop i) ρ'=some o) ⟨U,hE,by simpa using hf⟩ ?_ ?_
 ·rintro i σ' H' hi ⟨ρ',hE',hf'⟩
  rw[DF hi]at hf';have hf2:=hf';rw[ip]at hf2;obtain⟨o1,h8,_⟩:=bind_some hf2;refine⟨ρ'.set t (some (.int (lo+i))),o1,hE'.set h3 λA hA=>.int _,h8,?_⟩;exact kL h8 hf' hQ (λ_ _ _ z=>z) λσ'' H'' ρ'' hE'' hf''=>⟨ρ'',hE'',hf''⟩
 ·rintro σ' H' ⟨ρ',hE',hf'⟩
  rw[z7d (by simp[db])]at hf';cases hf';exact hQ σ' H' hE'
def EnvO.evals{J2:List Hd}{U:ag}(h:EnvO K F J2 O σ U H){ds:n_}(p:Posts K σ U H es ds vs H'):EnvO K F J2 O σ U H':=h.up p.same
theorem kN(t:Nat){as:FEs}{ei:p_}{tb:FS}(Ol:y9)(hN:X.N.Nodup)(hc:X.calm=true)(mr:X.mg "range"=none)(hi:JA X [a] as ei)(hb:JSs X F Ol body tb O2 Ol fr)(h1:(∀i∈Ol,i∈O)<|>J8)(h2:(∀i∈Ol,i∈O2)<|>J8)(h3:t∉Ol<|>J8)(hp:PassesOwn (model X.prog X.w) X.A X.env X.xe<|>Q2)(hg:Gl X "range"<|>J7)(hst:starEach [a] X.env=[(false,eval a X.env)]<|>J7)(hxN:X.N[t]?=some x<|>J7)(hx:Loc X.env.scope x<|>J9)(hfn:X.fn x=true\/X.env.scope.names.lookup x=some .local<|>J9)(hs:(∀x,foldedSetIterable (.Call (.Name "range" pn) [a] [] pr) X.env x=pure x)<|>Q0):JS X F O (.For (.Name x p2) (.Call (.Name "range" pn) [a] [] pr) body [] pos) (gN t as tb) Ol OL fr:=⟨have hi:=hi.h;have hb:=hb.h;λJ2=>by
 refine da (fZ hp hc (lQ hg mr hi hst) (fY hN hxN hx hfn) (io hb h2 J2) hs) λDe σ H h=>?_
 obtain⟨U,o,hE,hf,hQ⟩:=h;obtain⟨ds,hd,hf⟩:=bind_some hf;refine⟨U,ds,hE.envR,hd,λvs H1 p=>?_⟩;have hE1:=(hE.evals p).weaken h1
 match ds,hf,p with
 | [.int j],hf,p=>
   by_cases hj:okR j
   ·simp only[if_pos hj]at hf
    obtain⟨v,rfl,r⟩:=f9 p.rep;cases r;exact⟨j,rfl,hj.1,hj.2,DG hE1 h3 hf hQ⟩
   ·simp only[if_neg hj]at hf
    cases hf⟩
end
structure RetC (K:K0) (H:Hp) (vs:l_) (ds:n_) (fr:Bool) (d:D) (v:V) (H':Hp):Prop where
 same:Same H H'
 rep:∀A,Dom H A->Reps K (ao H A) vs ds->Rep K (ao H' A) v d
 new:fr=true->∃l xs es,v=V.ref l/\d=.lst es/\H l=none/\H' l=some (.lst xs)/\∀A,Dom H A->Reps K (ao H A) vs ds->Reps K (ao H' λb=>A b\/b=l) xs es
def spF(K:K0)(G:n_->o_)(fr:Bool):Sp:=λvs H Q _=>∃ds d,Reps K H vs ds/\G ds=some d/\∀v H',RetC K H vs ds fr d v H'->Q v H'
noncomputable def mkF(fr:Bool)(np n:Nat)(body:FS):n_->o_:=λds=>if ds.length=np then(body (ds.map some++List.replicate (n-np) none)).bind λo=>match o with
 |.rt d=>some d
 |.nx _=>if fr=true then none else some .non
 |_=>none
 else none
theorem DH{k:Nat}{body:FS}(Fn:Fun K x qual st f fd)(S:FnScope N ps (am st))(h:∀(cdv:Value) (A:Around) (outer:List PySem.Env) (s:Shared) (H:Hp) (E:XK) (F:Fr0),F.n=N.length->Room k (A.deeper (envOfC qual (am st) s.heap.objs.size f cdv)) ->
   VSs (cM CX0 P w K mg base N qual (am st) f cdv A outer s H E).nox F [] (cU st) body O' OL fr):
  FnOk P w K mg base CX0 (k+1) f fd ps (spF K (mkF fr ps.length N.length body) fr):=by
 have hpl:ps.length<=N.length:=by have:=z8w List.length S.pre;rw[z8j]at this;ext
 refine Fn.ok S (λvs H Q E h=>?_) (λcdv A outer s H vs Q E hr h'=>?_)
 ·obtain⟨ds,d,r,hg,_⟩:=h
  unfold mkF at hg;by_cases hl:ds.length=ps.length
  ·rw[r.length,hl]
  ·rw[if_neg hl]at hg;cases hg
 ·obtain⟨ds,d,r,hg,hQ⟩:=h'
  unfold mkF at hg;by_cases hl:ds.length=ps.length
  ·rw[if_pos hl]at hg
   obtain⟨o,ho,hg⟩:=bind_some hg;let F:Fr0:=⟨H,λA=>Dom H A/\Reps K (ao H A) vs ds,N.length,λA h=>h.1,⟨Dom.none H,aV (j9 H) r⟩⟩;refine⟨_,h cdv A outer s H E F rfl hr [],ds.map some++List.replicate (N.length-ps.length) none,o,?_,ho,?_⟩
   ·have lv:=r.length
    have get:∀(i:Nat) (d:D),(ds.map some++List.replicate (N.length-ps.length) none)[i]?=some (some d)->ds[i]?=some d:=λi d q=>by
     by_cases hi:i<ds.length
     ·rw[z8d (by simpa using hi),z9z]at q
      cases e:ds[i]? with
      |none=>rw[e]at q;cases q
      |some z=>rw[e]at q;simpa using q
     ·rw[z9x (by simpa using hi),z7k]at q
      split at q<;>cases q
    refine⟨Same.refl H,?_,?_,λi d q _=>?_,λp hp=>absurd hp (by simp),λi hi=>absurd hi (by simp),λi hi=>absurd hi (by simp)⟩
    ·show(L2.start N vs).length=N.length
     unfold L2.start;rw[z9h,z9b,z8s];ext
    ·show _=N.length
     rw[z9h,z9b,z8s];ext
    ·have h1:=get i d q
     obtain⟨v,h2,_⟩:=r.get h1;refine⟨v,?_,λA hA=>?_⟩
     ·unfold L2.start
      have hi:i<vs.length:=(z9c.mp h2).1;rw[z8d (by simpa using hi),z9z,h2];rfl
     ·obtain⟨v',h3,h4⟩:=hA.2.get h1
      rw[h2]at h3;cases h3;exact au (cG (λ_ _ z=>z) λb z=>z.elim (λy0=>by obtain⟨_,hj,_⟩:=y0;exact absurd hj (by simp)) id) h4
   ·cases o with
    |rt d'=>cases hg;exact λv H' rt=>hQ v H' ⟨rt.same,λA hA hr=>rt.rep A ⟨hA,hr⟩,λe=>let⟨l,xs,es,e1,e2,e3,e4,e5⟩:=rt.new e;⟨l,xs,es,e1,e2,e3,e4,λA hA hr=>e5 A ⟨hA,hr⟩⟩⟩
    | nx ρ'=>
      cases fr with
      |true=>cases hg
      |false=>cases hg;exact λσ' H' hE=>hQ _ H' ⟨hE.same,λA hA hr=>.non,λe=>nomatch e⟩
    |_=>cases hg
  ·rw[if_neg hl]at hg;cases hg
section
variable {k:Nat}{G:n_->o_}{as:FEs}{es:p_}
def DJ(Gk:FnOk X.prog X.w X.K X.mg X.base CX0 k f fd ps (spF X.K G fr))(hr:Room k X.A)(hm:X.mg x=some (.ref f))(hk:W.keepIn X.K (.ref f)=true)(hb:Binds X.K fd ps [])(ha:VA X (e::es') as es)(hg:Gl X x<|>J7)(hdb:DB x<|>J8)(he:SE e es' X<|>J7)(hpl:BT pos es' X<|>J7):
  VE X (.Call (.Name x p) (e::es') [] pos) (eA G as) es:=
 dX (gC Gk hr hg hm hk hb .nil f6 ha hdb he hpl) λσ H Q U d hE hf hQ=>by obtain⟨ds,h1,hf⟩:=bind_some hf;refine⟨U,ds,hE,h1,λvs H1 p=>?_⟩;show spF X.K G fr (vs++[]) H1 Q E0;rw[z8v];refine⟨ds,d,p.rep,hf,λv H' r=>hQ v H' ⟨p.same.trans r.same,au (aP _ _) (r.rep fB (Dom.none _) (aV (j9 _) p.rep)),λA hA hz=>r.rep A (hA.mono p.same) (p.av A hA hz)⟩⟩
def DK(Gk:FnOk X.prog X.w X.K X.mg X.base CX0 k f fd ps (spF X.K G true))(hr:Room k X.A)(hm:X.mg x=some (.ref f))(hk:W.keepIn X.K (.ref f)=true)(hb:Binds X.K fd ps [])(ha:VA X (e::es') as es)(hg:Gl X x<|>J7)(hdb:DB x<|>J8)(he:SE e es' X<|>J7)(hpl:BT pos es' X<|>J7):
  VF X (.Call (.Name x p) (e::es') [] pos) (eA G as) es:=
 ja (gC Gk hr hg hm hk hb .nil f6 ha hdb he hpl) λσ H Q U d hE hf hQ=>by obtain⟨ds,h1,hf⟩:=bind_some hf;refine⟨U,ds,hE,h1,λvs H1 p=>?_⟩;show spF X.K G true (vs++[]) H1 Q E0;rw[z8v];refine⟨ds,d,p.rep,hf,λv H' r=>hQ v H' ⟨p.same.trans r.same,?_⟩⟩;obtain⟨l,xs,es,e1,e2,e3,e4,e5⟩:=r.new rfl;exact⟨l,xs,es,e1,e2,p.same.free e3,e4,λA hA hz=>e5 A (hA.mono p.same) (p.av A hA hz)⟩
end
theorem qa(env:PySem.Env):∀(names:List (Str×NameKind)) (acc:List (Str×Addr)),(∀x∈names,x.2=.free->∃c,env.cells.lookup x.1=some c) ->
  ∃cl,(forIn names acc λx r=>(if(x.2==NameKind.free)=true then(do let c <- cellOf env x.1;pure (ForInStep.yield ((x.1,c)::r)))else pure (ForInStep.yield r):Sem (ForInStep (List (Str×Addr)))))=pure cl /\
    (∀x c,cl.lookup x=some c->acc.lookup x=some c\/env.cells.lookup x=some c)/\(∀x,(∃c,acc.lookup x=some c)->∃c,cl.lookup x=some c)/\(∀x∈names,x.2=.free->∃c,cl.lookup x.1=some c)
 |[],acc,_=>⟨acc,rfl,λ_ _ h=>.inl h,λ_ h=>h,λ_ h=>nomatch h⟩
 | (n, k)::r,acc,h=>by
   have hr:∀x∈r,x.2=.free->∃c,env.cells.lookup x.1=some c:=λx hx=>h x (z9d _ hx)
   by_cases hk:k=.free
   ·subst hk
    obtain⟨c,hc⟩:=h (n,.free) z9a rfl;obtain⟨cl,e,h1,h2,h3⟩:=qa env r ((n,c)::acc) hr;refine⟨cl,?_,λx c' hx=>?_,λx ⟨c',hx⟩=>?_,λx hx hf=>?_⟩
    ·rw[List.forIn_cons]
     have e1:cellOf env n=pure c:=by unfold cellOf;rw[hc]
     simp only[z5f,if_true,e1,pure_bind];exact e
    ·rcases h1 x c' hx with q|q
     ·rw[z8u]at q
      cases hxn:x==n with
      | true=>
        rw[hxn]at q;have e2:x=n:=by simpa using hxn
        cases q;rw[e2];exact .inr hc
      |false=>rw[hxn]at q;exact .inl q
     ·exact .inr q
    ·refine h2 x ?_
     rw[z8u];cases x==n with
     |true=>exact⟨_,rfl⟩
     |false=>exact⟨c',hx⟩
    ·rcases z9j.mp hx with q|q
     ·subst q
      refine h2 n ⟨c,?_⟩;rw[z8u];simp
     ·exact h3 x q hf
   ·obtain⟨cl,e,h1,h2,h3⟩:=qa env r acc hr
    refine⟨cl,?_,h1,h2,λx hx hf=>?_⟩
    ·rw[List.forIn_cons]
     have e1:(k==NameKind.free)=false:=by simpa using hk
     simp only[e1,z4w,z4t,pure_bind];exact e
    ·rcases z9j.mp hx with q|q
     ·subst q;exact absurd hf hk
     ·exact h3 x q hf
def qb{env:PySem.Env}(h:∀x∈scope.names,x.2=.free->∃c,env.cells.lookup x.1=some c):
  ∃cl,closureFor scope env=pure cl/\(∀x c,cl.lookup x=some c->env.cells.lookup x=some c)/\(∀x∈scope.names,x.2=.free->∃c,cl.lookup x.1=some c):=by
 obtain⟨cl,e,h1,h2,h3⟩:=qa env scope.names [] h;refine⟨cl,?_,λx c q=>(h1 x c q).resolve_left (λz=>by simp at z),h3⟩;simp only[closureFor];rw[e]
 first|rfl|simp
def DL{elt target iter:Expr}{ifs:z6}{scope:Scope}{pos:Pos}{it acc:Value}{env:PySem.Env}(I:Nat->Shared->Prop)(turn : ∀n s,I n s->wpAny (model prog w) A (pyNext it) (λr y1=>match r with
   |none=>R (.ok .next) y1
   | some v=>wpAny (model prog w) A (letOwnedTupleGo target it v) (λ_ y2=>wpAny (model prog w) A (assign target env v) (λ_ y3=>
     wpAny (model prog w) A (forIn ifs true λc r=>if r=true then do let ok <- isTrue c env (eval c env);pure (ForInStep.yield ok)else pure (ForInStep.yield r)) (λok y4=>
      if ok=true then wpAny (model prog w) A (eval elt env) (λx y7=>wpAny (model prog w) A (call (.builtin "list.append") [acc,x]) (λ_ y8=>∃m,m<n/\I m y8) (λ_ _=>False) y7) (λ_ _=>False) y4
      else ∃m,m<n/\I m y4) (λ_ _=>False) y3) (λ_ _=>False) y2) (λ_ _=>False) y1) (λ_ _=>False) s)(n:Nat)(h:I n s):codeAny (model prog w) A (.compLoop (.ListComp elt [⟨target,iter,ifs,0⟩] scope pos) 0 it acc env) R s:=by
 refine codeAny_loop rfl I (λn s hI=>?_) n h;show wpAny _ A ((compTurn (.ListComp elt [⟨target,iter,ifs,0⟩] scope pos) 0 it acc env).onRaise (λx=>do noteFrame x env;theTreesLotGoes x)) _ _ s;refine wpAny_noted ?_;rw[compTurn_list];refine z9o (wpAny_standAt (z9o (z8p (turn n s hI) (λr y1 w_=>?_) λ_ _ h'=>h'.elim)));cases r with
 |none=>exact z8n w_
 | some v=>
   refine z9o (z8p w_ (λ_ y2 x_=>?_) λ_ _ h'=>h'.elim);refine z9o (z8p x_ (λ_ y3 x0=>z9o (z8p x0 (λok y4 x3=>?_) λ_ _ h'=>h'.elim)) λ_ _ h'=>h'.elim);cases ok with
   |false=>exact z8n ⟨rfl,x3⟩
   |true=>exact z9o (z9o (z8p x3 (λx y7 x5=>z9o (z8p x5 (λ_ y8 x6=>z8n (z8n ⟨rfl,x6⟩)) λ_ _ h'=>h'.elim)) λ_ _ h'=>h'.elim))
noncomputable def blk(X:Cx)(N:z0)(s:Shared)(H:Hp)(scope:Scope)(cl:List (Str×Addr))(ex:z7):Cx:=
 {X with N:=N,s₀:=s,H₀:=H,env:=compEnvC scope cl s.heap.objs.size X.env,outer:=X.stack,ex:=ex,fn:=λ_=>false,pn:=[],xe:=λ_ _=>False}
structure BlkOk (X:Cx) (scope:Scope) (own:z0) (J3:y9) (cn:z0):Prop where
 kind:scope.kind=.function
 nocell:∀x∈scope.names,x.2≠.cell
 locals:∀x∈scope.names,x.2=.local->scope.names.lookup x.1=some .local
 free:∀x∈scope.names,x.2=.free->(X.env.kindOf x.1=some .cell\/X.env.kindOf x.1=some .free)
 names:J3.map (λj=>X.N[j]?)=cn.map some
 capf:∀x∈cn,scope.names.lookup x=some .free
 nd:(own++cn).Nodup
theorem qc{env:PySem.Env}:∀{names:List (Str×NameKind)} {x:Str} {k:NameKind},(names.map λ(n,k)=>if(k==NameKind.free&&env.scope.kind==.function&&env.kindOf n==some .cell)then(n,NameKind.cell)else(n,k)).lookup x=some k ->
  (∀y∈names,y.2≠.cell)->(k=.cell\/k=.free)->(x,NameKind.free)∈names
 |[],_,_,h,_,_=>by simp at h
 | (n, k')::r,x,k,h,hc,hk=>by
   have ih:=@qc env r x k;have h:List.lookup x ((if(k'==NameKind.free&&env.scope.kind==.function&&env.kindOf n==some .cell)=true then(n,NameKind.cell)else(n,k'))::(r.map λ(n,k)=>if(k==NameKind.free&&env.scope.kind==.function&&env.kindOf n==some .cell)then(n,NameKind.cell)else(n,k)))=some k:=h;have hr:∀y∈r,y.2≠.cell:=λy hy=>hc y (z9d _ hy)
   by_cases hcd:(k'==NameKind.free&&env.scope.kind==.function&&env.kindOf n==some .cell)=true
   ·have hk':k'=.free:=by rw[z8m,z8m]at hcd;simpa using hcd.1.1
    rw[if_pos hcd,z8u]at h;cases hx:x==n with
    | true=>
      have e:x=n:=by simpa using hx
      rw[e,hk'];exact z9a
    |false=>rw[hx]at h;exact z9d _ (ih h hr hk)
   ·rw[if_neg hcd,z8u]at h
    cases hx:x==n with
    | true=>
      have e:x=n:=by simpa using hx
      rw[hx]at h;cases h;rcases hk with hk|hk
      ·exact absurd hk (hc (n,k') z9a)
      ·rw[e,<- hk];exact z9a
    |false=>rw[hx]at h;exact z9d _ (ih h hr hk)
theorem vG{env:PySem.Env}:∀{names:List (Str×NameKind)} {x:Str},names.lookup x=some .free ->
  (names.map λ(n,k)=>if(k==NameKind.free&&env.scope.kind==.function&&env.kindOf n==some .cell)then(n,NameKind.cell)else(n,k)).lookup x≠some .local
 |[],_,h=>by simp at h
 | (n,k)::r,x,h=>by
   have ih:=@vG env r x;show List.lookup x ((if(k==NameKind.free&&env.scope.kind==.function&&env.kindOf n==some .cell)=true then(n,NameKind.cell)else(n,k))::(r.map λ(n,k)=>if(k==NameKind.free&&env.scope.kind==.function&&env.kindOf n==some .cell)then(n,NameKind.cell)else(n,k)))≠some .local;rw[z8u]at h;by_cases hcd:(k==NameKind.free&&env.scope.kind==.function&&env.kindOf n==some .cell)=true
   ·rw[if_pos hcd,z8u]
    cases hx:x==n with
    |true=>exact λz=>by cases z
    |false=>rw[hx]at h;exact ih h
   ·rw[if_neg hcd,z8u]
    cases hx:x==n with
    |true=>rw[hx]at h;cases h;exact λz=>by cases z
    |false=>rw[hx]at h;exact ih h
noncomputable def cP(σ:St)(J3:y9):St:=J3.map λj=>(σ[j]?).getD none
def DM(I:L2.Inv X G_ σ H s)(B:BlkOk X scope own J3 cn)(hcl:∀x c,cl.lookup x=some c->X.env.cells.lookup x=some c)(hha:∀x∈scope.names,x.2=.free->∃c,cl.lookup x.1=some c)(hex:∀b∈ex,cE X G_ H b/\b<s.heap.objs.size)(hns:w_.Ns s.heap.objs.size (λ_=>none))(hk:∀b o,s.heap.get? b=some o->w_.get? b=some o):
  L2.Inv (blk X (own++cn) s H scope cl ex) [] (List.replicate own.length none++cP σ J3) H {s with heap:=w_,toks:=tk}:=by
 have hcap:cn.length=J3.length:=by have:=z8w List.length B.names;simpa using this.symm
 refine⟨⟨I.ok.mod,B.kind,I.ok.glob,I.ok.blt,z9i _,λx y c h1 h2=>I.ok.inj x y c (hcl x c h1) (hcl y c h2),λx hx=>?_,λx c h=>(nomatch h),I.ok.hd,I.ok.frames,.inl rfl,λb hb=>?_,λb o e=>I.bs b o e,z7u I.ok.bsz I.sz,λb o e hb=>?_,λb hb hfs=>?_,I.stack,I.stkFree⟩,
  rfl,I.bare,Un.kept hk,⟨_,hns,λi x v h1 h2 h3=>?_⟩,λx c h=>?_,I.hok.fresh (z9i _),λx c h=>I.freeC x c (hcl x c h),λp hp=>absurd hp (by simp[blk]),I.hok.kept hk,?_⟩
 ·have hx':(relabel scope X.env).names.lookup x=some .cell\/(relabel scope X.env).names.lookup x=some .free:=hx
  have m:(x,NameKind.free)∈scope.names:=by
   rcases hx' with q|q
   ·exact qc q B.nocell (.inl rfl)
   ·exact qc q B.nocell (.inr rfl)
  exact hha _ m rfl
 ·obtain⟨f,lt⟩:=hex b hb
  exact⟨z8q lt,λx c h=>f.2.2.2.2.1 x c (hcl x c h)⟩
 ·obtain⟨f,lt⟩:=hex b hb
  rcases f.2.2.2.1 with q|q
  ·exact I.ok.noex b o e q
  ·exact absurd (z9u (z9m e) I.ok.bsz) (Nat.not_lt.mpr q)
 ·obtain⟨f,lt⟩:=hex b hb
  rcases z9j.mp (I.stkSub b hfs)with q|q
  ·exact f.2.1 q
  ·exact f.2.2.1 q
 ·
  have hlen:(List.replicate own.length (none:m_)).length=own.length:=z8s;by_cases hi:i<own.length
  ·rw[z8d (by rw[hlen];exact hi),z7k,if_pos hi]at h2
   cases h2
  ·rw[z9x (by rw[hlen];ext),hlen]at h2
   have h1':cn[i-own.length]?=some x:=by
    have h1'':(own++cn)[i]?=some x:=h1
    rwa [z9x ∅]at h1''
   unfold cP at h2;rw[z9z]at h2;cases hj:J3[i-own.length]? with
   |none=>rw[hj]at h2;cases h2
   | some j=>
     rw[hj]at h2;have hN:X.N[j]?=some x:=by have q:=z8w (λl=>l[i-own.length]?) B.names;simp only[z9z,hj,h1',z8z]at q;exact z7f q
     have hσ:σ[j]?=some (some v):=by
      simp only[z8z,z6p]at h2;cases e:σ[j]? with
      |none=>rw[e]at h2;cases h2
      |some o=>rw[e]at h2;simp only[z7b]at h2;rw[h2]
     have hxf:scope.names.lookup x=some .free:=B.capf x (z8a h1');have hkind:=B.free (x,.free) (z6b hxf) rfl;have hvis:Vis X.env.scope x:=hkind.elim (λq=>.inr (.inl q)) λq=>.inr (.inr q)
     obtain⟨m,hm,hl⟩:=I.loc;obtain⟨u,r,look⟩:=hl j x v hN hσ hvis;rcases look with⟨hloc,_⟩|⟨_,c,hc,hcell⟩
     ·rcases hkind with q|q<;>rw[q]at hloc<;>cases hloc
     ·obtain⟨c',hc'⟩:=hha (x,.free) (z6b hxf) rfl
      have e:=hcl x c' hc';rw[hc]at e;cases e;refine⟨u,r,.inr ⟨?_,c,hc',?_⟩⟩
      ·rcases h3 with q|q|q
       ·exfalso
        have:(relabel scope X.env).names.lookup x=some .local:=q;unfold relabel at this;have z:=@vG X.env scope.names x hxf;exact z this
       ·exact .inl q
       ·exact .inr q
      ·obtain⟨oc,ho,hd⟩:=hcell
       exact⟨oc,hk _ _ ho,hd⟩
 ·obtain⟨v,oc,ho,hd⟩:=I.cell x c (hcl x c h)
  exact⟨v,oc,hk _ _ ho,hd⟩
 ·show(List.replicate own.length none++cP σ J3).length=(own++cn).length
  simp[cP,hcap]
def Inv.track{d:Addr}(I:L2.Inv X G_ σ H s)(e:s.heap.get? d=some {cls:=.type "list",data:=.seq its.toArray n})(hv:Vals ys its)(hz:ys.length<=sizeLine)(f:cE X G_ H d)(f3:X.s₀.heap.objs.size<=d):L2.Inv X G_ σ (upd H d (.lst ys)) s:=by
 obtain⟨f0,f1,f2,_,f4,f5⟩:=f;have old:∀b o,X.s₀.heap.get? b=some o->b≠d:=λb o q z=>absurd (z9u (z9m q) (by rw[z];exact f3)) (z7x _)
 have nd:∀b u,H b=some u->b≠d:=λb u q z=>by rw[z,f0]at q;cases q
 refine⟨I.ok,I.os,I.bare,⟨I.base.keep,I.base.slot,λb o q n hx=>?_,I.base.there,λb xs q=>?_,λb o u q=>?_,λb ps q=>?_⟩,I.loc,I.cell,?_,λx c q=>?_,λp hp=>?_,λb o q=>?_,I.len⟩
 ·rw[aE (old b o q)];exact I.base.free b o q n hx
 ·have z:=I.base.tups b xs q;rw[aE (nd b _ z)];exact z
 ·have z:=I.base.frzs b o u q;rw[aE (nd b _ z)];exact z
 ·obtain⟨more,z⟩:=I.base.tbls b ps q;exact⟨more,by rw[aE (nd b _ z)];exact z⟩
 ·rw[aE (Ne.symm f1)];exact I.free
 ·rw[aE (f4 x c q)];exact I.freeC x c q
 ·obtain⟨k1,k2,k3,k4,k5⟩:=I.pin p hp
  exact⟨k1,by rw[aE (f5 p hp)];exact k2,k3,k4,k5⟩
 ·by_cases hb:b=d
  ·subst hb
   rw[bn]at q;cases q;exact⟨hz,its,n,hv,e⟩
  ·rw[aE hb]at q
   refine(I.hok b o q).stay (λc v _ z=>z) (λc z=>?_) λc xs z=>?_
   ·rw[aE (nd c _ z)];exact z
   ·rw[aE (nd c _ z)];exact z
def PTs(X:Cx)(ifs:z6)(t:TT):Prop:=
 ∀(G_:h_) (s:Shared) (σ:St) (H:Hp) (Q:Bool->Hp->Prop),L2.Inv X G_ σ H s->t σ H Q ->
   wpAny (model X.prog X.w) X.A (forIn ifs true λc r=>if r=true then do let ok <- isTrue c X.env (eval c X.env);pure (ForInStep.yield ok)else pure (ForInStep.yield r)) (TP X G_ σ Q) X.xe s
def kO:PTs X [] (λ_ H Q=>Q true H):=λG_ s σ H Q I h=>wpAny_tests_nil ⟨H,I,h⟩
def kP(nown:Nat)(J3:y9)(wi:TI)(g:TG)(tt:TT)(te:TE):TE:=λσ H Q=>wi σ H λJ H1=>∃W:Nat->Nat->l_->St->Hp->Prop,
 (∃m, W 0 m [] (List.replicate nown none++cP σ J3) H1)/\∀i m ys σb H2,W i m ys σb H2->ys.length<sizeLine /\
  ((J.stop i H2/\∀d,H2 d=none->Q (.ref d) (upd H2 d (.lst ys))) \/
   (J.go i H2/\∀x H3,J.yld i H2 x H3->g x σb H3 λσb' H4=>tt σb' H4 λb H5=>if b=true then te σb' H5 λy H6=>∃m',m'<m/\W (i+1) m' (ys++[y]) σb' H6 else ∃m',m'<m/\W (i+1) m' ys σb' H5))
section
variable {g:TG}{te:TE}
structure After (X:Cx) (G_:h_) (σ:St) (H:Hp) (d c:Addr) (ys:l_) (s:Shared):Prop where
 inv:L2.Inv X G_ σ (upd H d (.lst ys)) s
 ns:∃m,s.heap.Ns c m
 new:H d=none
 cf:cE X G_ (upd H d (.lst ys)) c
theorem DN(B:BlkOk X scope own J3 cn)(hc:X.calm=true)(hg:∀s H cl ex,PG (blk X (own++cn) s H scope cl ex) tg g)(ht:∀s H cl ex,PTs (blk X (own++cn) s H scope cl ex) ifs tt)(he:∀s H cl ex,PE (blk X (own++cn) s H scope cl ex) elt te){s3:Shared}{d:Addr}{tn:Nat->Heap->Prop}{J:It}{W:Nat->Nat->l_->St->Hp->Prop}{m0:Nat}(I3:L2.Inv X G_ σ H2 s3)(hcl:∀x c,cl.lookup x=some c->X.env.cells.lookup x=some c)(hha:∀x∈scope.names,x.2=.free->∃c,cl.lookup x.1=some c)(T:Turn X.prog X.w X.K tg J fp it tn)(st:tn 0 s3.heap)(f2:∀b∈fp,cE X G_ H2 b)(fpd:cE X G_ H2 d)(fd3:X.s₀.heap.objs.size<=d)(dnf:∀b∈fp,b≠d)(hd3:s3.heap.get? d=some {cls:=.type "list",data:=.seq #[] 0})(w0:W 0 m0 [] (List.replicate own.length none++cP σ J3) H2)(turn : ∀i m ys σb H2,W i m ys σb H2->ys.length<sizeLine /\
   ((J.stop i H2/\∀d,H2 d=none->Q (.ref d) (upd H2 d (.lst ys))) \/
    (J.go i H2/\∀x H3,J.yld i H2 x H3->g x σb H3 λσb' H4=>tt σb' H4 λb H5=>if b=true then te σb' H5 λy H6=>∃m',m'<m/\W (i+1) m' (ys++[y]) σb' H6 else ∃m',m'<m/\W (i+1) m' ys σb' H5)))(hns:w_.Ns s3.heap.objs.size (λ_=>none))(hk:∀b o,s3.heap.get? b=some o->w_.get? b=some o){RR:Value->Addr->Result->Shared->Prop}(hRR:∀d c ys H' s',After X G_ σ H' d c ys s'->Q (.ref d) (upd H' d (.lst ys))->RR (.ref d) c (.ok .next) s'):
  codeAny (model X.prog X.w) X.A (.compStart (.ListComp elt [⟨tg,iter,ifs,0⟩] scope pos) 0 (.ref it) (.ref d) (compEnvC scope cl s3.heap.objs.size X.env)) (RR (.ref d) s3.heap.objs.size) {s3 with heap:=w_,toks:=tk}:=by
 have lt3:∀b∈d::fp,b<s3.heap.objs.size:=λb hb=>by
  rcases z9j.mp hb with e|hb
  ·rw[e];exact z9m hd3
  ·obtain⟨o,e,_⟩:=T.obj _ _ st b hb;exact z9m e
 have fex:∀b∈d::fp,cE X G_ H2 b:=λb hb=>(z9j.mp hb).elim (λe=>e▸fpd) (f2 b)
 have IB:=DM (ex:=d::fp) (tk:=tk) I3 B hcl hha (λb hb=>⟨fex b hb,lt3 b hb⟩) hns hk;have fpB:∀{P:h_} {H':Hp},(∀b∈fp,H' b=none)->(∀p∈P,p.1=d)->∀b∈fp,cE (blk X (own++cn) s3 H2 scope cl (d::fp)) P H' b:=λ{P H'} hn hP b hb=>by
  refine⟨hn b hb,z8q (lt3 b (z9d _ hb)),λz=>?_,.inl (z9d _ hb),λx c q=>(f2 b hb).2.2.2.2.1 x c (hcl x c q),λp hp=>?_⟩
  ·rcases z9j.mp (I3.stkSub b z)with q|q
   ·exact(f2 b hb).2.1 q
   ·exact(f2 b hb).2.2.1 q
  ·have hp':p∈P:=by simpa [blk]using hp
   rw[hP p hp'];exact Ne.symm (dnf b hb)
 have dB:∀{P:h_} {H':Hp},H' d=none->(∀p∈P,p.1∈fp)->cE (blk X (own++cn) s3 H2 scope cl (d::fp)) P H' d:=λ{P H'} hn hP=>by
  refine⟨hn,z8q (lt3 d z9a),λz=>?_,.inl z9a,λx c q=>fpd.2.2.2.2.1 x c (hcl x c q),λp hp=>?_⟩
  ·rcases z9j.mp (I3.stkSub d z)with q|q
   ·exact fpd.2.1 q
   ·exact fpd.2.2.1 q
  ·have hp':p∈P:=by simpa [blk]using hp
   exact λe=>dnf p.1 (hP p hp') e
 have loop:∀s':Shared,s'={s3 with heap:=w_,toks:=tk}->codeAny (model X.prog X.w) X.A (.compLoop (.ListComp elt [⟨tg,iter,ifs,0⟩] scope pos) 0 (.ref it) (.ref d) (compEnvC scope cl s3.heap.objs.size X.env)) (RR (.ref d) s3.heap.objs.size) s':=by
  rintro s' rfl;refine DL (λn s'=>∃(i:Nat) (ys:l_) (σb:St) (H':Hp) (its:z5) (nn:Nat),L2.Inv (blk X (own++cn) s3 H2 scope cl (d::fp)) [] σb H' s'/\tn i s'.heap/\(∀b∈fp,H' b=none)/\H' d=none/\s'.heap.get? d=some {cls:=.type "list",data:=.seq its.toArray nn}/\Vals ys its/\W i n ys σb H') ?_ m0
   ⟨0,[],_,H2,[],0,IB,T.keep _ _ _ st λb _ o e=>hk b o e,λb hb=>(f2 b hb).1,fpd.1,hk _ _ hd3,.nil,w0⟩
  rintro n s4 ⟨i,ys,σb,H',its,nn,I4,st4,fr4,hd4,o4,r4,w4⟩;have I4p:L2.Inv (blk X (own++cn) s3 H2 scope cl (d::fp)) [(d,{cls:=.type "list",data:=.seq its.toArray nn})] σb H' s4:=I4.pins_of λp hp=>by
   have e:p=(d,{cls:=.type "list",data:=.seq its.toArray nn}):=by simpa using hp
   subst e;obtain⟨a0,a1,a2,_⟩:=dB (P:=[]) hd4 (by simp);exact⟨o4,a0,a1,a2,λv z=>by cases z⟩
  obtain⟨hys,alt⟩:=turn i n ys σb H' w4;rcases alt with⟨stop,q⟩|⟨go,step⟩
  ·refine thn (T.done (blk X (own++cn) s3 H2 scope cl (d::fp)) rfl rfl rfl hc i [(d,{cls:=.type "list",data:=.seq its.toArray nn})] s4 σb H' _ I4p (fpB fr4 (by simp)) st4 stop) λr s5 y0=>?_
   obtain⟨hr,I5⟩:=y0;subst hr;obtain⟨o5,_⟩:=I5.pin (d,{cls:=.type "list",data:=.seq its.toArray nn}) (by simp[blk]);have IX:L2.Inv X G_ σ H' s5:=I3.call' (ch:=d::fp) I5.os I5.base I5.hok I5.bare λb hb=>⟨(fex b hb).2.2.2.1,(fex b hb).2.1,(fex b hb).2.2.2.2.1,(fex b hb).2.2.2.2.2⟩
   have fpd':cE X G_ H' d:=⟨hd4,fpd.2⟩;have IT:=Inv.track IX o5 r4 (z4h hys) fpd' fd3;refine hRR d s3.heap.objs.size ys H' s5 ⟨IT,?_,hd4,?_⟩ (q d hd4)
   ·obtain⟨m,hm,_⟩:=I5.loc;exact⟨m,hm⟩
   ·have cf:H' s3.heap.objs.size=none:=I5.free
    refine I3.fpOk (z9i _) ?_;rw[aE (Ne.symm (z8q (lt3 d z9a)))];exact cf
  ·refine thn (T.item (blk X (own++cn) s3 H2 scope cl (d::fp)) rfl rfl rfl hc i [(d,{cls:=.type "list",data:=.seq its.toArray nn})] s4 σb H' _ I4p (fpB fr4 (by simp)) st4 go) λr s5 y0=>?_
   obtain⟨u,hr,h5⟩:=y0;subst hr;refine thn h5 λ_ s6 y0=>?_
   obtain⟨x,H6,I6,r6,y6,st6,fr6⟩:=y0;have I6':=I6.pinned (fpB fr6 (by simp)) (T.obj _ _ st6);refine thn (hg s3 H2 cl (d::fp) _ s6 σb H6 x u _ I6' r6 (step x H6 y6)) λ_ s7 y0=>?_
   obtain⟨σ7,H7,I7,q7⟩:=y0;refine jU (ht s3 H2 cl (d::fp) _ s7 σ7 H7 _ I7 q7) λb s8 H8 I8 q8=>?_
   have fin:∀{H9:Hp} {s9:Shared},L2.Inv (blk X (own++cn) s3 H2 scope cl (d::fp)) ([(d,{cls:=.type "list",data:=.seq its.toArray nn})]++jY fp s6.heap) σ7 H9 s9 ->
     L2.Inv (blk X (own++cn) s3 H2 scope cl (d::fp)) [] σ7 H9 s9/\tn (i+1) s9.heap/\(∀b∈fp,H9 b=none)/\H9 d=none/\s9.heap.get? d=some {cls:=.type "list",data:=.seq its.toArray nn}:=λ{H9 s9} I9=>by
    have pd:=I9.pin (d,{cls:=.type "list",data:=.seq its.toArray nn}) (by simp[blk]);refine⟨I9.pins_of λp hp=>absurd hp (by simp),T.keep _ _ _ st6 λb hb o e=>(I9.pin (b,o) (z9t _ (z9t _ (lR hb e)))).1,λb hb=>?_,pd.2.1,pd.1⟩;obtain⟨o,e,_⟩:=T.obj _ _ st6 b hb;exact(I9.pin (b,o) (z9t _ (z9t _ (lR hb e)))).2.1
   cases b with
   |false=>obtain⟨m',hm,w'⟩:=q8;obtain⟨k1,k2,k3,k4,k5⟩:=fin I8;exact⟨m',hm,i+1,ys,σ7,H8,its,nn,k1,k2,k3,k4,k5,r4,w'⟩
   | true=>
     refine b9 (he s3 H2 cl (d::fp) _ s8 σ7 H8 _ I8 q8) λv s9 y H9 I9 r9 y0=>?_
     obtain⟨m',hm,w'⟩:=y0;obtain⟨k1,k2,k3,k4,k5⟩:=fin I9;have lv:=r4.length;refine z4m F.slot_list_append ⟨_,k5,rfl⟩ F.entry_list_append (F.args_list_append_2 _ _) (PySem.list_append d its.toArray nn v (by rw[z9q];ext)) ⟨k5,?_⟩;have up:=PySem.IsL.update k5 (λa=>a.push v);have ep:its.toArray.push v=(its++[v]).toArray:=by simp
     rw[ep]at up;refine⟨m',hm,i+1,ys++[y],σ7,H9,its++[v],_,?_,?_,k3,k4,up,r4.append (.cons r9 .nil),w'⟩
     ·exact k1.turned (it:=d) (λb o hb e=>(z6k s9.heap _ (Ne.symm hb)).trans e) k4 (dB (P:=[]) k4 (by simp)).2.1 (.inl z9a) (dB (P:=[]) k4 (by simp)).2.2.2.2.1 λp hp=>absurd hp (by simp[blk])
     ·exact T.keep _ _ _ k2 λb hb o e=>(z6k s9.heap _ (Ne.symm (dnf b hb))).trans e
 exact codeAny_compStart_list (loop _ rfl) (T.self X.A 0 _ _ _ (T.keep _ _ _ st λb _ o e=>hk b o e) (loop _ rfl))
def qd(B:BlkOk X scope own J3 cn)(hc:X.calm=true)(hi:PI X tg iter wi)(hg:∀s H cl ex,PG (blk X (own++cn) s H scope cl ex) tg g)(ht:∀s H cl ex,PTs (blk X (own++cn) s H scope cl ex) ifs tt)(he:∀s H cl ex,PE (blk X (own++cn) s H scope cl ex) elt te)(I:L2.Inv X G_ σ H s)(h:kP own.length J3 wi g tt te σ H Q)(hcl:∀x c,cl.lookup x=some c->X.env.cells.lookup x=some c)(hha:∀x∈scope.names,x.2=.free->∃c,cl.lookup x.1=some c){RR:Value->Addr->Result->Shared->Prop}(hRR:∀d c ys H' s',After X G_ σ H' d c ys s'->Q (.ref d) (upd H' d (.lst ys))->RR (.ref d) c (.ok .next) s'):
  wpAny (model X.prog X.w) X.A (eval iter X.env) (λx y1=>wpAny (model X.prog X.w) X.A (pyIter x) (λit y3=>wpAny (model X.prog X.w) X.A (newList []) (λacc y4=>
   wpAny (model X.prog X.w) X.A (newFunctionEnv scope X.env.globals cl [] X.env.qual none .none (some X.env)) (λcenv y7=>codeAny (model X.prog X.w) X.A (.compStart (.ListComp elt [⟨tg,iter,ifs,0⟩] scope pos) 0 it acc {cenv with scope:=relabel scope X.env}) (RR acc cenv.locals) y7) X.xe y4) X.xe y3) X.xe y1) X.xe s:=by
 refine thn (hi G_ s σ H _ I h) λx s1 h1=>thn h1 λitv s2 h2=>?_
 obtain⟨it,fp,tn,J,H2,rfl,I2,T,st2,f2,W,⟨m0,w0⟩,turn⟩:=h2;refine wpAny_newObj_type (wpAny_newFunctionEnv B.nocell (by intro y hy;simp at hy) (λw_ s_ t_=>?_) B.kind);dsimp only at s_ t_ ⊢;generalize hd:s2.heap.objs.size=d at s_ t_ ⊢;have hfd:H2 d=none:=by rw[<- hd];exact I2.hok.fresh (z9i _)
 have fpd:cE X G_ H2 d:=I2.fpOk (by rw[hd];exact z9i _) hfd;have fpl:∀b∈fp,b<s2.heap.objs.size:=λb hb=>by obtain⟨o,e,_⟩:=T.obj _ _ st2 b hb;exact z9m e
 have dnf:∀b∈fp,b≠d:=λb hb e=>absurd (fpl b hb) (by rw[e,hd];exact z7x _)
 have I3:L2.Inv X G_ σ H2 {s2 with heap:=s2.heap.push {cls:=.type "list",dict:=none,data:=.seq ([]:z5).toArray}}:=I2.kept (t':=s2.toks) λb o e=>z9l _ e
 exact DN (s3:={s2 with heap:=s2.heap.push {cls:=.type "list",dict:=none,data:=.seq ([]:z5).toArray}}) B hc hg ht he I3 hcl hha T (T.keep _ _ _ st2 λb _ o e=>z9l _ e) f2 fpd (by rw[<- hd];exact I2.sz) dnf
  (by rw[<- hd];exact z8l _ rfl) w0 turn s_ (λb o e=>t_.extBut b o (z8q (z9m e)) (z9l _ e)) hRR
end
structure PostI (K:K0) (σ:St) (U:ag) (H:Hp) (es:p_) (ds:n_) (J:It) (H1:Hp):Prop where
 same:Same H H1
 go:∀(i:Nat) (d:D) (H':Hp),ds[i]?=some d->Same H1 H'->J.go i H'/\∀x H'',J.yld i H' x H''->Same H' H''/\Rep K H'' x d/\∀A,Dom H A->(∀e∈es,Av K H σ U A e)->Rep K (ao H'' A) x d
 stop:∀H',Same H1 H'->J.stop ds.length H'
def tvI(K:K0)(f:FEs)(es:p_):TI:=λσ H R=>∃U ds,EnvR K H σ U/\f U=some ds/\∀J H1,PostI K σ U H es ds J H1->R J H1
abbrev VI(X:Cx)(tg iter:Expr)(f:FEs)(es:p_):Prop:=PI X tg iter (tvI X.K f es)
structure JI (X:Cx) (tg iter:Expr) (f:FEs) (es:p_):Prop where
 h:VI X tg iter f es
def qe{t t':TI}(h:PI X tg e t)(i:∀σ H R,t' σ H R->t σ H R):PI X tg e t':=λG_ s σ H R I q=>h G_ s σ H R I (i σ H R q)
def mC{t:TI}{f:FEs}{es:p_}(h:PI X tg e t)(i:∀σ H R U ds,EnvR X.K H σ U->f U=some ds->(∀J H1,PostI X.K σ U H es ds J H1->R J H1)->t σ H R):PI X tg e (tvI X.K f es):=qe h λσ H R y0=>by obtain⟨U,d,hE,hf,hQ⟩:=y0;exact i σ H R U d hE hf hQ
section
variable {fi:FE}{as:FEs}{ei:p_}
def fJ(f:FE):FEs:=λU=>(f U).bind λd=>if dj d=true then none else items d
theorem iq(h:JB X iter fi ei):JI X tg iter (fJ fi) ei:=⟨have h:=h.h;mC (lP h) λσ H R U ds hE hf hR=>by
 obtain⟨d,h1,hf⟩:=bind_some hf;cases ht:dj d with
 |true=>rw[if_pos ht]at hf;cases hf
 |false=>rw[if_neg (by rw[ht];exact z8r)]at hf;refine⟨U,d,hE,h1,λv H1 p=>?_⟩;obtain⟨q,xs,rfl,hq,hx,hA⟩:=fG p.rep hf ht;have len:=hx.length;refine⟨q,rfl,⟨xs,hq⟩,hR _ _ ⟨p.same,λi d' H' hd e=>?_,λH' e=>⟨xs,e.seq hq,by ext⟩⟩⟩;obtain⟨x,h2,h3⟩:=hx.get hd;refine⟨⟨xs,x,e.seq hq,h2⟩,λy H'' y0=>?_⟩;obtain⟨eq,hy⟩:=y0;subst eq;have e2:=hy xs (e.seq hq);rw[h2]at e2;cases e2;refine⟨Same.refl _,au e h3,λA hD hz=>?_⟩;obtain⟨x',h4,h5⟩:=(hA A (p.av A hD hz)).get hd;rw[h2]at h4;cases h4;exact au (c8 e) h5⟩
def DO{U:ag}(e:Same H H1):PostI K σ U H [] (db lo n) (Itr lo n) H1:=by
 refine⟨e,λi d H' hd _=>?_,λH' _=>?_⟩
 ·have hi:i<n:=by have:=(z9c.mp hd).1;simpa [db]using this
  have ed:d=.int (lo+i):=by have:=(z9c.mp hd).2;rw[<- this];simp[db]
  subst ed;refine⟨hi,λx H'' y0=>?_⟩;obtain⟨e1,e2⟩:=y0;subst e1 e2;exact⟨Same.refl _,.int _,λA _ _=>.int _⟩
 ·show n<=(db lo n).length
  simp[db]
def iR1(as:FEs):FEs:=λU=>(as U).bind λds=>match ds with
 |[.int j]=>if okR j then some (db 0 j.toNat)else none
 |_=>none
theorem mD(mr:X.mg "range"=none)(hi:JA X [a] as ei)(hg:Gl X "range"<|>J7)(hst:starEach [a] X.env=[(false,eval a X.env)]<|>J7):JI X tg (.Call (.Name "range" pn) [a] [] pr) (iR1 as) []:=⟨have hi:=hi.h;
 mC (lQ hg mr hi hst) λσ H R U ds hE hf hR=>by
  obtain⟨vs,h1,hf⟩:=bind_some hf;refine⟨U,vs,hE,h1,λxs H1 p=>?_⟩
  match vs,hf,p with
  |[.int j],hf,p=>obtain⟨hj,rfl⟩:=bP hf;obtain⟨v,rfl,r⟩:=f9 p.rep;cases r;exact⟨j,rfl,hj.1,hj.2,hR _ _ (DO p.same)⟩⟩
end
noncomputable def bC{α:Type}(σ:List (Option α))(is:y9)(xs:List α):List (Option α):=(is.zip xs).foldl (λr p=>r.set p.1 (some p.2)) σ
structure TgV (K:K0) (g:TG) (is:y9) (un:D->Option n_):Prop where
 ok:∀(x:V) (σ:St) (H:Hp) (Q:St->Hp->Prop) (d:D) (ds:n_),Rep K H x d->un d=some ds->(∀xs:l_,Reps K H xs ds->(∀A,Rep K (ao H A) x d->Reps K (ao H A) xs ds)->Q (bC σ is xs) H)->g x σ H Q
 len:∀d ds,un d=some ds->ds.length=is.length
noncomputable def un1(d:D):Option n_:=some [d]
def ef(t:Nat):TgV K (cq t) [t] un1 where
 ok:=λx σ H Q d ds r hd h=>by cases hd;exact h [x] (.cons r .nil) λA r'=>.cons r' .nil
 len:=λd ds h=>by cases h;rfl
noncomputable def unT(n:Nat):D->Option n_
 |.tup ds=>if ds.length=n then some ds else none
 |_=>none
theorem vH{Q:St->Hp->Prop}{H:Hp}:∀{is:y9} {xs:l_} {σ:St},is.length=xs.length->Q (bC σ is xs) H->gg is xs σ H Q
 |[],[],_,_,h=>⟨rfl,h⟩
 |[],_::_,_,h,_=>by cases h
 |_::_,[],_,h,_=>by cases h
 |i::is,x::xs,σ,hl,h=>⟨x,xs,rfl,vH (σ:=σ.set i (some x)) (by simpa using hl) h⟩
theorem mE(is:y9):TgV K (jX K is.length (gg is)) is (unT is.length) where
 ok:=λx σ H Q d ds r hd h=>by
  cases d with
  |tup es=>obtain⟨hl,rfl⟩:=bP hd;obtain⟨p,xs,rfl,hp,hx⟩:=q9 r;have len:=hx.length;exact⟨p,xs,rfl,.inl hp,by ext,vH ∅ (h xs hx λA r'=>vE hp r')⟩
  |_=>cases hd
 len:=λd ds h=>by
  cases d with
  |tup es=>obtain⟨hl,rfl⟩:=bP h;exact hl
  |_=>cases h
noncomputable def bq(nown:Nat)(J3:y9)(U:ag):ag:=List.replicate nown none++J3.map λj=>(U[j]?).getD none
theorem mF{P:Nat->V->D->Prop}:∀{is:y9} {xs:l_} {ds:n_} {σ:St} {U:ag},σ.length=U.length->xs.length=ds.length->(∀(j:Nat) v d,σ[j]?=some (some v)->U[j]?=some (some d)->P j v d) ->
  (∀(k:Nat) j v d,is[k]?=some j->xs[k]?=some v->ds[k]?=some d->P j v d)->∀(j:Nat) v d,(bC σ is xs)[j]?=some (some v)->(bC U is ds)[j]?=some (some d)->P j v d
 |[],_,_,_,_,_,_,h0,_=>by simpa [bC]using h0
 |i::is,[],[],_,_,_,_,h0,_=>by simpa [bC]using h0
 |i::is,[],_::_,_,_,_,h,_,_=>by cases h
 |i::is,_::_,[],_,_,_,h,_,_=>by cases h
 | i::is,x::xs,d::ds,σ,U,hl,hx,h0,h1=>by
   refine mF (is:=is) (xs:=xs) (ds:=ds) (σ:=σ.set i (some x)) (U:=U.set i (some d)) (by simpa using hl) (by simpa using hx) (λj v d' e1 e2=>?_) λk j v d' a1 a2 a3=>h1 (k+1) j v d' (by simpa using a1) (by simpa using a2) (by simpa using a3)
   by_cases hj:j=i
   ·subst hj
    have l1:j<σ.length:=by have:=(z9c.mp e1).1;simpa using this
    rw[z9r l1]at e1;rw[z9r ∅]at e2;cases e1;cases e2;exact h1 0 j x d rfl rfl rfl
   ·rw[z9f (Ne.symm hj)]at e1 e2
    exact h0 j v d' e1 e2
theorem vI{α β:Type}:∀{is:y9} {xs:List α} {ds:List β} {σ:List (Option α)} {U:List (Option β)},σ.length=U.length->xs.length=ds.length->(∀(j:Nat) d,U[j]?=some (some d)->∃v,σ[j]?=some (some v)) ->
  ∀(j:Nat) d,(bC U is ds)[j]?=some (some d)->∃v,(bC σ is xs)[j]?=some (some v)
 |[],_,_,_,_,_,_,h0=>by simpa [bC]using h0
 |i::is,[],[],_,_,_,_,h0=>by simpa [bC]using h0
 |i::is,[],_::_,_,_,_,h,_=>by cases h
 |i::is,_::_,[],_,_,_,h,_=>by cases h
 | i::is,x::xs,d::ds,σ,U,hl,hx,h0=>by
   refine vI (is:=is) (xs:=xs) (ds:=ds) (σ:=σ.set i (some x)) (U:=U.set i (some d)) (by simpa using hl) (by simpa using hx) λj d' e2=>?_
   by_cases hj:j=i
   ·subst hj
    have l1:j<U.length:=by have:=(z9c.mp e2).1;simpa using this
    exact⟨x,z9r ∅⟩
   ·rw[z9f (Ne.symm hj)]at e2 ⊢
    exact h0 j d' e2
theorem vJ{α:Type}:∀{is:y9} {xs:List α} {σ:List (Option α)},(bC σ is xs).length=σ.length
 |[],_,_=>by simp[bC]
 |_::_,[],_=>by simp[bC]
 |i::is,x::xs,σ=>by have:=vJ (is:=is) (xs:=xs) (σ:=σ.set i (some x));simpa [bC]using this
theorem vK{α:Type}{n:Nat}:∀{is:y9} {xs:List α} {σ:List (Option α)},(∀i∈is,i<n)->∀j,n<=j->(bC σ is xs)[j]?=σ[j]?
 |[],_,_,_,_,_=>by simp[bC]
 |_::_,[],_,_,_,_=>by simp[bC]
 |i::is,x::xs,σ,h,j,hj=>by have:=vK (is:=is) (xs:=xs) (σ:=σ.set i (some x)) (λk hk=>h k (z9d _ hk)) j hj;have hi:=h i z9a;rw[z9f ∅]at this;simpa [bC]using this
noncomputable def esC(nown:Nat)(J3:y9)(ei:p_):p_->p_
 |[]=>[]
 |.full j::r=>(if j<nown then ei else [.full (J3.getD (j-nown) 0)])++esC nown J3 ei r
 |.el j::r=>(if j<nown then ei else [.el (J3.getD (j-nown) 0)])++esC nown J3 ei r
theorem mG{nown:Nat}{J3:y9}{ei:p_}:∀{ee:p_} {e:Es},e∈ee->(∀j,e=.full j\/e=.el j->j<nown)->∀z∈ei,z∈esC nown J3 ei ee
 | .full j::r,e,he,hj,z,hz=>by
   rcases z9j.mp he with q|q
   ·have:=hj j (.inl q)
    show z∈(if j<nown then ei else _)++_;rw[if_pos this];exact z8i _ hz
   ·exact z9t _ (mG q hj z hz)
 | .el j::r,e,he,hj,z,hz=>by
   rcases z9j.mp he with q|q
   ·have:=hj j (.inr q)
    show z∈(if j<nown then ei else _)++_;rw[if_pos this];exact z8i _ hz
   ·exact z9t _ (mG q hj z hz)
theorem qf{nown:Nat}{J3:y9}{ei:p_}{j:Nat}(hj:¬j<nown):∀{ee:p_},Es.full j∈ee->Es.full (J3.getD (j-nown) 0)∈esC nown J3 ei ee
 | .full k::r,he=>by
   rcases z9j.mp he with q|q
   ·cases q
    show _∈(if j<nown then ei else _)++_;rw[if_neg hj];exact z8i _ z9a
   ·exact z9t _ (qf hj q)
 | .el k::r,he=>by
   rcases z9j.mp he with q|q
   ·cases q
   ·exact z9t _ (qf hj q)
theorem qg{nown:Nat}{J3:y9}{ei:p_}{j:Nat}(hj:¬j<nown):∀{ee:p_},Es.el j∈ee->Es.el (J3.getD (j-nown) 0)∈esC nown J3 ei ee
 | .full k::r,he=>by
   rcases z9j.mp he with q|q
   ·cases q
   ·exact z9t _ (qg hj q)
 | .el k::r,he=>by
   rcases z9j.mp he with q|q
   ·cases q
    show _∈(if j<nown then ei else _)++_;rw[if_neg hj];exact z8i _ z9a
   ·exact z9t _ (qg hj q)
noncomputable def gh(g:D->Option o_):n_->Option n_
 |[]=>some []
 |x::r=>(g x).bind λo=>(gh g r).bind λds=>some (match o with|some d=>d::ds|none=>ds)
def ir(is:y9)(un:D->Option n_)(c:ag->k_)(fe:FE)(U:ag):D->Option o_:=λd=>(un d).bind λds=>(c (bC U is ds)).bind λb=>if b=true then(fe (bC U is ds)).map some else some none
def bW(nown:Nat)(J3:y9)(is:y9)(un:D->Option n_)(fi:FEs)(c:ag->k_)(fe:FE):FE:=λU=>(fi U).bind λds=>if ds.length<100000 then(gh (ir is un c fe (bq nown J3 U)) ds).map .lst else none
noncomputable def c4:ag->k_:=λ_=>some true
def vL{un:D->Option n_}{fi:FEs}{ei ee:p_}{g:TG}{c:ag->k_}{fe:FE}(hg:TgV K g is un)(his:∀i∈is,i<nown)(h:tvF K (bW nown J3 is un fi c fe) (esC nown J3 ei ee) σ H Q):kP nown J3 (tvI K fi ei) g (tvT K c) (tv K fe ee) σ H Q:=by
 obtain⟨U,dd,hE,hf,hQ⟩:=h;obtain⟨ds,h1,hf⟩:=bind_some hf;by_cases hl:ds.length<100000
 ·rw[if_pos hl]at hf
  cases htot:gh (ir is un c fe (bq nown J3 U)) ds with
  |none=>rw[htot]at hf;cases hf
  | some tot=>
    rw[htot]at hf;cases hf;refine⟨U,ds,hE,h1,λJ H1 p=>?_⟩;refine⟨λi m ys σb H2=>m=ds.length-i/\i<=ds.length/\Same H1 H2/\(σb.length=nown+J3.length/\∀k,nown<=k->σb[k]?=(cP σ J3)[k-nown]?) /\
     ∃done rest,gh (ir is un c fe (bq nown J3 U)) (ds.drop i)=some rest/\tot=done++rest/\done.length<=i/\Reps K H2 ys done/\∀A,Dom H A->(∀e∈esC nown J3 ei ee,Av K H σ U A e)->Reps K (ao H2 A) ys done,?_,?_⟩
    ·refine⟨ds.length,by simp,z7a _,Same.refl _,⟨by simp[cP],λk hk=>?_⟩,[],tot,by simpa using htot,rfl,z9i _,.nil,λ_ _ _=>.nil⟩
     rw[z9x (by simpa using hk)];simp
    ·rintro i m ys σb H2 ⟨rfl,hi,e2,⟨hlen,hcap⟩,done,rest,hgo,htot',hdl,hr,hA⟩
     have lys:=hr.length;refine⟨z9u (show ys.length<100000 by ext) (by decide),?_⟩;by_cases hlt:i<ds.length
     ·obtain⟨d,hd⟩:∃d,ds[i]?=some d:=⟨ds[i],by simp[hlt]⟩
      have ed:ds.drop i=d::ds.drop (i+1):=by rw[z9v hlt];have q:=(z9c.mp hd).2;rw[q]
      rw[ed]at hgo;obtain⟨o,ho,hgo⟩:=bind_some hgo;obtain⟨rest',hgo',hgo⟩:=bind_some hgo;cases hgo;obtain⟨ts,hun,ho⟩:=bind_some ho;obtain⟨b,hb,ho⟩:=bind_some ho;obtain⟨jg,jy⟩:=p.go i d H2 hd e2;refine .inr ⟨jg,λx H3 y=>?_⟩;obtain⟨e3,rx,ax⟩:=jy x H3 y;refine hg.ok x σb H3 _ d ts rx hun λxs rxs axs=>?_
      have e13:Same H H3:=(p.same.trans e2).trans e3;have lx:=rxs.length;have lts:=hg.len d ts hun;have lb:σb.length=(bq nown J3 U).length:=by rw[hlen];simp[bq]
      have base:∀(j:Nat) v d',σb[j]?=some (some v)->(bq nown J3 U)[j]?=some (some d')->¬j<nown/\∃k,J3[j-nown]?=some k/\σ[k]?=some (some v)/\U[k]?=some (some d'):=λj v d' q1 q2=>by
       by_cases hj:j<nown
       ·unfold bq at q2
        rw[z8d (by simpa using hj),z7k,if_pos hj]at q2;cases q2
       ·rw[hcap j ∅]at q1
        unfold bq at q2;rw[z9x (by simp;ext)]at q2;simp only[z8s,z9z]at q2;unfold cP at q1;rw[z9z]at q1;cases hk:J3[j-nown]? with
        |none=>rw[hk]at q1;cases q1
        | some k=>
          rw[hk]at q1 q2;refine⟨hj,k,rfl,?_,?_⟩
          ·simp only[z8z,z6p]at q1
           cases e:σ[k]? with
           |none=>rw[e]at q1;cases q1
           |some o'=>rw[e]at q1;simp only[z7b]at q1;rw[q1]
          ·simp only[z8z,z6p]at q2
           cases e:U[k]? with
           |none=>rw[e]at q2;cases q2
           |some o'=>rw[e]at q2;simp only[z7b]at q2;rw[q2]
      have hE':EnvR K H3 (bC σb is xs) (bC (bq nown J3 U) is ts):=λj d' q=>by
       obtain⟨v,hv⟩:=vI lb lx (λj' d'' q'=>by
        by_cases hj:j'<nown
        ·unfold bq at q'
         rw[z8d (by simpa using hj),z7k,if_pos hj]at q';cases q'
        ·have q0:=q'
         unfold bq at q';rw[z9x (by simp;ext)]at q';simp only[z8s,z9z]at q';cases hk:J3[j'-nown]? with
         |none=>rw[hk]at q';cases q'
         | some k=>
           rw[hk]at q';simp only[z8z,z6p]at q';cases e:U[k]? with
           |none=>rw[e]at q';cases q'
           |some o'=>rw[e]at q';simp only[z7b]at q';subst q';obtain⟨v,hv,_⟩:=hE k d'' e;refine⟨v,?_⟩;rw[hcap j' ∅];unfold cP;rw[z9z,hk];simp[hv]) j d' q
       refine⟨v,hv,mF (P:=λ_ v d=>Rep K H3 v d) lb lx (λj v d' q1 q2=>?_) (λk j v d' a1 a2 a3=>?_) j v d' hv q⟩
       ·obtain⟨_,k,_,k1,k2⟩:=base j v d' q1 q2
        obtain⟨v',k3,k4⟩:=hE k d' k2;rw[k1]at k3;cases k3;exact au e13 k4
       ·obtain⟨v',k3,k4⟩:=rxs.get a3
        rw[a2]at k3;cases k3;exact k4
      have av:∀A,Dom H A->(∀e∈esC nown J3 ei ee,Av K H σ U A e)->∀H5,Same H3 H5->∀e∈ee,Av K H5 (bC σb is xs) (bC (bq nown J3 U) is ts) A e:=λA hD hz H5 e5 e he=>by
       have item:(∀z∈ei,z∈esC nown J3 ei ee)->Reps K (ao H3 A) xs ts:=λhsub=>axs A (ax A hD λz hz'=>hz z (hsub z hz'))
       refine Av.mono e5 ?_;cases e with
       | full j0=>
         intro v d' q1 q2;refine mF (P:=λj v d=>j=j0->Rep K (ao H3 A) v d) lb lx (λj v d' q3 q4 ej=>?_) (λk j v d' a1 a2 a3 ej=>?_) j0 v d' q1 q2 rfl
         ·rw[<- ej]at he
          obtain⟨hj,k,hk,k1,k2⟩:=base j v d' q3 q4;have:=hz _ (qf hj he);rw[z8c,hk]at this;exact au (c8 e13) (this v d' k1 k2)
         ·rw[<- ej]at he
          have hj:=his j (z8a a1);obtain⟨v',k3,k4⟩:=(item (mG he λj' hj'=>by rcases hj' with q|q<;>cases q;exact hj)).get a3;rw[a2]at k3;cases k3;exact k4
       | el j0=>
         intro v d' q1 q2;refine mF (P:=λj v d=>j=j0->ElR K H3 A v d) lb lx (λj v d' q3 q4 ej=>?_) (λk j v d' a1 a2 a3 ej=>?_) j0 v d' q1 q2 rfl
         ·rw[<- ej]at he
          obtain⟨hj,k,hk,k1,k2⟩:=base j v d' q3 q4;have:=hz _ (qg hj he);rw[z8c,hk]at this;exact(this v d' k1 k2).mono e13
         ·rw[<- ej]at he
          have hj:=his j (z8a a1);obtain⟨v',k3,k4⟩:=(item (mG he λj' hj'=>by rcases hj' with q|q<;>cases q;exact hj)).get a3;rw[a2]at k3;cases k3;exact k4.el
      have shape:(bC σb is xs).length=nown+J3.length/\∀k,nown<=k->(bC σb is xs)[k]?=(cP σ J3)[k-nown]?:=⟨by rw[vJ];exact hlen,λk hk=>by rw[vK his k hk];exact hcap k hk⟩;refine⟨_,b,hE',hb,λH5 e5=>?_⟩;have e25:Same H2 H5:=e3.trans e5;cases b with
      |false=>cases ho;refine dU ⟨ds.length-(i+1),by ext,rfl,hlt,e2.trans e25,shape,done,rest',hgo',htot',by ext,aV e25 hr,λA hD hz=>aV (c8 e25) (hA A hD hz)⟩
      | true=>
        have ho':(fe (bC (bq nown J3 U) is ts)).map some=some o:=ho;cases hfe:fe (bC (bq nown J3 U) is ts)with
        |none=>rw[hfe]at ho';cases ho'
        |some dv=>rw[hfe]at ho';cases ho';refine dW ⟨_,dv,hE'.mono e5,hfe,λv H6 p6=>?_⟩;have e26:Same H2 H6:=e25.trans p6.same;refine⟨ds.length-(i+1),by ext,rfl,hlt,e2.trans e26,shape,done++[dv],rest',hgo',by rw[htot'];simp,by simp;ext,(aV e26 hr).append (.cons p6.rep .nil),λA hD hz=>?_⟩;exact(aV (c8 e26) (hA A hD hz)).append (.cons (p6.av A (hD.mono (e13.trans e5)) (av A hD hz H5 e5)) .nil)
     ·have ei':i=ds.length:=by ext
      subst ei';rw[z7q]at hgo;cases hgo;rw[z8v]at htot';subst htot';exact .inl ⟨p.stop H2 e2,λd hd=>hQ _ _ (jk (p.same.trans e2) hd λA hD hz=>hA A hD hz)⟩
 ·rw[if_neg hl]at hf;cases hf
noncomputable def b2z(b:Bool):Int:=if b then 1 else 0
def fg:D->D->Bool
 |.non,.non=>true
 |.bl a,.bl b=>a==b
 |.int i,.int j=>i==j
 |.str x,.str y=>x==y
 |.bl a,.int j=>b2z a==j
 |.int i,.bl b=>i==b2z b
 |_,_=>false
noncomputable def bQ:Nat->D->D->Bool
 |k+1,.lst xs,.lst ys=>xs.length==ys.length&&(xs.zip ys).all λp=>bQ k p.1 p.2
 |k+1,.tup xs,.tup ys=>xs.length==ys.length&&(xs.zip ys).all λp=>bQ k p.1 p.2
 |_,d,e=>fg d e
noncomputable def cH:Nat->D->Bool
 |_,.scr _=>false
 |_,.dct _ _=>false
 |_,.ptr _=>false
 |0,.lst _=>false
 |0,.tup _=>false
 |k+1,.lst xs=>xs.all (cH k)
 |k+1,.tup xs=>xs.all (cH k)
 |_,_=>true
structure Cmp3 (A:Around) (s:Shared) (v u:Value) (b:Bool):Prop where
 eq:SeqAt.EqAt A s v u b
 rc:SeqAt.RcAt A s v u b
 ne:SeqAt.RcNeAt A s v u (!b)
theorem qh(f:D->D->Bool):∀(xs ys:n_),xs.length=ys.length ->
  (List.range xs.length).all (λj=>match xs[j]?,ys[j]? with|some a,some b=>f a b|_,_=>false)=(xs.zip ys).all λp=>f p.1 p.2
 |[],[],_=>rfl
 |[],_::_,h=>by cases h
 |_::_,[],h=>by cases h
 |x::xs,y::ys,h=>by have ih:=qh f xs ys (by simpa using h);rw[z9e,List.range_succ_eq_map,z6d,List.all_map,z7o,z6d,<- ih];simp[z3e]
noncomputable def qi:D->Bool
 |.scr _=>true
 |.dct _ _=>true
 |.ptr _=>true
 |_=>false
noncomputable def mH:D->D->Bool
 |.lst _,.lst _=>true
 |.tup _,.tup _=>true
 |_,_=>false
def vM(I:L2.Inv X G_ σ H s)(A:Around)(v u:V)(vv uu:Value)(d e:D)(hu:A.units<cLine)(nd:qi d=false)(ne:qi e=false)(nl:mH d e=false)(rd:Rep X.K H v d)(re:Rep X.K H u e)(rv:RelV v vv)(ru:RelV u uu):Cmp3 A s vv uu (fg d e):=by
 cases rd with
 |scr _=>cases nd
 |dct _=>cases nd
 |ptr _=>cases nd
 | non=>
   cases rv;cases re with
   |scr _=>cases ne
   |dct _=>cases ne
   |ptr _=>cases ne
   |non=>cases ru;exact⟨.same _,.none_none,.none_none⟩
   |bl b2=>cases ru;exact⟨.none_bool b2,.none_bool b2,.none_bool b2⟩
   |int i2=>obtain⟨t2,rfl⟩:=ru;exact⟨.none_int i2 t2,.none_int i2 t2,.none_int i2 t2⟩
   |str x2=>obtain⟨t2,rfl⟩:=ru;exact⟨.none_str x2 t2,.none_str x2 t2,.none_str x2 t2⟩
   |@lst p2 xs2 ds2 h2 r2=>cases ru;obtain⟨its2,q2,pl2,z2⟩:=I.list (.inl h2);have l2:=pl2.isList;exact⟨.none_list l2 hu,.none_list l2 hu,.none_list l2 hu⟩
   |@tup p2 xs2 ds2 h2 r2=>have h2:=eF h2;cases ru;obtain⟨its2,q2,l2,z2⟩:=I.tuple (.inl h2);exact⟨.none_tuple l2 hu,.none_tuple l2 hu,.none_tuple l2 hu⟩
 | bl b1=>
   cases rv;cases re with
   |scr _=>cases ne
   |dct _=>cases ne
   |ptr _=>cases ne
   |non=>cases ru;exact⟨.bool_none b1,.bool_none b1,.bool_none b1⟩
   |bl b2=>cases ru;exact⟨.bool_bool b1 b2,.bool_bool b1 b2,.bool_bool b1 b2⟩
   |int i2=>obtain⟨t2,rfl⟩:=ru;exact⟨.bool_int b1 i2 t2,.bool_int b1 i2 t2,.bool_int b1 i2 t2⟩
   |str x2=>obtain⟨t2,rfl⟩:=ru;exact⟨.bool_str b1 x2 t2,.bool_str b1 x2 t2,.bool_str b1 x2 t2⟩
   |@lst p2 xs2 ds2 h2 r2=>cases ru;obtain⟨its2,q2,pl2,z2⟩:=I.list (.inl h2);have l2:=pl2.isList;exact⟨.bool_list b1 l2 hu,.bool_list b1 l2 hu,.bool_list b1 l2 hu⟩
   |@tup p2 xs2 ds2 h2 r2=>have h2:=eF h2;cases ru;obtain⟨its2,q2,l2,z2⟩:=I.tuple (.inl h2);exact⟨.bool_tuple b1 l2 hu,.bool_tuple b1 l2 hu,.bool_tuple b1 l2 hu⟩
 | int i1=>
   obtain⟨t1,rfl⟩:=rv;cases re with
   |scr _=>cases ne
   |dct _=>cases ne
   |ptr _=>cases ne
   |non=>cases ru;exact⟨.int_none i1 t1,.int_none i1 t1,.int_none i1 t1⟩
   |bl b2=>cases ru;exact⟨.int_bool i1 t1 b2,.int_bool i1 t1 b2,.int_bool i1 t1 b2⟩
   |int i2=>obtain⟨t2,rfl⟩:=ru;exact⟨.int_int i1 t1 i2 t2,.int_int i1 t1 i2 t2,.int_int i1 t1 i2 t2⟩
   |str x2=>obtain⟨t2,rfl⟩:=ru;exact⟨.int_str i1 t1 x2 t2,.int_str i1 t1 x2 t2,.int_str i1 t1 x2 t2⟩
   |@lst p2 xs2 ds2 h2 r2=>cases ru;obtain⟨its2,q2,pl2,z2⟩:=I.list (.inl h2);have l2:=pl2.isList;exact⟨.int_list i1 t1 l2 hu,.int_list i1 t1 l2 hu,.int_list i1 t1 l2 hu⟩
   |@tup p2 xs2 ds2 h2 r2=>have h2:=eF h2;cases ru;obtain⟨its2,q2,l2,z2⟩:=I.tuple (.inl h2);exact⟨.int_tuple i1 t1 l2 hu,.int_tuple i1 t1 l2 hu,.int_tuple i1 t1 l2 hu⟩
 | str x1=>
   obtain⟨t1,rfl⟩:=rv;cases re with
   |scr _=>cases ne
   |dct _=>cases ne
   |ptr _=>cases ne
   |non=>cases ru;exact⟨.str_none x1 t1,.str_none x1 t1,.str_none x1 t1⟩
   |bl b2=>cases ru;exact⟨.str_bool x1 t1 b2,.str_bool x1 t1 b2,.str_bool x1 t1 b2⟩
   |int i2=>obtain⟨t2,rfl⟩:=ru;exact⟨.str_int x1 t1 i2 t2,.str_int x1 t1 i2 t2,.str_int x1 t1 i2 t2⟩
   |str x2=>obtain⟨t2,rfl⟩:=ru;exact⟨.str_str x1 t1 x2 t2,.str_str x1 t1 x2 t2,.str_str x1 t1 x2 t2⟩
   |@lst p2 xs2 ds2 h2 r2=>cases ru;obtain⟨its2,q2,pl2,z2⟩:=I.list (.inl h2);have l2:=pl2.isList;exact⟨.str_list x1 t1 l2 hu,.str_list x1 t1 l2 hu,.str_list x1 t1 l2 hu⟩
   |@tup p2 xs2 ds2 h2 r2=>have h2:=eF h2;cases ru;obtain⟨its2,q2,l2,z2⟩:=I.tuple (.inl h2);exact⟨.str_tuple x1 t1 l2 hu,.str_tuple x1 t1 l2 hu,.str_tuple x1 t1 l2 hu⟩
 | @lst p1 xs1 ds1 h1 r1=>
   cases rv;obtain⟨its1,q1,pl1,z1⟩:=I.list (.inl h1);have l1:=pl1.isList;cases re with
   |scr _=>cases ne
   |dct _=>cases ne
   |ptr _=>cases ne
   |non=>cases ru;exact⟨.list_none l1 hu,.list_none l1 hu,.list_none l1 hu⟩
   |bl b2=>cases ru;exact⟨.list_bool b2 l1 hu,.list_bool b2 l1 hu,.list_bool b2 l1 hu⟩
   |int i2=>obtain⟨t2,rfl⟩:=ru;exact⟨.list_int i2 t2 l1 hu,.list_int i2 t2 l1 hu,.list_int i2 t2 l1 hu⟩
   |str x2=>obtain⟨t2,rfl⟩:=ru;exact⟨.list_str x2 t2 l1 hu,.list_str x2 t2 l1 hu,.list_str x2 t2 l1 hu⟩
   |lst _ _=>cases nl
   |@tup p2 xs2 ds2 h2 r2=>have h2:=eF h2;cases ru;obtain⟨its2,q2,l2,z2⟩:=I.tuple (.inl h2);exact⟨.list_tuple l1 l2 hu,.list_tuple l1 l2 hu,.list_tuple l1 l2 hu⟩
 | @tup p1 xs1 ds1 h1 r1=>
   have h1:=eF h1;cases rv;obtain⟨its1,q1,l1,z1⟩:=I.tuple (.inl h1);cases re with
   |scr _=>cases ne
   |dct _=>cases ne
   |ptr _=>cases ne
   |non=>cases ru;exact⟨.tuple_none l1 hu,.tuple_none l1 hu,.tuple_none l1 hu⟩
   |bl b2=>cases ru;exact⟨.tuple_bool b2 l1 hu,.tuple_bool b2 l1 hu,.tuple_bool b2 l1 hu⟩
   |int i2=>obtain⟨t2,rfl⟩:=ru;exact⟨.tuple_int i2 t2 l1 hu,.tuple_int i2 t2 l1 hu,.tuple_int i2 t2 l1 hu⟩
   |str x2=>obtain⟨t2,rfl⟩:=ru;exact⟨.tuple_str x2 t2 l1 hu,.tuple_str x2 t2 l1 hu,.tuple_str x2 t2 l1 hu⟩
   |@lst p2 xs2 ds2 h2 r2=>cases ru;obtain⟨its2,q2,pl2,z2⟩:=I.list (.inl h2);have l2:=pl2.isList;exact⟨.tuple_list l1 l2 hu,.tuple_list l1 l2 hu,.tuple_list l1 l2 hu⟩
   |tup _ _=>cases nl
def vN:∀(k:Nat) (H:Hp) {xs:l_} {j:Nat} {d e:D},(∃v,xs[j]?=some v/\Rep K H v d)->(∃v,xs[j]?=some v/\Rep K H v e)->cH k d=true->cH k e=true->bQ k d e=true:=by
 intro k H;have main:∀(k:Nat) {v:V} {d e:D},Rep K H v d->Rep K H v e->cH k d=true->cH k e=true->bQ k d e=true:=by
  intro k
  induction k with
  |zero=>intro v d e h1 h2 f1 f2;cases h1<;>cases h2<;>first|(cases f1;done)|(cases f2;done)|simp[bQ,fg]
  | succ k ih=>
    intro v d e h1 h2 f1 f2;have seq:∀{xs:l_} {ds es:n_},Reps K H xs ds->Reps K H xs es->ds.all (cH k)=true->es.all (cH k)=true->(ds.length==es.length&&(ds.zip es).all λp=>bQ k p.1 p.2)=true:=by
     intro xs ds es r1 r2 g1 g2;rw[z8m];refine⟨by rw[<- r1.length,r2.length];simp,z9y.mpr λz hz=>?_⟩;obtain⟨j,hj,ej⟩:=z6w hz;have ej':(ds.zip es)[j]?=some z:=by rw[z9k hj,ej]
     rw[z6q]at ej';obtain⟨a,a1,a2⟩:=r1.get ej'.1;obtain⟨b,b1,b2⟩:=r2.get ej'.2;rw[a1]at b1;cases b1;exact ih a2 b2 (z9y.mp g1 _ (z8a ej'.1)) (z9y.mp g2 _ (z8a ej'.2))
    cases h1 with
    | lst a1 a2=>
      cases h2 with
      |lst b1 b2=>rw[ic a1 b1]at a2;exact seq a2 b2 f1 f2
      |tup b1 b2=>exact(v7 a1 (.inl b1)).elim
      |scr _=>cases f2
      |dct _=>cases f2
      |ptr _=>cases f2
    | tup a1 a2=>
      cases h2 with
      |tup b1 b2=>rw[kr (.inl a1) (.inl b1)]at a2;exact seq a2 b2 f1 f2
      |lst b1 b2=>exact(v7 b1 (.inl a1)).elim
      |scr _=>cases f2
      |dct _=>cases f2
      |ptr _=>cases f2
    |scr _=>cases f1
    |dct _=>cases f1
    |ptr _=>cases f1
    |_=>cases h2;simp[bQ,fg]
 intro xs j d e ⟨v,h1,r1⟩ ⟨w,h2,r2⟩ f1 f2;rw[h1]at h2;cases h2;exact main k r1 r2 f1 f2
def vO{k:Nat}{d e:D}(h:mH d e=false):bQ k d e=fg d e:=by cases k<;>cases d<;>cases e<;>first|rfl|cases h
def mI{k:Nat}{d:D}(h:cH k d=true):qi d=false:=by cases d<;>first|rfl|(cases k<;>cases h)
def vP{X: Cx}(I:L2.Inv X G_ σ H s):∀(k:Nat) (A:Around) (v u:V) (vv uu:Value) (d e:D),A.units+k<cLine->cH k d=true->cH k e=true ->
  Rep X.K H v d->Rep X.K H u e->RelV v vv->RelV u uu->Cmp3 A s vv uu (bQ k d e):=by
 intro k
 induction k with
 | zero=>
   intro A v u vv uu d e hA fd fe rd re rv ru;have nb:mH d e=false:=by cases d<;>cases e<;>first|rfl|cases fd
   rw[vO nb];exact vM I A v u vv uu d e ∅ (mI fd) (mI fe) nb rd re rv ru
 | succ k ih=>
   intro A v u vv uu d e hA fd fe rd re rv ru;have hu:A.units<cLine:=by ext
   have hin:A.in1.units+k<cLine:=by show A.units+1+k<cLine;ext
   cases nb:mH d e with
   |false=>rw[vO nb];exact vM I A v u vv uu d e hu (mI fd) (mI fe) nb rd re rv ru
   | true=>
     have items:∀{ds es:n_} {xs ys:l_} {its its2:z5},ds.all (cH k)=true->es.all (cH k)=true->Reps X.K H xs ds->Reps X.K H ys es->Vals xs its->Vals ys its2 ->
       ∀j (h1:j<its.toArray.size) (h2:j<its2.toArray.size),SeqAt.EqAt A.in1 s its.toArray[j] its2.toArray[j] (match ds[j]?,es[j]? with|some a,some b=>bQ k a b|_,_=>false):=by
      intro ds es xs ys its its2 hd he rx ry vx vy j h1 h2;have lx:=rx.length;have ly:=ry.length;have mx:=vx.length;have my:=vy.length;have k1:j<ds.length:=by simp only[z9q]at h1;ext
      have k2:j<es.length:=by simp only[z9q]at h2;ext
      obtain⟨a,ea⟩:∃a,ds[j]?=some a:=⟨_,z9k k1⟩;obtain⟨b,eb⟩:∃b,es[j]?=some b:=⟨_,z9k k2⟩;obtain⟨x,ex,qx⟩:=rx.get ea;obtain⟨y,ey,qy⟩:=ry.get eb;obtain⟨w1,e1,r1⟩:=vx.get ex;obtain⟨w2,e2,r2⟩:=vy.get ey;have f1:its.toArray[j]=w1:=by have:=(z9c.mp e1).2;simpa using this
      have f2:its2.toArray[j]=w2:=by have:=(z9c.mp e2).2;simpa using this
      rw[f1,f2,ea,eb];exact(ih A.in1 x y w1 w2 a b hin (z9y.mp hd a (z8a ea)) (z9y.mp he b (z8a eb)) qx qy r1 r2).eq
     cases rd with
     | @lst p xs ds h1 h2=>
       cases rv;cases re with
       | @lst q ys es h3 h4=>
         cases ru;obtain⟨its,vx,pl,hz⟩:=I.list (.inl h1);obtain⟨its2,vy,pl2,hz2⟩:=I.list (.inl h3);have e1:its.toArray.size=ds.length:=by rw[z9q,<- vx.length,h2.length]
         have e2:its2.toArray.size=es.length:=by rw[z9q,<- vy.length,h4.length]
         have core:SeqAt.RcAt A s (.ref p) (.ref q) (bQ (k+1) (.lst ds) (.lst es))/\SeqAt.RcNeAt A s (.ref p) (.ref q) (!bQ (k+1) (.lst ds) (.lst es)):=by
          by_cases hl:ds.length=es.length
          ·have val:bQ (k+1) (.lst ds) (.lst es)=(List.range its.toArray.size).all (λj=>match ds[j]?,es[j]? with|some a,some b=>bQ k a b|_,_=>false):=by rw[e1,qh (bQ k) ds es hl];show(ds.length==es.length&&_)=_;rw[hl];simp
           rw[val];exact⟨.lists pl.isList pl2.isList ∅ hu (items fd fe h2 h4 vx vy),.lists pl.isList pl2.isList ∅ hu (items fd fe h2 h4 vx vy)⟩
          ·have val:bQ (k+1) (.lst ds) (.lst es)=false:=by show(ds.length==es.length&&_)=false;rw[show(ds.length==es.length)=false by simpa using hl];rfl
           rw[val];have hne:(its.toArray.size != its2.toArray.size)=true:=by rw[e1,e2];simpa using hl
           exact⟨.lists_lengths pl.isList pl2.isList hne hu,.lists_lengths pl.isList pl2.isList hne hu⟩
         refine⟨?_,core.1,core.2⟩;by_cases hpq:p=q
         ·subst hpq
          have ev:bQ (k+1) (.lst ds) (.lst es)=true:=by
           have exy:=ic h1 h3;subst exy;show(ds.length==es.length&&(ds.zip es).all λp=>bQ k p.1 p.2)=true;rw[z8m];refine⟨by rw[<- h2.length,h4.length];simp,z9y.mpr λz hz=>?_⟩;obtain⟨j,hj,ej⟩:=z6w hz;have ej':(ds.zip es)[j]?=some z:=by rw[z9k hj,ej]
           rw[z6q]at ej';exact vN k H (h2.get ej'.1) (h4.get ej'.2) (z9y.mp fd _ (z8a ej'.1)) (z9y.mp fe _ (z8a ej'.2))
          rw[ev];exact .same _
         ·exact .of_refs hpq core.1
       |tup _ _=>cases nb
       |_=>cases nb
     | @tup p xs ds h1 h2=>
       have h1:=eF h1;cases rv;cases re with
       | @tup q ys es h3 h4=>
         have h3:=eF h3;cases ru;obtain⟨its,vx,pl,hz⟩:=I.tuple (.inl h1);obtain⟨its2,vy,pl2,hz2⟩:=I.tuple (.inl h3);have e1:its.toArray.size=ds.length:=by rw[z9q,<- vx.length,h2.length]
         have e2:its2.toArray.size=es.length:=by rw[z9q,<- vy.length,h4.length]
         have core:SeqAt.RcAt A s (.ref p) (.ref q) (bQ (k+1) (.tup ds) (.tup es))/\SeqAt.RcNeAt A s (.ref p) (.ref q) (!bQ (k+1) (.tup ds) (.tup es)):=by
          have val:bQ (k+1) (.tup ds) (.tup es)=((List.range (min its.toArray.size its2.toArray.size)).all (λj=>match ds[j]?,es[j]? with|some a,some b=>bQ k a b|_,_=>false)&&its.toArray.size==its2.toArray.size):=by
           rw[e1,e2];by_cases hl:ds.length=es.length
           ·rw[<- hl,Nat.min_self,qh (bQ k) ds es hl]
            show(ds.length==es.length&&_)=_;rw[hl];simp
           ·show(ds.length==es.length&&_)=_
            rw[show(ds.length==es.length)=false by simpa using hl];simp
          rw[val];exact⟨.tuples pl pl2 hu (items fd fe h2 h4 vx vy),.tuples pl pl2 hu (items fd fe h2 h4 vx vy)⟩
         refine⟨?_,core.1,core.2⟩;by_cases hpq:p=q
         ·subst hpq
          have ev:bQ (k+1) (.tup ds) (.tup es)=true:=by
           have exy:=kr h1 h3;subst exy;show(ds.length==es.length&&(ds.zip es).all λp=>bQ k p.1 p.2)=true;rw[z8m];refine⟨by rw[<- h2.length,h4.length];simp,z9y.mpr λz hz=>?_⟩;obtain⟨j,hj,ej⟩:=z6w hz;have ej':(ds.zip es)[j]?=some z:=by rw[z9k hj,ej]
           rw[z6q]at ej';exact vN k H (h2.get ej'.1) (h4.get ej'.2) (z9y.mp fd _ (z8a ej'.1)) (z9y.mp fe _ (z8a ej'.2))
          rw[ev];exact .same _
         ·exact .of_refs hpq core.1
       |lst _ _=>cases nb
       |_=>cases nb
     |_=>cases e<;>cases nb
section
variable {es ea eb:p_}{fa fb:FE}{k:Nat}
def vQ(K:K0):R2:=λx y H Q=>∃d e,Rep K H x d/\Rep K H y e/\cH 4 d=true/\cH 4 e=true/\Q (.bl (bQ 4 d e)) H
def vR(K:K0):R2:=λx y H Q=>∃d e,Rep K H x d/\Rep K H y e/\cH 4 d=true/\cH 4 e=true/\Q (.bl (!bQ 4 d e)) H
def mJ(hr:Room k X.A):OpR X (compareOp .Eq) (vQ X.K):=by intro G_ s σ H x y v u Q I rx ry h;obtain⟨d,e,r1,r2,f1,f2,q⟩:=h;have hu:=hr.units;exact(vP I 4 X.A x y v u d e ∅ f1 f2 r1 r2 rx ry).rc X.prog X.w X.xe _ ⟨.bl _,H,I,rfl,q⟩
def vS(hr:Room k X.A):OpR X (compareOp .NotEq) (vR X.K):=by intro G_ s σ H x y v u Q I rx ry h;obtain⟨d,e,r1,r2,f1,f2,q⟩:=h;have hu:=hr.units;exact(vP I 4 X.A x y v u d e ∅ f1 f2 r1 r2 rx ry).ne X.prog X.w X.xe _ ⟨.bl _,H,I,rfl,q⟩
def eqD(d e:D):o_:=if cH 4 d=true/\cH 4 e=true then some (.bl (bQ 4 d e))else none
def neD(d e:D):o_:=if cH 4 d=true/\cH 4 e=true then some (.bl (!bQ 4 d e))else none
def mK(K:K0):OpV K (vQ K) eqD:=by intro x y H dx dy d Q rx ry hg hQ;obtain⟨⟨h1,h2⟩,rfl⟩:=bP hg;exact⟨dx,dy,rx,ry,h1,h2,hQ _ H (Same.refl H) (.bl _) λA _ _ _=>.bl _⟩
def vT(K:K0):OpV K (vR K) neD:=by intro x y H dx dy d Q rx ry hg hQ;obtain⟨⟨h1,h2⟩,rfl⟩:=bP hg;exact⟨dx,dy,rx,ry,h1,h2,hQ _ H (Same.refl H) (.bl _) λA _ _ _=>.bl _⟩
def DP(x y d:D)(h:eqD x y=some d):aW d=true:=by obtain⟨_,rfl⟩:=bP h;rfl
def mL(hr:Room k X.A)(ha:JE X a fa ea)(hb:JE X b fb eb):JE X (.Compare a [.Eq] [b] pos) (e2 eqD fa fb) []:=⟨have ha:=ha.h;have hb:=hb.h;jh (mJ hr) (mK X.K) ha hb (cR _) DP⟩
def ca(hr:Room k X.A)(ha:JE X a fa ea)(hb:JE X b fb eb):JT X (.Compare a [.Eq] [b] pos) (eT (e2 eqD fa fb)):=⟨have ha:=ha.h;have hb:=hb.h;ij (mJ hr) (mK X.K) ha hb (cR _)⟩
def qj(hr:Room k X.A)(ha:JE X a fa ea)(hb:JE X b fb eb):JT X (.Compare a [.NotEq] [b] pos) (eT (e2 neD fa fb)):=⟨have ha:=ha.h;have hb:=hb.h;ij (vS hr) (vT X.K) ha hb (cR _)⟩
def DQ(K:K0)(d:D):W.kitOne K (.type (tyD d)) (.type "int")=some (il "int" (tyD d)):=by cases d<;>first|rfl|kernel_rfl
def DR(K:K0)(d:D):W.kitOne K (.type (tyD d)) (.type "bool")=some (il "bool" (tyD d)):=by cases d<;>first|rfl|kernel_rfl
noncomputable def qk:D->Bool
 |.ptr _=>true
 |_=>false
def DS{T:String}(hk:∀K d,W.kitOne K (.type (tyD d)) (.type T)=some (il T (tyD d))):di X (.builtin "isinstance") (λxs H Q=>∃x d,xs=[x,.ty T]/\Rep X.K H x d/\qk d=false/\Q (.bl (il T (tyD d))) H):=by
 intro G_ s σ H xs us Q I r h;obtain⟨x,d,rfl,rx,np,q⟩:=h;obtain⟨u,w,rfl,ru,rw'⟩:=pb r;cases rw';have fin:∀tk,EP X G_ σ Q (.bool (il T (tyD d))) {s with toks:=tk}:=λtk=>⟨.bl _,H,I.tok tk,rfl,q⟩
 have e:=hk X.K d;cases rx with
 |non=>cases ru;exact z6f W.kitx_none I.kIn True.intro e (λz=>nomatch z) fin
 |bl b=>cases ru;exact z6f W.kitx_bool I.kIn True.intro e (λz=>nomatch z) fin
 |int i=>obtain⟨t,rfl⟩:=ru;exact z6f W.kitx_int I.kIn True.intro e (λz=>nomatch z) fin
 |str i=>obtain⟨t,rfl⟩:=ru;exact z6f W.kitx_str I.kIn True.intro e (λz=>nomatch z) fin
 |lst h1 h2=>cases ru;obtain⟨its,_,⟨o,n,e1,e2,_⟩,_⟩:=I.list (.inl h1);exact z6f W.kitx_list I.kIn ⟨o,e1,e2⟩ e (λz=>nomatch z) fin
 |scr h1=>cases ru;obtain⟨its,_,⟨o,n,e1,e2,_⟩,_⟩:=I.list h1;exact z6f W.kitx_list I.kIn ⟨o,e1,e2⟩ e (λz=>nomatch z) fin
 |tup h1 h2=>cases ru;obtain⟨its,_,⟨o,e1,e2,_⟩,_⟩:=I.tuple (.inl (eF h1));exact z6f W.kitx_tuple I.kIn ⟨o,e1,e2⟩ e (λz=>nomatch z) fin
 |dct h1=>cases ru;obtain⟨_,_,vs,_,o,es,ep,e1,e2,_⟩:=j8 I.hok h1.rd;exact z6f W.kitx_dict I.kIn ⟨o,e1,e2.1⟩ e (λz=>nomatch z) fin
 |ptr a=>cases np
def iu(T:String):D->o_:=λd=>if qk d=true then none else some (.bl (il T (tyD d)))
theorem vU{T:Str}{TS:String}(hk:∀K d,W.kitOne K (.type (tyD d)) (.type TS)=some (il TS (tyD d)))(hT:bootBuiltins T=some (.type TS))(mi:X.mg "isinstance"=none)(mt:X.mg T=none)(ha:JE X a fa ea)(hg:Gl X "isinstance"<|>J7)(hgT:Gl X T<|>J7)(hn:T ≠ "__name__"<|>J8)(hd:DB T<|>J8)(hs:SE a [.Name T p2] X<|>J7)(hs2:starEach [.Name T p2] X.env=(false,eval (.Name T p2) X.env)::starEach [] X.env<|>J7)(hpl:BT pos [.Name T p2] X<|>J7):
  JE X (.Call (.Name "isinstance" p) [a,.Name T p2] [] pos) (e1 (iu TS) fa) []:=⟨have ha:=ha.h;
 dX (pw (DS hk) hg mi (by decide +kernel) (bM ha (bM (BD (v:=.ty TS) hgT mt hT rfl hn hd) c7 hs2) hs) (by decide) (by decide) hs hpl) λσ H Q U d hE hf hQ=>by
  obtain⟨dx,h1,hf⟩:=bind_some hf;cases np:qk dx with
  |true=>simp only[iu,np]at hf;cases hf
  |false=>
  simp only[iu,np]at hf;cases hf;exact⟨U,dx,hE,h1,λx H1 p1=>⟨x,dx,rfl,p1.rep,np,hQ _ H1 ⟨p1.same,.bl _,λA _ _=>.bl _⟩⟩⟩⟩
noncomputable def iw:n_->Option g_
 |[]=>some []
 |.bl b::r=>(iw r).map (b::·)
 |_::_=>none
theorem vV:∀{ds:n_} {bs:g_},iw ds=some bs->ds=bs.map D.bl
 |[],bs,h=>by cases h;rfl
 | .bl i::r,bs,h=>by
   simp only[iw]at h;cases e:iw r with
   |none=>rw[e]at h;cases h
   |some ms=>rw[e]at h;cases h;rw[vV e];rfl
 |.non::_,_,h=>by cases h
 |.int _::_,_,h=>by cases h
 |.str _::_,_,h=>by cases h
 |.lst _::_,_,h=>by cases h
 |.tup _::_,_,h=>by cases h
 |.scr _::_,_,h=>by cases h
theorem vW{K:K0}{H:Hp}:∀{bs:g_} {xs:l_},Reps K H xs (bs.map D.bl)->xs=bs.map V.bl
 |[],xs,h=>by cases h;rfl
 | n::ns,xs,h=>by
   cases h with
   |cons h1 h2=>cases h1;rw[vW h2];rfl
def DT{bs:g_}(h:Vals (bs.map V.bl) us):us=bs.map Value.bool:=by
 induction bs generalizing us with
 |nil=>cases h;rfl
 | cons b r ih=>
   cases h with
   |cons h1 h2=>cases h1;rw[ih h2];rfl
def DU(bs:g_):((List.range bs.length).all λi=>(bs[i]?).getD true)=bs.all id:=by
 rw[z4n,z9y,z9y];constructor
 ·intro h b hb
  obtain⟨i,hi,rfl⟩:=z6w hb;have:=h i (z7e.mpr hi);simpa [z9k hi]using this
 ·intro h i hi
  have hi':=z7e.mp hi;simpa [z9k hi']using h _ (z9s hi')
def DV(hc:X.calm=true):di X (.builtin "all") (λxs H Q=>∃(q:Addr) (bs:g_),xs=[.ref q]/\SqL X.K H q (bs.map V.bl)/\Q (.bl (bs.all id)) H):=by
 intro G_ s σ H xs us Q I r h;obtain⟨q,bs,rfl,hq,hQ⟩:=h;obtain⟨u,rfl,ru⟩:=dH r;cases ru;obtain⟨its,rv,pl,hz⟩:=I.list hq;have ei:=DT rv;have hl:=pl.isList;have hlt:q<s.heap.objs.size:=by obtain⟨_,e,_⟩:=hl;exact z9m e
 refine call_all_walk (wpAny_pyIter_list hl ⟨s.heap.objs.size,[s.heap.objs.size,q],[s.heap.objs.size],its.toArray.size,_,_,λi=>(bs[i]?).getD true,rfl,Walks.list (A:=X.A.in1) (I.ok.hd hc) _ q (z8q hlt) its.toArray,
  ⟨⟨_,z8l _ rfl,rfl,rfl⟩,hl.push _⟩,λi v s' Q' E' hP hQ'=>?_,λh' tk hk=>?_⟩)
 ·have hP':its[i]?=some v:=by simpa using hP
  rw[ei,z9z]at hP';cases e:bs[i]? with
  |none=>rw[e]at hP';cases hP'
  |some b=>rw[e]at hP';cases hP';simp only[e,z7b]at hQ';exact z6g hQ'
 ·have e:its.toArray.size=bs.length:=by rw[z9q,ei,z9b]
  rw[e,DU];refine⟨.bl _,H,I.kept (t':=tk) λb o z=>hk b o (λhm=>?_) (z9l _ z),rfl,hQ⟩;rw[z8b.mp hm]at z;exact z7x _ (z9m z)
def gO(g:g_->Bool):D->o_
 |.lst ds=>(iw ds).bind λbs=>some (.bl (g bs))
 |_=>none
def DW(g:g_->Bool):fH X.K (λxs H Q=>∃(q:Addr) (bs:g_),xs=[.ref q]/\SqL X.K H q (bs.map V.bl)/\Q (.bl (g bs)) H) (ar (gO g)):=by
 intro xs H ds d Q r hg hQ;obtain⟨x,rfl,hg1⟩:=gL hg;obtain⟨v,rfl,r1⟩:=f9 r;cases x with
 |lst es=>obtain⟨bs,h2,hg3⟩:=bind_some hg1;cases hg3;obtain⟨q,ys,rfl,hq,hx,_⟩:=gJ r1;rw[vV h2]at hx;rw[vW hx]at hq;exact⟨q,bs,rfl,.inl hq,hQ _ λH'=>.bl _⟩
 |_=>cases hg1
def mM{as:FEs}(hc:X.calm=true)(ml:X.mg "all"=none)(ha:JA X [a] as es)(hg:Gl X "all"<|>J7)(he:SE a [] X<|>J7)(hpl:BT pos [] X<|>J7):
  JE X (.Call (.Name "all" p) [a] [] pos) (eA (ar (gO λbs=>bs.all id)) as) []:=⟨have ha:=ha.h;jn (DV hc) (DW _) ml PyProof.Rows.boot_all ha hg (by decide) (by decide) he hpl⟩
end
section
variable {g:TG}{un:D->Option n_}{fi:FEs}{ei ee:p_}{c:ag->k_}{fe:FE}
def dc:PTs X [] (tvT X.K c4):=λG_ s σ H Q I h=>by obtain⟨U,b,_,hb,hQ⟩:=h;cases hb;exact kO G_ s σ H Q I (hQ H (Same.refl H))
def dm(B:BlkOk X scope own J3 cn)(hc:X.calm=true)(hi:JI X tg iter fi ei)(hg:∀s H cl ex,PG (blk X (own++cn) s H scope cl ex) tg g)(hgv:TgV X.K g is un)(his:∀i∈is,i<own.length)(ht:∀s H cl ex,PTs (blk X (own++cn) s H scope cl ex) ifs (tvT X.K c))(he:∀s H cl ex,JE (blk X (own++cn) s H scope cl ex) elt fe ee)(hs:(∀x,foldedSetIterable iter X.env x=pure x)<|>Q0):
  JF X (.ListComp elt [⟨tg,iter,ifs,0⟩] scope pos) (bW own.length J3 is un fi c fe) (esC own.length J3 ei ee):=⟨by
 have hi:=hi.h;have he:=(λs H cl ex=>(he s H cl ex).h);intro G_ s σ H Q I h;obtain⟨cl,hclos,hcl,hha⟩:=qb (scope:=scope) (env:=X.env) λx hx hf=>I.ok.has x.1 (B.free x hx hf)
 rw[eval_ListComp];refine z5u (use:=none) rfl hs hclos B.kind B.locals (qd B hc hi hg ht he I (vL hgv his h) hcl hha (RR:=λacc C=>compPost (model X.prog X.w) X.A X.xe none (EP X G_ σ Q) acc C) λd c ys H' s' af q=>?_);obtain⟨m,hm⟩:=af.ns;obtain⟨f0,f1,_,f3,f4,f5⟩:=af.cf;refine⟨m,hm,λh' sb=>⟨.ref d,_,af.inv.turned (t':=s'.toks) (it:=c) (λb o hb e=>(sb.2 b hb).trans e) f0 f1 f3 f4 f5,rfl,q⟩⟩⟩
def DX(i:Nat)(hN:X.N.Nodup)(B:BlkOk X scope own J3 cn)(hc:X.calm=true)(hi:VI X tg iter fi ei)(hg:∀s H cl ex,PG (blk X (own++cn) s H scope cl ex) tg g)(hgv:TgV X.K g is un)(his:∀i∈is,i<own.length)(ht:∀s H cl ex,PTs (blk X (own++cn) s H scope cl ex) ifs (tvT X.K c))(he:∀s H cl ex,VE (blk X (own++cn) s H scope cl ex) elt fe ee)(hsw:swapsWith (.ListComp elt [⟨tg,iter,ifs,0⟩] scope pos) (some (.Name x p2)) spos.line X.env=pure true)(hxi:X.N[i]?=some x)(hx:Loc X.env.scope x)(hfn:X.fn x=true\/X.env.scope.names.lookup x=some .local)(hs:(∀x,foldedSetIterable iter X.env x=pure x)<|>Q0):
  PS X (.Assign [.Name x p2] (.ListComp elt [⟨tg,iter,ifs,0⟩] scope pos) spos) (oR (tvF X.K (bW own.length J3 is un fi c fe) (esC own.length J3 ei ee)) (cq i)):=by
 intro G_ s σ H De I h;obtain⟨cl,hclos,hcl,hha⟩:=qb (scope:=scope) (env:=X.env) λx hx hf=>I.ok.has x.1 (B.free x hx hf)
 rw[exec_Assign_Name_used _ _ _ _ hsw];refine z9o (wpAny_standAt (z9o ?_));show wpAny _ X.A (do let _ <- comprehension (.ListComp elt [⟨tg,iter,ifs,0⟩] scope pos) scope X.env _ (newList []) false (eval iter X.env) (some (assign (.Name x p2) X.env))) _ _ s;refine z9o (z8p (z5u (use:=some (assign (.Name x p2) X.env)) (Q:=λ_ s'=>SP X G_ De .next s') rfl hs hclos B.kind B.locals
  (qd B hc hi hg ht he I (vL hgv his h) hcl hha (RR:=λacc C=>compPost (model X.prog X.w) X.A X.xe (some (assign (.Name x p2) X.env)) (λ_ s'=>SP X G_ De .next s') acc C) λd c ys H' s' af q=>?_)) (λ_ s' hq=>z8n (z8n hq)) λ_ _ e=>e)
 obtain⟨m,hm⟩:=af.ns;obtain⟨f0,f1,_,f3,f4,f5⟩:=af.cf;show wpAny _ X.A (assign (.Name x p2) X.env (.ref d)) _ _ _;refine wpAny_assign_Name (tM af.inv hN hxi hx (show RelV (.ref d) (.ref d)from rfl) (λs2 I2 y0=>?_) hfn);obtain⟨a,sb,ha⟩:=y0;have ac:c≠a:=by
  rcases ha with z|z
  ·exact λe=>f1 (e.trans z)
  ·exact λe=>f4 x a z e.symm
 refine⟨m,hm.sameBut sb ac,λh' sb'=>⟨_,_,I2.turned (t':=s2.toks) (it:=c) (λb o hb e=>(sb'.2 b hb).trans e) f0 f1 f3 f4 f5,q⟩⟩
end
def Def(P:Program)(w:World)(K:K0)(mg:Str->i_)(base:Heap)(x:Str)(k:Nat)(ps:z0)(G:n_->o_)(fr:Bool):Prop:=
 ∃f fd,FnOk P w K mg base CX0 k f fd ps (spF K G fr)/\mg x=some (.ref f)/\W.keepIn K (.ref f)=true/\Binds K fd ps []
def scF(G:n_->o_):n_->o_:=λds=>(G ds).bind λd=>if aW d=true then some d else none
def vX{G:n_->o_}{ds:n_}{d:D}(h:scF G ds=some d):G ds=some d/\aW d=true:=by obtain⟨e,h1,h2⟩:=bind_some h;obtain⟨h3,rfl⟩:=bP h2;exact⟨h1,h3⟩
section
variable {k:Nat}{G:n_->o_}
theorem Def.sc(h:Def P w K mg base x k ps G fr):Def P w K mg base x k ps (scF G) fr:=
 let⟨f,fd,F,m,kp,b⟩:=h
 ⟨f,fd,F.imp λvs H Q E y0=>by obtain⟨ds,d,r,hg,q⟩:=y0;exact⟨ds,d,r,(vX hg).1,q⟩,m,kp,b⟩
theorem Def.mono(h:Def P w K mg base x j ps G fr)(hk:j<=k<|>J8):Def P w K mg base x k ps G fr:=
 let⟨f,fd,F,m,kp,b⟩:=h
 ⟨f,fd,F.mono hk,m,kp,b⟩
theorem DY{body:FS}(O' OL:y9)(h1:ps.length=np)(h2:N.length=n)(h3:G=mkF fr np n body)(Fn:Fun K x qual st f fd)(S:FnScope N ps (am st))(h:∀(cdv:Value) (A:Around) (outer:List PySem.Env) (s:Shared) (H:Hp) (E:XK) (F:Fr0),F.n=n->Room k (A.deeper (envOfC qual (am st) s.heap.objs.size f cdv)) ->
   VSs (cM CX0 P w K mg base N qual (am st) f cdv A outer s H E).nox F [] (cU st) body O' OL fr):
  FnOk P w K mg base CX0 (k+1) f fd ps (spF K G fr):=by
 subst h1 h2 h3;exact DH Fn S h
end
section
variable {k:Nat}{G:n_->o_}{as:FEs}{es:p_}
def vY(d:Def X.prog X.w X.K X.mg X.base x k ps G fr)(hr:Room k X.A)(ha:VA X (e::es') as es)(hg:Gl X x<|>J7)(hdb:DB x<|>J8)(he:SE e es' X<|>J7)(hpl:BT pos es' X<|>J7):
  VE X (.Call (.Name x p) (e::es') [] pos) (eA G as) es:=
 let⟨_,_,F,m,kp,b⟩:=d
 DJ F hr m kp b ha hg hdb he hpl
def iy(d:Def X.prog X.w X.K X.mg X.base x k ps G true)(hr:Room k X.A)(ha:JA X (e::es') as es)(hg:Gl X x<|>J7)(hdb:DB x<|>J8)(he:SE e es' X<|>J7)(hpl:BT pos es' X<|>J7):
  JF X (.Call (.Name x p) (e::es') [] pos) (eA G as) es:=⟨have ha:=ha.h;
 let⟨_,_,F,m,kp,b⟩:=d
 DK F hr m kp b ha hg hdb he hpl⟩
def bz(d:Def X.prog X.w X.K X.mg X.base x k ps (scF G) fr)(hr:Room k X.A)(ha:JA X (e::es') as es)(hg:Gl X x<|>J7)(hdb:DB x<|>J8)(he:SE e es' X<|>J7)(hpl:BT pos es' X<|>J7):
  JE X (.Call (.Name x p) (e::es') [] pos) (eA (scF G) as) []:=⟨have ha:=ha.h;
 jd (vY d hr ha hg hdb he hpl) λU d h=>by obtain⟨ds,_,h2⟩:=bind_some h;exact(vX h2).2⟩
end
noncomputable def ql:D->Bool
 |.non=>true
 |_=>false
def cX:D->o_:=λd=>some (.bl (ql d))
def dJ:D->o_:=λd=>some (.bl (!ql d))
def qm:D->D->o_
 |d,.non=>cX d
 |_,_=>none
def mO:D->D->o_
 |d,.non=>dJ d
 |_,_=>none
def vZ{d:D}(r:Rep K H v d):decide (v=.non)=ql d:=by cases r<;>rfl
def w5(K:K0):OpV K (λx y H Q=>y=.non/\Q (.bl (decide (x=.non))) H) qm:=λx y H dx dy d Q rx ry hg q=>by
 cases dy<;>first|(cases hg;done)|skip
 cases ry;have hg:some (D.bl _)=some d:=hg;cases hg;refine⟨rfl,q _ _ (Same.refl H) ?_ λA _ _ _=>?_⟩<;>(rw[vZ rx];exact .bl _)
def qo(K:K0):OpV K (λx y H Q=>y=.non/\Q (.bl (!decide (x=.non))) H) mO:=λx y H dx dy d Q rx ry hg q=>by
 cases dy<;>first|(cases hg;done)|skip
 cases ry;have hg:some (D.bl _)=some d:=hg;cases hg;refine⟨rfl,q _ _ (Same.refl H) ?_ λA _ _ _=>?_⟩<;>(rw[vZ rx];exact .bl _)
section
variable {fa:FE}{ea:p_}
def DZ(x y d:D)(h:mO x y=some d):aW d=true:=by cases y<;>first|(cases h;done)|(have h:some (D.bl _)=some d:=h;cases h;rfl)
def E2(fa:FE):e2 qm fa (eC .non)=e1 cX fa:=by funext U;unfold e2 e1 eC;cases fa U<;>rfl
def w6(fa:FE):e2 mO fa (eC .non)=e1 dJ fa:=by funext U;unfold e2 e1 eC;cases fa U<;>rfl
def mP{j}(ha:JE X a fa ea):JT X (.Compare a [.Is] [.Constant .none j p2] pos) (eT (e1 cX fa)):=⟨by have ha:=ha.h;rw[<- E2];exact ij uf (w5 X.K) ha jc (cR _)⟩
def E3{j}(ha:JE X a fa ea):JE X (.Compare a [.IsNot] [.Constant .none j p2] pos) (e1 dJ fa) []:=⟨by have ha:=ha.h;rw[<- w6];exact jh oX (qo X.K) ha jc (cR _) DZ⟩
def mQ{j}(ha:JE X a fa ea):JT X (.Compare a [.IsNot] [.Constant .none j p2] pos) (eT (e1 dJ fa)):=⟨by have ha:=ha.h;rw[<- w6];exact ij oX (qo X.K) ha jc (cR _)⟩
def w8{ds:n_}(r:Rep K H v (.tup ds)):∃p xs,v=V.ref p/\H p=some (.tup xs)/\Reps K H xs ds:=by
 cases r with
 |@tup p xs _ h1 h2=>exact⟨p,xs,rfl,h1,h2⟩
def E4{ds:n_}(r:Rep K H v (.tup ds)):∃p xs,v=V.ref p/\Rd H p (.tup xs)/\Reps K H xs ds:=by
 cases r with
 |@tup p xs _ h1 h2=>exact⟨p,xs,rfl,.inl h1,h2⟩
def E5{p:Addr}{ds:n_}{A:Addr->Prop}(h:Rd H p (.tup xs))(r:Rep K (ao H A) (.ref p) (.tup ds)):Reps K (ao H A) xs ds:=by obtain⟨q,ys,e,h1,h2⟩:=E4 r;cases e;rw[kr h (dI (aP _ _) h1)];exact h2
end
def bX(d:D):Option n_:=if dj d=true then none else items d
def kQ(t:Nat)(it:FE)(tb:FS):FS:=λU=>(it U).bind λd=>(bX d).bind λds=>br (λx U=>tb (U.set t (some x))) ds.reverse U
def qp:D->o_:=λd=>(bX d).bind λds=>some (.lst ds.reverse)
noncomputable def dL(ds:n_):n_:=ds.zipIdx.map λp=>.tup [.int (p.2:Nat),p.1]
noncomputable def dM(ds es:n_):n_:=(ds.zip es).map λp=>.tup [p.1,p.2]
def kR(a:FE):FEs:=λU=>(a U).bind λd=>(bX d).bind λds=>some (dL ds)
def kS(a b:FE):FEs:=λU=>(a U).bind λd=>(b U).bind λe=>(bX d).bind λds=>(bX e).bind λes=>some (dM ds es)
noncomputable def gP(t u:Nat)(tb:FS):D->FS:=λx U=>match x with
 |.tup [a,b]=>tb ((U.set t (some a)).set u (some b))
 |_=>none
def mR(t u:Nat)(it:FE)(tb:FS):FS:=λU=>(it U).bind λd=>(bX d).bind λds=>br (gP t u tb) (dL ds) U
def mS(t u:Nat)(it it':FE)(tb:FS):FS:=λU=>(it U).bind λd=>(it' U).bind λe=>(bX d).bind λds=>(bX e).bind λes=>br (gP t u tb) (dM ds es) U
def iz(i:Nat)(ix f:FE):FS:=λU=>(a5 i U).bind λx=>match x with
 | .lst ds=>(ix U).bind λk=>match k with
   |.int k=>(f U).bind λd=>if ds.length<100000/\0<=k/\k<100000 then some (.nx (U.set i (some (.lst (ds.insertIdx (min k.toNat ds.length) d)))))else none
   |_=>none
 |_=>none
def qq(I:Inv X G_ σ H s)(k:∀b o,b∉ch->s.heap.get? b=some o->h'.get? b=some o)(hf:∀b∈ch,cE X G_ H b):
  Inv X G_ σ H {s with heap:=h',toks:=t'}:=by
 have nit:∀b u,H b=some u->b∉ch:=λb u e z=>by rw[(hf b z).1]at e;cases e
 have hL:X.env.locals∉ch:=λz=>(hf _ z).2.1 rfl
 refine I.step (g':=s.gens) (d':=s.drawn) (ch:=ch) (λb hb=>?_) (λb o _ _ hc e _=>k b o hc e) (λb o _ _ hc e _=>⟨o.slots,k b o hc e⟩) (λ_ _ _ _ n=>n)
  (λb o hc e=>⟨o,k b o hc e⟩) (λ_ _ e=>e) (λ_ _ _ e=>e) (λb ps e=>⟨#[],by rw[e];simp⟩) (λm hm=>?_) (λb u e=>?_) I.bare
 ·obtain⟨f0,f1,f2,f3,f4,f5⟩:=hf b hb
  exact⟨f3,f1,f4,f5⟩
 ·obtain⟨o,es,ep,ho,r⟩:=hm
  exact⟨o,es,ep,k _ o hL ho,r⟩
 ·refine(I.hok b u e).stay (λc v hc q=>k c v ?_ q) (λ_ q=>q) λ_ _ q=>q
  rcases hc with z|z
  ·rw[z];exact nit b u e
  ·exact nit c _ z
def qr{T:Addr}(I:Inv X G_ σ H s)(hf:cE X G_ H T)(new:ObjOk X.prog X.w (upd H T o) s.heap T o):Inv X G_ σ (upd H T o) s:=by
 obtain⟨f0,f1,f2,f3,f4,f5⟩:=hf;have key:=I.step (h':=s.heap) (H':=upd H T o) (g':=s.gens) (d':=s.drawn) (t':=s.toks) (ch:=[T]) (λb hb=>?_) (λb o _ _ hc e _=>e) (λb o _ _ hc e _=>⟨o.slots,e⟩) (λb o' hc e n=>by rw[aE (by simpa using hc)];exact n)
  (λb o hc e=>⟨o,e⟩) (λb xs e=>by rw[aE (c6 e f0)];exact e) (λb o u e=>by rw[aE (c6 e f0)];exact e) (λb ps e=>⟨#[],by rw[aE (c6 e f0),e];simp⟩) (λm hm=>hm) (λb u e=>?_) I.bare
 ·exact key
 ·have e:b=T:=by simpa using hb
  subst e;exact⟨f3,f1,f4,f5⟩
 ·by_cases hb:b=T
  ·subst hb;rw[bn]at e;cases e;exact new
  ·rw[aE hb]at e
   exact(I.hok b u e).stay (λc v _ q=>q) (λc q=>by rw[aE (c6 q f0)];exact q) λc xs q=>by rw[aE (c6 q f0)];exact q
noncomputable def Itv(K:K0)(a:Addr)(n:Nat):It:=
 ⟨λi H=>∃xs x,SqL K H a xs/\xs.length=n/\i<n/\xs[n-1-i]?=some x,λi H x H'=>H'=H/\∀xs,SqL K H a xs->xs[n-1-i]?=some x,λi H=>i=n⟩
def E6(a it:Addr)(n:Nat):Turn P w K tg (Itv K a n) [it] it (λi h=>h.IsRevIter it a ((n:Int)-1-(i:Nat))) where
 mem:=by simp
 obj:=λi h st b hb=>by
  have e:b=it:=by simpa using hb
  subst e;obtain⟨o,e,c,d⟩:=st;exact⟨o,e,λv z=>by rw[d]at z;cases z⟩
 keep:=λi h h' st k=>st.at λo e=>k it (by simp) o e
 item:=by
  intro X hP hw hK hc i G_ s σ H E I hf st hg;subst hP hw hK;obtain⟨xs,x,hq,hn,hi,hx⟩:=hg;obtain⟨its,rv,p,hz⟩:=I.list hq;obtain⟨u,hu,ru⟩:=rv.get hx;obtain⟨f0,f1,f2,f3,f4,f5⟩:=hf it (by simp);have st':s.heap.IsRevIter it a ((n-1-i:Nat):Int):=by
   have e:((n-1-i:Nat):Int)=(n:Int)-1-(i:Nat):=by ext
   rw[e];exact st
  refine wpAny_pyNext_rev_item st' p.isList (x:=u) (by simpa using hu) λh' st2 sb=>?_
  have I1:Inv X G_ σ H {s with heap:=h'}:=I.turned (t':=s.toks) (λb o hb e=>(sb.2 b hb).trans e) f0 f1 f3 f4 f5;obtain⟨o,e,c,d⟩:=id st2;refine⟨u,rfl,j3 (s:={s with heap:=h'}) e c d (by decide) ⟨x,H,I1,ru,⟨rfl,λys hy=>by rw[I.list_inj hy hq];exact hx⟩,?_,λb hb=>(hf b hb).1⟩⟩;have e:(n:Int)-1-((i+1:Nat):Int)=((n-1-i:Nat):Int)-1:=by ext
  show h'.IsRevIter it a ((n:Int)-1-((i+1:Nat):Int));rw[e];exact st2
 done:=by
  intro X hP hw hK hc i G_ s σ H E I hf st hg;subst hP hw hK;have hg:i=n:=hg;subst hg;obtain⟨f0,f1,f2,f3,f4,f5⟩:=hf it (by simp);have st':s.heap.IsRevIter it a (-1):=by
   have e:(-1:Int)=(i:Int)-1-(i:Nat):=by ext
   rw[e];exact st
  exact wpAny_pyNext_rev_end (I.ok.hd hc) st' λh' eb=>⟨rfl,I.turned (t':=s.toks) (λb o hb e=>eb b o hb e) f0 f1 f3 f4 f5⟩
 self:=λ_ _ _ _ _ st h=>wpAny_pyIter_revIter st h
def Ite(K:K0)(a:Addr):It:=
 ⟨λi H=>∃xs x,SqL K H a xs/\xs[i]?=some x,λi H x H'=>∃T y,H T=none/\x=.ref T/\H'=upd H T (.tup [.int (i:Nat),y])/\∀xs,SqL K H a xs->xs[i]?=some y,λi H=>∃xs,SqL K H a xs/\xs.length<=i⟩
def qt(I:Inv X G_ σ H s):cE X G_ H s.heap.objs.size:=I.fpOk (z9i _) (I.hok.fresh (z9i _))
def E7(a e it:Addr)(hei:e≠it):Turn P w K (.Tuple elts ek ep) (Ite K a) [e,it] e (λi h=>(∃old,IsEnum h e it (i:Nat) old)/\h.IsListIter it a i) where
 mem:=by simp
 obj:= λi h st b hb=>by
  obtain⟨⟨old,he⟩,hit⟩:=st;have e:b=e\/b=it:=by simpa using hb
  rcases e with rfl|rfl
  ·exact⟨_,he,λv z=>by have z':Data.fields _=Data.cell v:=z;cases z'⟩
  ·obtain⟨o,e,c,d⟩:=hit
   exact⟨o,e,λv z=>by rw[d]at z;cases z⟩
 keep:=λi h h' st k=>⟨let⟨old,he⟩:=st.1;⟨old,k e (by simp) _ he⟩,st.2.at λo q=>k it (by simp) o q⟩
 item:=by
  intro X hP hw hK hc i G_ s σ H E I hf st hg;subst hP hw hK;obtain⟨⟨old,he⟩,hit⟩:=st;obtain⟨xs,x,hq,hx⟩:=hg;obtain⟨its,rv,p,hz⟩:=I.list hq;obtain⟨u,hu,ru⟩:=rv.get hx;have fT:=qt I;have hsz:∀b∈[e,it],b<s.heap.objs.size:=λb hb=>by
   have:b=e\/b=it:=by simpa using hb
   rcases this with rfl|rfl
   ·exact z9m he
   ·obtain⟨o,q,_⟩:=hit;exact z9m q
  refine wpAny_pyNext_enum_item he hit p.isList (x:=u) (by simpa using hu) hei λh' ho hit' hT hs' hk=>?_
  refine⟨_,rfl,wpAny_letOwnedTupleGo_enum (s:={s with heap:=h',toks:=s.toks+1}) ho λh2 he2 hs2=>?_⟩;have hT2:h2.get? s.heap.objs.size=some {cls:=.type "tuple",data:=.seq #[.int i s.toks,u]}:=(hs2.2 _ (z4i (hsz e (by simp)))).trans hT;have I1:Inv X G_ σ H {s with heap:=h2,toks:=s.toks+1}:=qq I (λb o hb q=>(hs2.2 b λz=>hb (by simp[z])).trans (hk b o (λz=>hb (by simp[z])) (λz=>hb (by simp[z])) q)) hf;have I2:=qr (o:=.tup [.int (i:Nat),x]) I1 fT ⟨show 2<=sizeLine by decide,[.int i s.toks,u],.cons ⟨_,rfl⟩ (.cons ru .nil),⟨_,hT2,rfl,_,rfl⟩⟩;refine⟨.ref s.heap.objs.size,_,I2,rfl,⟨s.heap.objs.size,x,fT.1,rfl,rfl,λys hy=>by rw[I.list_inj hy hq];exact hx⟩,⟨⟨u,?_⟩,?_⟩,λb hb=>?_⟩
  ·have q:((i+1:Nat):Int)=(i:Int)+1:=by ext
   show IsEnum h2 e it ((i+1:Nat):Int) u;rw[q];exact he2
  ·exact hit'.at λo q=>(hs2.2 it hei.symm).trans q
  ·rw[aE (z8q (hsz b hb))];exact(hf b hb).1
 done:=by intro X hP hw hK hc i G_ s σ H E I hf st hg;subst hP hw hK;obtain⟨⟨old,he⟩,hit⟩:=st;obtain⟨xs,hq,hx⟩:=hg;obtain⟨its,rv,p,hz⟩:=I.list hq;have hl:=rv.length;obtain⟨f0,f1,f2,f3,f4,f5⟩:=hf it (by simp);exact wpAny_pyNext_enum_end (I.ok.hd hc) he hit p.isList (z5y (by simp;ext)) λh' eb=>⟨rfl,I.turned (t':=s.toks) (λb o hb e=>eb b o hb e) f0 f1 f3 f4 f5⟩
 self:=λ_ _ _ _ _ st h=>let⟨⟨_,he⟩,_⟩:=st;wpAny_pyIter_enum he h
def Itz(K:K0)(l1 l2:Addr):It:=
 ⟨λi H=>∃xs ys x y,SqL K H l1 xs/\SqL K H l2 ys/\xs[i]?=some x/\ys[i]?=some y,
  λi H v H'=>∃T x y,H T=none/\v=.ref T/\H'=upd H T (.tup [x,y])/\∀xs ys,SqL K H l1 xs->SqL K H l2 ys->xs[i]?=some x/\ys[i]?=some y,
  λi H=>∃xs ys,SqL K H l1 xs/\SqL K H l2 ys/\(xs.length<=i\/ys.length<=i)⟩
def E8(l1 l2 z TI TO i1 i2:Addr)(D:ZipApart z TI TO i1 i2 l1 l2):
  Turn P w K (.Tuple elts ek ep) (Itz K l1 l2) [z,TI,TO,i1,i2] z (λi h=>IsZip h z TI TO .none/\IsPair h TI (.ref i1) (.ref i2)/\(∃a b,IsPair h TO a b)/\h.IsListIter i1 l1 i/\h.IsListIter i2 l2 i) where
 mem:=by simp
 obj:= λi h st b hb=>by
  obtain⟨hz,hTI,⟨a,b',hTO⟩,h1,h2⟩:=st;have e:b=z\/b=TI\/b=TO\/b=i1\/b=i2:=by simpa using hb
  rcases e with rfl|rfl|rfl|rfl|rfl
  ·exact⟨_,hz,λv z=>by have z':Data.fields _=Data.cell v:=z;cases z'⟩
  ·exact⟨_,hTI,λv z=>by have z':Data.seq _ _=Data.cell v:=z;cases z'⟩
  ·exact⟨_,hTO,λv z=>by have z':Data.seq _ _=Data.cell v:=z;cases z'⟩
  ·obtain⟨o,e,c,d⟩:=h1
   exact⟨o,e,λv z=>by rw[d]at z;cases z⟩
  ·obtain⟨o,e,c,d⟩:=h2
   exact⟨o,e,λv z=>by rw[d]at z;cases z⟩
 keep:=λi h h' st k=>by obtain⟨hz,hTI,⟨a,b',hTO⟩,h1,h2⟩:=st;exact⟨k z (by simp) _ hz,k TI (by simp) _ hTI,⟨a,b',k TO (by simp) _ hTO⟩,h1.at λo q=>k i1 (by simp) o q,h2.at λo q=>k i2 (by simp) o q⟩
 item:=by
  intro X hP hw hK hc i G_ s σ H E I hf st hg;subst hP hw hK;obtain⟨hz,hTI,⟨a,b',hTO⟩,h1,h2⟩:=st;obtain⟨xs,ys,x,y,hq1,hq2,hx,hy⟩:=hg;obtain⟨its1,rv1,p1,hz1⟩:=I.list hq1;obtain⟨its2,rv2,p2,hz2⟩:=I.list hq2;obtain⟨u,hu,ru⟩:=rv1.get hx;obtain⟨v,hv,rv⟩:=rv2.get hy;have fT:=qt I;have hsz:∀b∈[z,TI,TO,i1,i2],b<s.heap.objs.size:=λb hb=>by
   have e:b=z\/b=TI\/b=TO\/b=i1\/b=i2:=by simpa using hb
   rcases e with rfl|rfl|rfl|rfl|rfl
   ·exact z9m hz
   ·exact z9m hTI
   ·exact z9m hTO
   ·obtain⟨o,q,_⟩:=h1;exact z9m q
   ·obtain⟨o,q,_⟩:=h2;exact z9m q
  refine wpAny_pyNext_zip_item D hz hTI hTO h1 h2 p1.isList p2.isList (x:=u) (y:=v) (by simpa using hu) (by simpa using hv) λh' hz' hTO' h1' h2' hT hs' hk=>?_
  refine⟨_,rfl,wpAny_letOwnedTupleGo_zip (s:={s with heap:=h'}) hz' λh3 hz3 hs3=>?_⟩;have hT3:IsPair h3 s.heap.objs.size u v:=(hs3.2 _ (z4i (hsz z (by simp)))).trans hT;have I1:Inv X G_ σ H {s with heap:=h3,toks:=s.toks}:=qq I (λb o hb q=>(hs3.2 b λz=>hb (by simp[z])).trans (hk b o (λz=>hb (by simp[z])) (λz=>hb (by simp[z])) (λz=>hb (by simp[z])) (λz=>hb (by simp[z])) q)) hf;have I2:=qr (o:=.tup [x,y]) I1 fT ⟨show 2<=sizeLine by decide,[u,v],.cons ru (.cons rv .nil),⟨_,hT3,rfl,_,rfl⟩⟩;refine⟨.ref s.heap.objs.size,_,I2,rfl,⟨s.heap.objs.size,x,y,fT.1,rfl,rfl,λas bs ha hb=>⟨by rw[I.list_inj ha hq1];exact hx,by rw[I.list_inj hb hq2];exact hy⟩⟩,⟨hz3,?_,⟨u,v,?_⟩,?_,?_⟩,λb hb=>?_⟩
  ·exact(hs3.2 TI D.TIz).trans (hk TI _ D.TIz D.TITO D.TIi1 D.TIi2 hTI)
  ·exact(hs3.2 TO D.TOz).trans hTO'
  ·exact h1'.at λo q=>(hs3.2 i1 D.i1z).trans q
  ·exact h2'.at λo q=>(hs3.2 i2 D.i2z).trans q
  ·rw[aE (z8q (hsz b hb))];exact(hf b hb).1
 done:=by
  intro X hP hw hK hc i G_ s σ H E I hf st hg;subst hP hw hK;obtain⟨hz,hTI,⟨a,b',hTO⟩,h1,h2⟩:=st;obtain⟨xs,ys,hq1,hq2,hx⟩:=hg;obtain⟨its1,rv1,p1,hz1⟩:=I.list hq1;obtain⟨its2,rv2,p2,hz2⟩:=I.list hq2;have l1:=rv1.length;have l2:=rv2.length;refine wpAny_pyNext_zip_end (I.ok.hd hc) D hz hTI hTO h1 h2 p1.isList p2.isList (hx.imp (λq=>z5y (by simp;ext)) λq=>z5y (by simp;ext)) λh' hk=>⟨rfl,?_⟩
  exact qq (t':=s.toks) I (λb o hb q=>hk b o (λz=>hb (by simp[z])) (λz=>hb (by simp[z])) (λz=>hb (by simp[z])) (λz=>hb (by simp[z])) q) hf
 self:=λ_ _ _ _ _ st h=>wpAny_pyIter_zip st.1 h
section
variable {ta:TA}
def E9(K:K0)(ta:TA):TI:=λσ H R=>ta σ H λvs H1=>∃p xs,vs=[.ref p]/\SqL K H1 p xs/\R (Itv K p xs.length) H1
def Ea(hg:Gl X "reversed")(hm:X.mg "reversed"=none)(ha:PA X [a] ta)(hs:starEach [a] X.env=[(false,eval a X.env)]<|>J7):PI X tg (.Call (.Name "reversed" pn) [a] [] pr) (E9 X.K ta):=by
 intro G_ s σ H R I h;refine Call_ (eZ I hg hm boot_reversed (z8x (cQ (ha pr G_ s σ H _ I h) λus s1 vs H1 I1 r1 q1=>?_) hs rfl));obtain⟨p,xs,rfl,hq,q⟩:=q1;obtain⟨u,rfl,ru⟩:=dH r1;cases ru;obtain⟨its,rv,pl,hz⟩:=I1.list hq;have hl:=rv.length;refine call_reversed_list pl.isList ?_;have e0:(s1.heap.push (revObj p ((its.toArray.size:Int)-1))).get? s1.heap.objs.size=some (revObj p ((its.toArray.size:Int)-1)):=z8l _ rfl;refine wpAny_pyIter_revIter ⟨_,e0,rfl,rfl⟩ ?_;refine⟨s1.heap.objs.size,[s1.heap.objs.size],_,_,H1,rfl,I1.kept (t':=s1.toks) λb o e=>z9l _ e,E6 p _ xs.length,⟨_,e0,rfl,?_⟩,λb hb=>?_,q⟩
 ·rw[hl];simp[revObj]
 have e:b=s1.heap.objs.size:=by simpa using hb
 subst e;exact I1.fpOk (z9i _) (I1.hok.fresh (z9i _))
def Eb(K:K0)(ta:TA):TI:=λσ H R=>ta σ H λvs H1=>∃p xs,vs=[.ref p]/\SqL K H1 p xs/\R (Ite K p) H1
def w9(hg:Gl X "enumerate")(hm:X.mg "enumerate"=none)(ha:PA X [a] ta)(hs:starEach [a] X.env=[(false,eval a X.env)]<|>J7):PI X (.Tuple elts ek ep) (.Call (.Name "enumerate" pn) [a] [] pr) (Eb X.K ta):=by
 intro G_ s σ H R I h;refine Call_ (eZ I hg hm boot_enumerate (z8x (cQ (ha pr G_ s σ H _ I h) λus s1 vs H1 I1 r1 q1=>?_) hs rfl));obtain⟨p,xs,rfl,hq,q⟩:=q1;obtain⟨u,rfl,ru⟩:=dH r1;cases ru;obtain⟨its,rv,pl,hz⟩:=I1.list hq;refine call_enumerate_list pl.isList λh' he hit hsz hk=>?_
 refine wpAny_pyIter_enum he ?_;refine⟨s1.heap.objs.size+1,[s1.heap.objs.size+1,s1.heap.objs.size],_,_,H1,rfl,I1.kept (t':=s1.toks) λb o e=>hk b o e,E7 p _ _ (by simp),⟨⟨_,he⟩,hit⟩,λb hb=>?_,q⟩;have e:b=s1.heap.objs.size+1\/b=s1.heap.objs.size:=by simpa using hb
 rcases e with rfl|rfl
 ·exact I1.fpOk ∅ (I1.hok.fresh ∅)
 ·exact I1.fpOk (z9i _) (I1.hok.fresh (z9i _))
def Ec(K:K0)(ta:TA):TI:=λσ H R=>ta σ H λvs H1=>∃p p' xs ys,vs=[.ref p,.ref p']/\SqL K H1 p xs/\SqL K H1 p' ys/\R (Itz K p p') H1
def wa(hg:Gl X "zip")(hm:X.mg "zip"=none)(ha:PA X [a,b] ta)(hs:starEach [a,b] X.env=[(false,eval a X.env),(false,eval b X.env)]<|>J7)(hs2:starEach [b] X.env=[(false,eval b X.env)]<|>J7):
  PI X (.Tuple elts ek ep) (.Call (.Name "zip" pn) [a,b] [] pr) (Ec X.K ta):=by
 intro G_ s σ H R I h;refine Call_ (eZ I hg hm boot_zip (z8x (cQ (ha pr G_ s σ H _ I h) λus s1 vs H1 I1 r1 q1=>?_) (by rw[hs,hs2]) (by rw[hs2];rfl)));obtain⟨p,p',xs,ys,rfl,hq,hq',q⟩:=q1;cases r1 with
 | cons ru rr=>
   cases rr with
   | cons rv' rr=>
     cases rr;cases ru;cases rv';obtain⟨its,rv,pl,hz⟩:=I1.list hq;obtain⟨its',rv',pl',hz'⟩:=I1.list hq';have lt1:p<s1.heap.objs.size:=by obtain⟨o,e,_⟩:=pl.isList;exact z9m e
     have lt2:p'<s1.heap.objs.size:=by obtain⟨o,e,_⟩:=pl'.isList;exact z9m e
     refine call_zip_2 pl.isList pl'.isList λh' hz hTI hTO hit1 hit2 hsz hk=>?_
     refine wpAny_pyIter_zip hz ?_;refine⟨s1.heap.objs.size+4,[s1.heap.objs.size+4,s1.heap.objs.size+2,s1.heap.objs.size+3,s1.heap.objs.size,s1.heap.objs.size+1],_,_,H1,rfl,I1.kept (t':=s1.toks) λb o e=>hk b o e,
      E8 p p' _ _ _ _ _ (zipApart_new lt1 lt2),⟨hz,hTI,⟨_,_,hTO⟩,hit1,hit2⟩,λb hb=>?_,q⟩
     have e:b=s1.heap.objs.size+4\/b=s1.heap.objs.size+2\/b=s1.heap.objs.size+3\/b=s1.heap.objs.size\/b=s1.heap.objs.size+1:=by simpa using hb
     rcases e with rfl|rfl|rfl|rfl|rfl<;>exact I1.fpOk ∅ (I1.hok.fresh ∅)
end
def gQ{d:D}{ds:n_}(h:bX d=some ds):dj d=false/\items d=some ds:=by
 unfold bX at h;cases ht:dj d with
 |true=>rw[if_pos ht]at h;cases h
 |false=>rw[if_neg (by rw[ht];exact z8r)]at h;exact⟨rfl,h⟩
def wb{ds:n_}{d:D}(h:(dL ds)[i]?=some d):∃e,ds[i]?=some e/\d=.tup [.int (i:Nat),e]:=by
 unfold dL at h;rw[z9z,List.getElem?_zipIdx]at h;cases e:ds[i]? with
 |none=>rw[e]at h;cases h
 |some x=>rw[e]at h;simp at h;exact⟨x,rfl,h.symm⟩
def wc{ds es:n_}{d:D}(h:(dM ds es)[i]?=some d):∃a b,ds[i]?=some a/\es[i]?=some b/\d=.tup [a,b]:=by
 unfold dM at h;rw[z9z]at h;cases e:(ds.zip es)[i]? with
 |none=>rw[e]at h;cases h
 |some p=>rw[e]at h;obtain⟨h1,h2⟩:=z6q.mp e;simp at h;exact⟨p.1,p.2,h1,h2,h.symm⟩
def qu(ds:n_):(dL ds).length=ds.length:=by simp[dL]
def qv(ds es:n_):(dM ds es).length=min ds.length es.length:=by simp[dM]
section
variable {fa fb:FE}{ea eb:p_}
def wd(mr:X.mg "enumerate"=none)(h:JB X a fa ea)(hg:Gl X "enumerate"<|>J7)(hst:starEach [a] X.env=[(false,eval a X.env)]<|>J7):JI X (.Tuple elts ek ep) (.Call (.Name "enumerate" pn) [a] [] pr) (kR fa) ea:=⟨have h:=h.h;
 mC (w9 hg mr (bM h c7 hst) hst) λσ H R U ds hE hf hR=>by obtain⟨d,h1,hf⟩:=bind_some hf;obtain⟨es,h2,hf⟩:=bind_some hf;cases hf;obtain⟨ht,hi⟩:=gQ h2;refine⟨U,d,hE,h1,λv H1 p=>?_⟩;obtain⟨q,xs,rfl,hq,hx,hA⟩:=fG p.rep hi ht;have len:=hx.length;refine⟨q,xs,rfl,hq,hR _ _ ⟨p.same,λi d' H' hd e=>?_,λH' e=>⟨xs,e.seq hq,by rw[qu];ext⟩⟩⟩;obtain⟨e',hd2,rfl⟩:=wb hd;obtain⟨x,h3,h4⟩:=hx.get hd2;refine⟨⟨xs,x,e.seq hq,h3⟩,λy H'' y0=>?_⟩;obtain⟨T,y',hT,ey,eH,hy⟩:=y0;subst ey eH;have e2:=hy xs (e.seq hq);rw[h3]at e2;cases e2;have sn:=bo hT (.tup [.int (i:Nat),x]);refine⟨sn,.tup bn (.cons (.int _) (.cons (au (e.trans sn) h4) .nil)),λA hD hz=>?_⟩;obtain⟨x',h5,h6⟩:=(hA A (p.av A hD hz)).get hd2;rw[h3]at h5;cases h5;refine .tup ?_ (.cons (.int _) (.cons (au (c8 (e.trans sn)) h6) .nil));rw[cr ((hD.mono (p.same.trans e)).not_new hT)];exact bn⟩
def we(mr:X.mg "zip"=none)(ha:JB X a fa ea)(hb:JB X b fb eb)(hg:Gl X "zip"<|>J7)(hst:starEach [a,b] X.env=[(false,eval a X.env),(false,eval b X.env)]<|>J7)(hst2:starEach [b] X.env=[(false,eval b X.env)]<|>J7):
  JI X (.Tuple elts ek ep) (.Call (.Name "zip" pn) [a,b] [] pr) (kS fa fb) (ea++eb):=⟨have ha:=ha.h;have hb:=hb.h;
 mC (wa hg mr (bM ha (bM hb c7 hst2) (by unfold SE;rw[hst,hst2])) hst hst2) λσ H R U ds hE hf hR=>by obtain⟨d,h1,hf⟩:=bind_some hf;obtain⟨d2,h1',hf⟩:=bind_some hf;obtain⟨es,h2,hf⟩:=bind_some hf;obtain⟨es2,h2',hf⟩:=bind_some hf;cases hf;obtain⟨ht,hi⟩:=gQ h2;obtain⟨ht',hi'⟩:=gQ h2';refine⟨U,d,hE,h1,λv H1 p1=>⟨U,d2,hE.mono p1.same,h1',λv2 H2 p2=>?_⟩⟩;have p:=p1.up p2.same;have p':=p2.down p1.same;obtain⟨q,xs,rfl,hq,hx,hA⟩:=fG p.rep hi ht;obtain⟨q',ys,rfl,hq',hy,hA'⟩:=fG p'.rep hi' ht';have len:=hx.length;have len':=hy.length;refine⟨q,q',xs,ys,rfl,hq,hq',hR _ _ ⟨p.same,λi d' H' hd e=>?_,λH' e=>⟨xs,ys,e.seq hq,e.seq hq',by rw[qv];ext⟩⟩⟩;obtain⟨e1,e2,hd1,hd2,rfl⟩:=wc hd;obtain⟨x,h3,h4⟩:=hx.get hd1;obtain⟨y,h3',h4'⟩:=hy.get hd2;refine⟨⟨xs,ys,x,y,e.seq hq,e.seq hq',h3,h3'⟩,λw H'' y0=>?_⟩;obtain⟨T,x',y',hT,ey,eH,hxy⟩:=y0;subst ey eH;obtain⟨g1,g2⟩:=hxy xs ys (e.seq hq) (e.seq hq');rw[h3]at g1;cases g1;rw[h3']at g2;cases g2;have sn:=bo hT (.tup [x,y]);refine⟨sn,.tup bn (.cons (au (e.trans sn) h4) (.cons (au (e.trans sn) h4') .nil)),λA hD hz=>?_⟩;obtain⟨x'',h5,h6⟩:=(hA A (p.av A hD λz hz'=>hz z (z8i _ hz'))).get hd1;rw[h3]at h5;cases h5;obtain⟨y'',h5',h6'⟩:=(hA' A (p'.av A hD λz hz'=>hz z (z9t _ hz'))).get hd2;rw[h3']at h5';cases h5';refine .tup ?_ (.cons (au (c8 (e.trans sn)) h6) (.cons (au (c8 (e.trans sn)) h6') .nil));rw[cr ((hD.mono (p.same.trans e)).not_new hT)];exact bn⟩
end
def Ed{a:Addr}{g:TG}{tb:TS}{D:Ends}(Pv:Nat->St->Hp->Prop)(h0:Pv 0 σ H)(hl:∀i σ H,i<=xs.length->Pv i σ H->SqL K H a xs)(hs:∀i x σ H,xs.reverse[i]?=some x->Pv i σ H->g x σ H λσ2 H2=>tb {D with nx:=Pv (i+1),ct:=Pv (i+1),bk:=D.nx} σ2 H2)(hd:∀σ H,Pv xs.length σ H->D.nx σ H):
  ∃W:Nat->Nat->St->Hp->Prop,(∃m,W 0 m σ H)/\∀i m σ H,W i m σ H ->
    ((Itv K a xs.length).stop i H/\D.nx σ H)\/((Itv K a xs.length).go i H/\∃N:St->Hp->Prop,(∀σ' H',N σ' H'->∃m',m'<m/\W (i+1) m' σ' H')/\∀x H',(Itv K a xs.length).yld i H x H'->g x σ H' λσ2 H2=>tb {D with nx:=N,ct:=N,bk:=D.nx} σ2 H2):=by
 refine⟨λi m σ H=>m=xs.length-i/\i<=xs.length/\Pv i σ H,⟨xs.length,by simp,z7a _,h0⟩,?_⟩;rintro i m σ H ⟨rfl,hi,p⟩;have q:=hl i σ H hi p;by_cases hlt:i<xs.length
 ·have hlt':xs.length-1-i<xs.length:=by ext
  refine .inr ⟨⟨xs,xs[xs.length-1-i],q,rfl,hlt,by simp[hlt']⟩,Pv (i+1),λσ' H' p'=>⟨xs.length-(i+1),by ext,rfl,hlt,p'⟩,λx H' y=>?_⟩;obtain⟨e,y⟩:=y;subst e;exact hs i x σ _ (by rw[z4e hlt];exact y xs q) p
 ·have e:i=xs.length:=by ext
  subst e;exact .inl ⟨rfl,hd σ H p⟩
def Ee{a:Addr}{g:TG}{tb:TS}{D:Ends}(Pv:Nat->St->Hp->Prop)(h0:Pv 0 σ H)(hl:∀i σ H,i<=xs.length->Pv i σ H->SqL K H a xs)(hs:∀i x T σ H,xs[i]?=some x->H T=none->Pv i σ H->g (.ref T) σ (upd H T (.tup [.int (i:Nat),x])) λσ2 H2=>tb {D with nx:=Pv (i+1),ct:=Pv (i+1),bk:=D.nx} σ2 H2)(hd:∀σ H,Pv xs.length σ H->D.nx σ H):
  ∃W:Nat->Nat->St->Hp->Prop,(∃m,W 0 m σ H)/\∀i m σ H,W i m σ H ->
    ((Ite K a).stop i H/\D.nx σ H)\/((Ite K a).go i H/\∃N:St->Hp->Prop,(∀σ' H',N σ' H'->∃m',m'<m/\W (i+1) m' σ' H')/\∀x H',(Ite K a).yld i H x H'->g x σ H' λσ2 H2=>tb {D with nx:=N,ct:=N,bk:=D.nx} σ2 H2):=by
 refine⟨λi m σ H=>m=xs.length-i/\i<=xs.length/\Pv i σ H,⟨xs.length,by simp,z7a _,h0⟩,?_⟩;rintro i m σ H ⟨rfl,hi,p⟩;have q:=hl i σ H hi p;by_cases hlt:i<xs.length
 ·refine .inr ⟨⟨xs,xs[i],q,by simp[hlt]⟩,Pv (i+1),λσ' H' p'=>⟨xs.length-(i+1),by ext,rfl,hlt,p'⟩,λx H' y=>?_⟩
  obtain⟨T,y,hT,ex,eH,hy⟩:=y;subst ex eH;exact hs i y T σ _ (hy xs q) hT p
 ·have e:i=xs.length:=by ext
  subst e;exact .inl ⟨⟨xs,q,z9i _⟩,hd σ H p⟩
def Ef{a b:Addr}{g:TG}{tb:TS}{D:Ends}(Pv:Nat->St->Hp->Prop)(h0:Pv 0 σ H)(hl:∀i σ H,Pv i σ H->SqL K H a xs/\SqL K H b ys)(hs:∀i x y T σ H,xs[i]?=some x->ys[i]?=some y->H T=none->Pv i σ H->g (.ref T) σ (upd H T (.tup [x,y])) λσ2 H2=>tb {D with nx:=Pv (i+1),ct:=Pv (i+1),bk:=D.nx} σ2 H2)(hd:∀σ H,Pv (min xs.length ys.length) σ H->D.nx σ H):
  ∃W:Nat->Nat->St->Hp->Prop,(∃m,W 0 m σ H)/\∀i m σ H,W i m σ H ->
    ((Itz K a b).stop i H/\D.nx σ H)\/((Itz K a b).go i H/\∃N:St->Hp->Prop,(∀σ' H',N σ' H'->∃m',m'<m/\W (i+1) m' σ' H')/\∀x H',(Itz K a b).yld i H x H'->g x σ H' λσ2 H2=>tb {D with nx:=N,ct:=N,bk:=D.nx} σ2 H2):=by
 refine⟨λi m σ H=>m=min xs.length ys.length-i/\i<=min xs.length ys.length/\Pv i σ H,⟨min xs.length ys.length,by simp,z7a _,h0⟩,?_⟩;rintro i m σ H ⟨rfl,hi,p⟩;obtain⟨q1,q2⟩:=hl i σ H p;by_cases hlt:i<min xs.length ys.length
 ·have l1:i<xs.length:=by ext
  have l2:i<ys.length:=by ext
  refine .inr ⟨⟨xs,ys,xs[i],ys[i],q1,q2,by simp[l1],by simp[l2]⟩,Pv (i+1),λσ' H' p'=>⟨min xs.length ys.length-(i+1),by ext,rfl,hlt,p'⟩,λx H' y=>?_⟩;obtain⟨T,x,y,hT,ex,eH,hxy⟩:=y;subst ex eH;obtain⟨g1,g2⟩:=hxy xs ys q1 q2;exact hs i x y T σ _ g1 g2 hT p
 ·have e:i=min xs.length ys.length:=by ext
  subst e;exact .inl ⟨⟨xs,ys,q1,q2,by ext⟩,hd σ H p⟩
section
variable {F:Fr0}{fa fb:FE}{ea eb:p_}{tb:FS}
theorem wf(t:Nat)(Ol:y9)(hN:X.N.Nodup)(hc:X.calm=true)(mr:X.mg "reversed"=none)(hi:JE X a fa ea)(hb:JSs X F Ol body tb O2 Ol fr)(h1:(∀i∈Ol,i∈bR O ea)<|>J8)(h2:(∀i∈Ol,i∈O2)<|>J8)(h3:t∉Ol<|>J8)(hp:PassesOwn (model X.prog X.w) X.A X.env X.xe<|>Q2)(hg:Gl X "reversed"<|>J7)(hst:starEach [a] X.env=[(false,eval a X.env)]<|>J7)(hxN:X.N[t]?=some x<|>J7)(hx:Loc X.env.scope x<|>J9)(hfn:X.fn x=true\/X.env.scope.names.lookup x=some .local<|>J9)(hs:(∀x,foldedSetIterable (.Call (.Name "reversed" pn) [a] [] pr) X.env x=pure x)<|>Q0):JS X F O (.For (.Name x p2) (.Call (.Name "reversed" pn) [a] [] pr) body [] pos) (kQ t fa tb) Ol OL fr:=⟨have hi:=hi.h;have hb:=hb.h;λJ2=>by
 have hb':PSs X body (λDe σ H=>∃p:Hd,ts X.K F (p::J2) Ol Ol Ol fr tb De σ H):=λG_ s σ H De I y0=>by obtain⟨p,h⟩:=y0;exact io hb h2 (p::J2) G_ s σ H De I h
 refine da (fZ hp hc (Ea hg mr (bM hi c7 hst) hst) (fY hN hxN hx hfn) hb' hs) λDe σ H h=>?_
 obtain⟨U,o,hE,hf,hQ⟩:=h;obtain⟨d,hd,hf⟩:=bind_some hf;obtain⟨ds,hsq,hf⟩:=bind_some hf;obtain⟨ht,hds⟩:=gQ hsq;refine⟨U,d,hE.envR,hd,λv H1 p=>?_⟩;obtain⟨hE1,hr⟩:=hE.eval p;have hE2:=hE1.weaken h1;have hr2:∀A,F.PA A->Rep X.K (ao H1 (Off σ Ol A)) v d:=λA hA=>au (cG (λ_ _ q=>q) (gM h1)) (hr A hA)
 obtain⟨q,xs,rfl,hq⟩:=kM hr2 hds ht;have len:xs.length=ds.length:=(hq _ F.none).2.length;refine⟨q,xs,rfl,(aP _ _).seq (hq _ F.none).1,?_⟩;refine Ed (K:=X.K) (a:=q) (xs:=xs) (g:=cq t) (tb:=λDe σ H=>∃p:Hd,ts X.K F (p::J2) Ol Ol Ol fr tb De σ H) (D:=De) (λi σ' H'=>∃ρ',EnvO X.K F (hdL X.K q xs ds::J2) Ol σ' ρ' H'/\br (λx U=>tb (U.set t (some x))) (ds.reverse.drop i) ρ'=some o) ⟨U,hE2.hold hq,by simpa using hf⟩ ?_ ?_ ?_
 ·rintro i σ' H' _ ⟨ρ',hE',_⟩
  exact(aP _ _).seq (hE'.hld _ z9a _ F.none).1
 ·rintro i y σ' H' hy ⟨ρ',hE',hf'⟩
  obtain⟨dy,h4,_⟩:=(hE'.hld _ z9a _ F.none).2.reverse.getV hy;have h5:∀A,F.PA A->Rep X.K (ao H' (Off σ' Ol A)) y dy:=λA hA=>by obtain⟨dy',h6,h7⟩:=(hE'.hld _ z9a A hA).2.reverse.getV hy;rw[h4]at h6;cases h6;exact h7
  have h4:ds.reverse[i]?=some dy:=h4;have hi':i<ds.reverse.length:=(z9c.mp h4).1;have ed:ds.reverse.drop i=dy::ds.reverse.drop (i+1):=by rw[z9v hi'];have e2:ds.reverse[i]=dy:=(z9c.mp h4).2;rw[e2]
  rw[ed]at hf';have hf2:=hf';rw[ip]at hf2;obtain⟨o1,h8,_⟩:=bind_some hf2;refine⟨hdL X.K q xs ds,ρ'.set t (some dy),o1,hE'.set h3 h5,h8,?_⟩;exact kL h8 hf' hQ (λ_ _ _ z=>z.unhold) λσ'' H'' ρ'' hE'' hf''=>⟨ρ'',hE'',hf''⟩
 ·rintro σ' H' ⟨ρ',hE',hf'⟩
  rw[len,<- z7j,z7q]at hf';cases hf';exact hQ σ' H' hE'.unhold⟩
theorem wg{J2:List Hd}{U:ag}{u:Nat}{T:Addr}{x:V}{dx dy:D}{Q:St->Hp->Prop}(hE:EnvO K F J2 Ol σ U H)(hT:H T=none)(ht:t∉Ol)(hu:u∉Ol)(hx:∀A,F.PA A->Rep K (ao H (Off σ Ol A)) x dx)(hy:∀A,F.PA A->Rep K (ao H (Off σ Ol A)) y dy)(hQ:∀σ' H',EnvO K F J2 Ol σ' ((U.set t (some dx)).set u (some dy)) H'->Q σ' H'):jX K 2 (gg [t,u]) (.ref T) σ (upd H T (.tup [x,y])) Q:=by
 have sn:=bo hT (.tup [x,y]);refine⟨T,[x,y],rfl,.inl (.inl bn),rfl,pZ (ds:=[dx,dy]) (hE.up sn) (λi hi=>?_) rfl (λA hA=>?_) hQ⟩
 ·have e:i=t\/i=u:=by simpa using hi
  rcases e with rfl|rfl
  ·exact ht
  ·exact hu
 ·exact .cons (au (c8 sn) (hx A hA)) (.cons (au (c8 sn) (hy A hA)) .nil)
theorem Eg(t u:Nat){k:Nat}(Ol:y9)(hN:X.N.Nodup)(hc:X.calm=true)(mr:X.mg "enumerate"=none)(hi:JE X a fa ea)(hb:JSs X F Ol body tb O2 Ol fr)(htg:Tgs X tes [t,u])(h1:(∀i∈Ol,i∈bR O ea)<|>J8)(h2:(∀i∈Ol,i∈O2)<|>J8)(h3:t∉Ol<|>J8)(h3':u∉Ol<|>J8)(hp:PassesOwn (model X.prog X.w) X.A X.env X.xe<|>Q2)(hg:Gl X "enumerate"<|>J7)(hst:starEach [a] X.env=[(false,eval a X.env)]<|>J7)(hn:(assignEach tes X.env).length=2<|>J7)(hsx:(assignEach tes X.env).findIdx? (·.1)=none<|>J7)(hs:(∀x,foldedSetIterable (.Call (.Name "enumerate" pn) [a] [] pr) X.env x=pure x)<|>Q0):JS X F O (.For (.Tuple tes k p2) (.Call (.Name "enumerate" pn) [a] [] pr) body [] pos) (mR t u fa tb) Ol OL fr:=⟨have hi:=hi.h;have hb:=hb.h;λJ2=>by
 have hb':PSs X body (λDe σ H=>∃p:Hd,ts X.K F (p::J2) Ol Ol Ol fr tb De σ H):=λG_ s σ H De I y0=>by obtain⟨p,h⟩:=y0;exact io hb h2 (p::J2) G_ s σ H De I h
 refine da (fZ hp hc (w9 hg mr (bM hi c7 hst) hst) (gB hc (Tgs.ok hN htg) hn hsx) hb' hs) λDe σ H h=>?_
 obtain⟨U,o,hE,hf,hQ⟩:=h;obtain⟨d,hd,hf⟩:=bind_some hf;obtain⟨ds,hsq,hf⟩:=bind_some hf;obtain⟨ht,hds⟩:=gQ hsq;refine⟨U,d,hE.envR,hd,λv H1 p=>?_⟩;obtain⟨hE1,hr⟩:=hE.eval p;have hE2:=hE1.weaken h1;have hr2:∀A,F.PA A->Rep X.K (ao H1 (Off σ Ol A)) v d:=λA hA=>au (cG (λ_ _ q=>q) (gM h1)) (hr A hA)
 obtain⟨q,xs,rfl,hq⟩:=kM hr2 hds ht;have len:xs.length=ds.length:=(hq _ F.none).2.length;refine⟨q,xs,rfl,(aP _ _).seq (hq _ F.none).1,?_⟩;refine Ee (K:=X.K) (a:=q) (xs:=xs) (g:=jX X.K 2 (gg [t,u])) (tb:=λDe σ H=>∃p:Hd,ts X.K F (p::J2) Ol Ol Ol fr tb De σ H) (D:=De) (λi σ' H'=>∃ρ',EnvO X.K F (hdL X.K q xs ds::J2) Ol σ' ρ' H'/\br (gP t u tb) ((dL ds).drop i) ρ'=some o) ⟨U,hE2.hold hq,by simpa using hf⟩ ?_ ?_ ?_
 ·rintro i σ' H' _ ⟨ρ',hE',_⟩
  exact(aP _ _).seq (hE'.hld _ z9a _ F.none).1
 ·rintro i y T σ' H' hy hT ⟨ρ',hE',hf'⟩
  obtain⟨dy,h4,_⟩:=(hE'.hld _ z9a _ F.none).2.getV hy;have h5:∀A,F.PA A->Rep X.K (ao H' (Off σ' Ol A)) y dy:=λA hA=>by obtain⟨dy',h6,h7⟩:=(hE'.hld _ z9a A hA).2.getV hy;rw[h4]at h6;cases h6;exact h7
  have h4:ds[i]?=some dy:=h4;have hi':i<(dL ds).length:=by rw[qu];exact(z9c.mp h4).1
  have ed:(dL ds).drop i=.tup [.int (i:Nat),dy]::(dL ds).drop (i+1):=by rw[z9v hi'];obtain⟨e',q1,q2⟩:=wb (z9k hi');rw[h4]at q1;cases q1;rw[q2]
  rw[ed]at hf';have hf2:=hf';rw[ip]at hf2;obtain⟨o1,h8,_⟩:=bind_some hf2;refine wg hE' hT h3 h3' (λA _=>.int _) h5 λσ2 H2 hE2=>⟨hdL X.K q xs ds,_,o1,hE2,h8,?_⟩
  exact kL h8 hf' hQ (λ_ _ _ z=>z.unhold) λσ'' H'' ρ'' hE'' hf''=>⟨ρ'',hE'',hf''⟩
 ·rintro σ' H' ⟨ρ',hE',hf'⟩
  rw[len,<- qu,z7q]at hf';cases hf';exact hQ σ' H' hE'.unhold⟩
theorem Eh(t u:Nat){k:Nat}(Ol:y9)(hN:X.N.Nodup)(hc:X.calm=true)(mr:X.mg "zip"=none)(hi:JE X a fa ea)(hi2:JE X b fb eb)(hb:JSs X F Ol body tb O2 Ol fr)(htg:Tgs X tes [t,u])(h1:(∀i∈Ol,i∈bR (bR O ea) eb)<|>J8)(h2:(∀i∈Ol,i∈O2)<|>J8)(h3:t∉Ol<|>J8)(h3':u∉Ol<|>J8)(hp:PassesOwn (model X.prog X.w) X.A X.env X.xe<|>Q2)(hg:Gl X "zip"<|>J7)(hst:starEach [a,b] X.env=[(false,eval a X.env),(false,eval b X.env)]<|>J7)(hst2:starEach [b] X.env=[(false,eval b X.env)]<|>J7)(hn:(assignEach tes X.env).length=2<|>J7)(hsx:(assignEach tes X.env).findIdx? (·.1)=none<|>J7)(hs:(∀x,foldedSetIterable (.Call (.Name "zip" pn) [a,b] [] pr) X.env x=pure x)<|>Q0):JS X F O (.For (.Tuple tes k p2) (.Call (.Name "zip" pn) [a,b] [] pr) body [] pos) (mS t u fa fb tb) Ol OL fr:=⟨have hi:=hi.h;have hi2:=hi2.h;have hb:=hb.h;λJ2=>by
 have hb':PSs X body (λDe σ H=>∃p p':Hd,ts X.K F (p::p'::J2) Ol Ol Ol fr tb De σ H):=λG_ s σ H De I y0=>by obtain⟨p,p',h⟩:=y0;exact io hb h2 (p::p'::J2) G_ s σ H De I h
 refine da (fZ hp hc (wa hg mr (bM hi (bM hi2 c7 hst2) (by unfold SE;rw[hst,hst2])) hst hst2) (gB hc (Tgs.ok hN htg) hn hsx) hb' hs) λDe σ H h=>?_
 obtain⟨U,o,hE,hf,hQ⟩:=h;obtain⟨d,hd,hf⟩:=bind_some hf;obtain⟨d2,hd2,hf⟩:=bind_some hf;obtain⟨ds,hsq,hf⟩:=bind_some hf;obtain⟨es,hsq2,hf⟩:=bind_some hf;obtain⟨ht,hds⟩:=gQ hsq;obtain⟨ht2,hds2⟩:=gQ hsq2;refine⟨U,d,hE.envR,hd,λv H1 p=>?_⟩;obtain⟨hE1,hr⟩:=hE.eval p;refine⟨U,d2,hE1.envR,hd2,λv2 H2 p2'=>?_⟩;obtain⟨hE2,hr'⟩:=hE1.eval p2';have hE3:=hE2.weaken h1;have hr2:∀A,F.PA A->Rep X.K (ao H2 (Off σ Ol A)) v d:=λA hA=>au (cG p2'.same (gM λi hi=>jp i (h1 i hi))) (hr A hA)
 have hr3:∀A,F.PA A->Rep X.K (ao H2 (Off σ Ol A)) v2 d2:=λA hA=>au (cG (λ_ _ q=>q) (gM h1)) (hr' A hA)
 obtain⟨q,xs,rfl,hq⟩:=kM hr2 hds ht;obtain⟨q',ys,rfl,hq'⟩:=kM hr3 hds2 ht2;have len:xs.length=ds.length:=(hq _ F.none).2.length;have len':ys.length=es.length:=(hq' _ F.none).2.length;refine⟨q,q',xs,ys,rfl,(aP _ _).seq (hq _ F.none).1,(aP _ _).seq (hq' _ F.none).1,?_⟩;refine Ef (K:=X.K) (a:=q) (b:=q') (xs:=xs) (ys:=ys) (g:=jX X.K 2 (gg [t,u])) (tb:=λDe σ H=>∃p p':Hd,ts X.K F (p::p'::J2) Ol Ol Ol fr tb De σ H) (D:=De) (λi σ' H'=>∃ρ',EnvO X.K F (hdL X.K q xs ds::hdL X.K q' ys es::J2) Ol σ' ρ' H'/\br (gP t u tb) ((dM ds es).drop i) ρ'=some o) ⟨U,(hE3.hold hq').hold hq,by simpa using hf⟩ ?_ ?_ ?_
 ·rintro i σ' H' ⟨ρ',hE',_⟩
  exact⟨(aP _ _).seq (hE'.hld _ z9a _ F.none).1,(aP _ _).seq (hE'.hld _ (z9d _ z9a) _ F.none).1⟩
 ·rintro i x y T σ' H' hx hy hT ⟨ρ',hE',hf'⟩
  obtain⟨dx,g4,_⟩:=(hE'.hld _ z9a _ F.none).2.getV hx;obtain⟨dy,h4,_⟩:=(hE'.hld _ (z9d _ z9a) _ F.none).2.getV hy;have g5:∀A,F.PA A->Rep X.K (ao H' (Off σ' Ol A)) x dx:=λA hA=>by obtain⟨dy',h6,h7⟩:=(hE'.hld _ z9a A hA).2.getV hx;rw[g4]at h6;cases h6;exact h7
  have h5:∀A,F.PA A->Rep X.K (ao H' (Off σ' Ol A)) y dy:=λA hA=>by obtain⟨dy',h6,h7⟩:=(hE'.hld _ (z9d _ z9a) A hA).2.getV hy;rw[h4]at h6;cases h6;exact h7
  have g4:ds[i]?=some dx:=g4;have h4:es[i]?=some dy:=h4;have hi':i<(dM ds es).length:=by have:=(z9c.mp h4).1;have:=(z9c.mp g4).1;rw[qv];ext
  have ed:(dM ds es).drop i=.tup [dx,dy]::(dM ds es).drop (i+1):=by rw[z9v hi'];obtain⟨e',e'',q1,q2,q3⟩:=wc (z9k hi');rw[g4]at q1;cases q1;rw[h4]at q2;cases q2;rw[q3]
  rw[ed]at hf';have hf2:=hf';rw[ip]at hf2;obtain⟨o1,h8,_⟩:=bind_some hf2;refine wg hE' hT h3 h3' g5 h5 λσ2 H2 hE2=>⟨hdL X.K q xs ds,hdL X.K q' ys es,_,o1,hE2,h8,?_⟩
  exact kL h8 hf' hQ (λ_ _ _ z=>z.unhold.unhold) λσ'' H'' ρ'' hE'' hf''=>⟨ρ'',hE'',hf''⟩
 ·rintro σ' H' ⟨ρ',hE',hf'⟩
  rw[len,len',<- qv,z7q]at hf';cases hf';exact hQ σ' H' hE'.unhold.unhold⟩
end
def Ei:typeLookup (.type "list_reverseiterator") "__len__"=pure none:=by rw[typeLookup_type,builtinLookup_eq_fast];kernel_rfl
def Ej:typeLookup (.type "list_reverseiterator") "__length_hint__"=pure (some (.builtin "list_reverseiterator.__length_hint__")):=by rw[typeLookup_type,builtinLookup_eq_fast];kernel_rfl
section
variable {I:Addr}{wr:z7}{G:Array GenState->Array GenState->Prop}{P:Nat->Value->Prop}{St:Nat->Shared->Prop}
theorem Ek(W:WalksS prog w A.in1 I fp wr G n P St)(hT:∀i s,St i s->s.TypeIs (.ref I) "list_reverseiterator")(S:Addr)(res:Value)(q_:Nat)(hst:St 0 s)(hSf:S∉fp)(hI:I∈fp)(hS:s.heap.get? S=some {cls:=.type "list",data:=.seq #[] q_})(hR:∀s' acc' c',Moved (S::wr) G s s'->s'.heap.get? S=some {cls:=.type "list",dict:=none,data:=.seq acc' c',slots:=#[]}->ItemsOf P acc' n->R (.ok (.ret res)) s')(hn:n<=sizeLine):
  wpAny (model prog w) A.in1 (Builtin.List.listExtendWith (.ref S) (.ref I) res)
   (λfin s'=>match fin with | .done f=>R (.ok f) s' | .again c'=>c'.quiet=true/\codeAny (model prog w) A c' R s') (λe s'=>R (.error e) s') s:=by
 have hSI:S≠I:=λe=>hSf (e▸hI)
 unfold Builtin.List.listExtendWith;refine z9o (wpAny_typeOf (hT 0 _ hst) ?_);have h1:Builtin.List.listSameRef (.ref S) (.ref I)=false:=by simp[Builtin.List.listSameRef,hSI]
 rw[if_neg (by rw[h1];decide)];refine z9o (W.self 0 _ _ _ hst ?_);refine z9o (z3b ?_);unfold Builtin.List.listLengthHint;refine z9o (wpAny_specialOf (hT 0 _ hst) Ei ?_);show wpAny _ A.in1 (specialOf (Value.ref I) (Str.ofString "__length_hint__") >>= _) _ _ _;refine z9o (wpAny_specialOf (hT 0 _ hst) Ej ?_)
 (generalize hid:("list_reverseiterator.__length_hint__" : String)=id0;(fail_if_success (clear hid id0));wp_delta;rw[show splitId id0=some ("list_reverseiterator","__length_hint__")from by subst hid;decide +kernel];subst hid)
 refine z9o (wpAny_isInstance (b:=true) (hT 0 _ hst) (by rw[isSubtype_type];kernel_rfl) ?_);refine z8n ?_;rw[if_neg (by decide)];exact z8n ⟨plainId_quiet F.plain_extend_loop _,codeAny_extend_loopS W hn _ hSf _ n 0 _ _ _ rfl (z7a _) hst hS (ItemsOf.nil P) λs' acc' c' hm hS' hacc=>hR s' acc' c' hm hS' hacc⟩
def El(W:WalksS prog w A.in1 I fp wr G n P St)(hT:∀i s,St i s->s.TypeIs (.ref I) "list_reverseiterator")(S:Addr)(hst:St 0 s)(hSf:S∉fp)(hI:I∈fp)(hS:s.heap.get? S=some {cls:=.type "list",data:=.seq #[]})(hR:∀s' acc' c',Moved (S::wr) G s s'->s'.heap.get? S=some {cls:=.type "list",dict:=none,data:=.seq acc' c',slots:=#[]}->ItemsOf P acc' n->R (.ok (.ret .none)) s')(hn:n<=sizeLine):
  wpAny (model prog w) A.in1 (Builtin.«list.__init__» ⟨[.ref S,.ref I],[]⟩)
   (λfin s'=>match fin with | .done f=>R (.ok f) s' | .again c'=>c'.quiet=true/\codeAny (model prog w) A c' R s') (λe s'=>R (.error e) s') s:=by
 show wpAny _ A.in1 (do let old <- Builtin.List.listItems (.ref S);Builtin.List.listUpdate (.ref S) (λ_=>#[]);letGo old.toList.reverse;Builtin.List.listExtendWith (.ref S) (.ref I) .none) _ _ s;refine z9o ?_;unfold Builtin.List.listItems;refine z9o (wpAny_seqItems hS rfl (z8n ?_));show wpAny _ A.in1 (updateSeq S (λ_=>#[]) >>= λ_=>letGo (#[]:Array Value).toList.reverse >>= λ_=>Builtin.List.listExtendWith (.ref S) (.ref I) .none) _ _ s;refine z9o (wpAny_updateSeq hS rfl ?_);have r_:=Heap.get?_update_self (Obj.mapSeq (λ_=>(#[]:Array Value))) hS rfl;have oth:∀b o,b≠S->s.heap.get? b=some o->(s.heap.update S (Obj.mapSeq (λ_=>(#[]:Array Value)))).get? b=some o:=
  λb o hb e=>(z6k _ _ (Ne.symm hb)).trans e
 refine z9o (wpAny_letGo ?_);refine Ek (hn:=hn) W hT S .none _ (W.frame 0 s _ s.toks hst (z9i _) λb hb o e=>oth b o (λh=>hSf (h▸hb)) e) hSf hI r_ λs' acc' c' hm hS' hacc=>?_
 exact hR s' acc' c' (Moved.trans W.gtrans ((Moved.refl W.grefl).then_heap (z9i _) λb o hb e=>oth b o (λh=>hb (h▸z9a)) e) hm) hS' hacc
end
theorem Em{items:Array Value}{Q:Value->Shared->Prop}(hh:A.handled=none)(hit:s.heap.IsRevIter it l ((items.size:Int)-1))(hl:s.heap.IsList l items)(hne:l≠it)(hn:items.size<=sizeLine)(hQ:∀(h':Heap) (tk:Nat) (acc':Array Value) (c':Nat),(∀b o,b≠it->s.heap.get? b=some o->h'.get? b=some o) ->
   h'.get? s.heap.objs.size=some {cls:=.type "list",dict:=none,data:=.seq acc' c',slots:=#[]}->ItemsOf (λi v=>items[items.size-1-i]?=some v) acc' items.size->Q (.ref s.heap.objs.size) {s with heap:=h',toks:=tk}):
  wpAny (model prog w) A (call (.type "list") [.ref it]) Q E s:=by
 refine callType_codes (Q₁:=λobj y1=>obj=.ref s.heap.objs.size/\y1={s with heap:=s.heap.push {cls:=.type "list",data:=.seq #[]}}) F.called_list (F.typeCall_list_1 _) F.entry_list_init
  (code_list_new _ ⟨rfl,rfl⟩) λobj y1 w_=>?_
 obtain⟨rfl,rfl⟩:=w_;have hS:(s.heap.push {cls:=.type "list",data:=.seq #[]}).get? s.heap.objs.size=some {cls:=.type "list",data:=.seq #[]}:=z8l _ rfl;have lt1:it<s.heap.objs.size:=by obtain⟨o,e,_⟩:=hit;exact z9m e
 have lt2:l<s.heap.objs.size:=by obtain⟨o,e,_⟩:=hl;exact z9m e
 have W:=(Walks.listRev (prog:=prog) (w:=w) (A:=A.in1.in1) hh it l hne items).toS;refine⟨⟨_,hS,rfl⟩,F.args_list_init_2 _ _,El (A:=A.in1) W (λi s st=>let⟨o,ho,hc,_⟩:=st.2.1;⟨o,ho,hc⟩) _ ?_ ?_ (by simp) hS (λs' acc' c' hm hS' hacc=>?_) hn⟩
 ·refine⟨z7a _,?_,hl.at λo e=>z9l _ e⟩
  have:(items.size:Int)-1-((0:Nat):Int)=(items.size:Int)-1:=by ext
  rw[this];exact hit.at λo e=>z9l _ e
 ·intro hm
  have e:s.heap.objs.size=it\/s.heap.objs.size=l:=by simpa using hm
  rcases e with e|e
  ·exact absurd e (z4i lt1)
  ·exact absurd e (z4i lt2)
 ·rw[Moved.eq_with hm]
  refine⟨rfl,hQ s'.heap s'.toks acc' c' (λb o hb e=>hm.heap b o (λhmem=>?_) (z9l _ e)) hS' hacc⟩;have lt:=z9m e;have e':b=s.heap.objs.size\/b=it:=by simpa using hmem
  rcases e' with e' | e'
  ·exact absurd e' (z8q lt)
  ·exact hb e'
section
variable {fa:FE}{ea:p_}{ta:TA}
def En(K:K0)(ta:TA):TE:=λσ H Q=>ta σ H λvs H1=>∃q xs,vs=[.ref q]/\SqL K H1 q xs/\∀l,H1 l=none->Q (.ref l) (upd H1 l (.lst xs.reverse))
def wj(hc:X.calm=true)(hgl:Gl X "list")(ml:X.mg "list"=none)(hgr:Gl X "reversed")(mr:X.mg "reversed"=none)(ha:PA X [a] ta)(hs:starEach [a] X.env=[(false,eval a X.env)])(hs2:starEach [.Call (.Name "reversed" p2) [a] [] pos2] X.env=[(false,eval (.Call (.Name "reversed" p2) [a] [] pos2) X.env)]):
  PE X (.Call (.Name "list" p) [.Call (.Name "reversed" p2) [a] [] pos2] [] pos) (En X.K ta):=by
 intro G_ s σ H Q I h;refine Call_ (eZ I hgl ml PyProof.Rows.boot_list (z8x ?_ hs2 rfl));rw[hs2];show wpAny _ _ (spliced ((false,eval (.Call (.Name "reversed" p2) [a] [] pos2) X.env)::backTo pos [])) _ _ s;refine Calls.spliced_cons ?_;refine Call_ (eZ I hgr mr boot_reversed (z8x (cQ (ha pos2 G_ s σ H _ I h) λus s1 vs H1 I1 r1 q1=>?_) hs rfl));obtain⟨q,xs,rfl,hq,hQ⟩:=q1;obtain⟨u,rfl,ru⟩:=dH r1;cases ru;obtain⟨its,rv,pl,hz⟩:=I1.list hq;have hl:=rv.length;have lt:q<s1.heap.objs.size:=by obtain⟨o,e,_⟩:=pl.isList;exact z9m e
 refine call_reversed_list pl.isList ?_;refine Calls.spliced_nil ?_;have e0:(s1.heap.push (revObj q ((its.toArray.size:Int)-1))).get? s1.heap.objs.size=some (revObj q ((its.toArray.size:Int)-1)):=z8l _ rfl;have I2:Inv X G_ σ H1 {s1 with heap:=s1.heap.push (revObj q ((its.toArray.size:Int)-1)),toks:=s1.toks}:=I1.kept λb o e=>z9l _ e
 have fp:cE X G_ H1 s1.heap.objs.size:=I1.fpOk (z9i _) (I1.hok.fresh (z9i _));refine Em (it:=s1.heap.objs.size) (l:=q) (items:=its.toArray) (I.ok.hd hc) ⟨_,e0,rfl,rfl⟩ (pl.isList.at λo e=>z9l _ e) (z8q lt) (by simpa using(show its.length<=sizeLine by ext)) λh' tk acc c hk hS hacc=>?_
 have fS:cE X G_ H1 (s1.heap.push (revObj q ((its.toArray.size:Int)-1))).objs.size:=qt I2;obtain⟨f0,f1,f2,f3,f4,f5⟩:=fp;have I3:Inv X G_ σ H1 {s1 with heap:=h',toks:=tk}:=I2.turned (t':=tk) (λb o hb e=>hk b o hb e) f0 f1 f3 f4 f5;obtain⟨al,hal⟩:=hacc;have hv:Vals xs.reverse acc.toList:=by
  have:acc.toList=its.reverse:=by
   refine z5g (by simp[al]) λi h1 h2=>?_
   have hi:i<its.toArray.size:=by simpa using h2
   have q1:=hal i (acc.toList[i]) (by simp);have hi2:its.length-1-i<its.length:=by simp at hi;ext
   rw[List.getElem_reverse];simp[hi2]at q1;exact q1.symm
  rw[this];exact rv.reverse
 have I4:=qr (o:=.lst xs.reverse) I3 fS ⟨by rw[z7j];ext,acc.toList,c,hv,by simpa using hS⟩;exact⟨.ref _,_,I4,rfl,hQ _ fS.1⟩
def Eo(ml:X.mg "list"=none)(mr:X.mg "reversed"=none)(ha:JB X a fa ea)(hc:X.calm=true<|>J7)(hgl:Gl X "list"<|>J7)(hgr:Gl X "reversed"<|>J7)(hs:starEach [a] X.env=[(false,eval a X.env)]<|>J7)(hs2:starEach [.Call (.Name "reversed" p2) [a] [] pos2] X.env=[(false,eval (.Call (.Name "reversed" p2) [a] [] pos2) X.env)]<|>J7):
  JF X (.Call (.Name "list" p) [.Call (.Name "reversed" p2) [a] [] pos2] [] pos) (e1 qp fa) ea:=⟨have ha:=ha.h;
 ja (wj hc hgl ml hgr mr (bM ha c7 hs) hs hs2) λσ H Q U d hE hf hQ=>by obtain⟨dx,h1,hf⟩:=bind_some hf;obtain⟨ds,h2,hf⟩:=bind_some hf;cases hf;obtain⟨ht,hi⟩:=gQ h2;refine⟨U,dx,hE,h1,λx H1 p1=>?_⟩;obtain⟨p,xs,rfl,hp,hx,hA⟩:=fG p1.rep hi ht;exact⟨p,xs,rfl,hp,λl hl=>hQ _ _ (jk p1.same hl λA hD hz=>(hA A (p1.av A hD hz)).reverse)⟩⟩
def Ep:V->l_->Hp->VK->Prop:=λx vs H Q=>∃l xs k y,x=.ref l/\vs=[.int k,y]/\H l=some (.lst xs)/\0<=k/\k<2 ^ 62/\xs.length<sizeLine/\Q .non (upd H l (.lst (xs.insertIdx (min k.toNat xs.length) y)))
theorem wk{v:V}{u:Value}(r:RelV v u):∀{xs:l_} {us:z5} (i:Nat),Vals xs us->Vals (xs.insertIdx i v) (us.insertIdx i u)
 |_,_,0,h=>by rw[List.insertIdx_zero,List.insertIdx_zero];exact .cons r h
 |_,_,i+1,.nil=>by rw[List.insertIdx_succ_nil,List.insertIdx_succ_nil];exact .nil
 |_,_,i+1,.cons h1 h2=>by rw[List.insertIdx_succ_cons,List.insertIdx_succ_cons];exact .cons h1 (wk r i h2)
def Et{α:Type}(xs:List α)(y:α):∀k,k<=xs.length->xs.take k++[y]++xs.drop k=xs.insertIdx k y:=by
 intro k
 induction xs generalizing k with
 | nil => intro h;have:k=0:=by simpa using h
          subst this;simp
 | cons x r ih=>
   intro h;cases k with
   |zero=>simp
   |succ k=>simpa using ih k (by simpa using h)
def Eu:MtM X "list.insert" Ep:=by
 intro G_ s σ H x vs v us Q I rx rv h;obtain⟨l,xs,k,y,rfl,rfl,hH,hk0,hk1,hz,q⟩:=h;cases rx;cases rv with
 | cons ru rr=>
   set_option tactic.hygienic true in cases rr with
   | cons ry rr=>
     cases rr;obtain⟨t,rfl⟩:=ru;rename_i w;obtain⟨z,its,n,r,hl,e⟩:=I.lstM hH;refine z4m PySem.F.slot_list_insert ⟨_,e,rfl⟩ PySem.F.entry_list_insert (PySem.F.args_list_insert_3 _ _ _) (AutoSeq1.list_insert_list_int_val_1 l its.toArray n k t w (by rw[fitsIndex_both (k:=k) ∅ ∅];decide) (by rw[z9q];ext)) ⟨e,?_⟩;refine⟨.non,_,I.lset (its':=its.insertIdx (min k.toNat xs.length) w) hH e ?_ (wk ry _ r) ?_,rfl,q⟩
     ·have hm:min k.toNat its.length<=its.length:=z4a _ _
      rw[hl,<- Et its w _ hm];simp only[z9q,if_neg (show ¬k<0 by ext)];apply Array.toList_inj.mp;simp;exact z7l (by rw[z7p];ext)
     ·have:(xs.insertIdx (min k.toNat xs.length) y).length<=xs.length+1:=by rw[List.length_insertIdx];split<;>ext
      ext
end
section
variable {F:Fr0}{ix:Expr}{fe fx:FE}{es ei:p_}
theorem Ev(i:Nat)(hx:VE X ix fx ei)(he:VE X e fe es)(hi:i∈bR O es)(hN:X.N[i]?=some x)(hv:Vis X.env.scope x<|>J9)(hd:DB x)(hcd:(x==("__classdict__" : Str))=false)(hbase:attributeBase (.Name x p2) "insert" X.env (eval (.Name x p2) X.env)=eval (.Name x p2) X.env)(hfew:(((backTo cp (starEach [ix,e] X.env)).all (λx=>!x.1)&&(backToKw cp (keywordEach [] X.env)).all (λx=>x.1.isSome)
   && decide (([ix,e]:z6).length+([]:z8).length+(if([]:z8).isEmpty then 0 else 1)<30))=true)<|>J7)(hline:(ap.endLine==cp.line)=true<|>J7)(hs:SE ix [e] X<|>J7)(hs2:SE e [] X<|>J7)(hplain:BT cp [e] X<|>J7)(hsw:swapsWith (.Call (.Attribute (.Name x p2) "insert" ap) [ix,e] [] cp) none pos.line X.env=pure false<|>J7):
  VS X F O (.Expr (.Call (.Attribute (.Name x p2) "insert" ap) [ix,e] [] cp) pos) (iz i fx fe) (bR O es) OL fr:=λJ2=>
 fI (jW (ib z6y PySem.F.slot_list_insert PySem.F.type_list_insert Eu (fu hN hv hd hcd) (bM hx (bM he c7 hs2) hs) hbase hfew hline hs hplain) hsw) λDe σ H U o hE hf hQ=>by
  obtain⟨x,h1,hf⟩:=bind_some hf;have h1:=gc h1;obtain⟨ds0,rfl⟩:∃ds0,x=.lst ds0:=by cases x<;>first|exact⟨_,rfl⟩|cases hf
  obtain⟨a,xs,ds,k1,k2,k3,k4,k5⟩:=hE.ownL (jp i hi) h1;rw[k2]at h1;cases h1;obtain⟨dk,h0,hf⟩:=bind_some hf;cases dk with
  | int k=>
    obtain⟨d,h2,hf⟩:=bind_some hf;obtain⟨⟨hl,hk0,hk1⟩,rfl⟩:=bP hf;refine⟨_,k1,.inl ⟨rfl,xs,.inl (.inl k3)⟩,U,.int k,hE.envR,h0,λv0 H0 p0=>?_⟩;have hE0:=hE.up p0.same;cases p0.rep;refine⟨U,d,hE0.envR,h2,λv H1 p=>?_⟩;obtain⟨hE1,hr⟩:=hE0.eval p;obtain⟨a',ys,ds',m1,m2,m3,m4,m5⟩:=hE1.ownL hi k2;rw[k1]at m1;cases m1;rw[k2]at m2;cases m2;have e3:=p.same _ _ (p0.same _ _ k3);have e4:xs=ys:=by rw[m3]at e3;cases e3;rfl
    subst e4;have len:=(m5 _ F.none).length;refine⟨a,xs,k,v,rfl,rfl,m3,hk0,by ext,z9u (show xs.length<100000 by ext) (by decide),hQ σ _ ?_⟩;rw[len];exact hE1.put hi k1 λA hA=>(m5 A hA).insertIdx (hr A hA) _
  |_=>cases hf
end
noncomputable def wm(sc:Scope)(names:List (Str×NameKind)):Bool:=names.all λx=>!(x.2==.free)||sc.names.lookup x.1==some .cell||sc.names.lookup x.1==some .free
def Ex(sc:Scope)(hs:X.env.scope=sc)(h:wm sc names=true):∀x∈names,x.2=.free->(X.env.kindOf x.1=some .cell\/X.env.kindOf x.1=some .free):=λx hx hf=>by have:=z9y.mp h x hx;unfold PySem.Env.kindOf;rw[hs];simp only[hf,z5f,Bool.not_true,Bool.false_or,Bool.or_eq_true,z7n]at this;exact this
def inD:D->D->o_:=λx y=>(items y).bind λds=>if aW x=true/\ds.all aW=true then some (.bl (ds.any λd=>fg d x))else none
def mT:D->D->o_:=λx y=>(items y).bind λds=>if aW x=true/\ds.all aW=true then some (.bl (!ds.any λd=>fg d x))else none
def qw{d:D}(r:Rep K H v d)(h:aW d=true):fw v=true:=by cases r<;>first|rfl|cases h
theorem qz{K:K0}{H:Hp}:∀{vs:l_} {ds:n_},Reps K H vs ds->ds.all aW=true->vs.all fw=true
 |[],_,h,_=>by cases h;rfl
 | _::_,_,h,hs=>by
   cases h with
   |cons a t=>rw[z6d,z8m]at hs;rw[z6d,qw a hs.1,qz t hs.2];rfl
def Ey{w:V}{d e:D}(r:Rep K H v d)(r':Rep K H w e)(h:aW d=true)(h':aW e=true):eqV v w=fg d e:=by cases r<;>cases r'<;>first|rfl|cases h|cases h'
theorem qA{K:K0}{H:Hp}{w:V}{e:D}(r':Rep K H w e)(h':aW e=true):∀{vs:l_} {ds:n_},Reps K H vs ds->ds.all aW=true->inV w vs=ds.any λd=>fg d e
 |[],_,h,_=>by cases h;rfl
 | _::_,_,h,hs=>by
   cases h with
   |cons a t=>rw[z6d,z8m]at hs;have ih:=qA r' h' t hs.2;unfold inV at ih ⊢;rw[z6j,z6j,Ey a r' hs.1 h',ih]
def Ez(K:K0):OpV K (rIn K false) inD:=λx y H dx dy d Q rx ry hg q=>by obtain⟨ds,h1,hg⟩:=bind_some hg;obtain⟨⟨hx,hs⟩,rfl⟩:=bP hg;obtain⟨p,xs,rfl,hp,hr,_⟩:=jj ry h1;refine⟨p,xs,rfl,hp,qw rx hx,qz hr hs,?_⟩;rw[qA rx hx hr hs];exact q _ _ (Same.refl H) (.bl _) λA _ _ _=>.bl _
def EA(K:K0):OpV K (rIn K true) mT:=λx y H dx dy d Q rx ry hg q=>by obtain⟨ds,h1,hg⟩:=bind_some hg;obtain⟨⟨hx,hs⟩,rfl⟩:=bP hg;obtain⟨p,xs,rfl,hp,hr,_⟩:=jj ry h1;refine⟨p,xs,rfl,hp,qw rx hx,qz hr hs,?_⟩;rw[qA rx hx hr hs];exact q _ _ (Same.refl H) (.bl _) λA _ _ _=>.bl _
noncomputable def Itd(lo:Int)(n:Nat):It:=⟨λi _=>i<n,λi H x H'=>H'=H/\x=.int (lo-i),λi _=>n<=i⟩
def EB(it:Addr)(lo:Int)(n:Nat):Turn P w K tg (Itd lo n) [it] it (λi h=>IsRangeIter h it (lo+(i:Nat)*(-1)) ((n:Int)-(i:Nat)) (-1)) where
 mem:=by simp
 obj:= λi h st b hb=>by
  have e:b=it:=by simpa using hb
  subst e;exact⟨_,st,λv z=>by have z':Data.fields _=Data.cell v:=z;cases z'⟩
 keep:=λi h h' st k=>k it (by simp) _ st
 item:=by
  intro X hP hw hK hc i G_ s σ H E I hf st hg;subst hP hw hK;obtain⟨f0,f1,f2,f3,f4,f5⟩:=hf it (by simp);have W:=Walks.range (prog:=X.prog) (w:=X.w) (I.ok.hd hc) it lo (-1) n;refine W.item i s _ _ hg st λv h' tk hv st' kk=>?_
  obtain⟨t,rfl⟩:=hv;have I1:Inv X G_ σ H {s with heap:=h',toks:=tk}:=I.turned (λb o hb e=>kk b o (by simpa using hb) e) f0 f1 f3 f4 f5;refine⟨_,rfl,j3 (s:={s with heap:=h',toks:=tk}) (n:="range_iterator") st' rfl rfl (by decide) ⟨.int (lo-i),H,I1,⟨t,?_⟩,⟨rfl,rfl⟩,st',λb hb=>(hf b hb).1⟩⟩;congr 1;ext
 done:=by intro X hP hw hK hc i G_ s σ H E I hf st hg;subst hP hw hK;obtain⟨f0,f1,f2,f3,f4,f5⟩:=hf it (by simp);exact wpAny_pyNext_range_end (I.ok.hd hc) st (by have:n<=i:=hg;ext) λh' eb=>⟨rfl,I.turned (t':=s.toks) (λb o hb e=>eb b o hb e) f0 f1 f3 f4 f5⟩
 self:=λ_ _ _ _ _ st h=>wpAny_pyIter_rangeiter st h
def wn(a b:Int):Builtin.Range.rangeSize a b (-1)=if b<a then a-b else 0:=by
 unfold Builtin.Range.rangeSize;rw[if_neg (by decide)];have:(-(-1):Int)=1:=by decide
 rw[this,Int.ediv_one];by_cases h:b<a
 ·rw[if_pos h,if_pos h];ext
 ·rw[if_neg h,if_neg h]
def EC{a b:Int}(ha:-(2 ^ 62)<=a)(ha':a<2 ^ 62)(hb:-(2 ^ 62)<=b)(hb':b<2 ^ 62):Builtin.Range.small a b (-1)=true:=by unfold Builtin.Range.small;rw[wn];simp only[Builtin.Range.rangeFitsLong,z8m,Bool.or_eq_true,decide_eq_true_eq,z7n,show ¬((-1:Int) > 0)by decide,z4t];split<;>ext
def ED{R:It->Hp->Prop}{hi:Int}{t u v:Tok}(I:Inv X G_ σ H s)(h1:-(2 ^ 62)<=lo)(h2:lo<2 ^ 62)(h3:-(2 ^ 62)<=hi)(h4:hi<2 ^ 62)(q:R (Itd lo (lo-hi).toNat) H):wpAny (model X.prog X.w) X.A (pyIter (.ref s.heap.objs.size)) (PIE X G_ σ tg R) E {s with heap:=s.heap.push {cls:=.type "range",data:=.fields #[.int lo t,.int hi u,.int (-1) v]},toks:=tk}:=by
 refine wpAny_pyIter_range (IsRange.new ..) (EC h1 h2 h3 h4) ?_;have I1:Inv X G_ σ H {s with heap:=s.heap.push {cls:=.type "range",data:=.fields #[.int lo t,.int hi u,.int (-1) v]},toks:=tk}:=I.kept λb o e=>z9l _ e
 refine⟨(s.heap.push {cls:=.type "range",data:=.fields #[.int lo t,.int hi u,.int (-1) v]}).objs.size,[(s.heap.push {cls:=.type "range",data:=.fields #[.int lo t,.int hi u,.int (-1) v]}).objs.size],_,_,H,rfl,
  I1.kept (t':=tk) λb o e=>z9l _ e,EB _ lo (lo-hi).toNat,?_,λb hb=>?_,q⟩
 ·have e1:lo+((0:Nat):Int)*(-1)=lo:=by ext
  have e2:(((lo-hi).toNat:Nat):Int)-((0:Nat):Int)=Builtin.Range.rangeSize lo hi (-1):=by rw[wn];split<;>ext
  show IsRangeIter _ _ (lo+((0:Nat):Int)*(-1)) ((((lo-hi).toNat:Nat):Int)-((0:Nat):Int)) (-1);rw[e1,e2];exact z8l _ rfl
 ·have e:b=(s.heap.push {cls:=.type "range",data:=.fields #[.int lo t,.int hi u,.int (-1) v]}).objs.size:=by simpa using hb
  subst e;exact I1.fpOk (z9i _) (I1.hok.fresh (z9i _))
def EE(ta:TA):TI:=λσ H R=>ta σ H λvs H1=>∃i j:Int,vs=[.int i,.int j,.int (-1)]/\(-(2 ^ 62)<=i/\i<2 ^ 62/\-(2 ^ 62)<=j/\j<2 ^ 62)/\R (Itd i (i-j).toNat) H1
def EF{ta:TA}(hg:Gl X "range")(hm:X.mg "range"=none)(ha:PA X [a,b,c] ta)(hs:SE a [b,c] X<|>J7)(hpl:BT pos [b,c] X<|>J7):
  PI X tg (.Call (.Name "range" p) [a,b,c] [] pos) (EE ta):=by
 intro G_ s σ H R I h;refine Call_ (eZ I hg hm boot_range (z8x (cQ (ha pos G_ s σ H _ I h) λus s1 vs H1 I1 r1 q1=>?_) hs hpl));obtain⟨i,j,e,⟨q1,q2,q3,q4⟩,q⟩:=q1;subst e;cases r1 with
 | cons r rr=>
   cases rr with
   | cons r' rr=>
     cases rr with
     |cons r'' rr=>cases rr;obtain⟨t,rfl⟩:=r;obtain⟨t',rfl⟩:=r';obtain⟨t'',rfl⟩:=r'';exact call_range_3 (by decide) (ED I1 q1 q2 q3 q4 q) (.inl (PyProof.noPylong_of_log2 (by decide +kernel)))
noncomputable def gR(lo:Int)(n:Nat):n_:=(List.range n).map λ(k:Nat)=>.int (lo-k)
def EG(h:i<n):(gR lo n).drop i=.int (lo-i)::(gR lo n).drop (i+1):=by
 have hl:i<(gR lo n).length:=by simpa [gR]using h
 rw[z9v hl];simp[gR]
def EH{g:TG}{tb:TS}{D:Ends}(Pv:Nat->St->Hp->Prop)(h0:Pv 0 σ H)(hs:∀i σ H,i<n->Pv i σ H->g (.int (lo-(i:Nat))) σ H λσ2 H2=>tb {D with nx:=Pv (i+1),ct:=Pv (i+1),bk:=D.nx} σ2 H2)(hd:∀σ H,Pv n σ H->D.nx σ H):
  ∃W:Nat->Nat->St->Hp->Prop,(∃m,W 0 m σ H)/\∀i m σ H,W i m σ H ->
    ((Itd lo n).stop i H/\D.nx σ H)\/((Itd lo n).go i H/\∃N:St->Hp->Prop,(∀σ' H',N σ' H'->∃m',m'<m/\W (i+1) m' σ' H')/\∀x H',(Itd lo n).yld i H x H'->g x σ H' λσ2 H2=>tb {D with nx:=N,ct:=N,bk:=D.nx} σ2 H2):=by
 refine⟨λi m σ H=>m=n-i/\i<=n/\Pv i σ H,⟨n,by simp,z7a _,h0⟩,?_⟩;rintro i m σ H ⟨rfl,hi,p⟩;by_cases hlt:i<n
 ·refine .inr ⟨hlt,Pv (i+1),λσ' H' p'=>⟨n-(i+1),by ext,rfl,hlt,p'⟩,λx H' y=>?_⟩
  obtain⟨e,y⟩:=y;subst e y;exact hs i σ _ hlt p
 ·have e:i=n:=by ext
  subst e;exact .inl ⟨z9i _,hd σ H p⟩
def mU(t:Nat)(as:FEs)(tb:FS):FS:=λU=>(as U).bind λds=>match ds with
 |[.int i,.int j,.int k]=>if okR i/\okR j/\k = -1 then br (λx U=>tb (U.set t (some x))) (gR i (i-j).toNat) U else none
 |_=>none
section
variable {es:p_}{as:FEs}
noncomputable def iA:D->o_
 |.int i=>some (.int i)
 |.bl k=>some (.int (if k then 1 else 0))
 |_=>none
def qB(mi:X.mg "int"=none)(ha:JA X [a] as es)(hg:Gl X "int"<|>J7)(he:SE a [] X<|>J7)(hpl:BT pos [] X<|>J7):
  JE X (.Call (.Name "int" p) [a] [] pos) (eA (ar iA) as) []:=⟨have ha:=ha.h;
 dX (gD Cg hg mi (by decide +kernel) ha (by decide) (by decide) he hpl) λσ H Q U d hE hf hQ=>by
  obtain⟨ds,h1,hf⟩:=bind_some hf;refine⟨U,ds,hE,h1,λvs H1 p=>?_⟩;obtain⟨x,rfl,hg1⟩:=gL hf;obtain⟨v,rfl,r1⟩:=f9 p.rep;cases r1<;>first|(cases hg1;done)|skip
  ·cases hg1
   exact .inr ⟨_,rfl,hQ _ _ ⟨p.same,.int _,λA _ _=>.int _⟩⟩
  ·cases hg1
   exact .inl ⟨_,rfl,hQ _ _ ⟨p.same,.int _,λA _ _=>.int _⟩⟩⟩
end
theorem wo{env:PySem.Env}:∀{names:List (Str×NameKind)} {x:Str},names.lookup x=some .free ->
  (names.map λ(n,k)=>if(k==NameKind.free&&env.scope.kind==.function&&env.kindOf n==some .cell)then(n,NameKind.cell)else(n,k)).lookup x=some .cell \/
  (names.map λ(n,k)=>if(k==NameKind.free&&env.scope.kind==.function&&env.kindOf n==some .cell)then(n,NameKind.cell)else(n,k)).lookup x=some .free
 |[],_,h=>by simp at h
 | (n,k)::r,x,h=>by
   have ih:=@wo env r x;show List.lookup x ((if(k==NameKind.free&&env.scope.kind==.function&&env.kindOf n==some .cell)=true then(n,NameKind.cell)else(n,k))::(r.map λ(n,k)=>if(k==NameKind.free&&env.scope.kind==.function&&env.kindOf n==some .cell)then(n,NameKind.cell)else(n,k)))=some .cell\/List.lookup x ((if(k==NameKind.free&&env.scope.kind==.function&&env.kindOf n==some .cell)=true then(n,NameKind.cell)else(n,k))::(r.map λ(n,k)=>if(k==NameKind.free&&env.scope.kind==.function&&env.kindOf n==some .cell)then(n,NameKind.cell)else(n,k)))=some .free;rw[z8u]at h;by_cases hcd:(k==NameKind.free&&env.scope.kind==.function&&env.kindOf n==some .cell)=true
   ·rw[if_pos hcd,z8u]
    cases hx:x==n with
    |true=>exact .inl rfl
    |false=>rw[hx]at h;exact ih h
   ·rw[if_neg hcd,z8u]
    cases hx:x==n with
    |true=>rw[hx]at h;exact .inr h
    |false=>rw[hx]at h;exact ih h
noncomputable def EI(sc:Scope)(names:List (Str×NameKind)):Bool:=names.all λx=>!(x.2==.free)||sc.names.lookup x.1==some .free
def EJ(scope:Scope)(h:EI scope names=true):∀x∈names,x.2=.free->((blk X N s H scope cl ex).env.kindOf x.1=some .cell\/(blk X N s H scope cl ex).env.kindOf x.1=some .free):=λx hx hf=>by have:=z9y.mp h x hx;simp only[hf,z5f,Bool.not_true,Bool.false_or,z7n]at this;exact wo this
abbrev AA(A:Addr->Prop)(a:Addr)(bs:z7):Addr->Prop:=λb=>A b\/b=a\/b∈bs
def InR(K:K0)(H:Hp)(A:Addr->Prop)(bs:z7)(dss:List n_):Prop:=
 bs.length=dss.length/\∀(k:Nat) b ds,bs[k]?=some b->dss[k]?=some ds->∃ys,H b=some (.lst ys)/\Reps K (ao H A) ys ds
section
variable {A A':Addr->Prop}{bs:z7}{dss:List n_}
def InR.mono(e:Same H H')(h:InR K H A bs dss):InR K H' A bs dss:=⟨h.1,λk b ds h1 h2=>by obtain⟨ys,h3,h4⟩:=h.2 k b ds h1 h2;exact⟨ys,e _ _ h3,aV (c8 e) h4⟩⟩
def InR.at(h:InR K H A bs dss){k:Nat}{b:Addr}(hb:bs[k]?=some b):∃ds ys,dss[k]?=some ds/\H b=some (.lst ys)/\Reps K (ao H A) ys ds:=by
 have hk:k<dss.length:=by have:=(z9c.mp hb).1;have:=h.1;ext
 obtain⟨ys,h3,h4⟩:=h.2 k b dss[k] hb (z9k hk);exact⟨_,ys,z9k hk,h3,h4⟩
theorem wp:∀{vs:l_} {ds:n_},vs.length=ds.length->(∀(k:Nat) v d,vs[k]?=some v->ds[k]?=some d->Rep K H v d)->Reps K H vs ds
 |[],[],_,_=>.nil
 |[],_::_,h,_=>by cases h
 |_::_,[],h,_=>by cases h
 |v::vs,d::ds,h,k=>.cons (k 0 v d rfl rfl) (wp (by simpa using h) λm v' d' h1 h2=>k (m+1) v' d' (by simpa using h1) (by simpa using h2))
def InR.reps(h:InR K H A bs dss)(hA:∀b,A' b->A b)(hb:∀b∈bs,¬A' b):Reps K (ao H A') (bs.map V.ref) (dss.map D.lst):=by
 refine wp (by simpa using h.1) λk v d h1 h2=>?_
 rw[z9z]at h1 h2;cases e1:bs[k]? with
 |none=>rw[e1]at h1;cases h1
 | some b=>
   cases e2:dss[k]? with
   |none=>rw[e2]at h2;cases h2
   |some ds=>rw[e1]at h1;rw[e2]at h2;cases h1;cases h2;obtain⟨ys,h3,h4⟩:=h.2 k b ds e1 e2;refine .lst (.inl ?_) (aV (cG (λ_ _ q=>q) hA) h4);rw[cr (hb b (z8a e1))];exact h3
def InR.snoc(h:InR K H A bs dss){b:Addr}{ds:n_}(hb:H b=some (.lst ys))(hr:Reps K (ao H A) ys ds):InR K H A (bs++[b]) (dss++[ds]):=by
 refine⟨by simp[h.1],λk c es h1 h2=>?_⟩;by_cases e:k<bs.length
 ·rw[z8d e]at h1
  rw[z8d (by rw[<- h.1];exact e)]at h2;exact h.2 k c es h1 h2
 ·have:k=bs.length:=by have:=(z9c.mp h1).1;simp at this;ext
  subst this;rw[z9x (z9i _),Nat.sub_self]at h1;rw[h.1,z9x (z9i _),Nat.sub_self]at h2;cases h1;cases h2;exact⟨ys,hb,hr⟩
end
def lkD(U:ag)(i r:Nat):o_:=(a5 r U).bind λk=>(a5 i U).bind λx=>match k,x with
 |.int k,.lst ds=>ds[k.toNat]?
 |_,_=>none
def vw(i:Nat):Option Nat->ag->ag
 |none,U=>U
 |some r,U=>U.set r (lkD U i r)
structure EnvD (K:K0) (F:Fr0) (J2:List Hd) (i:Nat) (al:Option Nat) (a:Addr) (bs:z7) (dss:List n_) (σ:St) (U:ag) (H:Hp):Prop where
 same:Same F.H0 H
 lσ:σ.length=F.n
 lρ:U.length=F.n
 si:σ[i]?=some (some (V.ref a))
 ri:U[i]?=some (some (.lst (dss.map .lst)))
 ha:H a=some (.lst (bs.map V.ref))
 nd:(a::bs).Nodup
 new:∀b,b=a\/b∈bs->F.H0 b=Option.none
 inn:∀A,F.PA A->InR K H (AA A a bs) bs dss
 val:∀j d,U[j]?=some (some d)->j≠i->al≠some j->∃v,σ[j]?=some (some v)/\∀A,F.PA A->Rep K (ao H (AA A a bs)) v d
 hld:∀p∈J2,∀A,F.PA A->HdOk K (ao H (AA A a bs)) p
 als:∀r,al=some r->r≠i/\∃(k:Nat) (b:Addr),U[r]?=some (some (.int (k:Nat)))/\bs[k]?=some b/\σ[r]?=some (some (V.ref b))
section
variable {F:Fr0}{J2:List Hd}{al:Option Nat}{a:Addr}{bs:z7}{dss:List n_}{U:ag}
def EnvD.up(h:EnvD K F J2 i al a bs dss σ U H)(e:Same H H'):EnvD K F J2 i al a bs dss σ U H':=
 ⟨h.same.trans e,h.lσ,h.lρ,h.si,h.ri,e _ _ h.ha,h.nd,h.new,λA hA=>(h.inn A hA).mono e,λj d q h1 h2=>let⟨v,h3,h4⟩:=h.val j d q h1 h2;⟨v,h3,λA hA=>au (c8 e) (h4 A hA)⟩,λp hp A hA=>(h.hld p hp A hA).mono (c8 e),h.als⟩
theorem EnvD.out(h:EnvD K F J2 i al a bs dss σ U H){A:Addr->Prop}(hA:F.PA A){b:Addr}(hb:b=a\/b∈bs):¬A b:=λq=>F.dom A hA b q (h.new b hb)
theorem EnvD.dom(h:EnvD K F J2 i al a bs dss σ U H){A:Addr->Prop}(hA:F.PA A):Dom H (AA A a bs):=λb q=>by
 rcases q with q|rfl|q
 ·exact((F.dom A hA).mono h.same) b q
 ·rw[h.ha];exact λz=>nomatch z
 ·obtain⟨k,hk⟩:=List.getElem?_of_mem q
  obtain⟨_,ys,_,h2,_⟩:=(h.inn A hA).at hk;rw[h2];exact λz=>nomatch z
theorem EnvD.repI(h:EnvD K F J2 i al a bs dss σ U H){A:Addr->Prop}(hA:F.PA A):Rep K (ao H A) (V.ref a) (.lst (dss.map .lst)):=by refine .lst (.inl ?_) ((h.inn A hA).reps (λb q=>.inl q) λb hb=>h.out hA (.inr hb));rw[cr (h.out hA (.inl rfl))];exact h.ha
def EK{k:Nat}{r:Nat}(hr:U[r]?=some (some (.int (k:Nat))))(hi:U[i]?=some (some (.lst (dss.map .lst)))):lkD U i r=(dss[k]?).map D.lst:=by unfold lkD a5;rw[hr,hi];simp
theorem EnvD.envR(h:EnvD K F J2 i al a bs dss σ U H):EnvR K H σ (vw i al U):=λj d e=>by
 have plain:U[j]?=some (some d)->al≠some j->∃v,σ[j]?=some (some v)/\Rep K H v d:=λe' hj=>by
  by_cases hi:j=i
  ·subst hi
   rw[h.ri]at e';cases e';exact⟨_,h.si,au (aP _ _) (h.repI F.none)⟩
  ·obtain⟨v,h1,h2⟩:=h.val j d e' hi hj
   exact⟨v,h1,au (aP _ _) (h2 _ F.none)⟩
 cases al with
 |none=>exact plain e λz=>nomatch z
 | some r=>
   obtain⟨hri,k,b,h1,h2,h3⟩:=h.als r rfl;by_cases hj:j=r
   ·subst hj
    have hl:j<U.length:=(z9c.mp h1).1;unfold vw at e;rw[z9r hl,EK h1 h.ri]at e;obtain⟨ds,ys,h4,h5,h6⟩:=(h.inn _ F.none).at h2;rw[h4]at e;cases e;exact⟨_,h3,.lst (.inl h5) (aV (aP _ _) h6)⟩
   ·unfold vw at e
    rw[z9f (Ne.symm hj)]at e;exact plain e λz=>hj (z7f z).symm
theorem EnvD.set(h:EnvD K F J2 i al a bs dss σ U H){d:D}(hj:j≠i)(hal:al≠some j)(hv:∀A,F.PA A->Rep K (ao H (AA A a bs)) v d):EnvD K F J2 i al a bs dss (σ.set j (some v)) (U.set j (some d)) H:=by
 refine⟨h.same,by rw[z8e];exact h.lσ,by rw[z8e];exact h.lρ,?_,?_,h.ha,h.nd,h.new,h.inn,λm e q h1 h2=>?_,h.hld,λr hr=>?_⟩
 ·rw[z9f hj];exact h.si
 ·rw[z9f hj];exact h.ri
 ·by_cases e1:m=j
  ·subst e1
   have l1:m<U.length:=by have:=(z9c.mp q).1;simpa using this
   rw[z9r l1]at q;cases q;exact⟨v,z9r (by rw[h.lσ,<- h.lρ];exact l1),hv⟩
  ·rw[z9f (Ne.symm e1)]at q ⊢
   exact h.val m e q h1 h2
 ·obtain⟨h1,k,b,h2,h3,h4⟩:=h.als r hr
  have ne:j≠r:=λe=>hal (e▸hr)
  exact⟨h1,k,b,by rw[z9f ne];exact h2,h3,by rw[z9f ne];exact h4⟩
end
theorem qC{K:K0}{H H':Hp}:∀{vs:l_} {ds:n_},ds.all aW=true->Reps K H vs ds->Reps K H' vs ds
 |[],_,_,h=>by cases h;exact .nil
 | _::_,_,s,h=>by
   cases h with
   |cons h1 h2=>rw[z6d,z8m]at s;exact .cons (kt s.1 h1) (qC s.2 h2)
structure PostD (K:K0) (σ:St) (U:ag) (H:Hp) (es:p_) (d:D) (v:V) (H':Hp):Prop where
 same:Same H H'
 new:∃l bs dss,v=V.ref l/\d=.lst (dss.map .lst)/\(l::bs).Nodup/\(∀b,b=l\/b∈bs->H b=none)/\H' l=some (.lst (bs.map V.ref))/\∀A,Dom H A->(∀e∈es,Av K H σ U A e)->InR K H' (AA A l bs) bs dss
section
variable {g:TG}{c:ag->k_}
theorem EnvO.setD{F:Fr0}{J2:List Hd}{U:ag}(h:EnvO K F J2 O σ U H){es:p_}{d:D}(p:PostD K σ U H es d v H')(hn:i<F.n):
  ∃a bs dss,EnvD K F J2 i none a bs dss (σ.set i (some v)) (U.set i (some d)) H':=by
 have h:=h.weaken (O':=[]) λ_ q=>nomatch q
 obtain⟨l,bs,dss,rfl,rfl,hnd,hnew,hl',hr⟩:=p.new;have off:∀{A:Addr->Prop} (b:Addr),Off σ [] A b↔A b:=λ{A} b=>⟨λq=>q.elim (λy0=>by obtain⟨_,q,_⟩:=y0;exact nomatch q) id,.inr⟩
 have dom:∀{A:Addr->Prop},F.PA A->Dom H A:=λ{A} hA=>(F.dom A hA).mono h.same
 have av:∀{A:Addr->Prop},F.PA A->∀e∈es,Av K H σ U A e:=λ{A} hA e he=>by have:=h.av (e:=e) hA (by cases e<;>rfl);rw[show Off σ [] A=A from funext λb=>propext (off b)]at this;exact this
 have up:∀{A:Addr->Prop},Same (ao H (Off σ [] A)) (ao H' (AA A l bs)):=λ{A} c o q=>by
  obtain⟨n,q⟩:=eG q;rw[cr]
  ·exact p.same c o q
  ·rintro(z|z)
   ·exact n (.inr z)
   ·rw[hnew c z]at q;cases q
 refine⟨l,bs,dss,h.same.trans p.same,by rw[z8e];exact h.lσ,by rw[z8e];exact h.lρ,z9r (by rw[h.lσ];exact hn),z9r (by rw[h.lρ];exact hn),hl',hnd,λb hb=>h.same.free (hnew b hb),λA hA=>hr A (dom hA) (av hA),λj e q h1 h2=>?_,λz hz A hA=>(h.hld z hz A hA).mono up,λr hr=>nomatch hr⟩;rw[z9f (Ne.symm h1)]at q ⊢;obtain⟨v',h3,h4⟩:=h.val j e q λz=>nomatch z
 exact⟨v',h3,λA hA=>au up (h4 A hA)⟩
def mV(f:FS):Prop:=∀U ρ',f U≠some (.nx ρ')
theorem EL{f g:FS}(h:mV g):mV (aR f g):=λU ρ' q=>by
 obtain⟨o,h1,h2⟩:=bind_some q;cases o with
 |nx ρ1=>exact h ρ1 ρ' h2
 |_=>cases h2
end
structure RetX (K:K0) (H0:Hp) (d:D) (v:V) (H':Hp):Prop where
 same:Same H0 H'
 new:∃l bs dss,v=V.ref l/\d=.lst (dss.map .lst)/\(l::bs).Nodup/\(∀b,b=l\/b∈bs->H0 b=none)/\H' l=some (.lst (bs.map V.ref))/\∀A,InR K H' A bs dss
def qD:D->Bool
 |.lst es=>es.all aW
 |_=>false
def EM{A:Addr->Prop}{bs:z7}{dss:List n_}(hs:(dss.map D.lst).all qD=true)(hb:∀b∈bs,H' b=H b)(h:InR K H A bs dss)(A':Addr->Prop):InR K H' A' bs dss:=⟨h.1,λk b ds h1 h2=>by obtain⟨ys,h3,h4⟩:=h.2 k b ds h1 h2;have hm:D.lst ds∈dss.map D.lst:=z7c.mpr ⟨ds,z8a h2,rfl⟩;exact⟨ys,by rw[hb b (z8a h1)];exact h3,qC (z9y.mp hs _ hm) h4⟩⟩
section
variable {F:Fr0}{J2:List Hd}{a:Addr}{bs:z7}{dss:List n_}{U:ag}
theorem EnvD.push(h:EnvD K F J2 i none a bs dss σ U H)(e:Same H H')(hl:H l=none){ds:n_}(hl':H' l=some (.lst ys))(hr:∀H'',Reps K H'' ys ds):
  EnvD K F J2 i none a (bs++[l]) (dss++[ds]) σ (U.set i (some (.lst ((dss++[ds]).map .lst)))) (upd H' a (.lst ((bs++[l]).map V.ref))):=by
 have hE:=h.up e;have nd:=z8o.mp h.nd;have hla:l≠a:=λq=>by subst q;rw[h.ha]at hl;cases hl
 have hlb:l∉bs:=λq=>h.dom F.none l (.inr (.inr q)) hl
 have hpl:i<U.length:=(z9c.mp h.ri).1;have sub:∀{c:Addr},c∈bs++[l]->c∈bs\/c=l:=λ{c} q=>(z7g.mp q).imp id z8b.mp
 have up:∀{A:Addr->Prop},Same (ao H (AA A a bs)) (ao (upd H' a (.lst ((bs++[l]).map V.ref))) (AA A a (bs++[l]))):=λ{A} c o q=>by
  obtain⟨n,q⟩:=eG q;have ne:c≠a:=λz=>n (.inr (.inl z))
  have nl:c≠l:=c6 q hl;rw[cr,aE ne]
  ·exact e c o q
  ·rintro(z|z|z)
   ·exact n (.inl z)
   ·exact ne z
   ·rcases sub z with z|z
    ·exact n (.inr (.inr z))
    ·exact nl z
 refine⟨λc o q=>?_,h.lσ,by rw[z8e];exact h.lρ,h.si,z9r hpl,bn,?_,λc hc=>?_,λA hA=>InR.snoc ⟨(h.inn A hA).1,λm c es h1 h2=>?_⟩ ?_ (hr _),λj d q h1 h2=>?_,λp hp A hA=>(h.hld p hp A hA).mono up,λr hr=>nomatch hr⟩
 ·rw[aE (show c≠a from λz=>by subst z;rw[h.new c (.inl rfl)]at q;cases q)]
  exact hE.same c o q
 ·refine z8o.mpr ⟨λz=>?_,?_⟩
  ·rcases sub z with z|z
   ·exact nd.1 z
   ·exact hla z.symm
  ·rw[List.nodup_append]
   exact⟨nd.2,by simp,λx hx y hy=>by rw[z8b]at hy;subst hy;exact λq=>hlb (q▸hx)⟩
 ·rcases hc with rfl|hc
  ·exact h.new c (.inl rfl)
  ·rcases sub hc with hc|rfl
   ·exact h.new c (.inr hc)
   ·cases q:F.H0 c with
    |none=>rfl
    |some o=>rw[h.same c o q]at hl;cases hl
 ·obtain⟨zs,h3,h4⟩:=(h.inn A hA).2 m c es h1 h2
  have ne:c≠a:=λz=>nd.1 (z▸z8a h1)
  exact⟨zs,by rw[aE ne];exact e _ _ h3,aV up h4⟩
 ·rw[aE hla];exact hl'
 ·rw[z9f (Ne.symm h1)]at q
  obtain⟨v,h3,h4⟩:=h.val j d q h1 h2;exact⟨v,h3,λA hA=>au up (h4 A hA)⟩
end
def EN(K:K0)(F:Fr0)(J2:List Hd)(i:Nat)(De:Ends):Out->Prop
 |.nx ρ'=>∀a bs dss σ' H',EnvD K F J2 i none a bs dss σ' ρ' H'->De.nx σ' H'
 |.rt d=>∀v H',RetX K F.H0 d v H'->De.rt v H'
 |.bk _=>True
 |.ct _=>True
def tsX(K:K0)(F:Fr0)(J2:List Hd)(i:Nat)(f:FS):TS:=λDe σ H=>∃a bs dss U o,EnvD K F J2 i none a bs dss σ U H/\f U=some o/\EN K F J2 i De o
abbrev VX(X:Cx)(F:Fr0)(i:Nat)(st:Stmt)(f:FS):Prop:=∀J2,PS X st (tsX X.K F J2 i f)
structure JX (X:Cx) (F:Fr0) (i:Nat) (st:Stmt) (f:FS):Prop where
 h:VX X F i st f
abbrev VXs(X:Cx)(F:Fr0)(i:Nat)(st:z9)(f:FS):Prop:=∀J2,PSs X st (tsX X.K F J2 i f)
structure JXs (X:Cx) (F:Fr0) (i:Nat) (st:z9) (f:FS):Prop where
 h:VXs X F i st f
def EO(K:K0)(F:Fr0)(J2:List Hd)(O':y9)(De:Ends):Out->Prop
 |.nx ρ'=>∀σ' H',EnvO K F J2 O' σ' ρ' H'->De.nx σ' H'
 |.rt d=>∀v H',RetX K F.H0 d v H'->De.rt v H'
 |.bk _=>True
 |.ct _=>True
def tsR(K:K0)(F:Fr0)(J2:List Hd)(O O':y9)(f:FS):TS:=λDe σ H=>∃U o,EnvO K F J2 O σ U H/\f U=some o/\EO K F J2 O' De o
abbrev VRs(X:Cx)(F:Fr0)(O:y9)(st:z9)(f:FS)(O':y9):Prop:=∀J2,PSs X st (tsR X.K F J2 O O' f)
structure JRs (X:Cx) (F:Fr0) (O:y9) (st:z9) (f:FS) (O':y9):Prop where
 h:VRs X F O st f O'
section
variable {F:Fr0}{f g:FS}{rest:z9}{fe:FE}{es:p_}
theorem EQ(h1:JX X F i st f)(h2:JXs X F i rest g):JXs X F i (st::rest) (aR f g):=⟨have h1:=h1.h;have h2:=h2.h;λJ2=>ff (j1 (h1 J2) (h2 J2)) λDe σ H y0=>by
 obtain⟨a,bs,dss,U,o,hE,hf,hQ⟩:=y0;obtain⟨o1,h1,hf⟩:=bind_some hf;refine⟨a,bs,dss,U,o1,hE,h1,?_⟩;cases o1 with
 |nx ρ'=>exact λa' bs' dss' σ' H' hE'=>⟨a',bs',dss',ρ',o,hE',hf,hQ⟩
 |rt d=>cases hf;exact hQ
 |bk ρ'=>exact trivial
 |ct ρ'=>exact trivial⟩
def wq(h1:JX X F i st f):JXs X F i [st] f:=⟨have h1:=h1.h;λJ2=>ff (jV (h1 J2)) λDe σ H h=>h⟩
def kU(i:Nat)(f:FE):FS:=λU=>(a5 i U).bind λx=>match x with
 | .lst ds=>(f U).bind λd=>match d with
   |.lst es=>if es.all aW=true/\ds.length<100000 then some (.nx (U.set i (some (.lst (ds++[.lst es])))))else none
   |_=>none
 |_=>none
theorem ER(he:VF X e fe es)(hN:X.N[i]?=some x)(hv:Vis X.env.scope x<|>J9)(hd:DB x)(hcd:(x==("__classdict__" : Str))=false)(hbase:attributeBase (.Name x p2) "append" X.env (eval (.Name x p2) X.env)=eval (.Name x p2) X.env)(hfew:(((backTo cp (starEach [e] X.env)).all (λx=>!x.1)&&(backToKw cp (keywordEach [] X.env)).all (λx=>x.1.isSome)
   && decide (([e]:z6).length+([]:z8).length+(if([]:z8).isEmpty then 0 else 1)<30))=true)<|>J7)(hline:(ap.endLine==cp.line)=true<|>J7)(hs:SE e [] X<|>J7)(hplain:BT cp [] X<|>J7)(hsw:swapsWith (.Call (.Attribute (.Name x p2) "append" ap) [e] [] cp) none pos.line X.env=pure false<|>J7):
  VX X F i (.Expr (.Call (.Attribute (.Name x p2) "append" ap) [e] [] cp) pos) (kU i fe):=λJ2=>
 da (jW (ib z6y z5s z5t pB (fu hN hv hd hcd) (bM he c7 hs) hbase hfew hline hs hplain) hsw) λDe σ H y0=>by
  obtain⟨a,bs,dss,U,o,hE,hf,hQ⟩:=y0;obtain⟨z,h1,hf⟩:=bind_some hf;have h1:=gc h1;rw[hE.ri]at h1;cases h1;obtain⟨d,h2,hf⟩:=bind_some hf;refine⟨_,hE.si,.inl ⟨rfl,bs.map V.ref,.inl (.inl hE.ha)⟩,U,d,hE.envR,h2,λv H1 p=>?_⟩;obtain⟨l,xs,ds,rfl,rfl,hl,hl',hr⟩:=p.new;obtain⟨⟨hsc,hlen⟩,rfl⟩:=bP hf;have len:bs.length=dss.length:=(hE.inn _ F.none).1;have base:=hr fB (Dom.none H) λe _=>Av.none hE.envR e
  rw[z9b]at hlen;refine⟨a,bs.map V.ref,V.ref l,rfl,rfl,p.same _ _ hE.ha,z9u (show(bs.map V.ref).length<100000 by rw[z9b];ext) (by decide),?_⟩;refine hQ a (bs++[l]) (dss++[ds]) σ _ ?_;have h3:=hE.push p.same hl hl' λH''=>qC hsc base
  rw[z8g,z8g]at h3;exact h3
def ES(t:Nat){as:FEs}{ei:p_}{tb:FS}(hN:X.N.Nodup)(hc:X.calm=true)(mr:X.mg "range"=none)(hi:JA X [a,b,c] as ei)(hb:JXs X F i body tb)(h3:t≠i<|>J8)(hp:PassesOwn (model X.prog X.w) X.A X.env X.xe<|>Q2)(hg:Gl X "range"<|>J7)(hst:SE a [b,c] X<|>J7)(hpl:BT pr [b,c] X<|>J7)(hxN:X.N[t]?=some x<|>J7)(hx:Loc X.env.scope x<|>J9)(hfn:X.fn x=true\/X.env.scope.names.lookup x=some .local<|>J9)(hs:(∀x,foldedSetIterable (.Call (.Name "range" pn) [a,b,c] [] pr) X.env x=pure x)<|>Q0):JX X F i (.For (.Name x p2) (.Call (.Name "range" pn) [a,b,c] [] pr) body [] pos) (mU t as tb):=⟨have hi:=hi.h;have hb:=hb.h;λJ2=>by
 refine da (fZ hp hc (EF hg mr hi hst hpl) (fY hN hxN hx hfn) (hb J2) hs) λDe σ H h=>?_
 obtain⟨a0,bs,dss,U,o,hE,hf,hQ⟩:=h;obtain⟨ds,hd,hf⟩:=bind_some hf;refine⟨U,ds,hE.envR,hd,λvs H1 p=>?_⟩;have hE1:=hE.up p.same
 match ds,hf,p with
 | [.int ii,.int j,.int k],hf,p=>
   by_cases hj:okR ii/\okR j/\k = -1
   ·simp only[if_pos hj]at hf
    obtain⟨hj1,hj2,rfl⟩:=hj;have hv:vs=[.int ii,.int j,.int (-1)]:=by
     cases p.rep with
     | cons a t=>cases a;cases t with
       | cons a t=>cases a;cases t with
         |cons a t=>cases a;cases t;rfl
    refine⟨ii,j,hv,⟨hj1.1,hj1.2,hj2.1,hj2.2⟩,?_⟩;refine EH (lo:=ii) (n:=(ii-j).toNat) (g:=cq t) (tb:=tsX X.K F J2 i tb) (D:=De) (λq σ' H'=>∃a' bs' dss' ρ',EnvD X.K F J2 i none a' bs' dss' σ' ρ' H'/\br (λx U=>tb (U.set t (some x))) ((gR ii (ii-j).toNat).drop q) ρ'=some o) ⟨a0,bs,dss,U,hE1,by simpa using hf⟩ ?_ ?_
    ·rintro q σ' H' hq ⟨a',bs',dss',ρ',hE',hf'⟩
     rw[EG hq,ip]at hf';obtain⟨o1,h8,hf''⟩:=bind_some hf';refine⟨a',bs',dss',ρ'.set t (some (.int (ii-q))),o1,hE'.set h3 (λz=>nomatch z) λA hA=>.int _,h8,?_⟩;cases o1 with
     |nx ρ1=>exact λa2 bs2 dss2 σ2 H2 hE2=>⟨a2,bs2,dss2,ρ1,hE2,hf''⟩
     |rt d=>cases hf'';exact hQ
     |bk ρ1=>exact trivial
     |ct ρ1=>exact trivial
    ·rintro σ' H' ⟨a',bs',dss',ρ',hE',hf'⟩
     rw[z7d (by simp[gR])]at hf';cases hf';exact hQ a' bs' dss' σ' H' hE'
   ·simp only[if_neg hj]at hf
    cases hf⟩
def kW(i:Nat):FS:=λU=>(a5 i U).bind λx=>match x with
 |.lst ds=>if ds.all qD=true then some (.rt (.lst ds.reverse))else none
 |_=>none
theorem ET{pl pos3:Pos}(hc:X.calm=true)(ml:X.mg "list"=none)(mr:X.mg "reversed"=none)(hN:X.N[i]?=some x<|>J7)(hv:Vis X.env.scope x<|>J9)(hd:DB x<|>J8)(hcd:(x==("__classdict__" : Str))=false<|>J8)(hgl:Gl X "list"<|>J7)(hgr:Gl X "reversed"<|>J7)(hs1:starEach [.Name x p2] X.env=(false,eval (.Name x p2) X.env)::starEach [] X.env<|>J7)(hs:starEach [.Name x p2] X.env=[(false,eval (.Name x p2) X.env)]<|>J7)(hs2:starEach [.Call (.Name "reversed" pr) [.Name x p2] [] pos2] X.env=[(false,eval (.Call (.Name "reversed" pr) [.Name x p2] [] pos2) X.env)]<|>J7):
  JX X F i (.Return (some (.Call (.Name "list" pl) [.Call (.Name "reversed" pr) [.Name x p2] [] pos2] [] pos3)) pos) (kW i):=⟨λJ2=>
 da (i9 (wj hc hgl ml hgr mr (bM (fu hN hv hd hcd) c7 hs1) hs hs2)) λDe σ H y0=>by
  obtain⟨a,bs,dss,U,o,hE,hf,hQ⟩:=y0;obtain⟨z,h1,hf⟩:=bind_some hf;have h1:=gc h1;rw[hE.ri]at h1;cases h1;obtain⟨hsc,rfl⟩:=bP hf;refine⟨_,hE.si,a,bs.map V.ref,rfl,.inl (.inl hE.ha),λl hl=>hQ _ _ ⟨hE.same.trans (bo hl _),l,bs.reverse,dss.reverse,rfl,by rw[z6t],?_,?_,by rw[z6t];exact bn,λA=>?_⟩⟩
  ·refine z8o.mpr ⟨λq=>?_,List.pairwise_reverse.mpr ((z8o.mp hE.nd).2.imp λh=>Ne.symm h)⟩
   exact hE.dom F.none l (.inr (.inr (z5h.mp q))) hl
  ·rintro b (rfl|hb)
   ·exact hE.same.free hl
   ·exact hE.new b (.inr (z5h.mp hb))
  ·have h:=hE.inn _ F.none
   have hne:∀b∈bs,upd H l (.lst (bs.map V.ref).reverse) b=H b:=λb hb=>aE λq=>hE.dom F.none b (.inr (.inr hb)) (by rw[q];exact hl)
   have h2:=EM hsc hne h A;refine⟨by rw[z7j,z7j];exact h2.1,λk b ds q1 q2=>?_⟩;have hk:k<bs.length:=by have:=(z9c.mp q1).1;simpa using this
   rw[z4e hk]at q1;rw[z4e (by rw[<- h2.1];exact hk),<- h2.1]at q2;exact h2.2 _ b ds q1 q2⟩
def wu(f:FS):Prop:=∀U o,f U=some o->∃ρ',o=.nx ρ'
def EU{f:FE}:wu (bj j f):=λU o h=>by obtain⟨d,_,rfl⟩:=mv h;exact⟨_,rfl⟩
def EV(h1:JS X F O st f O1 OL fr)(hn:wu f)(h2:JRs X F O1 rest g O2):JRs X F O (st::rest) (aR f g) O2:=⟨have h1:=h1.h;have h2:=h2.h;λJ2=>ff (j1 (h1 J2) (h2 J2)) λDe σ H y0=>by obtain⟨U,o,hE,hf,hQ⟩:=y0;obtain⟨o1,h1,hf⟩:=bind_some hf;obtain⟨ρ',rfl⟩:=hn _ _ h1;exact⟨U,.nx ρ',hE,h1,λσ' H' hE'=>⟨ρ',o,hE',hf,hQ⟩⟩⟩
theorem EW(i:Nat){lp:Pos}(hN:X.N.Nodup)(he:JF X e fe es)(hn:i<F.n)(hrest:JXs X F i rest g)(hret:mV g)(hi:X.N[i]?=some x<|>J7)(hx:Loc X.env.scope x<|>J9)(hs:swapsWith (.List [e] lp) (some (.Name x p2)) pos.line X.env=pure false<|>J7)(hfn:X.fn x=true\/X.env.scope.names.lookup x=some .local<|>J9)(hs1:SE e [] X<|>J7):
  JRs X F O (.Assign [.Name x p2] (.List [e] lp) pos::rest) (aR (bj i (bV (a8 fe ai))) g) O':=⟨have he:=he.h;have hrest:=hrest.h;λJ2=>
 ff (j1 (j2 hN hi hx (lU (bM he c7 hs1)) hs hfn) (hrest J2)) λDe σ H y0=>by
  obtain⟨U,o,hE,hf,hQ⟩:=y0;obtain⟨o1,h1,hf⟩:=bind_some hf;obtain⟨d,h2,rfl⟩:=mv h1;obtain⟨dl,h3,h4⟩:=bind_some h2;obtain⟨hll,rfl⟩:=bP h4;obtain⟨d1,h5,h6⟩:=bind_some h3;obtain⟨dn,h7,h8⟩:=bind_some h6;cases h7;cases h8;refine⟨U,d1,hE.envR,h5,λv H1 p=>?_⟩;refine⟨by show 1<=sizeLine;decide,λl hl=>?_⟩;obtain⟨l1,xs,ds,rfl,rfl,hl1,hl1',hr⟩:=p.new;have ne:l1≠l:=λq=>by subst q;rw[hl]at hl1';cases hl1'
  have pD:PostD X.K σ U H es (.lst [.lst ds]) (V.ref l) (upd H1 l (.lst [V.ref l1])):=by
   refine⟨p.same.trans (bo hl _),l,[l1],[ds],rfl,rfl,?_,?_,bn,λA hD hz=>⟨rfl,λk b ds' q1 q2=>?_⟩⟩
   ·simp[Ne.symm ne]
   ·rintro b (rfl|hb)
    ·exact p.same.free hl
    ·rw[z8b.mp hb];exact hl1
   ·have hk:k=0:=by have:=(z9c.mp q1).1;simp at this;exact this
    subst hk;cases q1;cases q2;refine⟨xs,by rw[aE ne];exact hl1',aV (λc o q=>?_) (hr A hD hz)⟩;obtain⟨n,q⟩:=eG q;have nl:c≠l:=c6 q hl;rw[cr,aE nl]
    ·exact q
    ·rintro(z|z|z)
     ·exact n (.inl z)
     ·exact nl z
     ·exact n (.inr (z8b.mp z))
  obtain⟨a,bs,dss,hD⟩:=hE.setD pD hn;refine⟨a,bs,dss,_,o,hD,hf,?_⟩;cases o with
  |nx ρ'=>exact absurd hf (hret _ ρ')
  |bk ρ'=>exact trivial
  |ct ρ'=>exact trivial
  |rt d'=>exact hQ⟩
theorem EY:mV (kW i):=λU ρ' h=>by
 obtain⟨x,_,h2⟩:=bind_some h;cases x with
 |lst ds=>obtain⟨_,q⟩:=bP h2;cases q
 |_=>cases h2
end
def spX(K:K0)(G:n_->o_):Sp:=λvs H Q _=>∃ds d,Reps K H vs ds/\G ds=some d/\∀v H',RetX K H d v H'->Q v H'
theorem EZ{k:Nat}{G:n_->o_}{body:FS}(O':y9)(h1:ps.length=np)(h2:N.length=n)(h3:G=mkF true np n body)(Fn:Fun K x qual st f fd)(S:FnScope N ps (am st))(h:∀(cdv:Value) (A:Around) (outer:List PySem.Env) (s:Shared) (H:Hp) (E:XK) (F:Fr0),F.n=n->Room k (A.deeper (envOfC qual (am st) s.heap.objs.size f cdv)) ->
   VRs (cM CX0 P w K mg base N qual (am st) f cdv A outer s H E).nox F [] (cU st) body O'):
  FnOk P w K mg base CX0 (k+1) f fd ps (spX K G):=by
 subst h1 h2 h3;have hpl:ps.length<=N.length:=by have:=z8w List.length S.pre;rw[z8j]at this;ext
 refine Fn.ok S (λvs H Q E h=>?_) (λcdv A outer s H vs Q E hr h'=>?_)
 ·obtain⟨ds,d,r,hg,_⟩:=h
  unfold mkF at hg;by_cases hl:ds.length=ps.length
  ·rw[r.length,hl]
  ·rw[if_neg hl]at hg;cases hg
 ·obtain⟨ds,d,r,hg,hQ⟩:=h'
  unfold mkF at hg;by_cases hl:ds.length=ps.length
  ·rw[if_pos hl]at hg
   obtain⟨o,ho,hg⟩:=bind_some hg;let F:Fr0:=⟨H,λA=>Dom H A/\Reps K (ao H A) vs ds,N.length,λA h=>h.1,⟨Dom.none H,aV (j9 H) r⟩⟩;refine⟨_,h cdv A outer s H E F rfl hr [],ds.map some++List.replicate (N.length-ps.length) none,o,?_,ho,?_⟩
   ·have lv:=r.length
    have get:∀(i:Nat) (d:D),(ds.map some++List.replicate (N.length-ps.length) none)[i]?=some (some d)->ds[i]?=some d:=λi d q=>by
     by_cases hi:i<ds.length
     ·rw[z8d (by simpa using hi),z9z]at q
      cases e:ds[i]? with
      |none=>rw[e]at q;cases q
      |some z=>rw[e]at q;simpa using q
     ·rw[z9x (by simpa using hi),z7k]at q
      split at q<;>cases q
    refine⟨Same.refl H,?_,?_,λi d q _=>?_,λp hp=>absurd hp (by simp),λi hi=>absurd hi (by simp),λi hi=>absurd hi (by simp)⟩
    ·show(L2.start N vs).length=N.length
     unfold L2.start;rw[z9h,z9b,z8s];ext
    ·show _=N.length
     rw[z9h,z9b,z8s];ext
    ·have h1:=get i d q
     obtain⟨v,h2,_⟩:=r.get h1;refine⟨v,?_,λA hA=>?_⟩
     ·unfold L2.start
      have hi:i<vs.length:=(z9c.mp h2).1;rw[z8d (by simpa using hi),z9z,h2];rfl
     ·obtain⟨v',h3,h4⟩:=hA.2.get h1
      rw[h2]at h3;cases h3;exact au (cG (λ_ _ z=>z) λb z=>z.elim (λy0=>by obtain⟨_,hj,_⟩:=y0;exact absurd hj (by simp)) id) h4
   ·cases o with
    |rt d'=>cases hg;exact λv H' rt=>hQ v H' rt
    |nx ρ'=>cases hg
    |_=>cases hg
  ·rw[if_neg hl]at hg;cases hg
def DefX(P:Program)(w:World)(K:K0)(mg:Str->i_)(base:Heap)(x:Str)(k:Nat)(ps:z0)(G:n_->o_):Prop:=
 ∃f fd,FnOk P w K mg base CX0 k f fd ps (spX K G)/\mg x=some (.ref f)/\W.keepIn K (.ref f)=true/\Binds K fd ps []
section
variable {k:Nat}{G:n_->o_}
theorem DefX.mono(h:DefX P w K mg base x j ps G)(hk:j<=k<|>J8):DefX P w K mg base x k ps G:=
 let⟨f,fd,F,m,kp,b⟩:=h
 ⟨f,fd,F.mono hk,m,kp,b⟩
end
def um{α:Type}(f:α->α){l:List α}{k:Nat}{x:α}(h:l[k]?=some x):((l.take k).map f++l.drop k).set k (f x)=(l.take (k+1)).map f++l.drop (k+1):=by obtain⟨hk,hx⟩:=z9c.mp h;rw[List.set_append_right _ _ (by simp;ext)];rw[z9b,z8j,z5o ∅,Nat.sub_self,z9v hk,List.set_cons_zero,z8k hk,z8g,z6i,hx];rfl
noncomputable def e3(g:D->D->D->o_)(a b c:FE):FE:=λU=>(a U).bind λx=>(b U).bind λy=>(c U).bind λz=>g x y z
section
variable {es:p_}
def bD{f:FE}(h:JF X a f es):JE X a f es:=⟨VF.ve h.h⟩
def eO{j pos}:JE X (.Constant .none j pos) (eC .non) []:=⟨jc ⟩
end
section
variable {F:Fr0}{fe fb:FE}{es eb:p_}
def ww(i:Nat)(he:JE X e fe es)(hi:i∈bR O es<|>J8)(hN:X.N[i]?=some x<|>J7)(hv:Vis X.env.scope x<|>J9)(hd:DB x<|>J8)(hcd:(x==("__classdict__" : Str))=false<|>J8)(hbase:attributeBase (.Name x p2) "append" X.env (eval (.Name x p2) X.env)=eval (.Name x p2) X.env<|>J7)(hfew:(((backTo cp (starEach [e] X.env)).all (λx=>!x.1)&&(backToKw cp (keywordEach [] X.env)).all (λx=>x.1.isSome)
   && decide (([e]:z6).length+([]:z8).length+(if([]:z8).isEmpty then 0 else 1)<30))=true)<|>J7)(hline:(ap.endLine==cp.line)=true<|>J7)(hs:SE e [] X<|>J7)(hplain:BT cp [] X<|>J7)(hsw:swapsWith (.Call (.Attribute (.Name x p2) "append" ap) [e] [] cp) none pos.line X.env=pure false<|>J7):JS X F O (.Expr (.Call (.Attribute (.Name x p2) "append" ap) [e] [] cp) pos) (jr i fe) (bR O es) OL fr:=⟨DC i he.h hi hN hv hd hcd hbase hfew hline hs hplain hsw⟩
def F0(i:Nat)(he:JE X e fe es)(hb:JE X b fb eb)(hi:i∈bR O es<|>J8)(hN:X.N[i]?=some x<|>J7)(hv:Vis X.env.scope x<|>J9)(hd:DB x<|>J8)(hcd:(x==("__classdict__" : Str))=false<|>J8)(ha:(∀v,assign (.Subscript (.Name x p2) b p3) X.env v=(do
   let ov <- holding [v] (eval (.Name x p2) X.env);let iv <- holding [v,ov] (eval b X.env)
   standAt p3
   holding [v,ov,iv] (setItem ov iv v)
   release [v,ov,iv] []))<|>Q0)(hs:swapsWithSole [.Subscript (.Name x p2) b p3] e pos.line X.env=pure false<|>J7)(hw:swappedStores [.Subscript (.Name x p2) b p3] e X.env=pure none<|>J7)(h1:(assignEach [.Subscript (.Name x p2) b p3] X.env).map (·.2)=[assign (.Subscript (.Name x p2) b p3) X.env]<|>J7):JS X F O (.Assign [.Subscript (.Name x p2) b p3] e pos) (kJ i fb fe) (bR O es) OL fr:=⟨DD i he.h hb.h hi hN hv hd hcd ha hs hw h1⟩
end
section
variable {k:Nat}{G:n_->o_}{as:FEs}{es:p_}
def F1(d:Def X.prog X.w X.K X.mg X.base x k ps G fr)(hr:Room k X.A)(ha:JA X (e::es') as es)(hg:Gl X x<|>J7)(hdb:DB x<|>J8)(he:SE e es' X<|>J7)(hpl:BT pos es' X<|>J7):JE X (.Call (.Name x p) (e::es') [] pos) (eA G as) es:=⟨vY d hr ha.h hg hdb he hpl⟩
end
section
variable {F:Fr0}{ix:Expr}{fe fx:FE}{es ei:p_}
def qE(i:Nat)(hx:JE X ix fx ei)(he:JE X e fe es)(hi:i∈bR O es<|>J8)(hN:X.N[i]?=some x<|>J7)(hv:Vis X.env.scope x<|>J9)(hd:DB x<|>J8)(hcd:(x==("__classdict__" : Str))=false<|>J8)(hbase:attributeBase (.Name x p2) "insert" X.env (eval (.Name x p2) X.env)=eval (.Name x p2) X.env<|>J7)(hfew:(((backTo cp (starEach [ix,e] X.env)).all (λx=>!x.1)&&(backToKw cp (keywordEach [] X.env)).all (λx=>x.1.isSome)
   && decide (([ix,e]:z6).length+([]:z8).length+(if([]:z8).isEmpty then 0 else 1)<30))=true)<|>J7)(hline:(ap.endLine==cp.line)=true<|>J7)(hs:SE ix [e] X<|>J7)(hs2:SE e [] X<|>J7)(hplain:BT cp [e] X<|>J7)(hsw:swapsWith (.Call (.Attribute (.Name x p2) "insert" ap) [ix,e] [] cp) none pos.line X.env=pure false<|>J7):JS X F O (.Expr (.Call (.Attribute (.Name x p2) "insert" ap) [ix,e] [] cp) pos) (iz i fx fe) (bR O es) OL fr:=⟨Ev i hx.h he.h hi hN hv hd hcd hbase hfew hline hs hs2 hplain hsw⟩
end
section
variable {F:Fr0}{fe:FE}{es:p_}
def F2(he:JF X e fe es)(hN:X.N[i]?=some x<|>J7)(hv:Vis X.env.scope x<|>J9)(hd:DB x<|>J8)(hcd:(x==("__classdict__" : Str))=false<|>J8)(hbase:attributeBase (.Name x p2) "append" X.env (eval (.Name x p2) X.env)=eval (.Name x p2) X.env<|>J7)(hfew:(((backTo cp (starEach [e] X.env)).all (λx=>!x.1)&&(backToKw cp (keywordEach [] X.env)).all (λx=>x.1.isSome)
   && decide (([e]:z6).length+([]:z8).length+(if([]:z8).isEmpty then 0 else 1)<30))=true)<|>J7)(hline:(ap.endLine==cp.line)=true<|>J7)(hs:SE e [] X<|>J7)(hplain:BT cp [] X<|>J7)(hsw:swapsWith (.Call (.Attribute (.Name x p2) "append" ap) [e] [] cp) none pos.line X.env=pure false<|>J7):JX X F i (.Expr (.Call (.Attribute (.Name x p2) "append" ap) [e] [] cp) pos) (kU i fe):=⟨ER he.h hN hv hd hcd hbase hfew hline hs hplain hsw⟩
end
section
variable {k:Nat}{G:n_->o_}
theorem bG{body:FS}(O' OL:y9)(h1:ps.length=np)(h2:N.length=n)(h3:G=mkF fr np n body)(Fn:Fun K x qual st f fd)(S:FnScope N ps (am st))(h:∀(cdv:Value) (A:Around) (outer:List PySem.Env) (s:Shared) (H:Hp) (E:XK) (F:Fr0),F.n=n->Room k (A.deeper (envOfC qual (am st) s.heap.objs.size f cdv)) ->
   JSs (cM CX0 P w K mg base N qual (am st) f cdv A outer s H E).nox F [] (cU st) body O' OL fr):
  FnOk P w K mg base CX0 (k+1) f fd ps (spF K G fr):=DY O' OL h1 h2 h3 Fn S λcdv A outer s H E F hn hr=>(h cdv A outer s H E F hn hr).h
theorem F3{body:FS}(O':y9)(h1:ps.length=np)(h2:N.length=n)(h3:G=mkF true np n body)(Fn:Fun K x qual st f fd)(S:FnScope N ps (am st))(h:∀(cdv:Value) (A:Around) (outer:List PySem.Env) (s:Shared) (H:Hp) (E:XK) (F:Fr0),F.n=n->Room k (A.deeper (envOfC qual (am st) s.heap.objs.size f cdv)) ->
   JRs (cM CX0 P w K mg base N qual (am st) f cdv A outer s H E).nox F [] (cU st) body O'):
  FnOk P w K mg base CX0 (k+1) f fd ps (spX K G):=EZ O' h1 h2 h3 Fn S λcdv A outer s H E F hn hr=>(h cdv A outer s H E F hn hr).h
end
end VL
variable {g' g:VL.D->VL.D->Option VL.D}{es ei ee ea eb:List VL.Es}{tb:VL.FS}{d:VL.D}{fa fe ix fb fx:VL.FE}{ds ds0:List VL.D}{U:VL.ag}{flo fhi:VL.FO}{as fi:VL.FEs}{F:VL.Fr0}{J2:List VL.Hd}{G:List VL.D->Option VL.D}{dss:List (List VL.D)}{K':VL.D->Prop}
namespace VL
open PySem (Str)
open L2 (atI ixN)
def kX(h:bX d=some ds):dj d=false/\items d=some ds:=by
 unfold bX at h;cases e:dj d<;>rw[e]at h
 ·exact⟨rfl,by simpa using h⟩
 ·cases h
def WE(e:FE)(U:ag)(K:D->Prop):Prop:=∃d,e U=some d/\K d
def WB(e:ag->k_)(U:ag)(K:Bool->Prop):Prop:=∃d,e U=some d/\K d
def WA(e:FEs)(U:ag)(K:n_->Prop):Prop:=∃d,e U=some d/\K d
def WO(e:FO)(U:ag)(K:j_->Prop):Prop:=∃d,e U=some d/\K d
def WS(e:FS)(U:ag)(K:Out->Prop):Prop:=∃d,e U=some d/\K d
def W2(g:D->D->o_)(x y:D)(K:D->Prop):Prop:=∃d,g x y=some d/\K d
def W1(g:D->o_)(x:D)(K:D->Prop):Prop:=∃d,g x=some d/\K d
def WF(F:n_->o_)(ds:n_)(K:D->Prop):Prop:=∃d,F ds=some d/\K d
def kT(K:Bool->Prop):D->Prop
 |.bl b=>K b
 |_=>False
def qF(g:FS)(Q:Out->Prop):Out->Prop
 |.nx U=>WS g U Q
 |o=>Q o
def wx(K:D->Prop):Out->Prop
 |.rt d=>K d
 |_=>False
def kIf(b:Bool)(A B:Prop):Prop:=(b=true->A)/\(b=false->B)
section
variable {K:D->Prop}{KB:Bool->Prop}{KL:n_->Prop}{KO:j_->Prop}{Q:Out->Prop}{a b c:FE}{f g:FS}{t t':ag->k_}
def F4(h:WE a U K)(i:∀d,K d->K' d):WE a U K':=let⟨d,e,k⟩:=h;⟨d,e,i d k⟩
def F5{Q':Out->Prop}(h:WS f U Q)(i:∀d,Q d->Q' d):WS f U Q':=let⟨d,e,k⟩:=h;⟨d,e,i d k⟩
def iB{F:n_->o_}(h:WF F ds K)(i:∀d,K d->K' d):WF F ds K':=let⟨d,e,k⟩:=h;⟨d,e,i d k⟩
def bi{F:n_->o_}(h:F ds=some d)(k:K d):WF F ds K:=⟨d,h,k⟩
def ce{F:n_->o_}(h:WF F ds (λx=>x=d)):F ds=some d:=by obtain⟨_,e,rfl⟩:=h;exact e
def F6(h:a5 i U=some d)(k:K d):WE (a5 i) U K:=⟨d,h,k⟩
def F7(k:K d):WE (eC d) U K:=⟨d,rfl,k⟩
def F8{g:D->D->o_}(h:WE a U λx=>WE b U λy=>W2 g x y K):WE (e2 g a b) U K:=by obtain⟨x,e1,y,e2,d,e3,k⟩:=h;exact⟨d,by simp only[VL.e2,e1,e2,z9g,e3],k⟩
def F9{g:D->o_}(h:WE a U λx=>W1 g x K):WE (e1 g a) U K:=by obtain⟨x,e1,d,e3,k⟩:=h;exact⟨d,by simp only[VL.e1,e1,z9g,e3],k⟩
def fK{C:Int->Int->Prop}[∀i j,Decidable (C i j)]{k:Int->Int->D}{i j:Int}(hc:C i j)(h:K (k i j)):W2 (gI C k) (.int i) (.int j) K:=⟨_,by simp only[gI,if_pos hc],h⟩
def Fa{i j:Int}(h:K (.int (i+j))):W2 bd (.int i) (.int j) K:=fK trivial h
def Fb{i j:Int}(h:K (.int (i-j))):W2 bI (.int i) (.int j) K:=fK trivial h
def qG{i j:Int}(hc:okMul i j)(h:K (.int (i*j))):W2 bJ (.int i) (.int j) K:=fK hc h
def Fc{i j:Int}(hc:kA i j)(h:K (.int (i / j))):W2 ie (.int i) (.int j) K:=fK hc h
def Fd{i j:Int}(hc:md i j)(h:K (.int (i % j))):W2 eJ (.int i) (.int j) K:=fK hc h
def Fe{i j:Int}(hc:kB i j)(h:∀v,v=i ^ j.toNat->K (.int v)):W2 me (.int i) (.int j) K:=fK hc (h _ rfl)
def Ff{i j:Int}(h:K (.bl (decide (i<j)))):W2 ltI (.int i) (.int j) K:=fK trivial h
def Fg{i j:Int}(h:K (.bl (decide (i<=j)))):W2 leI (.int i) (.int j) K:=fK trivial h
def Fh{i j:Int}(h:K (.bl (decide (j<i)))):W2 gtI (.int i) (.int j) K:=fK trivial h
def Fi{i j:Int}(h:K (.bl (decide (j<=i)))):W2 geI (.int i) (.int j) K:=fK trivial h
def Fj{i:Int}(h:K (.int (-i))):W1 eK (.int i) K:=⟨_,rfl,h⟩
def Fk{i j:Int}(h:K (.bl (decide (i=j)))):W2 eqD (.int i) (.int j) K:=⟨_,rfl,h⟩
def Fo{i j:Int}(h:K (.bl (!decide (i=j)))):W2 neD (.int i) (.int j) K:=⟨_,rfl,h⟩
def mW{x:D}{i:Int}(e:ixD x (.int i)=some d)(h:K d):W2 ixD x (.int i) K:=⟨_,e,h⟩
def Fp{g:D->o_}{x:D}(e:g x=some d)(h:K d):W1 g x K:=⟨_,e,h⟩
def iC{g:D->D->o_}{x y:D}(e:g x y=some d)(h:K d):W2 g x y K:=⟨_,e,h⟩
def Fq(h:WE a U (kT KB)):WB (eT a) U KB:=by obtain⟨d,e,k⟩:=h;cases d<;>first|exact k.elim|exact⟨_,by simp only[eT,e,z9g],k⟩
def Fr(h:WE a U (kT KB)):WB (f7 a) U KB:=by obtain⟨d,e,k⟩:=h;cases d<;>first|exact k.elim|exact⟨_,by simp only[f7,e,z9g,tru],k⟩
def Fs{b:Bool}(h:KB b):kT KB (.bl b):=h
def wy(h:WS g U Q):qF g Q (.nx U):=h
def Ft(h:Q (.rt d)):qF g Q (.rt d):=h
def wz(h:K d):wx K (.rt d):=h
def Fu(h:WB t U λb=>kIf b (WB t' U KB) (KB false)):WB (eM t t') U KB:=by
 obtain⟨b,e,k1,k2⟩:=h;cases b with
 |false=>exact⟨false,by simp only[eM,e,z9g];rfl,k2 rfl⟩
 |true=>obtain⟨b',e',k'⟩:=k1 rfl;exact⟨b',by simp only[eM,e,z9g,if_pos,e'],k'⟩
def Fv(h:WB t U λb=>kIf b (KB true) (WB t' U KB)):WB (bOr t t') U KB:=by
 obtain⟨b,e,k1,k2⟩:=h;cases b with
 |true=>exact⟨true,by simp only[bOr,e,z9g,if_pos],k1 rfl⟩
 |false=>obtain⟨b',e',k'⟩:=k2 rfl;exact⟨b',by simp[bOr,e,e'],k'⟩
def Fw(h:WB t U λb=>KB (!b)):WB (fE t) U KB:=by obtain⟨b,e,k⟩:=h;exact⟨!b,by simp only[fE,e,z8z],k⟩
def Fx(h:WE a U (kT λx=>kIf x (WE b U K) (K (.bl false)))):WE (cY a b) U K:=by
 obtain⟨d,e,k⟩:=h;cases d with
 | bl x=>
   cases x with
   |true=>obtain⟨y,e',k'⟩:=k.1 rfl;exact⟨y,by simp only[cY,e,z9g,e'],k'⟩
   |false=>exact⟨.bl false,by simp only[cY,e,z9g],k.2 rfl⟩
 |_=>exact k.elim
def Fy(h:WE a U (kT λx=>K (.bl (!x)))):WE (mh a) U K:=by obtain⟨d,e,k⟩:=h;cases d<;>first|exact k.elim|exact⟨_,by simp only[mh,e,z9g],k⟩
def ay{P:Prop}[Decidable P]{A B:Prop}(h1:P->A)(h2:¬P->B):kIf (decide P) A B:=⟨λe=>h1 (z6o e),λe=>h2 (of_decide_eq_false e)⟩
def gi{P:Prop}[Decidable P]{A B:Prop}(h1:¬P->A)(h2:P->B):kIf (!decide P) A B:=⟨λe=>h1 (by simpa using e),λe=>h2 (by simpa using e)⟩
def wA{A B:Prop}(h:A):kIf true A B:=⟨λ_=>h,λe=>nomatch e⟩
def wB{A B:Prop}(h:B):kIf false A B:=⟨λe=>(nomatch e),λ_=>h⟩
def Fz{A B:Prop}(h:A):kIf (!false) A B:=wA h
def FB{A B:Prop}(h:B):kIf (!true) A B:=wB h
def FC(h:WB t U λx=>kIf x (WE a U K) (WE b U K)):WE (eIf t a b) U K:=by
 obtain⟨x,e,k1,k2⟩:=h;cases x with
 |true=>obtain⟨d,e',k⟩:=k1 rfl;exact⟨d,by simp only[eIf,e,z9g,if_pos,e'],k⟩
 |false=>obtain⟨d,e',k⟩:=k2 rfl;exact⟨d,by simp[eIf,e,e'],k⟩
def FD(h:KL []):WA ai U KL:=⟨[],rfl,h⟩
def FF{r:FEs}(h:WE a U λd=>WA r U λds=>KL (d::ds)):WA (a8 a r) U KL:=by obtain⟨d,e,ds,e',k⟩:=h;exact⟨_,by simp only[a8,e,e',z9g],k⟩
def FG{r:FEs}(h:WA r U λds=>ds.length<=1000/\K (.lst ds)):WE (bV r) U K:=by obtain⟨ds,e,l,k⟩:=h;exact⟨_,by simp only[bV,e,z9g,if_pos l],k⟩
def FH{r:FEs}(h:WA r U λds=>ds.length<=1000/\K (.tup ds)):WE (kE r) U K:=by obtain⟨ds,e,l,k⟩:=h;exact⟨_,by simp only[kE,e,z9g,if_pos l],k⟩
def FI{F:n_->o_}{r:FEs}(h:WA r U λds=>WF F ds K):WE (eA F r) U K:=by obtain⟨ds,e,d,e',k⟩:=h;exact⟨d,by simp only[eA,e,z9g,e'],k⟩
def FJ{g:D->D->o_}(h:WE a U λx=>WE b U λy=>W2 g x y (kT λz=>kIf z (WE c U λw=>W2 g' y w K) (K (.bl false)))):WE (e3c g g' a b c) U K:=by
 obtain⟨x,e1,y,e2,d,e3,k⟩:=h;cases d with
 | bl z=>
   cases z with
   |true=>obtain⟨w,e4,d,e5,k⟩:=k.1 rfl;exact⟨d,by simp only[e3c,e1,e2,e3,e4,e5,z9g],k⟩
   |false=>exact⟨.bl false,by simp only[e3c,e1,e2,e3,z9g],k.2 rfl⟩
 |_=>exact k.elim
def FK(h:Q (.nx U)):WS jq U Q:=⟨_,rfl,h⟩
def FL(h:WS f U (qF g Q)):WS (aR f g) U Q:=by
 obtain⟨o,e,k⟩:=h;cases o with
 |nx ρ'=>obtain⟨o',e',k'⟩:=k;exact⟨o',by simp only[aR,e,z9g,e'],k'⟩
 |rt d=>exact⟨_,by simp only[aR,e,z9g],k⟩
 |bk d=>exact⟨_,by simp only[aR,e,z9g],k⟩
 |ct d=>exact⟨_,by simp only[aR,e,z9g],k⟩
def FM(h:WB t U λx=>kIf x (WS f U Q) (WS g U Q)):WS (sIf t f g) U Q:=by
 obtain⟨x,e,k1,k2⟩:=h;cases x with
 |true=>obtain⟨d,e',k⟩:=k1 rfl;exact⟨d,by simp only[sIf,e,z9g,if_pos,e'],k⟩
 |false=>obtain⟨d,e',k⟩:=k2 rfl;exact⟨d,by simp[sIf,e,e'],k⟩
def FN(h:WE a U λd=>Q (.rt d)):WS (bg a) U Q:=by obtain⟨d,e,k⟩:=h;exact⟨_,by simp only[bg,e,z8z],k⟩
def FP(h:WE a U λd=>Q (.nx (U.set i (some d)))):WS (bj i a) U Q:=by obtain⟨d,e,k⟩:=h;exact⟨_,by simp only[bj,e,z8z],k⟩
def FQ(h:WE a U λd=>∃ds,d=.tup ds/\ds.length=is.length/\Q (.nx ((is.zip ds).foldl (λr p=>r.set p.1 (some p.2)) U))):WS (kK is a) U Q:=by obtain⟨d,e,ds,rfl,l,k⟩:=h;exact⟨_,by simp only[kK,e,z9g,if_pos l],k⟩
def wC(hv:a5 i U=some (.lst ds))(hl:ds.length<100000)(h:WE a U λd=>Q (.nx (U.set i (some (.lst (ds++[d])))))):WS (jr i a) U Q:=by obtain⟨d,e,k⟩:=h;exact⟨_,by simp only[jr,hv,e,z9g,if_pos hl],k⟩
def FR{k:Int}{j:Nat}(hv:a5 i U=some (.lst ds))(h:WE a U λd=>WE ix U λx=>∃k j,x=.int k/\ixN ds.length k=some j/\Q (.nx (U.set i (some (.lst (ds.set j d)))))):WS (kJ i ix a) U Q:=by obtain⟨d,e,x,e',k,j,rfl,hj,q⟩:=h;exact⟨_,by simp only[kJ,hv,e,e',hj,z9g],q⟩
def FT(h:KO none):WO jl U KO:=⟨_,rfl,h⟩
def FU(h:WE a U λd=>∃i,d=.int i/\KO (some i)):WO (gf a) U KO:=by obtain⟨d,e,i,rfl,k⟩:=h;exact⟨_,by simp only[gf,e,z9g],k⟩
def FV{lo hi:FO}(h:WE a U λx=>WO lo U λl=>WO hi U λu=>∃ds,bX x=some ds/\K (.lst (eN ds l u))):WE (eSl a lo hi) U K:=by obtain⟨x,e,l,e1,u,e2,ds,h1,k⟩:=h;obtain⟨h1,h2⟩:=kX h1;exact⟨_,by simp[eSl,e,e1,e2,h1,h2],k⟩
def bH{body:FS}(hl:ds.length=np)(h:WS body (ds.map some++List.replicate (n-np) none) (wx K)):WF (mkF fr np n body) ds K:=by
 obtain⟨o,e,k⟩:=h;cases o with
 |rt d=>exact⟨d,by simp only[mkF,if_pos hl,e,z9g],k⟩
 |_=>exact k.elim
def cz{F:n_->o_}(h:WF F ds λd=>aW d=true/\K d):WF (scF F) ds K:=by obtain⟨d,e,s,k⟩:=h;exact⟨d,by simp only[scF,e,z9g,if_pos s],k⟩
end
def js(go:ag->Prop)(Q:Out->Prop):Out->Prop
 |.nx U=>go U
 |.ct U=>go U
 |.bk U=>Q (.nx U)
 |.rt d=>Q (.rt d)
theorem qH{body:D->FS}{Q:Out->Prop}(I:n_->ag->Prop)(he:∀U,I [] U->Q (.nx U))(hs:∀x r U,I (x::r) U->WS (body x) U (js (I r) Q)):
  ∀(ds:n_) (U:ag),I ds U->WS (br body ds) U Q
 |[],U,h=>⟨_,rfl,he U h⟩
 | x::r,U,h=>by
   obtain⟨o,e,k⟩:=hs x r U h;cases o with
   |nx ρ'=>obtain⟨o',e',k'⟩:=qH I he hs r ρ' k;exact⟨o',by simp only[br,e,z9g,e'],k'⟩
   |ct ρ'=>obtain⟨o',e',k'⟩:=qH I he hs r ρ' k;exact⟨o',by simp only[br,e,z9g,e'],k'⟩
   |bk ρ'=>exact⟨_,by simp only[br,e,z9g],k⟩
   |rt d=>exact⟨_,by simp only[br,e,z9g],k⟩
def qI{α:Type}{body:D->FS}{Q:Out->Prop}(enc:α->D)(xs:List α)(I:Nat->ag->Prop)(h0:I 0 U)(he:∀U,I xs.length U->Q (.nx U))(hs:∀(k:Nat) (h:k<xs.length) (U:ag),I k U->WS (body (enc xs[k])) U (js (I (k+1)) Q)):WS (br body (xs.map enc)) U Q:=by
 refine qH (λr U=>∃k,k<=xs.length/\r=(xs.drop k).map enc/\I k U) ?_ ?_ _ U ⟨0,z7a _,by simp,h0⟩
 ·rintro U ⟨k,hk,e,i⟩
  have:k=xs.length:=by have:=z8w List.length e;simp at this;ext
  subst this;exact he U i
 ·rintro x r U ⟨k,hk,e,i⟩
  have hk':k<xs.length:=by have:=z8w List.length e;simp at this;ext
  rw[z9v hk',z9n]at e;injection e with e1 e2
  subst e1;refine F5 (hs k hk' U i) λo=>?_
  cases o with
  |nx ρ'=>exact λh=>⟨k+1,hk',e2,h⟩
  |ct ρ'=>exact λh=>⟨k+1,hk',e2,h⟩
  |bk ρ'=>exact λh=>h
  |rt d=>exact λh=>h
def gS{α:Type}{Q:Out->Prop}(enc:α->D)(xs:List α)(I:Nat->ag->Prop)(h0:I 0 U)(he:∀U,I xs.length U->Q (.nx U))(hs:∀(k:Nat) (h:k<xs.length) (U:ag),I k U->WS tb (U.set t (some (enc xs[k]))) (js (I (k+1)) Q)):WS (br (λx U=>tb (U.set t (some x))) (xs.map enc)) U Q:=
 qI enc xs I h0 he hs
def wD{go:ag->Prop}{Q:Out->Prop}(h:go U):js go Q (.nx U):=h
def FW{it:FE}{Q:Out->Prop}(h:WE it U λd=>∃ds,bX d=some ds/\WS (br (λx U=>tb (U.set t (some x))) ds) U Q):WS (mB t it tb) U Q:=by obtain⟨d,e,ds,h1,o,e',k⟩:=h;obtain⟨h1,h2⟩:=kX h1;exact⟨o,by simp[mB,e,h1,h2,e'],k⟩
noncomputable def wE(n:Nat):n_:=(List.range n).map λk=>.int (k:Nat)
def wF(n:Nat):db 0 n=wE n:=by unfold db wE;congr 1;funext k;rw[Int.zero_add]
def FX{Q:Out->Prop}(h:WA as U λds=>∃j,ds=[.int j]/\okR j/\WS (br (λx U=>tb (U.set t (some x))) ((List.range j.toNat).map λk=>.int (k:Nat))) U Q):WS (gN t as tb) U Q:=by obtain⟨ds,e,j,rfl,h1,o,e',k⟩:=h;exact⟨o,by simp only[gN,e,z9g,if_pos h1,wF];exact e',k⟩
def FY{it:FE}{Q:Out->Prop}(h:WE it U λd=>∃ds,bX d=some ds/\WS (br (λx U=>tb (U.set t (some x))) ds.reverse) U Q):WS (kQ t it tb) U Q:=by obtain⟨d,e,ds,h1,o,e',k⟩:=h;exact⟨o,by simp[kQ,e,h1,e'],k⟩
def FZ{u:Nat}{it:FE}{Q:Out->Prop}(h:WE it U λd=>∃ds,bX d=some ds/\WS (br (gP t u tb) (dL ds)) U Q):WS (mR t u it tb) U Q:=by obtain⟨d,e,ds,h1,o,e',k⟩:=h;exact⟨o,by simp[mR,e,h1,e'],k⟩
def G0{u:Nat}{it it':FE}{Q:Out->Prop}(h:WE it U λd=>WE it' U λd'=>∃ds,bX d=some ds/\∃es,bX d'=some es/\WS (br (gP t u tb) (dM ds es)) U Q):WS (mS t u it it' tb) U Q:=by obtain⟨d,e,d',e1,ds,h1,es,h2,o,e',k⟩:=h;exact⟨o,by simp[mS,e,e1,h1,h2,e'],k⟩
def WI(f:FEs)(U:ag)(K:n_->Prop):Prop:=∃d,f U=some d/\K d
def G1{a:FE}{K:n_->Prop}(h:WE a U λd=>∃ds,bX d=some ds/\K ds):WI (fJ a) U K:=by obtain⟨d,e,ds,h1,k⟩:=h;obtain⟨h1,h2⟩:=kX h1;exact⟨ds,by simp[fJ,e,h1,h2],k⟩
def G2{K:n_->Prop}(h:WA as U λds=>∃j,ds=[.int j]/\okR j/\K ((List.range j.toNat).map λk=>.int (k:Nat))):WI (iR1 as) U K:=by obtain⟨ds,e,j,rfl,h1,k⟩:=h;exact⟨_,by simp only[iR1,e,z9g,if_pos h1,wF];rfl,k⟩
def G3{a:FE}{K:n_->Prop}(h:WE a U λd=>∃ds,bX d=some ds/\K (dL ds)):WI (kR a) U K:=by obtain⟨d,e,ds,h1,k⟩:=h;exact⟨_,by simp only[kR,e,h1,z9g],k⟩
def G4{a b:FE}{K:n_->Prop}(h:WE a U λd=>WE b U λe=>∃ds,bX d=some ds/\∃es,bX e=some es/\K (dM ds es)):WI (kS a b) U K:=by obtain⟨d,e,d',e',ds,h1,es,h2,k⟩:=h;exact⟨_,by simp only[kS,e,e',h1,h2,z9g],k⟩
theorem wG{α:Type}{g:D->Option o_}(enc:α->D)(f:α->D):∀(xs:List α),(∀x∈xs,g (enc x)=some (some (f x)))->gh g (xs.map enc)=some (xs.map f)
 |[],_=>rfl
 | x::r,h=>by
   have h1:=h x (z9a ..);have h2:=wG enc f r λy hy=>h y (z9d _ hy)
   simp only[z9n,gh,h1,h2,z9g]
def gT{α:Type}{un:D->Option n_}{K:D->Prop}(h:WI fi U λds=>∃(enc:α->D) (f:α->D) (xs:List α),ds=xs.map enc/\xs.length<100000/\(∀x∈xs,∃us,un (enc x)=some us/\WE fe (bC (bq nown J3 U) is us) λd=>d=f x)/\K (.lst (xs.map f))):
  WE (bW nown J3 is un fi c4 fe) U K:=by
 obtain⟨ds,e,enc,f,xs,rfl,hl,ht,k⟩:=h;refine⟨_,?_,k⟩;have:gh (ir is un c4 fe (bq nown J3 U)) (xs.map enc)=some (xs.map f):=wG enc f xs λx hx=>by obtain⟨us,h1,d,h2,rfl⟩:=ht x hx;simp[ir,h1,c4,h2]
 simp only[bW,e,z9g,z9b,if_pos hl,this,z8z]
def kY{i:Int}(h1:-(2 ^ 1000:Int)<i)(h2:i<2 ^ 1000):mid i:=by
 unfold mid;have:i.natAbs<2 ^ 1000:=by ext
 by_cases z:i.natAbs=0
 ·rw[z];decide
 ·exact Nat.lt_trans ((Nat.log2_lt z).mpr this) (by decide)
def mX{i j:Int}(h1:-18446744073709551616<i)(h2:i<18446744073709551616):okMul i j:=.inl ⟨h1,h2⟩
def G5{i j:Int}(h1:-18446744073709551616<j)(h2:j<18446744073709551616):okMul i j:=.inr (.inl ⟨h1,h2⟩)
def wH{i j:Int}(h1:mid i)(h2:mid j):okMul i j:=.inr (.inr ⟨h1,h2⟩)
def G6{i j:Int}(h1:0<j)(h2:mid j):kA i j:=⟨h1,h2⟩
def G7{i j:Int}(h1:0<j):md i j:=h1
def G8{i j:Int}(h1:0<=j)(h2:j<=1000000)(h3:-18446744073709551616<i)(h4:i<18446744073709551616):kB i j:=⟨⟨h1,h2⟩,h3,h4⟩
section
variable {K:D->Prop}
def qJ{xs:n_}{i:Int}(h0:0<=i)(h1:i<xs.length):ixD (.lst xs) (.int i)=some (xs[i.toNat]'(by ext)):=by simp only[ixD,items,z9g,atI,ixN,if_pos h0,if_pos h1];exact z9k ∅
def G9{xs:n_}{i:Int}{P:D->Prop}(h0:0<=i)(h1:i<xs.length)(hP:∀v∈xs,P v)(h:∀v,P v->K v):W2 ixD (.lst xs) (.int i) K:=
 ⟨_,qJ h0 h1,h _ (hP _ (z9s _))⟩
def AllI(lo hi:Int):n_->Prop
 |[]=>True
 |.int i::r=>(lo<=i/\i<=hi)/\AllI lo hi r
 |_::_=>False
theorem AllI.mem{lo hi:Int}:∀{xs:n_},AllI lo hi xs->∀v∈xs,∃i,v=.int i/\lo<=i/\i<=hi
 |[],_,_,h=>nomatch h
 | x::r,h,v,hv=>by
   set_option tactic.hygienic true in cases x<;>first|exact h.elim|skip
   rename_i i;rcases z9j.mp hv with rfl|hv
   ·exact⟨i,rfl,h.1⟩
   ·exact AllI.mem h.2 v hv
def Ga(lo hi:Int){xs:n_}{i:Int}(h0:0<=i)(h1:i<xs.length)(hP:AllI lo hi xs)(h:∀v:Int,lo<=v->v<=hi->K (.int v)):W2 ixD (.lst xs) (.int i) K:=
 G9 (P:=λv=>∃i,v=.int i/\lo<=i/\i<=hi) h0 h1 hP.mem λv y0=>by obtain⟨i,e,a,b⟩:=y0;exact e▸h i a b
def Gb{xs ys:n_}(hl:xs.length+ys.length<=100000)(h:K (.lst (xs++ys))):W2 gK (.lst xs) (.lst ys) K:=⟨_,by simp only[gK,if_pos hl],h⟩
def Gc{i:Int}(h:K (.bl true)):W1 (iu "int") (.int i) K:=⟨_,rfl,h⟩
def Gd{i:Int}(h:K (.bl false)):W1 (iu "bool") (.int i) K:=⟨_,rfl,h⟩
def Ge(n d k:Nat):HT.sIx n d (some (k:Int))=min k n:=by show(if(k:Int)<0 then((k:Int)+(n:Int)).toNat else min ((k:Int)).toNat n)=_;rw[if_neg ∅];rfl
def Gf(n d:Nat):HT.sIx n d none=d:=rfl
def dq{α:Type}(xs:List α)(n:Nat)(d:α)(h:n<xs.length):xs.getD n d=xs[n]:=by rw[z8c,z9k h];rfl
noncomputable abbrev DI(xs:z_):D:=.lst (xs.map .int)
abbrev DII(xs:List z_):D:=.lst (xs.map DI)
def Gg(ns:z_):ik (ns.map D.int)=some ns:=by
 induction ns with
 |nil=>rfl
 |cons n r ih=>simp only[z9n,ik,ih,z8z]
def Gh{xs:z_}(h:K (.int xs.sum)):WF (ar dZ) [DI xs] K:=⟨_,by simp[ar,dZ,dj,items,Gg],h⟩
def Gi{xs:n_}(h:K (.int (xs.length:Nat))):WF (ar bx) [.lst xs] K:=⟨_,rfl,h⟩
def Gj{xs:z_}(h:K (.int (xs.length:Nat))):WF (ar bx) [.scr xs] K:=⟨_,by simp[ar,bx,items],h⟩
def Gm{i j:Int}(h:K (.int (max i j))):WF (d9 e8) [.int i,.int j] K:=by
 refine⟨_,rfl,?_⟩;have:(if j > i then j else i)=max i j:=by ext
 rw[this];exact h
def Gn{i j:Int}(h:K (.int (min i j))):WF (d9 jo) [.int i,.int j] K:=by
 refine⟨_,rfl,?_⟩;have:(if j<i then j else i)=min i j:=by ext
 rw[this];exact h
def Go{xs:n_}(h:K (.lst xs)):W1 pT (.lst xs) K:=⟨_,rfl,h⟩
def Gp{xs:n_}(h:K (.lst xs.reverse)):W1 qp (.lst xs) K:=⟨_,rfl,h⟩
def bK{xs:z_}{i:Int}(h0:0<=i)(h1:i<xs.length)(h:K (.int (xs.getD i.toNat 0))):W2 ixD (DI xs) (.int i) K:=by refine⟨_,qJ h0 (by simpa using h1),?_⟩;rw[dq _ _ _ ∅]at h;simpa using h
def gU{xs:List z_}{i:Int}(h0:0<=i)(h1:i<xs.length)(h:K (DI (xs.getD i.toNat []))):W2 ixD (DII xs) (.int i) K:=by refine⟨_,qJ h0 (by simpa using h1),?_⟩;rw[dq _ _ _ ∅]at h;simpa using h
def wI{xs:n_}{k:Nat}(h0:0<k)(h1:k<=xs.length):ixD (.lst xs) (.int (-(k:Int)))=some (xs[xs.length-k]'(by ext)):=by simp only[ixD,items,z9g,atI,ixN,if_neg (show ¬(0:Int)<=-(k:Int)by ext),if_pos (show -(xs.length:Int)<=-(k:Int)by ext)];rw[show(-(k:Int)+xs.length).toNat=xs.length-k by ext];exact z9k ∅
def wJ{xs:z_}(h1:xs≠[])(h:K (.int (xs.getLast h1))):W2 ixD (DI xs) (.int (-1)) K:=by
 have hl:1<=(xs.map D.int).length:=by cases xs<;>simp at h1 ⊢
 refine⟨_,wI (k:=1) ∅ hl,?_⟩;rw[List.getLast_eq_getElem]at h;simpa using h
end
theorem kZ:∀{l:z_},(∀x∈l,0<=x)->0<=l.sum
 |[],_=>by simp
 | x::l,h=>by
   have h1:=h x (z9a ..);have h2:=kZ λy hy=>h y (z9d x hy)
   rw[z8t];ext
theorem qK{b:Int}:∀{l:z_},(∀x∈l,x<=b)->l.sum<=l.length*b
 |[],_=>by simp
 | x::l,h=>by
   have h1:=h x (z9a ..);have h2:=qK λy hy=>h y (z9d x hy)
   rw[z8t,z9e];have:((l.length+1:Nat):Int)*b=l.length*b+b:=by rw[Int.natCast_add,Int.add_mul];ext
   ext
def wK(xs:z_)(x:Int):D.lst (xs.map .int++[.int x])=DI (xs++[x]):=by simp[DI]
def qL{α:Type}(enc:α->D)(xs:List α):dL (xs.map enc)=xs.zipIdx.map λp=>.tup [.int (p.2:Nat),enc p.1]:=by unfold dL;rw[List.zipIdx_map,z7h];rfl
def qM{α β:Type}(enc:α->D)(enc':β->D)(xs:List α)(ys:List β):dM (xs.map enc) (ys.map enc')=(xs.zip ys).map λp=>.tup [enc p.1,enc' p.2]:=by unfold dM;rw[List.zip_map,z7h];rfl
def Gq{α:Type}{u:Nat}{Q:Out->Prop}(enc:α->D)(xs:List α)(I:Nat->ag->Prop)(h0:I 0 U)(he:∀U,I xs.length U->Q (.nx U))(hs:∀(k:Nat) (h:k<xs.length) (U:ag),I k U->WS tb ((U.set t (some (.int (k:Nat)))).set u (some (enc xs[k]))) (js (I (k+1)) Q)):WS (br (gP t u tb) (dL (xs.map enc))) U Q:=by
 rw[qL];refine qI _ _ I h0 (by simpa using he) λk h U i=>?_
 have h':k<xs.length:=by simpa using h
 have:=hs k h' U i;simp only[List.getElem_zipIdx,Nat.zero_add];exact this
def Gr{α β:Type}{u:Nat}{Q:Out->Prop}(enc:α->D)(enc':β->D)(xs:List α)(ys:List β)(I:Nat->ag->Prop)(h0:I 0 U)(he:∀U,I (min xs.length ys.length) U->Q (.nx U))(hs:∀(k:Nat) (h:k<xs.length) (h':k<ys.length) (U:ag),I k U->WS tb ((U.set t (some (enc xs[k]))).set u (some (enc' ys[k]))) (js (I (k+1)) Q)):WS (br (gP t u tb) (dM (xs.map enc) (ys.map enc'))) U Q:=by
 rw[qM];refine qI _ _ I h0 (by simpa using he) λk h U i=>?_
 have h':k<xs.length/\k<ys.length:=by simp at h;ext
 have:=hs k h'.1 h'.2 U i;simp only[List.getElem_zip];exact this
def l5{x:Int}(h:0<=x)(n:Nat):0<=x ^ n:=by
 induction n with
 |zero=>rw[z5d];ext
 |succ n ih=>rw[z7s];exact z7z ih h
def gW{x B:Int}(N:Nat)(h0:0<=x)(h1:x<=B)(hB:1<=B)(hn:n<=N):x ^ n<=B ^ N:=by
 induction N generalizing n with
 | zero => have:n=0:=by ext
           subst this;rw[z5d,z5d];ext
 | succ N ih=>
   have hp:=l5 (x:=B) ∅ N;cases n with
   | zero=>
     have:=ih (n:=0) ∅;rw[z5d]at this ⊢;rw[z7s]
     calc (1:Int)<=B ^ N:=this
      _=B ^ N*1:=by ext
      _<=B ^ N*B:=z7m hB hp
   |succ n=>rw[z7s,z7s];exact z7t (ih ∅) h1 h0 hp
def l6{α:Type}{un:D->Option n_}{K:D->Prop}(h:WI fi U λds=>∃(enc:α->D) (f:α->Int) (xs:List α),ds=xs.map enc/\xs.length<100000/\(∀x∈xs,∃us,un (enc x)=some us/\WE fe (bC (bq nown J3 U) is us) λd=>d=.int (f x))/\K (DI (xs.map f))):
  WE (bW nown J3 is un fi c4 fe) U K:=by
 obtain⟨ds,e,enc,f,xs,h1,h2,h3,k⟩:=h;refine gT (α:=α) ⟨ds,e,enc,λx=>.int (f x),xs,h1,h2,h3,?_⟩
 rwa [DI,z7h]at k
theorem wL{α:Type}{g:D->Option o_}(enc:α->D)(P:α->Prop):∀(xs:List α),(∀x∈xs,∃b,g (enc x)=some (some (.bl b))/\(b=true↔P x))->∃bs:g_,gh g (xs.map enc)=some (bs.map .bl)/\(bs.all id=true↔∀x∈xs,P x)
 |[],_=>⟨[],rfl,by simp⟩
 | x::r,h=>by
   obtain⟨b,h1,h3⟩:=h x (z9a ..);obtain⟨bs,h2,hb⟩:=wL enc P r λy hy=>h y (z9d _ hy)
   refine⟨b::bs,by simp only[z9n,gh,h1,h2,z9g],?_⟩;rw[z6d,z8m,hb,List.forall_mem_cons];exact and_congr h3 Iff.rfl
def Gs(bs:g_):iw (bs.map D.bl)=some bs:=by
 induction bs with
 |nil=>rfl
 |cons n r ih=>simp only[z9n,iw,ih,z8z]
def mY{α:Type}(P:α->Prop){un:D->Option n_}{K:D->Prop}(h:WI fi U λds=>∃(enc:α->D) (xs:List α),ds=xs.map enc/\xs.length<100000/\(∀x∈xs,∃us,un (enc x)=some us/\WE fe (bC (bq nown J3 U) is us) λd=>∃b,d=.bl b/\(b=true↔P x))/\∀bs:g_,(bs.all id=true↔∀x∈xs,P x)->K (.lst (bs.map .bl))):
  WE (bW nown J3 is un fi c4 fe) U K:=by
 obtain⟨ds,e,enc,xs,rfl,hl,ht,k⟩:=h;obtain⟨bs,h1,h2⟩:=wL (g:=ir is un c4 fe (bq nown J3 U)) enc P xs λx hx=>by obtain⟨us,h1,d,h2,b,rfl,h3⟩:=ht x hx;exact⟨b,by simp[ir,h1,c4,h2],h3⟩
 exact⟨_,by simp only[bW,e,z9g,z9b,if_pos hl,h1,z8z],k bs h2⟩
def Gu{bs:g_}{K:D->Prop}(h:K (.bl (bs.all id))):WF (ar (gO λbs=>bs.all id)) [.lst (bs.map .bl)] K:=⟨_,by simp only[ar,gO,Gs,z9g],h⟩
def qN{a:FE}{Q:Out->Prop}(hv:a5 i U=some (.lst ds))(hl:ds.length<100000)(h:WE ix U λx=>∃k,x=.int k/\WE a U λd=>0<=k/\k<100000/\Q (.nx (U.set i (some (.lst (ds.insertIdx (min k.toNat ds.length) d)))))):WS (iz i ix a) U Q:=by obtain⟨x,e,k,rfl,d,e',h0,h1,q⟩:=h;exact⟨_,by simp only[iz,hv,e,e',z9g,if_pos (And.intro hl (And.intro h0 h1))],q⟩
def wM{P:Prop}{b:Bool}(e:b=true↔P){A B:Prop}(h1:P->A)(h2:¬P->B):kIf b A B:=⟨λh=>h1 (e.mp h),λh=>h2 λp=>by rw[e.mpr p]at h;cases h⟩
def wN(xs:z_)(x:Int):xs.map D.int++[.int x]=(xs++[x]).map D.int:=by simp
def Gv{Q:Out->Prop}(h:WA as U λds=>∃i j,ds=[.int i,.int j,.int (-1)]/\okR i/\okR j/\WS (br (λx U=>tb (U.set t (some x))) ((List.range (i-j).toNat).map λk=>.int (i-(k:Nat)))) U Q):WS (mU t as tb) U Q:=by obtain⟨ds,e,i,j,rfl,h1,h2,o,e',k⟩:=h;refine⟨o,?_,k⟩;unfold mU;rw[e];show(if okR i/\okR j/\(-1:Int) = -1 then _ else none)=_;rw[if_pos ⟨h1,h2,rfl⟩];exact e'
def Gw{xs:List z_}{K:D->Prop}(h1:xs≠[])(h:K (DI (xs.getLast h1))):W2 ixD (DII xs) (.int (-1)) K:=by
 have hl:1<=(xs.map DI).length:=by cases xs<;>simp at h1 ⊢
 refine⟨_,wI (k:=1) ∅ hl,?_⟩;rw[List.getLast_eq_getElem]at h;simpa using h
def wO(xs:z_):(xs.map D.int).all aW=true:=by rw[List.all_map,z9y];intro _ _;rfl
def Gx(xs:List z_):(xs.map DI).all qD=true:=by rw[List.all_map,z9y];intro x _;exact wO x
def Gy{f:FE}{Q:Out->Prop}(hv:a5 i U=some (.lst ds))(hl:ds.length<100000)(h:WE f U λd=>∃xs:z_,d=DI xs/\Q (.nx (U.set i (some (.lst (ds++[DI xs])))))):WS (kU i f) U Q:=by obtain⟨d,e1,xs,rfl,q⟩:=h;exact⟨_,by simp only[kU,hv,e1,z9g,if_pos (And.intro (wO xs) hl)],q⟩
def Gz{Q:Out->Prop}{xs:List z_}(hv:a5 i U=some (DII xs))(h:Q (.rt (DII xs.reverse))):WS (kW i) U Q:=by refine⟨.rt (.lst (xs.map DI).reverse),by simp only[kW,hv,z9g,if_pos (Gx xs)],?_⟩;rw[<- z6t];exact h
section
variable {K:D->Prop}{a:FE}
def GA(h:a U=some (.lst ds))(k:K (.lst ds)):WE (eL a) U K:=⟨_,by simp only[eL,h,z9g],k⟩
def GB(h:a5 i U=some (.lst ds))(k:K (.lst ds)):WE (eL (a5 i)) U K:=GA h k
end
inductive Cell where
 |lst (ds:n_)
 |dic (ns:z0) (ds:n_)
 |ins (C:Nat) (ns:z0) (ds:n_)
 |dcT (fz:Bool) (ps:List ((Int×Int)×Int))
 |dcL (fz:Bool) (ps:List (z_×Int))
 |exn (a:Nat) (x:Str)
abbrev Sto:=Nat->Option Cell
noncomputable def aB(M:Sto)(a:Nat)(c:Cell):Sto:=λb=>if b=a then some c else M b
noncomputable def eg(M:Sto)(a:Nat):Sto:=λb=>if b=a then none else M b
def az{M:Sto}{a:Nat}{c:Cell}:aB M a c a=some c:=by simp[aB]
def aH{M:Sto}{a b:Nat}{c:Cell}(h:b≠a):aB M a c b=M b:=by simp[aB,h]
def cj{M:Sto}{a:Nat}{c c':Cell}:aB (aB M a c) a c'=aB M a c':=by funext b;unfold aB;split<;>rfl
def GC{M:Sto}{a:Nat}{c:Cell}(h:M a=some c):aB M a c=M:=by
 funext b;by_cases e:b=a
 ·subst e;rw[az,h]
 ·rw[aH e]
def qO{M:Sto}{a:Nat}:eg M a a=none:=by simp[eg]
def qP{M:Sto}{a b:Nat}(h:b≠a):eg M a b=M b:=by simp[eg,h]
abbrev QE:=D->Sto->Prop
abbrev NTE:=ag->Sto->QE->Prop
abbrev NTB:=ag->Sto->(Bool->Sto->Prop)->Prop
abbrev NTA:=ag->Sto->(n_->Sto->Prop)->Prop
abbrev NTF:=n_->Sto->QE->Prop
structure EndN where
 nx:ag->Sto->Prop
 rt:D->Sto->Prop
 bk:ag->Sto->Prop:=λ_ _=>False
 ct:ag->Sto->Prop:=λ_ _=>False
 ex:Str->Sto->Prop:=λ_ _=>False
abbrev NTS:=EndN->ag->Sto->Prop
def nP(f:FE):NTE:=λU M Q=>WE f U λd=>Q d M
def nPB(f:ag->k_):NTB:=λU M Q=>WB f U λb=>Q b M
def n2(g:D->D->o_)(ta tb:NTE):NTE:=λU M Q=>ta U M λx M1=>tb U M1 λy M2=>W2 g x y λd=>Q d M2
def n1(g:D->o_)(ta:NTE):NTE:=λU M Q=>ta U M λx M1=>W1 g x λd=>Q d M1
def bu(ta:NTE):NTB:=λU M Q=>ta U M λx M1=>kT (λb=>Q b M1) x
def eP(ta:NTE):NTB:=λU M Q=>ta U M λx M1=>∃b,tru x=some b/\Q b M1
def mZ(ta tb:NTB):NTB:=λU M Q=>ta U M λb M1=>kIf b (tb U M1 Q) (Q false M1)
def nOr(ta tb:NTB):NTB:=λU M Q=>ta U M λb M1=>kIf b (Q true M1) (tb U M1 Q)
def gj(ta:NTB):NTB:=λU M Q=>ta U M λb M1=>Q (!b) M1
def nIf(tc:NTB)(ta tb:NTE):NTE:=λU M Q=>tc U M λb M1=>kIf b (ta U M1 Q) (tb U M1 Q)
def qQ(ta tb:NTE):NTE:=λU M Q=>ta U M λx M1=>kT (λb=>kIf b (tb U M1 Q) (Q (.bl false) M1)) x
def ak:NTA:=λ_ M Q=>Q [] M
def aa(ta:NTE)(tr:NTA):NTA:=λU M Q=>ta U M λx M1=>tr U M1 λxs M2=>Q (x::xs) M2
def qR(ta:NTA):NTE:=λU M Q=>ta U M λds M1=>ds.length<=1000/\Q (.lst ds) M1
def jt(ta:NTA):NTE:=λU M Q=>ta U M λds M1=>ds.length<=1000/\Q (.tup ds) M1
def n0(ta:NTA):NTE:=λU M Q=>ta U M λds M1=>ds.length<=1000/\∀a,M1 a=none->Q (.ptr a) (aB M1 a (.lst ds))
def iD(f:FE):NTE:=λU M Q=>WE f U λd=>∃ds,d=.lst ds/\∀a,M a=none->Q (.ptr a) (aB M a (.lst ds))
def n8(ns:z0)(as:FEs):NTE:=λU M Q=>WA as U λds=>ds.length=ns.length/\∀a,M a=none->Q (.ptr a) (aB M a (.dic ns ds))
def n9(ta tb:NTE):NTE:=λU M Q=>ta U M λx M1=>tb U M1 λy M2=>∃a ds i d,x=.ptr a/\M2 a=some (.lst ds)/\y=.int i/\atI ds i=some d/\Q d M2
def nDg(ns:z0)(i:Nat)(ta:NTE):NTE:=λU M Q=>ta U M λx M1=>∃a ds d,x=.ptr a/\M1 a=some (.dic ns ds)/\ds[i]?=some d/\Q d M1
def aN(C:Nat)(ns:z0)(i:Nat)(ta:NTE):NTE:=λU M Q=>ta U M λx M1=>∃a ds d,x=.ptr a/\M1 a=some (.ins C ns ds)/\ds[i]?=some d/\Q d M1
def b5(T:NTF)(ta:NTA):NTE:=λU M Q=>ta U M λds M1=>T ds M1 Q
noncomputable def vw1(M:Sto):D->D
 | .ptr a=>match M a with
   |some (.lst ds)=>.lst ds
   |_=>.ptr a
 |d=>d
def cA(G:n_->o_)(ta:NTA):NTE:=λU M Q=>ta U M λds M1=>WF G (ds.map (vw1 M1)) λd=>aW d=true/\Q d M1
def ju(G:n_->o_)(ta:NTA):NTE:=λU M Q=>ta U M λds M1=>WF G ds λd=>Q d M1
def cI(C:Nat)(ns:z0)(T:NTF)(ta:NTE)(tas:NTA):NTE:=λU M Q=>ta U M λx M1=>∃a ds0,x=.ptr a/\M1 a=some (.ins C ns ds0)/\tas U M1 λds M2=>T (x::ds) M2 Q
def sN:NTS:=λE U M=>E.nx U M
def ah(t u:NTS):NTS:=λE U M=>t {E with nx:=λU M=>u E U M} U M
def aI(tc:NTB)(t u:NTS):NTS:=λE U M=>tc U M λb M1=>kIf b (t E U M1) (u E U M1)
def wP:NTS:=λ_ _ _=>False
def aX(ta:NTE):NTS:=λE U M=>ta U M E.rt
def nc(i:Nat):NTS:=λE U M=>∃a ds,a5 i U=some (.ptr a)/\M a=some (.lst ds)/\E.rt (.lst ds) (eg M a)
def aK(i:Nat)(ta:NTE):NTS:=λE U M=>ta U M λd M1=>E.nx (U.set i (some d)) M1
def ng(is:y9)(ta:NTE):NTS:=λE U M=>ta U M λd M1=>∃ds,d=.tup ds/\ds.length=is.length/\E.nx ((is.zip ds).foldl (λr p=>r.set p.1 (some p.2)) U) M1
def eQ(ns:z0)(i:Nat)(ta tv:NTE):NTS:=λE U M=>tv U M λv M1=>ta U M1 λx M2=>∃a ds,x=.ptr a/\M2 a=some (.dic ns ds)/\E.nx U (aB M2 a (.dic ns (ds.set i v)))
def gX(C:Nat)(ns:z0)(i:Nat)(ta tv:NTE):NTS:=λE U M=>tv U M λv M1=>ta U M1 λx M2=>∃a ds,x=.ptr a/\M2 a=some (.ins C ns ds)/\E.nx U (aB M2 a (.ins C ns (ds.set i v)))
def de(C:Nat)(ns:z0)(f:Str)(ta tv:NTE):NTS:=λE U M=>tv U M λv M1=>ta U M1 λx M2=>∃a ds,x=.ptr a/\M2 a=some (.ins C ns ds)/\E.nx U (aB M2 a (.ins C (ns++[f]) (ds++[v])))
def gY(ta tv:NTE):NTS:=λE U M=>ta U M λx M1=>∃a ds0,x=.ptr a/\M1 a=some (.lst ds0)/\tv U M1 λv M2=>∃ds,M2 a=some (.lst ds)/\ds.length<100000/\E.nx U (aB M2 a (.lst (ds++[v])))
def l7(ta ti tv:NTE):NTS:=λE U M=>tv U M λv M1=>ta U M1 λx M2=>ti U M2 λy M3=>∃a ds k j,x=.ptr a/\M3 a=some (.lst ds)/\y=.int k/\ixN ds.length k=some j/\E.nx U (aB M3 a (.lst (ds.set j v)))
def cB(body:D->NTS):n_->NTS
 |[],E,U,M=>E.nx U M
 |x::r,E,U,M=>body x {E with nx:=λU M=>cB body r E U M,ct:=λU M=>cB body r E U M,bk:=E.nx} U M
def nh(t:Nat)(it:NTE)(tb:NTS):NTS:=λE U M=>it U M λd M1=>∃ds,bX d=some ds/\cB (λx E U M=>tb E (U.set t (some x)) M) ds E U M1
def ni(t:Nat)(ta:NTA)(tb:NTS):NTS:=λE U M=>ta U M λds M1=>∃j,ds=[.int j]/\okR j/\cB (λx E U M=>tb E (U.set t (some x)) M) ((List.range j.toNat).map λk=>.int (k:Nat)) E U M1
def qS(t:Nat)(ta:NTA)(tb:NTS):NTS:=λE U M=>ta U M λds M1=>∃i j,ds=[.int i,.int j]/\okR i/\okR j/\cB (λx E U M=>tb E (U.set t (some x)) M) ((List.range (j-i).toNat).map λk=>.int (i+(k:Nat))) E U M1
def mkN(np n:Nat)(t:NTS):NTF:=λds M Q=>ds.length=np/\t {nx:=λ_ M'=>Q .non M',rt:=Q} (ds.map some++List.replicate (n-np) none) M
def dt(nown:Nat)(te:NTE)(ρb:ag):n_->n_->Sto->(n_->Sto->Prop)->Prop
 |[],done,M,Q=>Q done M
 |x::r,done,M,Q=>te (ρb.set 0 (some x)) M λd M1=>dt nown te ρb r (done++[d]) M1 Q
def jv(J3:y9)(ti:NTA)(te:NTE):NTE:=λU M Q=>ti U M λds M1=>∃j,ds=[.int j]/\okR j/\j<1000/\dt 1 te (bq 1 J3 U) ((List.range j.toNat).map λk=>.int (k:Nat)) [] M1 λds M2=>Q (.lst ds) M2
def vw2(M:Sto):D->D
 | .ptr a=>match M a with
   |some (.lst ds)=>.lst (ds.map (vw1 M))
   |_=>.ptr a
 |d=>d
def qT(G:n_->o_)(ta:NTA):NTE:=λU M Q=>ta U M λds M1=>WF G (ds.map (vw2 M1)) λd=>aW d=true/\Q d M1
def qU(G:n_->o_)(ta:NTA):NTE:=λU M Q=>ta U M λds M1=>WF G (ds.map (vw2 M1)) λd=>(∃xs:z_,d=.lst (xs.map .int))/\Q d M1
def qV(G:n_->o_)(ta:NTA):NTE:=λU M Q=>ta U M λds M1=>WF G (ds.map (vw2 M1)) λd=>Q d M1
def qW(ta:NTE):NTE:=λU M Q=>ta U M λx M1=>∃ds,vw1 M1 x=.lst ds/\Q (.lst ds) M1
def nj(J3:y9)(ti te:NTE):NTE:=λU M Q=>ti U M λd M1=>∃ds,bX d=some ds/\ds.length<=1000/\dt 1 te (bq 1 J3 U) ds [] M1 λds M2=>Q (.lst ds) M2
def vw3(M:Sto):D->D
 |.lst ds=>.lst (ds.map (vw2 M))
 |d=>vw2 M d
def n2V(g:D->D->o_)(ta tb:NTE):NTE:=λU M Q=>ta U M λx M1=>tb U M1 λy M2=>W2 g (vw3 M2 x) (vw3 M2 y) λd=>aW d=true/\Q d M2
def nk(k:Nat)(ta:NTE):NTE:=λU M Q=>ta U M λx M1=>∃a ds,x=.ptr a/\M1 a=some (.lst ds)/\k<=1000/\Q (.lst (eN ds (some (k:Nat)) none)) M1
noncomputable def XS:z0:=["NoSale","NoClass","Over","Early","Done","TooMany","Twice","NoTurn","Full","NoRow"]
abbrev QX:=Str->Sto->Prop
abbrev NTX:=n_->Sto->QE->QX->Prop
abbrev NEX:=ag->Sto->QE->QX->Prop
def mkX(np n:Nat)(t:NTS):NTX:=λds M Q EX=>ds.length=np/\t {nx:=λ_ M'=>Q .non M',rt:=Q,ex:=EX} (ds.map some++List.replicate (n-np) none) M
def qtX(T:NTX):NTF:=λds M Q=>T ds M Q λ_ _=>False
def iE(T:NTX)(ta:NTA):NEX:=λU M Q EX=>ta U M λds M1=>T ds M1 Q EX
def dA(C:Nat)(ns:z0)(T:NTX)(ta:NTE)(tas:NTA):NEX:=λU M Q EX=>ta U M λx M1=>∃a ds0,x=.ptr a/\M1 a=some (.ins C ns ds0)/\tas U M1 λds M2=>T (x::ds) M2 Q EX
def qX(C:Nat)(T:NTX)(tas:NTA):NEX:=λU M Q EX=>tas U M λds M1=>∀a,M1 a=none->T (.ptr a::ds) (aB M1 a (.ins C [] [])) (λd M2=>d=.non/\Q (.ptr a) M2) EX
def cJ(x:Str):NTS:=λE _ M=>x∈XS/\E.ex x M
def jw(i:Nat)(te:NEX):NTS:=λE U M=>te U M (λd M1=>E.nx (U.set i (some d)) M1) E.ex
def gk(te:NEX):NTS:=λE U M=>te U M E.rt E.ex
def jx(te:NEX):NTS:=λE U M=>te U M (λ_ M1=>E.nx U M1) E.ex
def qY(i j:Nat)(t:NTS):NTS:=λE U M=>t {E with ex:=λx M1=>∀a,M1 a=none->E.nx ((U.set j none).set i (some (.ptr a))) (aB M1 a (.exn a x))} U M
def nq(ns:z0)(f:Str)(ta tv:NTE):NTS:=λE U M=>tv U M λv M1=>ta U M1 λx M2=>∃a ds,x=.ptr a/\M2 a=some (.dic ns ds)/\E.nx U (aB M2 a (.dic (ns++[f]) (ds++[v])))
end VL
variable {M M':VL.Sto}{ti ta tel tit:VL.NTE}{te:VL.NEX}{T:VL.NTF}{Ew:VL.EndN}{QW:VL.QE}{EX:VL.QX}{ka kb:VL.NTB}{tas:VL.NTA}
namespace VL
open PySem PySem.Spec PyProof.Rows L2
noncomputable def wQ:Option Cell->Bool
 |some (.dcT true _)=>true
 |some (.dcL true _)=>true
 |_=>false
def inM(M:Sto):Addr->Prop:=λa=>M a≠none/\wQ (M a)=false
def nu{b:Addr}(e:M' b=M b):inM M' b↔inM M b:=by unfold inM;rw[e]
noncomputable abbrev PH(H:Hp)(M:Sto):Hp:=ao H (inM M)
noncomputable def aF(ns:z0)(vs:l_):List (Key×V):=(ns.zip vs).map λp=>(Sum.inr p.1,p.2)
noncomputable def wR(ps:List ((Int×Int)×Int)):List (List Key×V):=ps.map λp=>([Sum.inl p.1.1,Sum.inl p.1.2],V.int p.2)
noncomputable def wS(ps:List (z_×Int)):List (List Key×V):=ps.map λp=>(p.1.map Sum.inl,V.int p.2)
def wT(x C:Addr):Heap->Prop:=λh=>∃o,h.get? x=some o/\o.cls=.ref C
def CellOk(K:K0)(H:Hp):HO->Cell->Prop
 |.lst xs,.lst ds=>Reps K H xs ds
 |.dK kvs,.dic ns ds=>∃vs,kvs=aF ns vs/\vs.length=ns.length/\Reps K H vs ds
 |.ins C dx fs,.ins C' ns ds=>C=C'/\∃vs,fs=ns.zip vs/\vs.length=ns.length/\Reps K H vs ds
 |o,.dcT fz ps=>(fz=false/\o=.dT (wR ps))\/(fz=true/\∃ob,o=.frz ob (.dT (wR ps)))
 |o,.dcL fz ps=>(fz=false/\o=.dT (wS ps))\/(fz=true/\∃ob,o=.frz ob (.dT (wS ps)))
 |.ext φ,.exn a x=>∃C,φ=wT a C/\W.nsIn K mainGlobals x=some (some (.ref C))
 |_,_=>False
def CellOk.mono(e:Same H H'):∀{o:HO} {c:Cell},CellOk K H o c->CellOk K H' o c:=λ{o c} h=>by
 unfold CellOk at h ⊢;split at h
 ·exact aV e h
 ·obtain⟨vs,h1,h2,h3⟩:=h;exact⟨vs,h1,h2,aV e h3⟩
 ·obtain⟨h0,vs,h1,h2,h3⟩:=h;exact⟨h0,vs,h1,h2,aV e h3⟩
 ·exact h
 ·exact h
 ·exact h
 ·exact h.elim
def MOk(K:K0)(H:Hp)(M:Sto):Prop:=∀a c,M a=some c->∃o,H a=some o/\CellOk K (PH H M) o c
theorem MOk.dom(h:MOk K H M):Dom H (inM M):=λb hb n=>by
 cases e:M b with
 |none=>exact hb.1 e
 |some c=>obtain⟨o,h1,_⟩:=h b c e;rw[n]at h1;cases h1
def MOk.fresh(h:MOk K H M){p:Addr}(hp:H p=none):M p=none:=by
 cases e:M p with
 |none=>rfl
 |some c=>obtain⟨o,h1,_⟩:=h p c e;rw[hp]at h1;cases h1
def PH.up(e:Same H H'):Same (PH H M) (PH H' M):=c8 e
def MOk.up(h:MOk K H M)(e:Same H H'):MOk K H' M:=λa c hc=>by obtain⟨o,h1,h2⟩:=h a c hc;exact⟨o,e _ _ h1,h2.mono (PH.up e)⟩
def PH.at{b:Addr}(h:PH H M b=some o):¬inM M b/\H b=some o:=eG h
def PH.of{b:Addr}(h:M b=none):PH H M b=H b:=cr λn=>n.1 h
def PH.out{b:Addr}(h:¬inM M b):PH H M b=H b:=cr h
def fL{p:Addr}{c:Cell}(h:MOk K H M)(hp:H p=none)(hs:Same H H')(ho:H' p=some o)(hc:CellOk K (ao H' λb=>inM M b\/b=p) o c):
  Same (PH H M) (PH H' (aB M p c))/\MOk K H' (aB M p c):=by
 have e:Same (PH H M) (PH H' (aB M p c)):=λb u q=>by obtain⟨h1,h2⟩:=PH.at q;have ne:b≠p:=c6 h2 hp;rw[PH.out (mt (nu (aH ne)).mp h1)];exact hs _ _ h2
 refine⟨e,λa c' hc'=>?_⟩;by_cases q:a=p
 ·subst q
  rw[az]at hc';cases hc';refine⟨o,ho,hc.mono (cG (λ_ _ z=>z) λb z=>?_)⟩;by_cases hb:b=a
  ·exact .inr hb
  ·exact .inl ((nu (aH hb)).mp z)
 ·rw[aH q]at hc'
  obtain⟨o',h1,h2⟩:=h a c' hc';exact⟨o',hs _ _ h1,h2.mono e⟩
def gm{a:Addr}{c c0:Cell}(h:MOk K H M)(ha:M a=some c0)(hc:CellOk K (PH H M) o c)(hf:wQ (some c0)=false<|>J7):
  Same (PH H M) (PH (upd H a o) (aB M a c))/\MOk K (upd H a o) (aB M a c):=by
 have e:Same (PH H M) (PH (upd H a o) (aB M a c)):=λb u q=>by
  obtain⟨h1,h2⟩:=PH.at q;have ne:b≠a:=λz=>h1 (by subst z;refine⟨λn=>?_,?_⟩<;>rw[ha]at *;cases n;exact hf)
  rw[PH.out (mt (nu (aH ne)).mp h1),aE ne];exact h2
 refine⟨e,λb c' hc'=>?_⟩;by_cases q:b=a
 ·subst q
  rw[az]at hc';cases hc';exact⟨o,bn,hc.mono e⟩
 ·rw[aH q]at hc'
  obtain⟨o',h1,h2⟩:=h b c' hc';exact⟨o',by rw[aE q];exact h1,h2.mono e⟩
def GD{a:Addr}(h:MOk K H M):Same (PH H M) (PH H (eg M a))/\MOk K H (eg M a):=by
 have e:Same (PH H M) (PH H (eg M a)):=cG (λ_ _ z=>z) λb z=>by
  by_cases hb:b=a
  ·subst hb;exact absurd qO z.1
  ·exact(nu (qP hb)).mp z
 refine⟨e,λb c hc=>?_⟩;by_cases q:b=a
 ·subst q;rw[qO]at hc;cases hc
 ·rw[qP q]at hc
  obtain⟨o,h1,h2⟩:=h b c hc;exact⟨o,h1,h2.mono e⟩
structure EnvQ (K:K0) (σ:St) (U:ag) (H:Hp) (M:Sto):Prop where
 env:EnvR K (PH H M) σ U
 ok:MOk K H M
structure PostT (K:K0) (H:Hp) (M:Sto) (H':Hp) (M':Sto):Prop where
 same:Same (PH H M) (PH H' M')
 ok:MOk K H' M'
structure PostW (K:K0) (H:Hp) (M:Sto) (d:D) (v:V) (H':Hp) (M':Sto):Prop extends PostT K H M H' M' where
 rep:Rep K (PH H' M') v d
structure PostWs (K:K0) (H:Hp) (M:Sto) (ds:n_) (vs:l_) (H':Hp) (M':Sto):Prop extends PostT K H M H' M' where
 rep:Reps K (PH H' M') vs ds
def EnvQ.next(h:EnvQ K σ U H M)(p:PostT K H M H' M'):EnvQ K σ U H' M':=⟨h.env.mono p.same,p.ok⟩
def PostT.refl(h:MOk K H M):PostT K H M H M:=⟨Same.refl _,h⟩
def PostT.trans{M1 M2:Sto}(a:PostT K H M H1 M1)(b:PostT K H1 M1 H2 M2):PostT K H M H2 M2:=⟨a.same.trans b.same,b.ok⟩
def PostT.of(h:MOk K H M)(e:Same H H'):PostT K H M H' M:=⟨PH.up e,h.up e⟩
def tw(K:K0)(t:NTE):TE:=λσ H Q=>∃U M QW,EnvQ K σ U H M/\t U M QW/\∀d M',QW d M'->∀v H',PostW K H M d v H' M'->Q v H'
def twT(K:K0)(t:NTB):TT:=λσ H Q=>∃U M QW,EnvQ K σ U H M/\t U M QW/\∀b M',QW b M'->∀H',PostT K H M H' M'->Q b H'
def twA(K:K0)(t:NTA):TA:=λσ H Q=>∃U M QW,EnvQ K σ U H M/\t U M QW/\∀ds M',QW ds M'->∀vs H',PostWs K H M ds vs H' M'->Q vs H'
abbrev NE(X:Cx)(e:Expr)(t:NTE):Prop:=PE X e (tw X.K t)
structure YE (X:Cx) (e:Expr) (t:NTE):Prop where
 h:NE X e t
abbrev NT(X:Cx)(e:Expr)(t:NTB):Prop:=PT X e (twT X.K t)
structure YT (X:Cx) (e:Expr) (t:NTB):Prop where
 h:NT X e t
abbrev NW(X:Cx)(e:Expr)(t:NTB):Prop:=PW X e (twT X.K t)
structure YW (X:Cx) (e:Expr) (t:NTB):Prop where
 h:NW X e t
abbrev NA(X:Cx)(es:z6)(t:NTA):Prop:=PA X es (twA X.K t)
structure YA (X:Cx) (e:z6) (t:NTA):Prop where
 h:NA X e t
def bA{t:TE}{n:NTE}(h:PE X e t)(i:∀σ H Q U M QW,EnvQ X.K σ U H M->n U M QW->(∀d M',QW d M'->∀v H',PostW X.K H M d v H' M'->Q v H')->t σ H Q):PE X e (tw X.K n):=cV h λσ H Q y0=>by obtain⟨U,M,QW,hE,ht,hQ⟩:=y0;exact i σ H Q U M QW hE ht hQ
def l8{t:TT}{n:NTB}(h:PT X e t)(i:∀σ H Q U M QW,EnvQ X.K σ U H M->n U M QW->(∀d M',QW d M'->∀H',PostT X.K H M H' M'->Q d H')->t σ H Q):PT X e (twT X.K n):=m8 h λσ H Q y0=>by obtain⟨U,M,QW,hE,ht,hQ⟩:=y0;exact i σ H Q U M QW hE ht hQ
def wU{t:TT}{n:NTB}(h:PW X e t)(i:∀σ H Q U M QW,EnvQ X.K σ U H M->n U M QW->(∀d M',QW d M'->∀H',PostT X.K H M H' M'->Q d H')->t σ H Q):PW X e (twT X.K n):=pJ h λσ H Q y0=>by obtain⟨U,M,QW,hE,ht,hQ⟩:=y0;exact i σ H Q U M QW hE ht hQ
def wV{e:z6}{t:TA}{n:NTA}(h:PA X e t)(i:∀σ H Q U M QW,EnvQ X.K σ U H M->n U M QW->(∀d M',QW d M'->∀v H',PostWs X.K H M d v H' M'->Q v H')->t σ H Q):PA X e (twA X.K n):=ku h λσ H Q y0=>by obtain⟨U,M,QW,hE,ht,hQ⟩:=y0;exact i σ H Q U M QW hE ht hQ
section
variable {tb:NTE}
def qZ(h:EnvQ K σ U H M)(e:Es):Av K H σ U (inM M) e:=by
 have full:∀(j:Nat) (v:V) (d:D),σ[j]?=some (some v)->U[j]?=some (some d)->Rep K (ao H (inM M)) v d:=λj v d h1 h2=>by obtain⟨v',h3,h4⟩:=h.env j d h2;rw[h1]at h3;cases h3;exact h4
 cases e with
 |full j=>exact full j
 |el j=>exact λv d h1 h2=>(full j v d h1 h2).el
def EnvQ.envR(h:EnvQ K σ U H M):EnvR K H σ U:=h.env.mono (aP _ _)
def r8(h:VE X a fa es):NE X a (nP fa):=bA h λσ H Q U M QW hE ⟨d,hf,hq⟩ hQ=>⟨U,d,hE.envR,hf,λv H' p=>hQ d M hq v H' ⟨PostT.of hE.ok p.same,p.av (inM M) hE.ok.dom λe _=>qZ hE e⟩⟩
def bw{f:ag->k_}(h:JT X a f):YT X a (nPB f):=⟨have h:=h.h;l8 h λσ H Q U M QW hE ⟨d,hf,hq⟩ hQ=>⟨U,d,hE.envR,hf,λH' e=>hQ d M hq H' (PostT.of hE.ok e)⟩⟩
def nv(hr:OpV K r g)(h:tw K (n2 g ta tb) σ H Q):tOp r (tw K ta) (tw K tb) σ H Q:=by obtain⟨U,M,QW,hE,ht,hQ⟩:=h;refine⟨U,M,_,hE,ht,λx M1 h1 vx H1 p1=>⟨U,M1,_,hE.next p1.toPostT,h1,λy M2 h2 vy H2 p2=>?_⟩⟩;obtain⟨d,hg,hq⟩:=h2;have rx:=au p2.same p1.rep;refine hr vx vy H2 x y d Q (au (aP _ _) rx) (au (aP _ _) p2.rep) hg λv H' e r' av=>hQ d M2 hq v H' ⟨(p1.toPostT.trans p2.toPostT).trans (PostT.of p2.ok e),av _ p2.ok.dom rx p2.rep⟩
def nw{op:Operator}(ho:OpR X (binaryOp op) r)(hr:OpV X.K r g)(ha:NE X a ta)(hb:NE X b tb):NE X (.BinOp a op b pos) (n2 g ta tb):=cV (jZ ho ha hb) λ_ _ _ h=>nv hr h
def fj(ha:YE X a ta)(hb:YE X b tb):YE X (.BinOp a .Add b pos) (n2 bd ta tb):=⟨have ha:=ha.h;have hb:=hb.h;nw ub (kz X.K λ_ _ _=>.int _) ha hb⟩
def iF(ha:YE X a ta)(hb:YE X b tb):YE X (.BinOp a .Sub b pos) (n2 bI ta tb):=⟨have ha:=ha.h;have hb:=hb.h;nw uc (kz X.K λ_ _ _=>.int _) ha hb⟩
def wW(ha:YE X a ta)(hb:YE X b tb):YE X (.BinOp a .Mult b pos) (n2 bJ ta tb):=⟨have ha:=ha.h;have hb:=hb.h;nw vc (ky X.K (λ_ _ h=>h) λ_ _ _=>.int _) ha hb⟩
def GE(ho:OpR X (compareOp op) r)(hr:OpV X.K r g)(ha:NE X a ta)(hb:NE X b tb)(hm:behindInMarks op b=false):NE X (.Compare a [op] [b] pos) (n2 g ta tb):=
 cV (ug ho ha hb hm) λ_ _ _ h=>nv hr h
theorem jz(ho:OpR X (compareOp op) r)(hr:OpV X.K r g)(ha:NE X a ta)(hb:NE X b tb)(hm:behindInMarks op b=false):NT X (.Compare a [op] [b] pos) (bu (n2 g ta tb)):=
 l8 (oY ho ha hb hm) λσ H Q U M QW hE ht hQ=>nv hr ⟨U,M,_,hE,ht,λd M' hd v H' p=>by
  cases d with
  |bl k=>cases p.rep;exact⟨k,rfl,hQ k M' hd H' p.toPostT⟩
  |_=>exact hd.elim⟩
def GF(ha:YE X a ta)(hb:YE X b tb):YT X (.Compare a [.Lt] [b] pos) (bu (n2 ltI ta tb)):=⟨have ha:=ha.h;have hb:=hb.h;jz ud (fD X.K) ha hb (cR _)⟩
def GG(ha:YE X a ta)(hb:YE X b tb):YT X (.Compare a [.Gt] [b] pos) (bu (n2 gtI ta tb)):=⟨have ha:=ha.h;have hb:=hb.h;jz oW (fD X.K) ha hb (cR _)⟩
def ne_eq{k:Nat}(hr:Room k X.A)(ha:NE X a ta)(hb:NE X b tb):NE X (.Compare a [.Eq] [b] pos) (n2 eqD ta tb):=GE (mJ hr) (mK X.K) ha hb (cR _)
def jA{k:Nat}(hr:Room k X.A)(ha:YE X a ta)(hb:YE X b tb):YT X (.Compare a [.Eq] [b] pos) (bu (n2 eqD ta tb)):=⟨have ha:=ha.h;have hb:=hb.h;jz (mJ hr) (mK X.K) ha hb (cR _)⟩
def GH{k:Nat}(hr:Room k X.A)(ha:YE X a ta)(hb:YE X b tb):YT X (.Compare a [.NotEq] [b] pos) (bu (n2 neD ta tb)):=⟨have ha:=ha.h;have hb:=hb.h;jz (vS hr) (vT X.K) ha hb (cR _)⟩
def GI:n2 qm ta (nP (eC .non))=n1 cX ta:=by funext U M Q;unfold n2 n1 nP;congr 1;funext x M1;unfold WE W2 W1 eC;exact propext ⟨λy0=>by obtain⟨d,e,h⟩:=y0;cases e;exact h,λh=>⟨_,rfl,h⟩⟩
def GJ:n2 mO ta (nP (eC .non))=n1 dJ ta:=by funext U M Q;unfold n2 n1 nP;congr 1;funext x M1;unfold WE W2 W1 eC;exact propext ⟨λy0=>by obtain⟨d,e,h⟩:=y0;cases e;exact h,λh=>⟨_,rfl,h⟩⟩
def l9{j}(ha:YE X a ta):YT X (.Compare a [.Is] [.Constant .none j p2] pos) (bu (n1 cX ta)):=⟨have ha:=ha.h;by rw[<- GI];exact jz uf (w5 X.K) ha (r8 jc) (cR _)⟩
def GK{j}(ha:YE X a ta):YT X (.Compare a [.IsNot] [.Constant .none j p2] pos) (bu (n1 dJ ta)):=⟨have ha:=ha.h;by rw[<- GJ];exact jz oX (qo X.K) ha (r8 jc) (cR _)⟩
variable {rest:z6}
def fM(h:YE X a ta)(he:(∀whole,isTrue a X.env whole=(do let v <- whole;standAt a.pos;holding [v] (truthy v)))<|>Q0):YT X a (eP ta):=⟨have h:=h.h;
 l8 (uj h he) λσ H Q U M QW hE ht hQ=>⟨U,M,_,hE,ht,λd M' y0 v H' p=>by obtain⟨b,hb,hq⟩:=y0;exact⟨b,vh (au (aP _ _) p.rep) hb,hQ b M' hq H' p.toPostT⟩⟩⟩
def wX(ha:YT X a ka):YW X (.BoolOp .And [a] pos) ka:=⟨have ha:=ha.h;tQ ha⟩
def GL(ha:YT X a ka):YW X (.BoolOp .Or [a] pos) ka:=⟨have ha:=ha.h;tR ha⟩
theorem wY(ha:YT X a ka)(hb:YW X (.BoolOp .And (b::rest) pos) kb):YW X (.BoolOp .And (a::b::rest) pos) (mZ ka kb):=⟨have ha:=ha.h;have hb:=hb.h;
 wU (tS ha hb) λσ H Q U M QW hE ht hQ=>⟨U,M,_,hE,ht,λk M1 hk H1 p1=>by
  cases k with
  |true=>exact dW ⟨U,M1,_,hE.next p1,hk.1 rfl,λk' M2 h2 H2 p2=>hQ k' M2 h2 H2 (p1.trans p2)⟩
  |false=>exact dU (hQ _ M1 (hk.2 rfl) H1 p1)⟩⟩
theorem wZ(ha:YT X a ka)(hb:YW X (.BoolOp .Or (b::rest) pos) kb):YW X (.BoolOp .Or (a::b::rest) pos) (nOr ka kb):=⟨have ha:=ha.h;have hb:=hb.h;
 wU (tT ha hb) λσ H Q U M QW hE ht hQ=>⟨U,M,_,hE,ht,λk M1 hk H1 p1=>by
  cases k with
  |false=>exact dU ⟨U,M1,_,hE.next p1,hk.2 rfl,λk' M2 h2 H2 p2=>hQ k' M2 h2 H2 (p1.trans p2)⟩
  |true=>exact dW (hQ _ M1 (hk.1 rfl) H1 p1)⟩⟩
def rb(h:YW X a ka):YT X a ka:=⟨have h:=h.h;h.pt⟩
def iG(ha:YT X a ka):YT X (.UnaryOp .Not a pos) (gj ka):=⟨have ha:=ha.h;l8 (tU ha) λσ H Q U M QW hE ht hQ=>⟨U,M,_,hE,ht,λk M1 hk H1 p1=>hQ _ M1 hk H1 p1⟩⟩
theorem xb(hc:YT X c ka)(ha:YE X a ta)(hb:YE X b tb):YE X (.IfExp c a b pos) (nIf ka ta tb):=⟨have hc:=hc.h;have ha:=ha.h;have hb:=hb.h;
 bA (tX hc ha hb) λσ H Q U M QW hE ht hQ=>⟨U,M,_,hE,ht,λk M1 hk H1 p1=>by
  have fin:∀d M2,QW d M2->∀v H2,PostW X.K H1 M1 d v H2 M2->Q v H2:=λd M2 h2 v H2 p2=>hQ d M2 h2 v H2 ⟨p1.trans p2.toPostT,p2.rep⟩
  cases k with
  |true=>exact dW ⟨U,M1,_,hE.next p1,hk.1 rfl,fin⟩
  |false=>exact dU ⟨U,M1,_,hE.next p1,hk.2 rfl,fin⟩⟩⟩
def GM{op}(h:YE X a ta):YE X (.BoolOp op [a] pos) ta:=⟨have h:=h.h;tV h⟩
theorem GN(ha:YE X a ta)(hb:YE X (.BoolOp .And (b::rest) pos) tb):YE X (.BoolOp .And (a::b::rest) pos) (qQ ta tb):=⟨have ha:=ha.h;have hb:=hb.h;
 bA (tW ha hb) λσ H Q U M QW hE ht hQ=>⟨U,M,_,hE,ht,λx M1 hk vx H1 p1=>by
  cases x with
  | bl k=>
    cases p1.rep;refine⟨k,rfl,?_⟩;cases k with
    |true=>exact dW ⟨U,M1,_,hE.next p1.toPostT,hk.1 rfl,λd M2 h2 v H2 p2=>hQ d M2 h2 v H2 ⟨p1.toPostT.trans p2.toPostT,p2.rep⟩⟩
    |false=>exact dU (hQ _ M1 (hk.2 rfl) _ H1 ⟨p1.toPostT,.bl _⟩)
  |_=>exact hk.elim⟩⟩
variable {xs:z6}
def aq:YA X [] ak:=⟨wV c7 λσ H Q U M QW hE ht hQ=>hQ [] M ht [] H ⟨PostT.refl hE.ok,.nil⟩⟩
def ad(ha:YE X a ta)(hr:YA X xs tas)(hs:SE a xs X<|>J7):YA X (a::xs) (aa ta tas):=⟨have ha:=ha.h;have hr:=hr.h;
 wV (bM ha hr hs) λσ H Q U M QW hE ht hQ=>⟨U,M,_,hE,ht,λd M1 h1 v H1 p1=>⟨U,M1,_,hE.next p1.toPostT,h1,λds M2 h2 vs H2 p2=>hQ _ M2 h2 _ H2 ⟨p1.toPostT.trans p2.toPostT,.cons (au p2.same p1.rep) p2.rep⟩⟩⟩⟩
def ny{x1}(h:YA X xs tas):YE X (.Tuple xs x1 pos) (jt tas):=⟨have h:=h.h;
 bA (uv h) λσ H Q U M QW hE ht hQ=>⟨U,M,_,hE,ht,λds M1 ⟨hl,hq⟩ vs H1 p=>⟨by rw[p.rep.length];exact kF hl,λl hl1=>by have hn:=p.ok.fresh hl1;refine hQ _ M1 hq _ _ ⟨p.toPostT.trans (PostT.of p.ok (bo hl1 _)),.tup ?_ (aV (PH.up (bo hl1 _)) p.rep)⟩;rw[PH.of hn];exact bn⟩⟩⟩
def GO(h:YA X xs tas):YE X (.List xs pos) (qR tas):=⟨have h:=h.h;
 bA (lU h) λσ H Q U M QW hE ht hQ=>⟨U,M,_,hE,ht,λds M1 ⟨hl,hq⟩ vs H1 p=>⟨by rw[p.rep.length];exact kF hl,λl hl1=>by have hn:=p.ok.fresh hl1;refine hQ _ M1 hq _ _ ⟨p.toPostT.trans (PostT.of p.ok (bo hl1 _)),.lst (.inl ?_) (aV (PH.up (bo hl1 _)) p.rep)⟩;rw[PH.of hn];exact bn⟩⟩⟩
def rf{A:Addr->Prop}{p:Addr}(hp:H p=none):Same (ao H A) (ao (upd H p o) λb=>A b\/b=p):=λb u q=>by obtain⟨n,q⟩:=eG q;have ne:b≠p:=c6 q hp;rw[cr (λz=>z.elim n ne),aE ne];exact q
def xc(h:YA X xs tas):YE X (.List xs pos) (n0 tas):=⟨have h:=h.h;
 bA (lU h) λσ H Q U M QW hE ht hQ=>⟨U,M,_,hE,ht,λds M1 ⟨hl,hq⟩ vs H1 p=>⟨by rw[p.rep.length];exact kF hl,λl hl1=>by have hn:=p.ok.fresh hl1;obtain⟨e1,e2⟩:=fL (c:=.lst ds) p.ok hl1 (bo hl1 (.lst vs)) bn (aV (rf hl1) p.rep);exact hQ _ _ (hq l hn) _ _ ⟨p.toPostT.trans ⟨e1,e2⟩,.ptr l⟩⟩⟩⟩
def rg(h:JF X a fa es):YE X a (iD fa):=⟨have h:=h.h;bA h λσ H Q U M QW hE ⟨d,hf,ds,e,hq⟩ hQ=>⟨U,d,hE.envR,hf,λv H' p=>by obtain⟨l,xs,ds',rfl,rfl,hl,hl',hr⟩:=p.new;cases e;obtain⟨e1,e2⟩:=fL (c:=.lst ds) hE.ok hl p.same hl' (hr (inM M) hE.ok.dom λe _=>qZ hE e);exact hQ _ _ (hq l (hE.ok.fresh hl)) _ _ ⟨⟨e1,e2⟩,.ptr l⟩⟩⟩
theorem eR(ha:YE X a ta)(hb:YE X b tb)(hs:j6 b):YE X (.Subscript a b pos) (n2 ixD ta tb):=⟨have ha:=ha.h;have hb:=hb.h;
 bA (kg (ix_list.or pA) ha hb hs) λσ H Q U M QW hE ht hQ=>⟨U,M,_,hE,ht,λx M1 h1 vx H1 p1=>⟨U,M1,_,hE.next p1.toPostT,h1,λy M2 y0 vy H2 p2=>by
  obtain⟨d,hd,hq⟩:=y0;cases y with
  | int i=>
    cases p2.rep;obtain⟨ds,h3,h4⟩:=bind_some hd;have rx:=au p2.same p1.rep;have hel:ElR X.K H2 (inM M2) _ _:=rx.el;obtain⟨p,xs,rfl,hp,_,hA⟩:=jj (au (aP _ _) rx) h3;have hx:=hA _ hel;obtain⟨v,h5,h6⟩:=mj hx h4;have fin:Q v H2:=hQ d M2 hq v H2 ⟨p1.toPostT.trans p2.toPostT,h6⟩;rcases hp with hp|hp
    ·exact .inl ⟨p,xs,i,v,rfl,rfl,hp,h5,fin⟩
    ·exact .inr ⟨p,xs,i,v,rfl,rfl,hp,h5,fin⟩
  |_=>cases hd⟩⟩⟩
def fN{a:Addr}(h:MOk K H M)(ha:M a=some (.lst ds)):∃xs,H a=some (.lst xs)/\Reps K (PH H M) xs ds:=by
 obtain⟨o,h1,h2⟩:=h a _ ha;cases o with
 |lst xs=>exact⟨xs,h1,h2⟩
 |_=>exact h2.elim
def gZ{a:Addr}(h:MOk K H M)(ha:M a=some (.dic ns ds)):∃vs,H a=some (.dK (aF ns vs))/\vs.length=ns.length/\Reps K (PH H M) vs ds:=by
 obtain⟨o,h1,h2⟩:=h a _ ha;cases o with
 |dK kvs=>obtain⟨vs,rfl,h3,h4⟩:=h2;exact⟨vs,h1,h3,h4⟩
 |_=>exact h2.elim
def gp{a:Addr}{C:Nat}(h:MOk K H M)(ha:M a=some (.ins C ns ds)):∃dx vs,H a=some (.ins C dx (ns.zip vs))/\vs.length=ns.length/\Reps K (PH H M) vs ds:=by
 obtain⟨o,h1,h2⟩:=h a _ ha;cases o with
 |ins C' dx fs=>obtain⟨rfl,vs,rfl,h3,h4⟩:=h2;exact⟨dx,vs,h1,h3,h4⟩
 |_=>exact h2.elim
def xf(ha:YE X a ta)(hb:YE X b tb)(hs:j6 b):YE X (.Subscript a b pos) (n9 ta tb):=⟨have ha:=ha.h;have hb:=hb.h;
 bA (kg (ix_list.or pA) ha hb hs) λσ H Q U M QW hE ht hQ=>⟨U,M,_,hE,ht,λx M1 h1 vx H1 p1=>⟨U,M1,_,hE.next p1.toPostT,h1,λy M2 y0 vy H2 p2=>by obtain⟨q,ds,i,d,ex,hm,ey,hd,hq⟩:=y0;subst ex ey;cases p1.rep;cases p2.rep;obtain⟨xs,g1,g2⟩:=fN p2.ok hm;obtain⟨v,h5,h6⟩:=mj g2 hd;exact .inl ⟨q,xs,i,v,rfl,rfl,.inl (.inl g1),h5,hQ d M2 hq v H2 ⟨p1.toPostT.trans p2.toPostT,h6⟩⟩⟩⟩⟩
theorem xg:∀{ns:z0} {vs:l_} {i:Nat} {x:Str} {v:V},ns.Nodup->ns[i]?=some x->vs[i]?=some v->(ns.zip vs).lookup x=some v
 |[],_,_,_,_,_,h,_=>by simp at h
 |_::_,[],i,_,_,_,_,h=>by simp at h
 |n::ns,w::vs,0,x,v,_,h1,h2=>by simp at h1 h2;subst h1 h2;simp
 | n::ns,w::vs,i+1,x,v,hn,h1,h2=>by
   have h1':ns[i]?=some x:=by simpa using h1
   have hm:x∈ns:=z8a h1';have ne:¬(x=n):=λe=>(z8o.mp hn).1 (e▸hm)
   have ih:=xg (z8o.mp hn).2 h1' (by simpa using h2);rw[z7o,z8u,show(x==n)=false from z7i.mpr ne];exact ih
theorem xh:∀{ns:z0} {vs:l_} {i:Nat} {x:Str} {v:V},ns.Nodup->ns[i]?=some x->vs[i]?=some v->bN (aF ns vs) (.inr x)=some v
 |[],_,_,_,_,_,h,_=>by simp at h
 |_::_,[],i,_,_,_,_,h=>by simp at h
 |n::ns,w::vs,0,x,v,_,h1,h2=>by simp at h1 h2;subst h1 h2;exact lX (p:=((Sum.inr n:Key),w)) rfl
 | n::ns,w::vs,i+1,x,v,hn,h1,h2=>by
   have h1':ns[i]?=some x:=by simpa using h1
   have hm:x∈ns:=z8a h1';have ne:¬(n=x):=λe=>(z8o.mp hn).1 (e▸hm)
   have ih:=xh (z8o.mp hn).2 h1' (by simpa using h2);have e2:bN (aF (n::ns) (w::vs)) (.inr x)=bN (aF ns vs) (.inr x):=lY (p:=((Sum.inr n:Key),w)) λq=>ne (z5i q)
   rw[e2];exact ih
def cK{k:Nat}{j}(hr:Room k X.A)(ha:YE X a ta)(hs:m6 (.Constant (.str x) j p2))(hn:ns.Nodup<|>Q1)(hi:ns[i]?=some x<|>J7):YE X (.Subscript a (.Constant (.str x) j p2) pos) (nDg ns i ta):=⟨have ha:=ha.h;
 bA (uU (by have:=hr.un;ext) ha fv hs) λσ H Q U M QW hE ht hQ=>⟨U,M,_,hE,ht,λy M1 y0 vy H1 p1=>by obtain⟨q,ds,d,ex,hm,hd,hq⟩:=y0;subst ex;cases p1.rep;obtain⟨vs,g1,gl,g2⟩:=gZ p1.ok hm;obtain⟨v,h5,h6⟩:=g2.get hd;exact⟨q,v,rfl,.inl ⟨_,.inr x,.inl g1,rfl,(xh hn hi h5).symm⟩,hQ d M1 hq v H1 ⟨p1.toPostT,h6⟩⟩⟩⟩
def aT{f:Str}(c:Cls X.K C)(n:NoAttr X.K C f)(ha:YE X a ta)(hb:attributeBase a f X.env (eval a X.env)=eval a X.env<|>J7)(hn:ns.Nodup<|>Q1)(hi:ns[i]?=some f<|>J7):YE X (.Attribute a f pos) (aN C ns i ta):=⟨have ha:=ha.h;
 bA (Cq ha hb) λσ H Q U M QW hE ht hQ=>⟨U,M,_,hE,ht,λy M1 y0 vy H1 p1=>by obtain⟨q,ds,d,ex,hm,hd,hq⟩:=y0;subst ex;cases p1.rep;obtain⟨dx,vs,g1,gl,g2⟩:=gp p1.ok hm;obtain⟨v,h5,h6⟩:=g2.get hd;exact⟨q,C,dx,_,v,rfl,g1,c,n,xg hn hi h5,hQ d M1 hq v H1 ⟨p1.toPostT,h6⟩⟩⟩⟩
end
def spN(K:K0)(T:NTF):Sp:=λvs H Q _=>∃ds M QW,Reps K (PH H M) vs ds/\MOk K H M/\T ds M QW/\∀d M',QW d M'->∀v H',PostW K H M d v H' M'->Q v H'
def DefN(P:Program)(w:World)(K:K0)(mg:Str->i_)(base:Heap)(x:Str)(k:Nat)(ps:z0)(T:NTF):Prop:=
 ∃f fd,FnOk P w K mg base CX0 k f fd ps (spN K T)/\mg x=some (.ref f)/\W.keepIn K (.ref f)=true/\Binds K fd ps []
theorem DefN.mono{k:Nat}(h:DefN P w K mg base x j ps T)(hk:j<=k<|>J8):DefN P w K mg base x k ps T:=
 let⟨f,fd,F,m,kp,b⟩:=h
 ⟨f,fd,F.mono hk,m,kp,b⟩
def MetN(P:Program)(w:World)(K:K0)(mg:Str->i_)(base:Heap)(C:Addr)(m:Str)(k:Nat)(ps:z0)(T:NTF):Prop:=
 ∃f fd,FnOk P w K mg base CX0 k f fd ps (spN K T)/\Meth K C m f/\Binds K fd ps []
theorem MetN.mono{k:Nat}(h:MetN P w K mg base C x j ps T)(hk:j<=k<|>J8):MetN P w K mg base C x k ps T:=
 let⟨f,fd,F,m,b⟩:=h
 ⟨f,fd,F.mono hk,m,b⟩
def MakN(P:Program)(w:World)(K:K0)(mg:Str->i_)(base:Heap)(x:Str)(C:Addr)(k:Nat)(ps:z0)(T:NTF):Prop:=
 ∃f fd,FnOk P w K mg base CX0 k f fd ps (spN K T)/\Mk K C f/\mg x=some (.ref C)/\Binds K fd ps []
theorem MakN.mono{k:Nat}(h:MakN P w K mg base x C j ps T)(hk:j<=k<|>J8):MakN P w K mg base x C k ps T:=
 let⟨f,fd,F,m,g,b⟩:=h
 ⟨f,fd,F.mono hk,m,g,b⟩
def GP(h:MOk K H M)(r:Rep K (PH H M) v d):Rep K H v (vw1 M d):=by
 cases r with
 | ptr a=>
   show Rep K H (.ref a) (match M a with|some (.lst ds)=>.lst ds|_=>.ptr a)
   set_option tactic.hygienic true in split
   ·rename_i ds hm
    obtain⟨xs,g1,g2⟩:=fN h hm;exact .lst (.inl g1) (aV (aP _ _) g2)
   ·exact .ptr a
 |non=>exact .non
 |bl b=>exact .bl b
 |int b=>exact .int b
 |str b=>exact .str b
 |lst h1 h2=>exact au (aP _ _) (.lst h1 h2)
 |tup h1 h2=>exact au (aP _ _) (.tup h1 h2)
 |scr h1=>exact au (aP _ _) (.scr h1)
 |dct h1=>exact au (aP _ _) (.dct h1)
theorem nz{K:K0}{H:Hp}{M:Sto}(h:MOk K H M):∀{vs:l_} {ds:n_},Reps K (PH H M) vs ds->Reps K H vs (ds.map (vw1 M))
 |[],_,r=>by cases r;exact .nil
 |_::_,_,r=>by cases r with|cons a t=>exact .cons (GP h a) (nz h t)
section
variable {tb:NTE}{k:Nat}{es:z6}
def bb(d:DefN X.prog X.w X.K X.mg X.base x k ps T)(hr:Room k X.A)(ha:YA X (a::es) tas)(hg:Gl X x<|>J7)(hdb:DB x<|>J8)(he:SE a es X<|>J7)(hpl:BT pos es X<|>J7):
  YE X (.Call (.Name x p) (a::es) [] pos) (b5 T tas):=⟨have ha:=ha.h;
 let⟨_,_,F,hm,hk,hb⟩:=d
 bA (gC F hr hg hm hk hb .nil f6 ha hdb he hpl) λσ H Q U M QW hE ht hQ=>⟨U,M,_,hE,ht,λds M1 h1 vs H1 p=>by show spN X.K T (vs++[]) H1 Q E0;rw[z8v];exact⟨ds,M1,QW,p.rep,p.ok,h1,λd M' hd v H' p'=>hQ d M' hd v H' ⟨p.toPostT.trans p'.toPostT,p'.rep⟩⟩⟩⟩
def nA(d:Def X.prog X.w X.K X.mg X.base x k ps G fr)(hr:Room k X.A)(ha:YA X (a::es) tas)(hg:Gl X x<|>J7)(hdb:DB x<|>J8)(he:SE a es X<|>J7)(hpl:BT pos es X<|>J7):
  YE X (.Call (.Name x p) (a::es) [] pos) (ju G tas):=⟨have ha:=ha.h;
 let⟨_,_,F,hm,hk,hb⟩:=d
 bA (gC F hr hg hm hk hb .nil f6 ha hdb he hpl) λσ H Q U M QW hE ht hQ=>⟨U,M,_,hE,ht,λds M1 y0 vs H1 p=>by obtain⟨d,hf,hq⟩:=y0;show spF X.K G fr (vs++[]) H1 Q E0;rw[z8v];exact⟨ds,d,aV (aP _ _) p.rep,hf,λv H' r=>hQ d M1 hq v H' ⟨p.toPostT.trans (PostT.of p.ok r.same),r.rep _ p.ok.dom p.rep⟩⟩⟩⟩
def rh{id:String}{r:l_->Hp->VK->Prop}{g:n_->o_}(hc:di X (.builtin id) r)(hv:fH X.K r g)(hm:X.mg x=none)(hb:bootBuiltins x=some (.builtin id))(ha:NA X (a::es) tas)(hs:∀ds d,g ds=some d->aW d=true)(hg:Gl X x<|>J7)(hn:x ≠ "__name__"<|>J8)(hdb:DB x<|>J8)(he:SE a es X<|>J7)(hpl:BT pos es X<|>J7):
  NE X (.Call (.Name x p) (a::es) [] pos) (cA g tas):=
 bA (pw hc hg hm hb ha hn hdb he hpl) λσ H Q U M QW hE ht hQ=>⟨U,M,_,hE,ht,λds M1 ⟨d,hf,_,hq⟩ vs H1 p=>hv vs H1 _ d Q (nz p.ok p.rep) hf λv hr=>hQ d M1 hq v H1 ⟨p.toPostT,hr _⟩⟩
theorem jB:∀{ns:z0} {vs:l_} {x:Str},¬x∈ns->(ns.zip vs).lookup x=none
 |[],_,_,_=>rfl
 |_::_,[],_,_=>rfl
 |n::ns,v::vs,x,h=>by rw[z7o,z8u,show(x==n)=false from z7i.mpr λe=>h (e▸z9a)];exact jB λz=>h (z9d _ z)
def GQ(cl:Cls X.K C)(d:MetN X.prog X.w X.K X.mg X.base C m k ps T)(hr:Room k X.A)(ho:NE X b tb)(ha:NA X (a::es) tas)(hno:¬m∈ns)(hst:SE a es X)(hpl:BT pos es X)(ht:(eval (.Call (.Attribute b m ap) (a::es) [] pos) X.env=(do
   let ov <- eval b X.env
   standAt ap.atName
   let(f,first) <- holding [ov] (getMethod ov m pl)
   callWith pos f first (backTo pos (starEach (a::es) X.env)) (backToKw pos (keywordEach [] X.env))))<|>J7):
  NE X (.Call (.Attribute b m ap) (a::es) [] pos) (cI C ns T tb tas):=
 let⟨_,_,F,hm,hb⟩:=d
 bA (Cy ho cl hm F hr hb .nil f6 ha hst hpl ht) λσ H Q U M QW hE hw hQ=>⟨U,M,_,hE,hw,λx M1 y0 vx H1 p1=>by obtain⟨q,ds0,ex,hm1,h1⟩:=y0;subst ex;cases p1.rep;obtain⟨dx,vs0,g1,gl,g2⟩:=gp p1.ok hm1;refine⟨q,dx,_,rfl,g1,jB hno,U,M1,_,hE.next p1.toPostT,h1,λds M2 h2 vs H2 p2=>?_⟩;show spN X.K T (V.ref q::(vs++[])) H2 Q E0;rw[z8v];exact⟨.ptr q::ds,M2,QW,.cons (.ptr q) p2.rep,p2.ok,h2,λd M' hd v H' p'=>hQ d M' hd v H' ⟨(p1.toPostT.trans p2.toPostT).trans p'.toPostT,p'.rep⟩⟩⟩
def GR(cl:Cls X.K C)(d:MetN X.prog X.w X.K X.mg X.base C m k ps T)(hr:Room k X.A)(ho:NE X b tb)(hno:¬m∈ns)(ht:(eval (.Call (.Attribute b m ap) [] [] pos) X.env=(do
   let ov <- eval b X.env
   standAt ap.atName
   let(f,first) <- holding [ov] (getMethod ov m pl)
   callWith pos f first (backTo pos (starEach [] X.env)) (backToKw pos (keywordEach [] X.env))))<|>J7):
  NE X (.Call (.Attribute b m ap) [] [] pos) (cI C ns T tb ak):=
 let⟨_,_,F,hm,hb⟩:=d
 bA (Cz ho cl hm F hr hb .nil f6 ht) λσ H Q U M QW hE hw hQ=>⟨U,M,_,hE,hw,λx M1 y0 vx H1 p1=>by obtain⟨q,ds0,ex,hm1,h1⟩:=y0;subst ex;cases p1.rep;obtain⟨dx,vs0,g1,gl,g2⟩:=gp p1.ok hm1;refine⟨q,dx,_,rfl,g1,jB hno,?_⟩;exact⟨[.ptr q],M1,QW,.cons (.ptr q) .nil,p1.ok,h1,λd M' hd v H' p'=>hQ d M' hd v H' ⟨p1.toPostT.trans p'.toPostT,p'.rep⟩⟩⟩
end
structure EnvN (K:K0) (P:Hp) (n:Nat) (σ:St) (U:ag) (H:Hp) (M:Sto):Prop where
 q:EnvQ K σ U H M
 same:Same P (PH H M)
 lσ:σ.length=n
 lρ:U.length=n
noncomputable def hG(K:K0)(P:Hp)(n:Nat)(De:Ends):EndN where
 nx:=λU M=>∀σ H,EnvN K P n σ U H M->De.nx σ H
 bk:=λU M=>∀σ H,EnvN K P n σ U H M->De.bk σ H
 ct:=λU M=>∀σ H,EnvN K P n σ U H M->De.ct σ H
 rt:=λd M=>∀v H,Same P (PH H M)->MOk K H M->Rep K (PH H M) v d->De.rt v H
structure LeE (A B:EndN):Prop where
 nx:∀U M,A.nx U M->B.nx U M
 bk:∀U M,A.bk U M->B.bk U M
 ct:∀U M,A.ct U M->B.ct U M
 rt:∀d M,A.rt d M->B.rt d M
def twS(K:K0)(P:Hp)(n:Nat)(t:NTS):TS:=λDe σ H=>∃U M Ew,EnvN K P n σ U H M/\t Ew U M/\LeE Ew (hG K P n De)
abbrev NS(X:Cx)(st:Stmt)(t:NTS):Prop:=∀P n,PS X st (twS X.K P n t)
structure YS (X:Cx) (st:Stmt) (t:NTS):Prop where
 h:NS X st t
abbrev NSs(X:Cx)(st:z9)(t:NTS):Prop:=∀P n,PSs X st (twS X.K P n t)
structure YSs (X:Cx) (st:z9) (t:NTS):Prop where
 h:NSs X st t
def dC{e:Stmt}{t:TS}{P:Hp}{k:Nat}{n:NTS}(h:PS X e t)(i:∀De σ H U M Ew,EnvN X.K P k σ U H M->n Ew U M->LeE Ew (hG X.K P k De)->t De σ H):PS X e (twS X.K P k n):=da h λDe σ H y0=>by obtain⟨U,M,QW,hE,ht,hQ⟩:=y0;exact i De σ H U M QW hE ht hQ
def xi{e:z9}{t:TS}{P:Hp}{k:Nat}{n:NTS}(h:PSs X e t)(i:∀De σ H U M Ew,EnvN X.K P k σ U H M->n Ew U M->LeE Ew (hG X.K P k De)->t De σ H):PSs X e (twS X.K P k n):=ff h λDe σ H y0=>by obtain⟨U,M,QW,hE,ht,hQ⟩:=y0;exact i De σ H U M QW hE ht hQ
def EnvN.next{P:Hp}(h:EnvN K P n σ U H M)(p:PostT K H M H' M'):EnvN K P n σ U H' M':=⟨h.q.next p,h.same.trans p.same,h.lσ,h.lρ⟩
def EnvN.set{P:Hp}(h:EnvN K P n σ U H M)(r:Rep K (PH H M) v d):EnvN K P n (σ.set i (some v)) (U.set i (some d)) H M:=
 ⟨⟨λj e q=>by
   by_cases e1:j=i
   ·subst e1
    have hl:j<U.length:=by have:=(z9c.mp q).1;simpa using this
    rw[z9r hl]at q;cases q;exact⟨v,z9r (by rw[h.lσ,<- h.lρ];exact hl),r⟩
   ·rw[z9f (Ne.symm e1)]at q
    obtain⟨v',h1,h2⟩:=h.q.env j e q;exact⟨v',by rw[z9f (Ne.symm e1)];exact h1,h2⟩,h.q.ok⟩,h.same,by rw[z8e];exact h.lσ,by rw[z8e];exact h.lρ⟩
section
variable {tv:NTE}{k:Nat}{rest bs:z9}{t u:NTS}{f:Str}
def bY:YSs X [] sN:=⟨λP n=>xi oO λDe σ H U M Ew hE ht hl=>hl.nx U M ht σ H hE⟩
def aw(h1:YS X st t)(h2:YSs X rest u):YSs X (st::rest) (ah t u):=⟨have h1:=h1.h;have h2:=h2.h;λP n=>xi (j1 (h1 P n) (h2 P n)) λDe σ H U M Ew hE ht hl=>⟨U,M,_,hE,ht,λρ' M' h' σ' H' hE'=>⟨ρ',M',Ew,hE',h',hl⟩,hl.bk,hl.ct,hl.rt⟩⟩
def aS(h1:YS X st t):YSs X [st] t:=⟨have h1:=h1.h;λP n=>ff (jV (h1 P n)) λDe σ H h=>h⟩
theorem bZ(hc:YT X c ka)(ha:YSs X body t)(hb:YSs X bs u):YS X (.If c body bs pos) (aI ka t u):=⟨have hc:=hc.h;have ha:=ha.h;have hb:=hb.h;λP n=>dC (oP hc (ha P n) (hb P n)) λDe σ H U M Ew hE ht hl=>⟨U,M,_,hE.q,ht,λk M1 hk H1 p1=>by
 cases k with
 |true=>exact dW ⟨U,M1,Ew,hE.next p1,hk.1 rfl,hl⟩
 |false=>exact dU ⟨U,M1,Ew,hE.next p1,hk.2 rfl,hl⟩⟩⟩
def ba(he:YE X a ta):YS X (.Return (some a) pos) (aX ta):=⟨have he:=he.h;λP n=>dC (i9 he) λDe σ H U M Ew hE ht hl=>⟨U,M,_,hE.q,ht,λd M1 h1 v H1 p1=>hl.rt d M1 h1 v H1 (hE.same.trans p1.same) p1.ok p1.rep⟩⟩
def xj(i:Nat)(hN:X.N[i]?=some x<|>J7)(hv:Vis X.env.scope x<|>J9)(hd:DB x<|>J8)(hcd:(x==("__classdict__" : Str))=false<|>J8):YS X (.Return (some (.Name x p2)) pos) (nc i):=⟨λP n=>dC (i9 (fu hN hv hd hcd)) λDe σ H U M Ew hE y0 hl=>by obtain⟨q,ds,h1,h2,h3⟩:=y0;obtain⟨v,hv,r⟩:=hE.q.env i _ (gc h1);cases r;obtain⟨e1,e2⟩:=GD (a:=q) hE.q.ok;obtain⟨xs,g1,g2⟩:=fN hE.q.ok h2;refine⟨_,hv,hl.rt _ _ h3 _ H (hE.same.trans e1) e2 (.lst (.inl ?_) (aV e1 g2))⟩;rw[PH.of qO];exact g1⟩
def aO(i:Nat)(hN:X.N.Nodup)(he:YE X a ta)(hi:X.N[i]?=some x<|>J7)(hx:Loc X.env.scope x<|>J9)(hs:swapsWith a (some (.Name x p2)) pos.line X.env=pure false<|>J7)(hfn:X.fn x=true\/X.env.scope.names.lookup x=some .local<|>J9):YS X (.Assign [.Name x p2] a pos) (aK i ta):=⟨have he:=he.h;λP n=>dC (j2 hN hi hx he hs hfn) λDe σ H U M Ew hE ht hl=>⟨U,M,_,hE.q,ht,λd M1 h1 v H1 p1=>hl.nx _ M1 h1 _ H1 ((hE.next p1.toPostT).set p1.rep)⟩⟩
theorem xk{K:K0}{P:Hp}{n:Nat}{Q:St->Hp->Prop}{H:Hp}{M:Sto}:∀{is:y9} {ds:n_} {xs:l_} {σ:St} {U:ag},EnvN K P n σ U H M->is.length=ds.length->Reps K (PH H M) xs ds ->
  (∀σ',EnvN K P n σ' ((is.zip ds).foldl (λr p=>r.set p.1 (some p.2)) U) H M->Q σ' H)->gg is xs σ H Q
 |[],[],_,σ,U,hE,_,r,hQ=>by cases r;exact⟨rfl,hQ σ hE⟩
 |[],_::_,_,_,_,_,h,_,_=>by cases h
 |_::_,[],_,_,_,_,h,_,_=>by cases h
 | i::is,d::ds,_,σ,U,hE,h,r,hQ=>by
   cases r with
   |cons r1 r2=>exact⟨_,_,rfl,xk (hE.set r1) (by simpa using h) r2 hQ⟩
def xl(is:y9){ts:z6}{k:Nat}(hc:X.calm=true)(hN:X.N.Nodup)(he:YE X a ta)(ht:Tgs X ts is)(hn:(assignEach ts X.env).length=is.length<|>J7)(hst:(assignEach ts X.env).findIdx? (·.1)=none<|>J7)(hs:swapsWithSole [.Tuple ts k p2] a pos.line X.env=pure false<|>J7)(hw:swappedStores [.Tuple ts k p2] a X.env=pure none<|>J7)(h1:(assignEach [.Tuple ts k p2] X.env).map (·.2)=[assign (.Tuple ts k p2) X.env]<|>J7):YS X (.Assign [.Tuple ts k p2] a pos) (ng is ta):=⟨have he:=he.h;λP n=>
 dC (lO he (gB hc (Tgs.ok hN ht) hn hst) hs hw h1) λDe σ H U M Ew hE hw' hl=>⟨U,M,_,hE.q,hw',λd M1 y0 v H1 p1=>by obtain⟨ds,e1,e2,h2⟩:=y0;subst e1;obtain⟨q,xs,rfl,hq,hx⟩:=q9 p1.rep;have hE1:=hE.next p1.toPostT;exact⟨q,xs,rfl,.inl (dI (aP _ _) hq),by rw[hx.length];exact e2,xk hE1 e2.symm hx λσ' hE'=>hl.nx _ M1 h2 σ' H1 hE'⟩⟩⟩
theorem rj:∀{ns:z0} {vs:l_} {i:Nat} {f:Str} (y:V),vs.length=ns.length->ns.Nodup->ns[i]?=some f->cF f y (ns.zip vs)=ns.zip (vs.set i y)
 |[],_,_,_,_,_,_,h=>by simp at h
 |_::_,[],_,_,_,h,_,_=>by simp at h
 |n::ns,w::vs,0,f,y,_,_,h=>by simp at h;subst h;simp[cF]
 | n::ns,w::vs,i+1,f,y,hl,hn,h=>by
   have h1':ns[i]?=some f:=by simpa using h
   have ne:¬(n=f):=λe=>(z8o.mp hn).1 (e▸z8a h1')
   rw[z7o,List.set_cons_succ,z7o,cF,if_neg ne,rj y (by simpa using hl) (z8o.mp hn).2 h1']
theorem xm:∀{ns:z0} {vs:l_} {f:Str} (y:V),vs.length=ns.length->¬f∈ns->cF f y (ns.zip vs)=(ns++[f]).zip (vs++[y])
 |[],[],f,y,_,_=>rfl
 |[],_::_,_,_,h,_=>by simp at h
 |_::_,[],_,_,h,_=>by simp at h
 | n::ns,w::vs,f,y,hl,hn=>by
   have ne:¬(n=f):=λe=>hn (e▸z9a)
   rw[z7o,z6e,z6e,z7o,cF,if_neg ne,xm y (by simpa using hl) λz=>hn (z9d _ z)]
def jC(cl:Cls X.K C)(nat:NoAttr X.K C f)(ha:YE X a ta)(hv:YE X b tv)(hn:ns.Nodup<|>Q1)(hi:ns[i]?=some f<|>J7)(hlt:ns.length<1000<|>J8)(hs:swapsWith b (some (.Attribute a f p2)) pos.line X.env=pure false<|>J7):
  YS X (.Assign [.Attribute a f p2] b pos) (gX C ns i ta tv):=⟨have ha:=ha.h;have hv:=hv.h;λP n=>
 dC (pp ha hv hs) λDe σ H U M Ew hE ht hl=>⟨U,M,_,hE.q,ht,λd M1 h1 v H1 p1=>⟨U,M1,_,hE.q.next p1.toPostT,h1,λx M2 y0 vx H2 p2=>by obtain⟨q,ds,ex,hm,h2⟩:=y0;subst ex;cases p2.rep;obtain⟨dx,vs,g1,gl,g2⟩:=gp p2.ok hm;have rv:=au p2.same p1.rep;refine⟨q,C,dx,_,rfl,g1,cl,nat,by rw[List.length_zip,gl,Nat.min_self];exact hlt,?_⟩;rw[rj _ gl hn hi];obtain⟨e1,e2⟩:=gm (o:=.ins C dx (ns.zip (vs.set i v))) (c:=.ins C ns (ds.set i d)) p2.ok hm ⟨rfl,_,rfl,by rw[z8e];exact gl,g2.set rv i⟩;exact hl.nx _ _ h2 σ _ ((hE.next (p1.toPostT.trans p2.toPostT)).next ⟨e1,e2⟩)⟩⟩⟩
def dN(cl:Cls X.K C)(nat:NoAttr X.K C f)(ha:YE X a ta)(hv:YE X b tv)(hi:¬f∈ns<|>Q1)(hlt:ns.length<1000<|>J8)(hs:swapsWith b (some (.Attribute a f p2)) pos.line X.env=pure false<|>J7):
  YS X (.Assign [.Attribute a f p2] b pos) (de C ns f ta tv):=⟨have ha:=ha.h;have hv:=hv.h;λP n=>
 dC (pp ha hv hs) λDe σ H U M Ew hE ht hl=>⟨U,M,_,hE.q,ht,λd M1 h1 v H1 p1=>⟨U,M1,_,hE.q.next p1.toPostT,h1,λx M2 y0 vx H2 p2=>by obtain⟨q,ds,ex,hm,h2⟩:=y0;subst ex;cases p2.rep;obtain⟨dx,vs,g1,gl,g2⟩:=gp p2.ok hm;have rv:=au p2.same p1.rep;refine⟨q,C,dx,_,rfl,g1,cl,nat,by rw[List.length_zip,gl,Nat.min_self];exact hlt,?_⟩;rw[xm _ gl hi];obtain⟨e1,e2⟩:=gm (o:=.ins C dx ((ns++[f]).zip (vs++[v]))) (c:=.ins C (ns++[f]) (ds++[d])) p2.ok hm ⟨rfl,_,rfl,by simp[gl],g2.append (.cons rv .nil)⟩;exact hl.nx _ _ h2 σ _ ((hE.next (p1.toPostT.trans p2.toPostT)).next ⟨e1,e2⟩)⟩⟩⟩
theorem xn:∀{ns:z0} {vs:l_} {i:Nat} {f:Str},vs.length=ns.length->ns[i]?=some f->((aF ns vs).any λkv=>decide (kv.1=(Sum.inr f:Key)))=true
 |[],_,_,_,_,h=>by simp at h
 |_::_,[],_,_,h,_=>by simp at h
 |n::ns,w::vs,0,f,_,h=>by simp at h;subst h;simp[aF]
 |n::ns,w::vs,i+1,f,hl,h=>by have ih:=xn (ns:=ns) (vs:=vs) (i:=i) (f:=f) (by simpa using hl) (by simpa using h);have e:aF (n::ns) (w::vs)=(Sum.inr n,w)::aF ns vs:=rfl;rw[e,z6j,ih,Bool.or_true]
theorem xo:∀{ns:z0} {vs:l_} {f:Str} (y:V),¬f∈ns->(aF ns vs).map (λkv=>if kv.1=(Sum.inr f:Key)then(kv.1,y)else kv)=aF ns vs
 |[],_,_,_,_=>rfl
 |_::_,[],_,_,_=>rfl
 | n::ns,w::vs,f,y,h=>by
   have e:aF (n::ns) (w::vs)=(Sum.inr n,w)::aF ns vs:=rfl;have ne:¬((Sum.inr n:Key)=Sum.inr f):=λq=>h (z5i q▸z9a)
   rw[e,z9n,if_neg ne,xo y λz=>h (z9d _ z)]
theorem xp:∀{ns:z0} {vs:l_} {i:Nat} {f:Str} (y:V),vs.length=ns.length->ns.Nodup->ns[i]?=some f->(aF ns vs).map (λkv=>if kv.1=(Sum.inr f:Key)then(kv.1,y)else kv)=aF ns (vs.set i y)
 |[],_,_,_,_,_,_,h=>by simp at h
 |_::_,[],_,_,_,h,_,_=>by simp at h
 |n::ns,w::vs,0,f,y,_,hn,h=>by simp at h;subst h;have e:aF (n::ns) (w::vs)=(Sum.inr n,w)::aF ns vs:=rfl;rw[e,z9n,if_pos rfl,xo y (z8o.mp hn).1];rfl
 | n::ns,w::vs,i+1,f,y,hl,hn,h=>by
   have h1':ns[i]?=some f:=by simpa using h
   have e:aF (n::ns) (w::vs)=(Sum.inr n,w)::aF ns vs:=rfl;have ne:¬((Sum.inr n:Key)=Sum.inr f):=λq=>(z8o.mp hn).1 (z5i q▸z8a h1')
   rw[e,z9n,if_neg ne,xp y (by simpa using hl) (z8o.mp hn).2 h1'];rfl
def GS(y:V)(hl:vs.length=ns.length)(hn:ns.Nodup)(hi:ns[i]?=some f):cS (aF ns vs) (.inr f) y=aF ns (vs.set i y):=by unfold cS;rw[if_pos (xn hl hi),xp y hl hn hi]
def fO{j}(hr:Room k X.A)(ha:YE X a ta)(hv:YE X b tv)(hn:ns.Nodup<|>Q1)(hi:ns[i]?=some f<|>J7)(hlt:ns.length<1000<|>J8)(hs:swapsWith b (some (.Subscript a (.Constant (.str f) j p3) p2)) pos.line X.env=pure false<|>J7):
  YS X (.Assign [.Subscript a (.Constant (.str f) j p3) p2] b pos) (eQ ns i ta tv):=⟨have ha:=ha.h;have hv:=hv.h;λP n=>
 dC (pI (by have:=hr.un;ext) ha fv hv hs) λDe σ H U M Ew hE ht hl=>⟨U,M,_,hE.q,ht,λd M1 h1 v H1 p1=>⟨U,M1,_,hE.q.next p1.toPostT,h1,λx M2 y0 vx H2 p2=>by
  obtain⟨q,ds,ex,hm,h2⟩:=y0;subst ex;cases p2.rep;obtain⟨vs,g1,gl,g2⟩:=gZ p2.ok hm;have rv:=au p2.same p1.rep;have hz:(aF ns vs).length<sizeLine:=by
   have:(aF ns vs).length=ns.length:=by simp[aF,gl]
   rw[this,z7y];ext
  refine⟨q,_,rfl,.inl ⟨_,.inr f,g1,rfl,hz,rfl⟩,?_⟩;rw[GS _ gl hn hi];obtain⟨e1,e2⟩:=gm (o:=.dK (aF ns (vs.set i v))) (c:=.dic ns (ds.set i d)) p2.ok hm ⟨_,rfl,by rw[z8e];exact gl,g2.set rv i⟩;exact hl.nx _ _ h2 σ _ ((hE.next (p1.toPostT.trans p2.toPostT)).next ⟨e1,e2⟩)⟩⟩⟩
end
section
variable {tb tv:NTE}{k:Nat}{t tbd:NTS}
def GT(ha:NE X a ta)(he:NE X e tv)(hbase:attributeBase a "append" X.env (eval a X.env)=eval a X.env)(hfew:(((backTo cp (starEach [e] X.env)).all (λx=>!x.1)&&(backToKw cp (keywordEach [] X.env)).all (λx=>x.1.isSome)
   && decide (([e]:z6).length+([]:z8).length+(if([]:z8).isEmpty then 0 else 1)<30))=true)<|>J7)(hline:(ap.endLine==cp.line)=true<|>J7)(hs:SE e [] X<|>J7)(hplain:BT cp [] X<|>J7)(hsw:swapsWith (.Call (.Attribute a "append" ap) [e] [] cp) none pos.line X.env=pure false<|>J7):
  NS X (.Expr (.Call (.Attribute a "append" ap) [e] [] cp) pos) (gY ta tv):=λP n=>
 dC (jW (ib z6y z5s z5t pB ha (bM he c7 hs) hbase hfew hline hs hplain) hsw) λDe σ H U M Ew hE ht hl=>⟨U,M,_,hE.q,ht,λx M1 y0 vx H1 p1=>by obtain⟨q,ds0,ex,hm0,h1⟩:=y0;subst ex;cases p1.rep;obtain⟨xs0,g0,_⟩:=fN p1.ok hm0;refine⟨.inl ⟨rfl,xs0,.inl (.inl g0)⟩,U,M1,_,hE.q.next p1.toPostT,h1,λv M2 y0 vv H2 p2=>?_⟩;obtain⟨ds,hm,hz,h2⟩:=y0;obtain⟨xs,g1,g2⟩:=fN p2.ok hm;have len:=g2.length;refine⟨q,xs,vv,rfl,rfl,g1,z9u (show xs.length<100000 by ext) (by decide),?_⟩;obtain⟨e1,e2⟩:=gm (o:=.lst (xs++[vv])) (c:=.lst (ds++[v])) p2.ok hm (g2.append (.cons p2.rep .nil));exact hl.nx _ _ h2 σ _ ((hE.next (p1.toPostT.trans p2.toPostT)).next ⟨e1,e2⟩)⟩
def GU(ha':NE X a ta)(hb:NE X b ti)(he:NE X e tv)(ha:(∀v,assign (.Subscript a b p3) X.env v=(do
   let ov <- holding [v] (eval a X.env);let iv <- holding [v,ov] (eval b X.env)
   standAt p3
   holding [v,ov,iv] (setItem ov iv v)
   release [v,ov,iv] []))<|>Q0)(hs:swapsWithSole [.Subscript a b p3] e pos.line X.env=pure false<|>J7)(hw:swappedStores [.Subscript a b p3] e X.env=pure none<|>J7)(h1:(assignEach [.Subscript a b p3] X.env).map (·.2)=[assign (.Subscript a b p3) X.env]<|>J7):
  NS X (.Assign [.Subscript a b p3] e pos) (l7 ta ti tv):=λP n=>
 dC (lO he (u1 ha' hb uG ha) hs hw h1) λDe σ H U M Ew hE ht hl=>⟨U,M,_,hE.q,ht,λd M1 h1 v H1 p1=>⟨U,M1,_,hE.q.next p1.toPostT,h1,λx M2 h2 vx H2 p2=>⟨U,M2,_,(hE.q.next p1.toPostT).next p2.toPostT,h2,λy M3 y0 vy H3 p3=>by obtain⟨q,ds,m,j,ex,hm,ey,hj,h3⟩:=y0;subst ex ey;cases p2.rep;cases p3.rep;obtain⟨xs,g1,g2⟩:=fN p3.ok hm;have rv:=au (p2.same.trans p3.same) p1.rep;have len:=g2.length;obtain⟨e1,e2⟩:=gm (o:=.lst (xs.set j v)) (c:=.lst (ds.set j d)) p3.ok hm (g2.set rv j);exact⟨q,xs,m,j,rfl,rfl,g1,by rw[len];exact hj,hl.nx _ _ h3 σ _ ((hE.next ((p1.toPostT.trans p2.toPostT).trans p3.toPostT)).next ⟨e1,e2⟩)⟩⟩⟩⟩
def xq{P P1:Hp}{N:St->Hp->Prop}{body:D->NTS}{r:n_}(hs:Same P P1)(hl:LeE Ew (hG K P n De))(hN:∀U M σ H,EnvN K P1 n σ U H M->cB body r Ew U M->N σ H):
  LeE {Ew with nx:=λU M=>cB body r Ew U M,ct:=λU M=>cB body r Ew U M,bk:=Ew.nx} (hG K P1 n {De with nx:=N,ct:=N,bk:=De.nx}) where
 nx:=λU M h σ H hE=>hN U M σ H hE h
 ct:=λU M h σ H hE=>hN U M σ H hE h
 bk:=λU M h σ H hE=>hl.nx U M h σ H ⟨hE.q,hs.trans hE.same,hE.lσ,hE.lρ⟩
 rt:=λd M h v H h1 h2 h3=>hl.rt d M h v H (hs.trans h1) h2 h3
def xr(t:Nat)(hN:X.N.Nodup)(hc:X.calm=true)(hi:YE X a ta)(hb:YSs X body tbd)(hp:PassesOwn (model X.prog X.w) X.A X.env X.xe<|>Q2)(hxN:X.N[t]?=some x<|>J7)(hx:Loc X.env.scope x<|>J9)(hfn:X.fn x=true\/X.env.scope.names.lookup x=some .local<|>J9)(hs:(∀x,foldedSetIterable a X.env x=pure x)<|>Q0):YS X (.For (.Name x p2) a body [] pos) (nh t ta tbd):=⟨have hi:=hi.h;have hb:=hb.h;λP n=>by
 have hb':PSs X body (λDe σ H=>∃P1,twS X.K P1 n tbd De σ H):=λG_ s σ H De I y0=>by obtain⟨P1,h⟩:=y0;exact hb P1 n G_ s σ H De I h
 refine dC (fZ hp hc (lP hi) (fY hN hxN hx hfn) hb' hs) λDe σ H U M Ew hE ht hl=>⟨U,M,_,hE.q,ht,λd M1 y0 v H1 p1=>?_⟩
 obtain⟨ds,hds,h1⟩:=y0;have hE1:=hE.next p1.toPostT;have hsd:=kX hds;obtain⟨q,xs,rfl,hq,hx',hA⟩:=fG p1.rep hsd.2 hsd.1;have len:=hx'.length;refine⟨q,rfl,⟨xs,(aP _ _).seq hq⟩,?_⟩;refine u8 (K:=X.K) (a:=q) (xs:=xs) (g:=cq t) (tb:=λDe σ H=>∃P1,twS X.K P1 n tbd De σ H) (D:=De) (λi σ' H'=>∃ρ' M',EnvN X.K (PH H1 M1) n σ' ρ' H' M'/\cB (λx E U M=>tbd E (U.set t (some x)) M) (ds.drop i) Ew ρ' M')
  ⟨U,M1,⟨hE1.q,Same.refl _,hE1.lσ,hE1.lρ⟩,by simpa using h1⟩ ?_ ?_ ?_
 ·rintro i σ' H' _ ⟨ρ',M',hE',_⟩
  exact(aP _ _).seq (hE'.same.seq hq)
 ·rintro i y σ' H' hy ⟨ρ',M',hE',hf'⟩
  obtain⟨dy,h4,h5⟩:=hx'.getV hy;have hi':i<ds.length:=(z9c.mp h4).1;have ed:ds.drop i=dy::ds.drop (i+1):=by rw[z9v hi'];have e2:ds[i]=dy:=(z9c.mp h4).2;rw[e2]
  rw[ed]at hf';exact⟨PH H1 M1,_,M',_,hE'.set (au hE'.same h5),hf',xq hE1.same hl λU M σ H hE h=>⟨U,M,hE,h⟩⟩
 ·rintro σ' H' ⟨ρ',M',hE',hf'⟩
  rw[len,z7q]at hf';exact hl.nx _ _ hf' σ' H' ⟨hE'.q,hE1.same.trans hE'.same,hE'.lσ,hE'.lρ⟩⟩
def xu{P:Hp}{m t:Nat}(hE:EnvN K P n σ U H M)(hl:LeE Ew (hG K P n De))(h:cB (λx E U M=>tbd E (U.set t (some x)) M) ((List.range m).map λk=>.int (lo+(k:Nat))) Ew U M):
  ∃W:Nat->Nat->St->Hp->Prop,(∃m,W 0 m σ H)/\∀i m' σ H,W i m' σ H ->
    ((Itr lo m).stop i H/\De.nx σ H)\/((Itr lo m).go i H/\∃N:St->Hp->Prop,(∀σ' H',N σ' H'->∃m'',m''<m'/\W (i+1) m'' σ' H')/\∀x H',(Itr lo m).yld i H x H'->cq t x σ H' λσ2 H2=>twS K P n tbd {De with nx:=N,ct:=N,bk:=De.nx} σ2 H2):=by
 refine u9 (lo:=lo) (n:=m) (g:=cq t) (tb:=twS K P n tbd) (D:=De) (λi σ' H'=>∃ρ' M',EnvN K P n σ' ρ' H' M'/\cB (λx E U M=>tbd E (U.set t (some x)) M) (((List.range m).map λk=>D.int (lo+(k:Nat))).drop i) Ew ρ' M') ⟨U,M,hE,by simpa using h⟩ ?_ ?_
 ·rintro i σ' H' hi ⟨ρ',M',hE',hf'⟩
  have ed:((List.range m).map λk=>D.int (lo+(k:Nat))).drop i=.int (lo+i)::((List.range m).map λk=>D.int (lo+(k:Nat))).drop (i+1):=by rw[z9v (by simpa using hi)];simp
  rw[ed]at hf';exact⟨_,M',_,hE'.set (.int _),hf',xq (Same.refl _) hl λU M σ H hE h=>⟨U,M,hE,h⟩⟩
 ·rintro σ' H' ⟨ρ',M',hE',hf'⟩
  rw[z7d (by simp)]at hf';exact hl.nx _ _ hf' σ' H' hE'
def xv(t:Nat)(hN:X.N.Nodup)(hc:X.calm=true)(mr:X.mg "range"=none)(hi:YA X [a] tas)(hb:YSs X body tbd)(hp:PassesOwn (model X.prog X.w) X.A X.env X.xe<|>Q2)(hg:Gl X "range"<|>J7)(hst:starEach [a] X.env=[(false,eval a X.env)]<|>J7)(hxN:X.N[t]?=some x<|>J7)(hx:Loc X.env.scope x<|>J9)(hfn:X.fn x=true\/X.env.scope.names.lookup x=some .local<|>J9)(hs:(∀x,foldedSetIterable (.Call (.Name "range" pn) [a] [] pr) X.env x=pure x)<|>Q0):YS X (.For (.Name x p2) (.Call (.Name "range" pn) [a] [] pr) body [] pos) (ni t tas tbd):=⟨have hi:=hi.h;have hb:=hb.h;λP n=>
 dC (fZ hp hc (lQ hg mr hi hst) (fY hN hxN hx hfn) (hb P n) hs) λDe σ H U M Ew hE ht hl=>⟨U,M,_,hE.q,ht,λds M1 y0 vs H1 p1=>by obtain⟨j,e1,hj,h1⟩:=y0;subst e1;obtain⟨v,rfl,r⟩:=f9 p1.rep;cases r;exact⟨j,rfl,hj.1,hj.2,xu (hE.next p1.toPostT) hl (by simpa using h1)⟩⟩⟩
def GV(t:Nat)(hN:X.N.Nodup)(hc:X.calm=true)(mr:X.mg "range"=none)(hi:YA X [a,b] tas)(hb:YSs X body tbd)(hp:PassesOwn (model X.prog X.w) X.A X.env X.xe<|>Q2)(hg:Gl X "range"<|>J7)(hst:starEach [a,b] X.env=[(false,eval a X.env),(false,eval b X.env)]<|>J7)(hst2:starEach [b] X.env=[(false,eval b X.env)]<|>J7)(hxN:X.N[t]?=some x<|>J7)(hx:Loc X.env.scope x<|>J9)(hfn:X.fn x=true\/X.env.scope.names.lookup x=some .local<|>J9)(hs:(∀x,foldedSetIterable (.Call (.Name "range" pn) [a,b] [] pr) X.env x=pure x)<|>Q0):YS X (.For (.Name x p2) (.Call (.Name "range" pn) [a,b] [] pr) body [] pos) (qS t tas tbd):=⟨have hi:=hi.h;have hb:=hb.h;λP n=>
 dC (fZ hp hc (C2 hg mr hi hst hst2) (fY hN hxN hx hfn) (hb P n) hs) λDe σ H U M Ew hE ht hl=>⟨U,M,_,hE.q,ht,λds M1 y0 vs H1 p1=>by obtain⟨i,j,e1,hi',hj,h1⟩:=y0;subst e1;obtain⟨v,w,rfl,r1,r2⟩:=pR p1.rep;cases r1;cases r2;exact⟨i,j,rfl,⟨hi'.1,hi'.2,hj.1,hj.2⟩,xu (hE.next p1.toPostT) hl h1⟩⟩⟩
end
def GW{k:Nat}{body:NTS}(h1:ps.length=np)(h2:N.length=n)(h3:T=mkN np n body)(Fn:Fun K x qual st f fd)(S:FnScope N ps (am st))(h:∀(cdv:Value) (A:Around) (outer:List PySem.Env) (s:Shared) (H:Hp) (E:XK),Room k (A.deeper (envOfC qual (am st) s.heap.objs.size f cdv)) ->
   NSs (cM CX0 P w K mg base N qual (am st) f cdv A outer s H E).nox (cU st) body):
  FnOk P w K mg base CX0 (k+1) f fd ps (spN K T):=by
 subst h1 h2 h3;have hpl:ps.length<=N.length:=by have:=z8w List.length S.pre;rw[z8j]at this;ext
 refine Fn.ok S (λvs H Q E h=>?_) (λcdv A outer s H vs Q E hr h'=>?_)
 ·obtain⟨ds,M,QW,r,_,hg,_⟩:=h
  rw[r.length,hg.1]
 ·obtain⟨ds,M,QW,r,hok,⟨hl,ht⟩,hQ⟩:=h'
  have lv:=r.length;refine⟨_,h cdv A outer s H E hr (PH H M) N.length,ds.map some++List.replicate (N.length-ps.length) none,M,_,⟨⟨λi d q=>?_,hok⟩,Same.refl _,?_,?_⟩,ht,λU M' hn σ' H' hE=>?_,λU M' hn=>hn.elim,λU M' hn=>hn.elim,λd M' hd v H' e1 e2 e3=>?_⟩
  ·have get:ds[i]?=some d:=by
    by_cases hi:i<ds.length
    ·rw[z8d (by simpa using hi),z9z]at q
     cases e:ds[i]? with
     |none=>rw[e]at q;cases q
     |some z=>rw[e]at q;simpa using q
    ·rw[z9x (by simpa using hi),z7k]at q
     split at q<;>cases q
   obtain⟨v,h2,h3⟩:=r.get get;refine⟨v,?_,h3⟩;unfold L2.start;have hi:i<vs.length:=(z9c.mp h2).1;rw[z8d (by simpa using hi),z9z,h2];rfl
  ·show(L2.start N vs).length=N.length
   unfold L2.start;rw[z9h,z9b,z8s];ext
  ·rw[z9h,z9b,z8s]
   ext
  ·exact hQ _ M' hn _ H' ⟨⟨hE.same,hE.q.ok⟩,.non⟩
  ·exact hQ d M' hd v H' ⟨⟨e1,e2⟩,e3⟩
def GX{a:Addr}{ns:z_}{E:XK}(hS:SqL K H a (ns.map V.int))(h:T [.scr ns] (λ_=>none) λd _=>d=.bl true):spN K T [.ref a] H (λv _=>v=.bl true) E:=by
 have e:Same H (PH H λ_=>none):=v8 (λ_ _ q=>q) λb hb=>absurd rfl hb.1
 have ok:MOk K H (λ_=>none):=λa c hc=>by cases hc
 refine⟨[.scr ns],λ_=>none,_,.cons (.scr (e.seq hS)) .nil,ok,h,λd M' hd v H' p=>?_⟩;subst hd;cases p.rep;rfl
def PPV(X:Cx)(pos:Pos)(keys:List (Option Expr))(vals:z6)(ns:z0)(as:FEs)(es:p_):Prop:=
 ∃trs,PPs X pos keys vals trs/\keys.length=ns.length/\∀σ H Q,(∃U ds,EnvR X.K H σ U/\as U=some ds/\∀vs H',Posts X.K σ U H es ds vs H'->Q ((ns.zip vs).map λp=>(V.str p.1,p.2)) H')->ko trs σ H Q
structure YP (X:Cx) (pos:Pos) (keys:List (Option Expr)) (vals:z6) (ns:z0) (as:FEs) (es:p_):Prop where
 h:PPV X pos keys vals ns as es
def xw:YP X pos [] [] [] ai []:=⟨⟨[],uW,rfl,λσ H Q y0=>by obtain⟨U,ds,hE,hf,hQ⟩:=y0;cases hf;exact hQ [] H ⟨Same.refl H,.nil,λ_ _ _=>.nil⟩⟩⟩
def gq{j}(ha:JE X a fa ea)(hr:YP X pos keys vals ns as eb):YP X pos (some (.Constant (.str x) j p2)::keys) (a::vals) (x::ns) (a8 fa as) (ea++eb):=⟨by have ha:=ha.h;have hr:=hr.h;obtain⟨trs,h1,hl,h2⟩:=hr;refine⟨_,uX fv ha h1,by simp[hl],λσ H Q y0=>?_⟩;obtain⟨U,ds,hE,hf,hQ⟩:=y0;obtain⟨d,h3,hf⟩:=bind_some hf;obtain⟨dr,h4,hf⟩:=bind_some hf;cases hf;refine⟨U,d,hE,h3,λv H1 p1=>h2 σ H1 _ ⟨U,dr,hE.mono p1.same,h4,λvs H2 p2=>hQ (v::vs) H2 ⟨p1.same.trans p2.same,.cons (au p2.same p1.rep) p2.rep,λA hA hz=>?_⟩⟩⟩;exact .cons (au (c8 p2.same) (p1.av A hA λz q=>hz z (z8i _ q))) (p2.av A (hA.mono p1.same) λz q=>(hz z (z9t _ q)).mono p1.same)⟩
theorem rl:∀{ns:z0} {vs:l_} {acc:List (Key×V)},vs.length=ns.length->ns.Nodup->(∀x∈ns,bN acc (.inr x)=none)->fA acc (aF ns vs)=acc++aF ns vs
 |[],_,acc,_,_,_=>by simp[aF,fA]
 |_::_,[],_,h,_,_=>by simp at h
 | n::ns,v::vs,acc,hl,hn,ha=>by
   have e:aF (n::ns) (v::vs)=(Sum.inr n,v)::aF ns vs:=rfl;rw[e];show fA (cS acc (.inr n) v) (aF ns vs)=_;rw[pG v (ha n z9a),rl (by simpa using hl) (z8o.mp hn).2 λx hx=>?_,z6i]
   ·rfl
   ·have ne:n≠x:=λq=>(z8o.mp hn).1 (q▸hx)
    have h0:=ha x (z9d _ hx);unfold bN at h0 ⊢;rw[List.find?_append];cases hf:List.find? (λkv=>decide (kv.1=(Sum.inr x:Key))) acc with
    |some z=>rw[hf]at h0;cases h0
    |none=>simp[ne]
def xx(h:YP X pos keys vals ns as ea)(hn:ns.Nodup<|>Q1)(hall:keys.all (·.isSome)=true<|>J7)(hl:keys.length=vals.length<|>J7)(h0:keys≠[]:=by simp)(h15:keys.length<=15<|>J8):YE X (.Dict keys vals pos) (n8 ns as):=⟨by
 have h:=h.h;obtain⟨trs,h1,hk,h2⟩:=h;refine bA (v6 h1 hall hl h0 h15) λσ H Q U M QW hE ⟨ds,hf,hlen,hq⟩ hQ p hp=>h2 σ _ _ ⟨U,ds,hE.envR.mono (bo hp _),hf,λvs H2 p2=>?_⟩
 have lv:=p2.rep.length;have hpp:=p2.same _ _ bn;refine⟨hpp,aF ns vs,by simp[aF,kV,z3e],by simp[aF];ext,?_⟩;have em:fA [] (aF ns vs)=aF ns vs:=by rw[rl ∅ hn λx hx=>uM];rfl
 rw[em];have s0:Same H (upd H2 p (.dK (aF ns vs))):=λb u q=>by rw[aE (c6 q hp)];exact p2.same _ _ (bo hp _ _ _ q)
 have hd:Dom (upd H p (.dK [])) (λb=>inM M b\/b=p):=λb hb=>by
  rcases hb with hb|rfl
  ·exact λz=>hE.ok.dom b hb ((bo hp _).free z)
  ·rw[bn];exact λz=>nomatch z
 have hav:∀e∈ea,Av X.K (upd H p (.dK [])) σ U (λb=>inM M b\/b=p) e:=λe _=>by
  have up:Same (PH H M) (ao (upd H p (.dK [])) λb=>inM M b\/b=p):=rf hp;have full:∀(j:Nat) (v:V) (d:D),σ[j]?=some (some v)->U[j]?=some (some d)->Rep X.K (ao (upd H p (.dK [])) λb=>inM M b\/b=p) v d:=λj v d h1 h2=>by obtain⟨v',h3,h4⟩:=hE.env j d h2;rw[h1]at h3;cases h3;exact au up h4
  cases e with
  |full j=>exact full j
  |el j=>exact λv d h1 h2=>(full j v d h1 h2).el
 have rr:=p2.av _ hd hav;have up2:Same (ao H2 λb=>inM M b\/b=p) (ao (upd H2 p (.dK (aF ns vs))) λb=>inM M b\/b=p):=λb u q=>by obtain⟨n,q⟩:=eG q;rw[cr n,aE λz=>n (.inr z)];exact q
 obtain⟨e1,e2⟩:=fL (c:=.dic ns ds) hE.ok hp s0 bn ⟨vs,rfl,by ext,aV up2 rr⟩;exact hQ _ _ (hq p (hE.ok.fresh hp)) _ _ ⟨⟨e1,e2⟩,.ptr p⟩⟩
section
variable {g:TG}{te:TE}{y:Str}
def nB(B:BlkOk X scope own J3 cn)(hc:X.calm=true)(hi:PI X tg iter wi)(hg:∀s H cl ex,PG (blk X (own++cn) s H scope cl ex) tg g)(ht:∀s H cl ex,PTs (blk X (own++cn) s H scope cl ex) ifs tt)(he:∀s H cl ex,PE (blk X (own++cn) s H scope cl ex) elt te)(hs:(∀x,foldedSetIterable iter X.env x=pure x)<|>Q0):
  PE X (.ListComp elt [⟨tg,iter,ifs,0⟩] scope pos) (kP own.length J3 wi g tt te):=by
 intro G_ s σ H Q I h;obtain⟨cl,hclos,hcl,hha⟩:=qb (scope:=scope) (env:=X.env) λx hx hf=>I.ok.has x.1 (B.free x hx hf)
 rw[eval_ListComp];refine z5u (use:=none) rfl hs hclos B.kind B.locals (qd B hc hi hg ht he I h hcl hha (RR:=λacc C=>compPost (model X.prog X.w) X.A X.xe none (EP X G_ σ Q) acc C) λd c ys H' s' af q=>?_);obtain⟨m,hm⟩:=af.ns;obtain⟨f0,f1,_,f3,f4,f5⟩:=af.cf;refine⟨m,hm,λh' sb=>⟨.ref d,_,af.inv.turned (t':=s'.toks) (it:=c) (λb o hb e=>(sb.2 b hb).trans e) f0 f1 f3 f4 f5,rfl,q⟩⟩
theorem rm{P:Hp}{σb:St}(hE:EnvR K P σ U)(hlen:σb.length=1+J3.length)(hcap:∀k,1<=k->σb[k]?=(cP σ J3)[k-1]?)(r:Rep K P v d):
  EnvR K P (σb.set 0 (some v)) ((bq 1 J3 U).set 0 (some d)):=λj d' q=>by
 cases j with
 |zero=>rw[z9r (by simp[bq])]at q;cases q;exact⟨v,z9r ∅,r⟩
 | succ j=>
   rw[z9f ∅]at q;unfold bq at q;rw[z9x (by simp)]at q;simp only[z8s,z4x,z9z]at q;cases hk:J3[j]? with
   |none=>rw[hk]at q;cases q
   | some k=>
     rw[hk]at q;simp only[z8z,z6p]at q;cases e:U[k]? with
     |none=>rw[e]at q;cases q
     |some o'=>rw[e]at q;simp only[z7b]at q;subst q;obtain⟨w,h1,h2⟩:=hE k d' e;refine⟨w,?_,h2⟩;rw[z9f ∅,hcap (j+1) ∅];simp[cP,hk,h1]
def GY(h:tw K (jv J3 tas tel) σ H Q):kP 1 J3 (u7 (twA K tas)) (cq 0) (λ_ H Q=>Q true H) (tw K tel) σ H Q:=by
 obtain⟨U,M,QW,hE,ht,hQ⟩:=h;refine⟨U,M,_,hE,ht,λds M1 y0 vs H1 p1=>?_⟩;obtain⟨j,e1,hj,hj2,h1⟩:=y0;subst e1;obtain⟨v,rfl,r⟩:=f9 p1.rep;cases r;refine⟨j,rfl,hj.1,hj.2,?_⟩;have hE1:=hE.next p1.toPostT;let L:n_:=(List.range j.toNat).map λk=>.int (k:Nat)
 have lL:L.length=j.toNat:=by simp[L]
 refine⟨λi m ys σb H2=>m=j.toNat-i/\i<=j.toNat/\(σb.length=1+J3.length/\∀k,1<=k->σb[k]?=(cP σ J3)[k-1]?) /\
  ∃M2 done,PostT K H1 M1 H2 M2/\Reps K (PH H2 M2) ys done/\done.length=i/\dt 1 tel (bq 1 J3 U) (L.drop i) done M2 λds M2=>QW (.lst ds) M2,?_,?_⟩
 ·refine⟨j.toNat,by simp,z7a _,⟨by simp[cP];ext,λk hk=>?_⟩,M1,[],PostT.refl p1.ok,.nil,rfl,by simpa using h1⟩
  rw[z9x (by simpa using hk)];simp
 ·rintro i m ys σb H2 ⟨rfl,hi,⟨hlen,hcap⟩,M2,done,pt,hr,hdl,hgo⟩
  have lys:=hr.length;refine⟨by rw[z7y];ext,?_⟩;by_cases hlt:i<j.toNat
  ·have ed:L.drop i=.int (i:Nat)::L.drop (i+1):=by rw[z9v ∅];simp[L]
   rw[ed]at hgo;refine .inr ⟨hlt,λx H3 hy=>?_⟩;obtain⟨e3,e4⟩:=hy;subst e3 e4;rw[Int.zero_add];unfold cq;dsimp only;rw[if_pos rfl];refine⟨_,M2,_,⟨rm (hE1.env.mono pt.same) hlen hcap (.int _),pt.ok⟩,hgo,λd M3 h3 w H4 p4=>?_⟩;refine⟨j.toNat-(i+1),by ext,rfl,hlt,⟨by rw[z8e];exact hlen,λk hk=>by rw[z9f ∅];exact hcap k hk⟩,M3,done++[d],pt.trans p4.toPostT,(aV p4.same hr).append (.cons p4.rep .nil),by simp[hdl],h3⟩
  ·have e:i=j.toNat:=by ext
   subst e;rw[z7d ∅]at hgo;refine .inl ⟨z9i _,λl hl=>?_⟩;have hn:=pt.ok.fresh hl;refine hQ _ M2 hgo _ _ ⟨(p1.toPostT.trans pt).trans (PostT.of pt.ok (bo hl _)),.lst (.inl ?_) (aV (PH.up (bo hl _)) hr)⟩;rw[PH.of hn];exact bn
def rn(B:BlkOk X scope [y] J3 cn)(hc:X.calm=true)(mr:X.mg "range"=none)(hi:YA X [a] tas)(hg:∀s H cl ex,PG (blk X ([y]++cn) s H scope cl ex) tg (cq 0))(he:∀s H cl ex,YE (blk X ([y]++cn) s H scope cl ex) elt tel)(hgr:Gl X "range"<|>J7)(hst:starEach [a] X.env=[(false,eval a X.env)]<|>J7)(hs:(∀x,foldedSetIterable (.Call (.Name "range" pn) [a] [] pr) X.env x=pure x)<|>Q0):
  YE X (.ListComp elt [⟨tg,.Call (.Name "range" pn) [a] [] pr,[],0⟩] scope pos) (jv J3 tas tel):=⟨have hi:=hi.h;have he:=(λs H cl ex=>(he s H cl ex).h);
 cV (nB B hc (lQ hgr mr hi hst) hg (λ_ _ _ _=>kO) he hs) λ_ _ _ h=>GY h⟩
end
def xy{g:D->o_}(h:∀x d,g x=some d->aW d=true)(ds:n_)(d:D)(e:ar g ds=some d):aW d=true:=by obtain⟨x,_,h2⟩:=gL e;exact h x d h2
def GZ(h:∀x y d,g x y=some d->aW d=true)(ds:n_)(d:D)(e:d9 g ds=some d):aW d=true:=by obtain⟨x,y,_,h2⟩:=pS e;exact h x y d h2
def iH(ml:X.mg "len"=none)(ha:YA X [a] tas)(hg:Gl X "len"<|>J7)(he:SE a [] X<|>J7)(hpl:BT pos [] X<|>J7):
  YE X (.Call (.Name "len" p) [a] [] pos) (cA (ar bx) tas):=⟨have ha:=ha.h;rh uJ vo ml PySem.boot_len ha (xy λx d h=>by obtain⟨_,_,h⟩:=bind_some h;cases h;rfl) hg (by decide) (by decide) he hpl⟩
def Ha(hc:X.calm=true)(ml:X.mg "sum"=none)(ha:YA X [a] tas)(hg:Gl X "sum"<|>J7)(he:SE a [] X<|>J7)(hpl:BT pos [] X<|>J7):
  YE X (.Call (.Name "sum" p) [a] [] pos) (cA (ar dZ) tas):=⟨have ha:=ha.h;rh (vt hc) vz ml PyProof.Rows.boot_sum ha (xy λx d h=>by
   unfold dZ at h;split at h
   ·cases h
   ·obtain⟨_,_,h⟩:=bind_some h
    obtain⟨_,_,h⟩:=bind_some h;cases h;rfl) hg (by decide) (by decide) he hpl⟩
def Hb(x y d:D)(h:e8 x y=some d):aW d=true:=by
 unfold e8 at h;split at h<;>cases h
 rfl
def Hc(hc:X.calm=true)(ml:X.mg "max"=none)(ha:YA X [a,b] tas)(hg:Gl X "max"<|>J7)(he:SE a [b] X<|>J7)(hpl:BT pos [b] X<|>J7):
  YE X (.Call (.Name "max" p) [a,b] [] pos) (cA (d9 e8) tas):=⟨have ha:=ha.h;rh (ul hc) vA ml PyProof.Rows.boot_max ha (GZ Hb) hg (by decide) (by decide) he hpl⟩
def xz(h:MOk K H M)(r:Rep K (PH H M) v d):Rep K H v (vw2 M d):=by
 cases r with
 | ptr a=>
   show Rep K H (.ref a) (match M a with|some (.lst ds)=>.lst (ds.map (vw1 M))|_=>.ptr a)
   set_option tactic.hygienic true in split
   ·rename_i ds hm
    obtain⟨xs,g1,g2⟩:=fN h hm;exact .lst (.inl g1) (nz h g2)
   ·exact .ptr a
 |non=>exact .non
 |bl b=>exact .bl b
 |int b=>exact .int b
 |str b=>exact .str b
 |lst h1 h2=>exact au (aP _ _) (.lst h1 h2)
 |tup h1 h2=>exact au (aP _ _) (.tup h1 h2)
 |scr h1=>exact au (aP _ _) (.scr h1)
 |dct h1=>exact au (aP _ _) (.dct h1)
theorem lf{K:K0}{H:Hp}{M:Sto}(h:MOk K H M):∀{vs:l_} {ds:n_},Reps K (PH H M) vs ds->Reps K H vs (ds.map (vw2 M))
 |[],_,r=>by cases r;exact .nil
 |_::_,_,r=>by cases r with|cons a t=>exact .cons (xz h a) (lf h t)
theorem xA{K:K0}{H H':Hp}:∀{xs:z_} {vs:l_},Reps K H vs (xs.map D.int)->Reps K H' vs (xs.map D.int)
 |[],_,r=>by cases r;exact .nil
 |_::_,_,r=>by cases r with|cons a t=>cases a;exact .cons (.int _) (xA t)
section
variable {k:Nat}{es:z6}
def He(d:Def X.prog X.w X.K X.mg X.base x k ps G fr)(hr:Room k X.A)(ha:YA X (a::es) tas)(hg:Gl X x<|>J7)(hdb:DB x<|>J8)(he:SE a es X<|>J7)(hpl:BT pos es X<|>J7):
  YE X (.Call (.Name x p) (a::es) [] pos) (qT G tas):=⟨have ha:=ha.h;
 let⟨_,_,F,hm,hk,hb⟩:=d
 bA (gC F hr hg hm hk hb .nil f6 ha hdb he hpl) λσ H Q U M QW hE ht hQ=>⟨U,M,_,hE,ht,λds M1 y0 vs H1 p=>by obtain⟨d,hf,hs,hq⟩:=y0;show spF X.K G fr (vs++[]) H1 Q E0;rw[z8v];have rv:=lf p.ok p.rep;exact⟨_,d,rv,hf,λv H' r=>hQ d M1 hq v H' ⟨p.toPostT.trans (PostT.of p.ok r.same),kt hs (r.rep fB (Dom.none _) (aV (j9 _) rv))⟩⟩⟩⟩
def Hf(d:Def X.prog X.w X.K X.mg X.base x k ps G true)(hr:Room k X.A)(ha:YA X (a::es) tas)(hg:Gl X x<|>J7)(hdb:DB x<|>J8)(he:SE a es X<|>J7)(hpl:BT pos es X<|>J7):
  YE X (.Call (.Name x p) (a::es) [] pos) (qU G tas):=⟨have ha:=ha.h;
 let⟨_,_,F,hm,hk,hb⟩:=d
 bA (gC F hr hg hm hk hb .nil f6 ha hdb he hpl) λσ H Q U M QW hE ht hQ=>⟨U,M,_,hE,ht,λds M1 y0 vs H1 p=>by obtain⟨d,hf,⟨xs,ex⟩,hq⟩:=y0;show spF X.K G true (vs++[]) H1 Q E0;rw[z8v];have rv:=lf p.ok p.rep;subst ex;refine⟨_,_,rv,hf,λv H' r=>hQ _ M1 hq v H' ⟨p.toPostT.trans (PostT.of p.ok r.same),?_⟩⟩;obtain⟨l,ys,es,rfl,e2,hl0,hl1,hA⟩:=r.new rfl;cases e2;refine .lst (.inl ?_) (xA (hA fB (Dom.none _) (aV (j9 _) rv)));rw[PH.of (p.ok.fresh hl0)];exact hl1⟩⟩
def Hg(d:DefX X.prog X.w X.K X.mg X.base x k ps G)(hr:Room k X.A)(ha:YA X (a::es) tas)(hg:Gl X x<|>J7)(hdb:DB x<|>J8)(he:SE a es X<|>J7)(hpl:BT pos es X<|>J7):
  YE X (.Call (.Name x p) (a::es) [] pos) (qV G tas):=⟨have ha:=ha.h;
 let⟨_,_,F,hm,hk,hb⟩:=d
 bA (gC F hr hg hm hk hb .nil f6 ha hdb he hpl) λσ H Q U M QW hE ht hQ=>⟨U,M,_,hE,ht,λds M1 y0 vs H1 p=>by
  obtain⟨d,hf,hq⟩:=y0;show spX X.K G (vs++[]) H1 Q E0;rw[z8v];have rv:=lf p.ok p.rep;refine⟨_,_,rv,hf,λv H' r=>hQ _ M1 hq v H' ⟨p.toPostT.trans (PostT.of p.ok r.same),?_⟩⟩;obtain⟨l,bs,dss,rfl,rfl,hnd,hnew,hl,hin⟩:=r.new;have out:∀b,b=l\/b∈bs->¬inM M1 b:=λb hb q=>p.ok.dom b q (hnew b hb)
  refine .lst (.inl ?_) ((hin (inM M1)).reps (λ_ q=>q) λb hb=>out b (.inr hb));show ao H' (inM M1) l=_;rw[cr (out l (.inl rfl))];exact hl⟩⟩
def Hh(ml:X.mg "list"=none)(ha:YE X a ta)(hg:Gl X "list"<|>J7)(he:SE a [] X<|>J7)(hpl:BT pos [] X<|>J7):
  YE X (.Call (.Name "list" p) [a] [] pos) (qW ta):=⟨have ha:=ha.h;
 bA (gD uK hg ml (by decide +kernel) (bM ha c7 he) (by decide) (by decide) he hpl) λσ H Q U M QW hE ht hQ=>by
  refine⟨U,M,_,hE,ht,λd M1 y0 v H1 p1=>?_⟩;obtain⟨ds,hd,hq⟩:=y0;have key:∃q xs,v=.ref q/\SqL X.K H1 q xs/\Reps X.K (PH H1 M1) xs ds:=by
   cases d with
   | ptr b=>
     cases p1.rep;cases hm:M1 b with
     |none=>simp[vw1,hm]at hd
     | some c=>
       cases c with
       |lst es=>simp only[vw1,hm]at hd;cases hd;obtain⟨xs,g1,g2⟩:=fN p1.ok hm;exact⟨b,xs,rfl,SqL.of g1,g2⟩
       |dic _ _=>simp[vw1,hm]at hd
       |ins _ _ _=>simp[vw1,hm]at hd
       |dcT _ _=>simp[vw1,hm]at hd
       |dcL _ _=>simp[vw1,hm]at hd
       |exn _ _=>simp[vw1,hm]at hd
   |lst es=>cases hd;obtain⟨q,xs,rfl,hq,hx,_⟩:=fG p1.rep rfl rfl;exact⟨q,xs,rfl,(aP _ _).seq hq,hx⟩
   |_=>cases hd
  obtain⟨q,xs,rfl,hq',hx⟩:=key;exact⟨q,xs,rfl,.inl hq',λl hl=>by have hn:=p1.ok.fresh hl;refine hQ _ M1 hq _ _ ⟨p1.toPostT.trans (PostT.of p1.ok (bo hl _)),.lst (.inl ?_) (aV (PH.up (bo hl _)) hx)⟩;rw[PH.of hn];exact bn⟩⟩
end
section
variable {y:Str}
def Hi{fin:n_->Sto->QE->Prop}(hfin:∀{ds:n_} {M2:Sto} {QW:QE} {H2:Hp} {ys:l_} {l:Addr} {H0:Hp} {M0:Sto},fin ds M2 QW->PostT K H0 M0 H2 M2->Reps K (PH H2 M2) ys ds->H2 l=none->∃d M3,QW d M3/\PostW K H0 M0 d (.ref l) (upd H2 l (.lst ys)) M3)(h:tw K (λU M Q=>tit U M λd M1=>∃ds,bX d=some ds/\ds.length<=1000/\dt 1 tel (bq 1 J3 U) ds [] M1 λds M2=>fin ds M2 Q) σ H Q):kP 1 J3 (u2 K (tw K tit)) (cq 0) (λ_ H Q=>Q true H) (tw K tel) σ H Q:=by
 obtain⟨U,M,QW,hE,ht,hQ⟩:=h;refine⟨U,M,_,hE,ht,λd M1 y0 v H1 p1=>?_⟩;obtain⟨L,hds,hll,h1⟩:=y0;have hsd:=kX hds;obtain⟨q,xs,rfl,hq,hx',hA⟩:=fG p1.rep hsd.2 hsd.1;have len:=hx'.length;refine⟨q,rfl,⟨xs,(aP _ _).seq hq⟩,?_⟩;have hE1:=hE.next p1.toPostT;refine⟨λi m ys σb H2=>m=xs.length-i/\i<=xs.length/\(σb.length=1+J3.length/\∀k,1<=k->σb[k]?=(cP σ J3)[k-1]?) /\
  ∃M2 done,PostT K H1 M1 H2 M2/\Reps K (PH H2 M2) ys done/\done.length=i/\dt 1 tel (bq 1 J3 U) (L.drop i) done M2 λds M2=>fin ds M2 QW,?_,?_⟩
 ·refine⟨xs.length,by simp,z7a _,⟨by simp[cP];ext,λk hk=>?_⟩,M1,[],PostT.refl p1.ok,.nil,rfl,by simpa using h1⟩
  rw[z9x (by simpa using hk)];simp
 ·rintro i m ys σb H2 ⟨rfl,hi,⟨hlen,hcap⟩,M2,done,pt,hr,hdl,hgo⟩
  have lys:=hr.length;have sq:SqL K H2 q xs:=(aP _ _).seq (pt.same.seq hq);refine⟨by rw[z7y];ext,?_⟩;by_cases hlt:i<xs.length
  ·obtain⟨dy,h4,h5⟩:=hx'.getV (z9k hlt)
   have ed:L.drop i=dy::L.drop (i+1):=by rw[z9v ∅];have e2:L[i]'(by ext)=dy:=(z9c.mp h4).2;rw[e2]
   rw[ed]at hgo;refine .inr ⟨⟨xs,xs[i],sq,z9k hlt⟩,λx H3 hy=>?_⟩;obtain⟨e4,e5⟩:=hy;subst e4;have e6:=e5 xs sq;rw[z9k hlt]at e6;cases e6;unfold cq;dsimp only;rw[if_pos rfl];refine⟨_,M2,_,⟨rm (hE1.env.mono pt.same) hlen hcap (au pt.same h5),pt.ok⟩,hgo,λd M3 h3 w H4 p4=>?_⟩;refine⟨xs.length-(i+1),by ext,rfl,hlt,⟨by rw[z8e];exact hlen,λk hk=>by rw[z9f ∅];exact hcap k hk⟩,M3,done++[d],pt.trans p4.toPostT,(aV p4.same hr).append (.cons p4.rep .nil),by simp[hdl],h3⟩
  ·have e:i=xs.length:=by ext
   subst e;rw[z7d ∅]at hgo;refine .inl ⟨⟨xs,sq,z9i _⟩,λl hl=>?_⟩;obtain⟨d,M3,g1,g2⟩:=hfin hgo (p1.toPostT.trans pt) hr hl;exact hQ d M3 g1 _ _ g2
def xB{M2:Sto}{H0:Hp}{M0:Sto}(hgo:QW (.lst ds) M2)(pt:PostT K H0 M0 H2 M2)(hr:Reps K (PH H2 M2) ys ds)(hl:H2 l=none):∃d M3,QW d M3/\PostW K H0 M0 d (.ref l) (upd H2 l (.lst ys)) M3:=by have hn:=pt.ok.fresh hl;refine⟨_,M2,hgo,pt.trans (PostT.of pt.ok (bo hl _)),.lst (.inl ?_) (aV (PH.up (bo hl _)) hr)⟩;rw[PH.of hn];exact bn
def xC(B:BlkOk X scope [y] J3 cn)(hc:X.calm=true)(hi:YE X iter tit)(hg:∀s H cl ex,PG (blk X ([y]++cn) s H scope cl ex) tg (cq 0))(he:∀s H cl ex,YE (blk X ([y]++cn) s H scope cl ex) elt tel)(hs:(∀x,foldedSetIterable iter X.env x=pure x)<|>Q0):
  YE X (.ListComp elt [⟨tg,iter,[],0⟩] scope pos) (nj J3 tit tel):=⟨have hi:=hi.h;have he:=(λs H cl ex=>(he s H cl ex).h);
 cV (nB B hc (lP hi) hg (λ_ _ _ _=>kO) he hs) λ_ _ _ h=>Hi (fin:=λds M2 Q=>Q (.lst ds) M2) xB h⟩
end
section
variable {tb:NTE}{y:Str}{k:Nat}
def xD(h:MOk K H M)(r:Rep K (PH H M) v d):Rep K H v (vw3 M d):=by
 cases r with
 | @lst p xs ds h1 h2=>
   have h3:Rep K H (.ref p) (.lst ds):=au (aP _ _) (.lst h1 h2);cases h3 with
   |lst h4 h5=>have e:=ic h4 (dI (aP _ _) h1);subst e;exact .lst h4 (lf h h2)
 |ptr a=>exact xz h (.ptr a)
 |non=>exact .non
 |bl b=>exact .bl b
 |int b=>exact .int b
 |str b=>exact .str b
 |tup h1 h2=>exact au (aP _ _) (.tup h1 h2)
 |scr h1=>exact au (aP _ _) (.scr h1)
 |dct h1=>exact au (aP _ _) (.dct h1)
def Hj(hr:OpV K r g)(h:tw K (n2V g ta tb) σ H Q):tOp r (tw K ta) (tw K tb) σ H Q:=by obtain⟨U,M,QW,hE,ht,hQ⟩:=h;refine⟨U,M,_,hE,ht,λx M1 h1 vx H1 p1=>⟨U,M1,_,hE.next p1.toPostT,h1,λy M2 h2 vy H2 p2=>?_⟩⟩;obtain⟨d,hg,hs,hq⟩:=h2;have rx:=au p2.same p1.rep;refine hr vx vy H2 _ _ d Q (xD p2.ok rx) (xD p2.ok p2.rep) hg λv H' e r' av=>hQ d M2 hq v H' ⟨(p1.toPostT.trans p2.toPostT).trans (PostT.of p2.ok e),kt hs r'⟩
def xE{j}(ha:YE X a ta):YE X (.Subscript a (.Slice (some (.Constant (.int (k:Nat)) j p3)) none none p2) pos) (nk k ta):=⟨have ha:=ha.h;
 bA (lV uH ha (pz tN) py) λσ H Q U M QW hE ht hQ=>⟨U,M,_,hE,ht,λx M1 y0 vx H1 p1=>by obtain⟨q,ds,ex,hm,hk,hq⟩:=y0;subst ex;cases p1.rep;obtain⟨xs,g1,g2⟩:=fN p1.ok hm;refine⟨_,rfl,q,xs,rfl,SqL.of g1,λl hl=>?_⟩;have hn:=p1.ok.fresh hl;refine hQ _ M1 hq _ _ ⟨p1.toPostT.trans (PostT.of p1.ok (bo hl _)),.lst (.inl ?_) (aV (PH.up (bo hl _)) (vm g2 _ _))⟩;rw[PH.of hn];exact bn⟩⟩
end
noncomputable abbrev fP(x C:Addr):HO:=.ext (wT x C)
def j4{a:Addr}(x:L2.ObjOk P w H h a o):∃ob,h.get? a=some ob:=by
 cases o with
 |lst xs=>obtain⟨_,_,_,_,e⟩:=x;exact⟨_,e⟩
 |tup xs=>obtain⟨_,_,_,o,e,_⟩:=x;exact⟨_,e⟩
 |dK kvs=>obtain⟨_,_,_,_,o,_,_,e,_⟩:=x;exact⟨_,e⟩
 |dT kvs=>obtain⟨_,_,_,_,o,_,_,e,_⟩:=x;exact⟨_,e⟩
 |set S n=>obtain⟨o,_,_,_,e,_⟩:=x;exact⟨_,e⟩
 |ins C dx fs=>obtain⟨_,_,_,e,_⟩:=x;exact⟨_,e⟩
 |own y=>exact x
 |xd fs=>obtain⟨_,⟨_,_,_,e,_⟩,_⟩:=x;exact⟨_,e⟩
 |rng lo hi=>obtain⟨_,_,_,e⟩:=x;exact⟨_,e⟩
 |frz ob u=>exact⟨_,x.1⟩
 |tbl ps=>exact⟨_,x⟩
 |met f y=>exact⟨_,x⟩
 |ext φ=>exact x.2.1
def rp{x:Addr}(e:∃o,h.get? x=some o/\o.cls=.ref C):L2.ObjOk P w H h x (fP x C):=
 ⟨e,let⟨o,h1,_⟩:=e;⟨o,h1⟩,λh1 h2 y0 k=>by obtain⟨o,a,b⟩:=y0;exact⟨o,k o a,b⟩⟩
def CXN(P:Program)(w:World):CXT:=λouter H s E e s'=>∃(x C:Addr) (H':Hp) (B:Heap) (a0:Value),e=.ref x/\s'.os=s.os/\AllBare s'.gens/\Un (frs outer) [] H H' s.heap s'.heap/\HOk P w H' s'.heap /\
 Heap.FlyingW B outer x (.ref C) a0 s'.heap/\(∀b u,H' b=some u->b≠x->B.get? b≠none)/\(∀b o,s.heap.get? b=some o->b∉frs outer->B.get? b≠none)/\H' x=some (fP x C)/\E (.ref x) (some C) H'
section
variable {x:Addr}
def Hk{vs:z5}(I:L2.Inv X G_ σ H s)(m:Heap.MadeExcOf s.heap h' x (.ref C) vs):L2.Inv X G_ σ (upd H x (fP x C)) {s with heap:=h'}:=by
 have hn:H x=none:=by
  cases e:H x with
  |none=>rfl
  |some u=>obtain⟨o,q⟩:=j4 (I.hok x u e);rw[m.new]at q;cases q
 obtain⟨t,k1,_,_⟩:=m.there;refine I.un (t':=s.toks) ⟨λb u q _ _ _=>m.keeps b u q,λb u q _ _ _=>⟨u.slots,m.keeps b u q⟩,λb u q n _=>?_,λb u q _=>⟨u,m.keeps b u q⟩,λb xs q=>?_,λb u xs q=>?_,λb ps q=>⟨#[],?_⟩⟩ λb u e=>?_
 ·rw[aE λz=>by rw[z,m.new]at q;cases q];exact n
 ·rw[aE (c6 q hn)];exact q
 ·rw[aE (c6 q hn)];exact q
 ·rw[aE (c6 q hn),q];simp
 ·by_cases hb:b=x
  ·subst hb
   rw[bn]at e;cases e;exact rp ⟨_,k1,rfl⟩
  ·rw[aE hb]at e
   exact(I.hok b u e).stay (λc v _ q=>m.keeps c v q) (λc q=>by rw[aE (c6 q hn)];exact q) λc xs q=>by rw[aE (c6 q hn)];exact q
def xF{a0:Value}{E:XK}(I:L2.Inv X G_ σ H s)(hx:H x=some (fP x C))(hfl:Heap.FlyingW B X.outer x (.ref C) a0 h')(hup:s.heap.UpToSlots h')(hst:B.StaysIn s.heap)(c1:∀b u,H b=some u->b≠x->B.get? b≠none)(c2:∀b o,X.s₀.heap.get? b=some o->b∉frs X.outer->B.get? b≠none)(hex:X.ex=[])(hE:E (.ref x) (some C) H):CXN X.prog X.w X.outer X.H₀ X.s₀ E (.ref x) {s with heap:=h'}:=by
 have same:∀{b:Addr} {o:Obj},B.get? b≠none->s.heap.get? b=some o->h'.get? b=some o:=λ{b o} n e=>by
  cases q:B.get? b with
  |none=>exact absurd q n
  |some o'=>have h1:=hst b o' q;have h2:=hfl.1 b o' q;rw[e]at h1;cases h1;exact h2
 have nx:∀b:Addr,b∉X.ex:=λb z=>by rw[hex]at z;cases z
 have fr:∀b o,s.heap.get? b=some o->b∈frs X.outer->∃sl,h'.get? b=some {o with slots:=sl}:=λb o e hb=>by have hb':b∈frs X.stack\/True:=.inr trivial;obtain⟨_,o0,ho0,hd0⟩:=I.ok.funs.mem hb;obtain⟨sl,q⟩:=I.base.slot b o0 ho0 (I.ok.frf b hb) hb (nx b);rw[e]at q;cases q;exact hup b _ e hd0
 refine⟨x,C,H,B,a0,rfl,I.os,I.bare,⟨λb o e n hb _=>?_,λb o e n hb _=>?_,λb o e n _=>I.base.free b o e n (nx b),λb o e _=>?_,I.base.tups,I.base.frzs,I.base.tbls⟩,λb u e=>?_,hfl,c1,c2,hx,hE⟩
 ·exact same (c2 b o e hb) (I.base.keep b o e n hb (nx b))
 ·obtain⟨sl,q⟩:=I.base.slot b o e n hb (nx b)
  obtain⟨sl2,q2⟩:=fr b _ q hb;exact⟨sl2,q2⟩
 ·obtain⟨o',q⟩:=I.base.there b o e (nx b)
  by_cases hb:b∈frs X.outer
  ·obtain⟨sl,q2⟩:=fr b o' q hb
   exact⟨_,q2⟩
  ·exact⟨o',same (c2 b o e hb) q⟩
 ·by_cases hb:b=x
  ·subst hb
   rw[hx]at e;cases e;exact rp hfl.there
  ·refine(I.hok b u e).stay (λc v hc q=>?_) (λ_ q=>q) λ_ _ q=>q
   have:H c≠none/\c≠x:=by
    rcases hc with rfl|hc
    ·exact⟨by rw[e];exact(λz=>nomatch z),hb⟩
    ·exact⟨by rw[hc];exact(λz=>nomatch z),λz=>by rw[z,hx]at hc;cases hc⟩
   cases hq:H c with
   |none=>exact absurd hq this.1
   |some u'=>exact same (c1 c u' hq this.2) q
def Hl{vs:z5}{E:XK}(I:L2.Inv X G_ σ H s)(m:Heap.MadeExcOf s.heap h' x (.ref C) vs)(hst:X.stack=X.env::X.outer)(hfr:X.env.frame=some X.env.locals)(hex:X.ex=[])(hE:E (.ref x) (some C) (upd H x (fP x C))):wpAny (model X.prog X.w) X.A (leaving X.env (.ref x)) (λ_ s''=>CXN X.prog X.w X.outer X.H₀ X.s₀ E (.ref x) s'') Er {s with heap:=h'}:=by
 have I2:=Hk I m;have hl:s.heap.FunFrames X.base (X.env::X.outer):=by have:=I.stack;rw[hst]at this;exact this
 have hin:∀env∈(X.env::X.outer),∀b,env.frame=some b->b∈frs X.stack:=λenv he b hb=>by rw[hst];exact z4v.mpr ⟨env,he,hb⟩
 refine PySem.wpAny_leaves_madeW (base:=W.hideAll s.heap (frs X.stack)) (by rw[<- hst];exact I.ok.frames) hfr (λb o q=>z4u _ q) (W.funFrames_hide hl hin) m λh'' t x1 _ _ x4=>?_
 have hn:H x=none:=by
  cases e:H x with
  |none=>rfl
  |some u=>obtain⟨o,q⟩:=j4 (I.hok x u e);rw[m.new]at q;cases q
 have inB:∀b o,s.heap.get? b=some o->b∉frs X.stack->(W.hideAll s.heap (frs X.stack)).get? b≠none:=λb o e hb z=>by rw[W.hideAll_get _ e hb]at z;cases z
 refine xF I2 bn x1 x4 (λb o q=>m.keeps b o (z4u _ q)) (λb u e hb=>?_) (λb o e hb=>?_) hex hE
 ·rw[aE hb]at e
  obtain⟨ob,q⟩:=j4 (I.hok b u e);exact inB b ob q λz=>by rw[I.stkFree b z]at e;cases e
 ·obtain⟨o',q⟩:=I.base.there b o e (by rw[hex];exact λz=>nomatch z)
  refine inB b o' q λz=>?_
  rcases z9j.mp (I.stkSub b z)with e1|e1
  ·have:=I.ok.above
   rw[<- e1]at this;exact absurd (z9u (z9m e) this) (z7x _)
  ·exact hb e1
def Hm{s2:Shared}{E E1:XK}{e:Value}(I:L2.Inv X G_ σ H s)(hcx:CXN X.prog X.w X.stack H s E1 e s2)(hst:X.stack=X.env::X.outer)(hfr:X.env.frame=some X.env.locals)(hex:X.ex=[])(hE:∀x C H2,H2 x=some (fP x C)->HOk X.prog X.w H2 s2.heap->E1 (.ref x) (some C) H2->E (.ref x) (some C) H2):wpAny (model X.prog X.w) X.A (leaving X.env e) (λ_ s''=>CXN X.prog X.w X.outer X.H₀ X.s₀ E e s'') Er s2:=by
 obtain⟨x,C,H2,B,a0,rfl,os,bare,un,hok,hfl,c1,c2,hx,hE1⟩:=hcx;obtain⟨hh,g,d,t,os'⟩:=s2;obtain rfl:os'=s.os:=os;have I2:L2.Inv X G_ σ H2 {s with heap:=hh,gens:=g,drawn:=d,toks:=t}:=I.call (h':=hh) (g':=g) (d':=d) (t':=t) (ch:=[]) un hok bare (λb z=>absurd z (by simp));have hfl':Heap.FlyingW B (X.env::X.outer) x (.ref C) a0 hh:=by rw[<- hst];exact hfl
 refine PySem.wpAny_leaves_onW (by rw[<- hst];exact I.ok.frames) hfr hfl' λh' x1 x2=>?_
 refine xF (s:={s with heap:=hh,gens:=g,drawn:=d,toks:=t}) I2 hx x1 x2 hfl'.1 c1 (λb o e hb=>?_) hex (hE x C H2 hx hok hE1);obtain⟨o',q⟩:=I.base.there b o e (by rw[hex];exact λz=>nomatch z);refine c2 b o' q λz=>?_
 rcases z9j.mp (I.stkSub b z)with e1|e1
 ·have:=I.ok.above
  rw[<- e1]at this;exact absurd (z9u (z9m e) this) (z7x _)
 ·exact hb e1
end
noncomputable def bmV:z5:=[.type "ValueError",.type "Exception",.type "BaseException",.type "object"]
noncomputable def lh(K:K0)(x:Str):Option Addr:=match W.nsIn K mainGlobals x with
 |some (some (.ref C))=>some C
 |_=>none
def rq(K:K0)(C:Addr):Bool:=W.excIn K C bmV "ValueError.__new__" && W.findIn K (.ref C) "__class__"==some (some (.builtin "object.__class__")) &&
 W.findIn K (.ref C) "__getattribute__"==some (some (.builtin "BaseException.__getattribute__"))&&W.findIn K (.ref C) "__getattr__"==some none&&W.mroIn K C (.type "BaseException")==some true &&
 W.mroIn K C (.type "object")==some true&&W.mroIn K C (.type "ValueError")==some true&&W.isClsIn K C&&W.typeIn K (.ref C)==some (.type "type")&&W.keepIn K (.ref C)
def iI(K:K0):Bool:=match lh K "FareError" with
 |none=>false
 | some B=>W.isClsIn K B&&W.typeIn K (.ref B)==some (.type "type")&&W.instIn K (.ref B) (.type "tuple")==some false&&W.mroIn K B (.type "BaseException")==some true&&XS.all λx=>match lh K x with
   |none=>false
   | some C=>rq K C&&W.mroIn K C (.ref B)==some true&&XS.all λy=>match lh K y with
     |none=>false
     |some D=>W.mroIn K C (.ref D)==some (decide (x=y))&&(x==y||!(D==C))
def rz(h:lh K x=some C):W.nsIn K mainGlobals x=some (some (.ref C)):=by
 unfold lh at h
 set_option tactic.hygienic true in split at h
 ·rename_i e;cases h;exact e
 ·cases h
structure XOne (K:K0) (C:Addr):Prop where
 exc:W.excIn K C bmV "ValueError.__new__"=true
 cls:W.findIn K (.ref C) "__class__"=some (some (.builtin "object.__class__"))
 ga:W.findIn K (.ref C) "__getattribute__"=some (some (.builtin "BaseException.__getattribute__"))
 hk:W.findIn K (.ref C) "__getattr__"=some none
 be:W.mroIn K C (.type "BaseException")=some true
 ob:W.mroIn K C (.type "object")=some true
 ve:W.mroIn K C (.type "ValueError")=some true
 is:W.isClsIn K C=true
 ty:W.typeIn K (.ref C)=some (.type "type")
 kp:W.keepIn K (.ref C)=true
def Hn(h:rq K C=true):XOne K C:=by unfold rq at h;simp only[z8m,z7n]at h;obtain⟨⟨⟨⟨⟨⟨⟨⟨⟨h1,h2⟩,h3⟩,h4⟩,h5⟩,h6⟩,h7⟩,h8⟩,h9⟩,h10⟩:=h;exact⟨h1,h2,h3,h4,h5,h6,h7,h8,h9,h10⟩
structure XBase (K:K0) (B:Addr):Prop where
 ns:W.nsIn K mainGlobals "FareError"=some (some (.ref B))
 is:W.isClsIn K B=true
 ty:W.typeIn K (.ref B)=some (.type "type")
 nt:W.instIn K (.ref B) (.type "tuple")=some false
 be:W.mroIn K B (.type "BaseException")=some true
def rA(h:iI K=true):∃B,XBase K B/\∀x∈XS,∃C,W.nsIn K mainGlobals x=some (some (.ref C))/\XOne K C/\W.mroIn K C (.ref B)=some true /\
  ∀y∈XS,∃D,W.nsIn K mainGlobals y=some (some (.ref D))/\W.mroIn K C (.ref D)=some (decide (x=y))/\(x≠y->D≠C):=by
 unfold iI at h
 set_option tactic.hygienic true in split at h
 ·cases h
 ·rename_i B hB
  simp only[z8m,z7n]at h;obtain⟨⟨⟨⟨h1,h2⟩,h3⟩,h4⟩,h5⟩:=h;refine⟨B,⟨rz hB,h1,h2,h3,h4⟩,λx hx=>?_⟩;have h6:=z9y.mp h5 x hx
  set_option tactic.hygienic true in split at h6
  ·cases h6
  ·rename_i C hC
   simp only[z8m,z7n]at h6;obtain⟨⟨a1,a2⟩,a3⟩:=h6;refine⟨C,rz hC,Hn a1,a2,λy hy=>?_⟩;have h7:=z9y.mp a3 y hy
   set_option tactic.hygienic true in split at h7
   ·cases h7
   ·rename_i D hD
    simp only[z8m,z7n]at h7;refine⟨D,rz hD,h7.1,λne e=>?_⟩;rcases Bool.or_eq_true_iff.mp h7.2 with z|z
    ·exact ne (z7n.mp z)
    ·rw[e]at z;simp at z
section
variable {x:Addr}{o:Obj}
def Ho{M:Model}(hx:h.get? x=some o)(hc:o.cls=.ref C):W.Looks M h (typeOf (.ref x)) (.ref C):=by intro A' Q' E' s' k q;unfold typeOf;refine z9o (wpAny_loadPart (k _ _ hx) ?_);rw[hc];exact z8n q
def Hq{M:Model}(X:K.In h)(e:W.isClsIn K C=true):W.Looks M h (isType (.ref C)) true:=by
 unfold W.isClsIn W.clsIn at e
 set_option tactic.hygienic true in split at e
 ·rename_i c' d' cd' sl' ho
  intro A' Q' E' s' k q;unfold isType loadHead;exact z9o (wpAny_loadPart (k _ _ (X _ _ ho)) (z8n q))
 ·cases e
open PySem.W in
open PySem.W in
end
noncomputable def hJ(H:Hp)(a:Addr):Hp:=λb=>if b=a then none else H b
def xG{a:Addr}:hJ H a a=none:=by unfold hJ;rw[if_pos rfl]
def Hr{a:Addr}:Same (hJ H a) H:=λb u q=>by
 unfold hJ at q;split at q
 ·cases q
 ·exact q
def nC{a:Addr}(h:H a=none):hJ (upd H a o) a=H:=by
 funext b;unfold hJ;split
 ·rename_i e;rw[e,h]
 ·rename_i e;rw[aE e]
def EXK(K:K0)(P:Hp)(EX:QX):XK:=λv c H=>∃(a:Addr) (nm:Str) (M:Sto) (C:Addr),v=.ref a/\c=some C/\W.nsIn K mainGlobals nm=some (some (.ref C))/\nm∈XS/\EX nm M/\Same P (PH (hJ H a) M)/\MOk K (hJ H a) M
structure OutX (X:Cx) (P:Hp) (EX:QX):Prop where
 made:∀(G_:h_) (σ:St) (H:Hp) (s:Shared) (x C:Addr) (h':Heap) (vs:z5),L2.Inv X G_ σ H s->Heap.MadeExcOf s.heap h' x (.ref C) vs->EXK X.K P EX (.ref x) (some C) (upd H x (fP x C))->X.xe (.ref x) {s with heap:=h'}
 pass:gb (CXN X.prog X.w) X (EXK X.K P EX)
def Hs{outer:List PySem.Env}{E:XK}{P0:Hp}(h:∀v c H',EXK K P0 EX v c H'->E v c H'):OutX (cM (CXN P w) P w K mg base N qual scope f cd A outer s H E) P0 EX where
 made:=λG_ σ H1 s1 x C h' vs I m e=>Hl (X:=cM (CXN P w) P w K mg base N qual scope f cd A outer s H E) I m rfl rfl rfl (h _ _ _ e)
 pass:=λG_ σ H1 s1 e s2 I hc=>Hm (X:=cM (CXN P w) P w K mg base N qual scope f cd A outer s H E) I hc rfl rfl rfl λx C H2 _ _ z=>h _ _ _ z
def twX(K:K0)(P:Hp)(n:Nat)(EX:QX)(t:NTS):TS:=λDe σ H=>∃U M Ew,EnvN K P n σ U H M/\t Ew U M/\LeE Ew (hG K P n De)/\∀x M,Ew.ex x M->EX x M
abbrev MS(X:Cx)(P:Hp)(EX:QX)(st:Stmt)(t:NTS):Prop:=∀n,PS X st (twX X.K P n EX t)
structure YM (X:Cx) (P:Hp) (EX:QX) (st:Stmt) (t:NTS):Prop where
 h:MS X P EX st t
abbrev MSs(X:Cx)(P:Hp)(EX:QX)(st:z9)(t:NTS):Prop:=∀n,PSs X st (twX X.K P n EX t)
structure YMs (X:Cx) (P:Hp) (EX:QX) (st:z9) (t:NTS):Prop where
 h:MSs X P EX st t
def Ht{t:TS}(h:PS X.nox st t):PS X st t:=λG_ s σ H D I hw=>z8p (h G_ s σ H D (I.wish _) hw) (λ_ _ q=>q.unwish) λ_ _ z=>False.elim z
def xH(X:K.In h)(e:W.excIn K C bmV "ValueError.__new__"=true):∃tl N nm qn bs hdct sn sub ab col dd k0 k1 k2 k3 k5 mN,
  h.get? C=some (excClassObj nm qn C N bs tl hdct sn sub ab col dd k0 k1 k2 k3 k5 "ValueError.__new__")/\h.Ns N mN/\mN "__init__"=none/\OwnTail h bmV tl:=by
 unfold W.excIn at e
 set_option tactic.hygienic true in split at e
 case h_2=>cases e
 case h_1 dd cd sl ho=>
 set_option tactic.hygienic true in split at e
 case h_2=>cases e
 case h_1 C1 tl k0 k1 k2 k3 n k5 hm hs=>
 simp only[z8m,z7n,z5x]at e;obtain⟨⟨⟨⟨⟨e1,e2⟩,e3⟩,e4⟩,e5⟩,e6⟩:=e;subst e1 e2;cases cd with
 | mk nm bs mro ns qn hd sn sub ab col del=>
   dsimp only at hm e3 e5 e6;subst hm e3;have hsl:sl=#[k0,k1,k2,k3,some (.builtin "ValueError.__new__"),k5]:=by
    cases sl with
    |mk l=>simp only at hs;rw[hs]
   subst hsl;exact⟨tl,ns,nm,qn,bs,hd,sn,sub,ab,col,dd,k0,k1,k2,k3,k5,_,X _ _ ho,.of_isNs (W.isNs_of_in X e5),W.nsMap_none_of_in X e5 e6,W.tail_of_in X e4⟩
section
variable {P:Hp}{rest bs:z9}{t u:NTS}{np:Pos}
def bp(h:YS X.nox st t):YM X P EX st t:=⟨have h:=h.h;λn=>da (Ht (h P n)) λDe σ H y0=>by obtain⟨U,M,Ew,hE,ht,hl,_⟩:=y0;exact⟨U,M,Ew,hE,ht,hl⟩⟩
def c5:YMs X P EX [] sN:=⟨λn=>ff oO λDe σ H y0=>by obtain⟨U,M,Ew,hE,ht,hl,_⟩:=y0;exact hl.nx U M ht σ H hE⟩
def aU(h1:YM X P EX st t)(h2:YMs X P EX rest u):YMs X P EX (st::rest) (ah t u):=⟨have h1:=h1.h;have h2:=h2.h;λn=>ff (j1 (h1 n) (h2 n)) λDe σ H ⟨U,M,Ew,hE,ht,hl,hx⟩=>⟨U,M,_,hE,ht,⟨λρ' M' h' σ' H' hE'=>⟨ρ',M',Ew,hE',h',hl,hx⟩,hl.bk,hl.ct,hl.rt⟩,hx⟩⟩
def aY(h1:YM X P EX st t):YMs X P EX [st] t:=⟨have h1:=h1.h;λn=>ff (jV (h1 n)) λDe σ H h=>h⟩
theorem bL(hc:YT X.nox c ka)(ha:YMs X P EX body t)(hb:YMs X P EX bs u):YM X P EX (.If c body bs pos) (aI ka t u):=⟨have hc:=hc.h;have ha:=ha.h;have hb:=hb.h;λn=>da (oP (PT.nox hc) (ha n) (hb n)) λDe σ H ⟨U,M,Ew,hE,ht,hl,hx⟩=>⟨U,M,_,hE.q,ht,λk M1 hk H1 p1=>by
 cases k with
 |true=>exact dW ⟨U,M1,Ew,hE.next p1,hk.1 rfl,hl,hx⟩
 |false=>exact dU ⟨U,M1,Ew,hE.next p1,hk.2 rfl,hl,hx⟩⟩⟩
theorem cT{j}(xt:iI X.K=true)(ho:OutX X P EX)(hc:X.calm=true<|>J7)(hg:Gl X x<|>J7)(hd:DB x<|>J8)(he:starEach [.Constant (.str m) j p2] X.env=(false,eval (.Constant (.str m) j p2) X.env)::starEach [] X.env<|>J7)(hpl:BT cpos [.Constant (.str m) j p2] X<|>J7):
  YM X P EX (.Raise (some (.Call (.Name x np) [.Constant (.str m) j p2] [] cpos)) none pos) (cJ x):=⟨by
 intro n G_ s σ H De I ⟨U,M,Ew,hE,⟨hx,hex⟩,hl,hX⟩;obtain⟨B,XB,hall⟩:=rA xt;obtain⟨C,hns,O,_,_⟩:=hall x hx;have hm:X.mg x=some (.ref C):=z6z I.ok.mod.kin I.ok.mod.glob hns;obtain⟨tl,N,nm,qn,bs,hdct,sn,sub,ab,col,dd,k0,k1,k2,k3,k5,mN,hC,hN,hni,T⟩:=xH I.ok.mod.kin O.exc;refine wpAny_Raise_call_subT (C:=C) (nm:=nm) (q:=qn) (N:=N) (bs:=bs) (bm:=tl) (hdct:=hdct) (sn:=sn) (sub:=sub) (ab:=ab) (col:=col) (dd:=dd) (k0:=k0) (k1:=k1) (k2:=k2) (k3:=k3) (k5:=k5) (mN:=mN)
  F.excBase_ValueError (T.hasType (by decide)) (I.ok.hd hc) hpl hni (gA I hg hm ⟨rfl,?_⟩ hd)
 have hA:PA X [.Constant (.str m) j p2] (ut (tC (.str m)) lT):=bM fv c7 he;have h1:=hA cpos G_ s σ H (λws H'=>ws=[.str m]/\H'=H) I ⟨rfl,rfl⟩;rw[he]at h1 ⊢;refine z4l (z8p h1 (λvs s2 h2=>?_) λ_ _ y=>y);obtain⟨ws,H2,I2,r2,rfl,rfl⟩:=h2;refine⟨rfl,?_,I2.bk _ _ hC,hN.keeps I2.bk,T.keeps I2.bk,λh' e hm'=>ho.made G_ σ _ s2 e C h' vs I2 hm' ?_⟩
 ·rw[<- r2.length,z7y];exact(by decide:1<=16777216)
 ·have hn:H2 e=none:=by
   cases q:H2 e with
   |none=>rfl
   |some u=>obtain⟨o,q2⟩:=j4 (I2.hok e u q);rw[hm'.new]at q2;cases q2
  exact⟨e,x,M,C,rfl,rfl,hns,hx,hX _ _ hex,by rw[nC hn];exact hE.same,by rw[nC hn];exact hE.q.ok⟩⟩
end
def Fl(X:Cx)(G_:h_)(σ:St)(E:XK)(e:Value)(s':Shared):Prop:=∃H1 s1,L2.Inv X G_ σ H1 s1/\CXN X.prog X.w X.stack H1 s1 E e s'
def PX(X:Cx)(e:Expr)(t:St->Hp->VK->XK->Prop):Prop:=
 ∀(G_:h_) (s:Shared) (σ:St) (H:Hp) (Q:VK) (E:XK),L2.Inv X G_ σ H s->t σ H Q E->wpAny (model X.prog X.w) X.A (eval e X.env) (EP X G_ σ Q) (Fl X G_ σ E) s
def twE(K:K0)(te:NEX):St->Hp->VK->XK->Prop:=λσ H Q E=>∃U M QW EX,EnvQ K σ U H M/\te U M QW EX/\(∀d M',QW d M'->∀v H',PostW K H M d v H' M'->Q v H')/\∀v c H',EXK K (PH H M) EX v c H'->E v c H'
abbrev NX(X:Cx)(e:Expr)(te:NEX):Prop:=PX X e (twE X.K te)
structure YX (X:Cx) (e:Expr) (t:NEX):Prop where
 h:NX X e t
def spE(K:K0)(T:NTX):Sp:=λvs H Q E=>∃ds M QW EX,Reps K (PH H M) vs ds/\MOk K H M/\T ds M QW EX/\(∀d M',QW d M'->∀v H',PostW K H M d v H' M'->Q v H')/\∀v c H',EXK K (PH H M) EX v c H'->E v c H'
def EXK.pre{P P':Hp}{v:Value}{c:Option Addr}(h:EXK K P' EX v c H)(e:Same P P'):EXK K P EX v c H:=by obtain⟨a,nm,M,C,h1,h2,h3,h4,h5,h6,h7⟩:=h;exact⟨a,nm,M,C,h1,h2,h3,h4,h5,e.trans h6,h7⟩
def EXK.post{P:Hp}{EX':QX}{v:Value}{c:Option Addr}(h:EXK K P EX v c H)(e:∀x M,EX x M->EX' x M):EXK K P EX' v c H:=by obtain⟨a,nm,M,C,h1,h2,h3,h4,h5,h6⟩:=h;exact⟨a,nm,M,C,h1,h2,h3,h4,e _ _ h5,h6⟩
def DefE(P:Program)(w:World)(K:K0)(mg:Str->i_)(base:Heap)(x:Str)(k:Nat)(ps:z0)(T:NTX):Prop:=
 ∃f fd,FnOk P w K mg base (CXN P w) k f fd ps (spE K T)/\mg x=some (.ref f)/\W.keepIn K (.ref f)=true/\Binds K fd ps []
def MetE(P:Program)(w:World)(K:K0)(mg:Str->i_)(base:Heap)(C:Addr)(m:Str)(k:Nat)(ps:z0)(T:NTX):Prop:=
 ∃f fd,FnOk P w K mg base (CXN P w) k f fd ps (spE K T)/\Meth K C m f/\Binds K fd ps []
def MakE(P:Program)(w:World)(K:K0)(mg:Str->i_)(base:Heap)(x:Str)(C:Addr)(k:Nat)(ps:z0)(T:NTX):Prop:=
 ∃f fd,FnOk P w K mg base (CXN P w) k f fd ps (spE K T)/\Mk K C f/\mg x=some (.ref C)/\Binds K fd ps []
section
variable {k:Nat}{T:NTX}
theorem DefE.mono(h:DefE P w K mg base x j ps T)(hk:j<=k<|>J8):DefE P w K mg base x k ps T:=let⟨f,fd,F,r⟩:=h;⟨f,fd,F.mono hk,r⟩
theorem MetE.mono(h:MetE P w K mg base C m j ps T)(hk:j<=k<|>J8):MetE P w K mg base C m k ps T:=let⟨f,fd,F,r⟩:=h;⟨f,fd,F.mono hk,r⟩
theorem MakE.mono(h:MakE P w K mg base x C j ps T)(hk:j<=k<|>J8):MakE P w K mg base x C k ps T:=let⟨f,fd,F,r⟩:=h;⟨f,fd,F.mono hk,r⟩
theorem xI(F:FnOk P w K mg base (CXN P w) k f fd ps (spE K T)):FnOk P w K mg base CX0 k f fd ps (spN K (qtX T)):=by
 have up:∀vs H Q E,spN K (qtX T) vs H Q E->spE K T vs H Q λ_ _ _=>False:=λvs H Q E ⟨ds,M,QW,r,ok,ht,hQ⟩=>⟨ds,M,QW,_,r,ok,ht,hQ,λv c H' y0=>by obtain⟨_,_,_,_,_,_,_,_,z,_⟩:=y0;exact z⟩
 refine⟨λvs H Q E h=>F.len vs H Q _ (up _ _ _ _ h),λA outer s H args us vs Q E hr he hb hv hs=>z5c (F.run A outer s H args us vs Q _ hr he hb hv (up _ _ _ _ hs)) λr s' hq=>?_⟩;cases r with
 |ok fl=>cases fl<;>exact hq
 |error e=>obtain⟨_,_,_,_,_,_,_,_,_,_,_,_,_,_,z⟩:=hq;exact z.elim
def DefE.quiet(h:DefE P w K mg base x k ps T):DefN P w K mg base x k ps (qtX T):=let⟨f,fd,F,r⟩:=h;⟨f,fd,xI F,r⟩
def MetE.quiet(h:MetE P w K mg base C m k ps T):MetN P w K mg base C m k ps (qtX T):=let⟨f,fd,F,r⟩:=h;⟨f,fd,xI F,r⟩
end
section
variable {tb:NTE}{k:Nat}{es:z6}{T:NTX}
theorem nD{E:XK}(F:FnOk X.prog X.w X.K X.mg X.base (CXN X.prog X.w) k f fd ps sp)(hr:Room k X.A)(hb:Binds X.K fd ps [])(I:L2.Inv X G_ σ H s)(r:Vals vs us)(h:sp vs H Q E):wpAny (model X.prog X.w) X.A (call (.ref f) us) (EP X G_ σ Q) (Fl X G_ σ E) s:=by
 have hl:(us++([]:z5)).length=ps.length:=by rw[z8v,<- r.length];exact F.len _ _ _ _ h
 have hb':=hb s us I.kIn hl;rw[z8v]at hb';refine wpAny_call (z5c (F.run X.A X.stack s H ⟨us,[]⟩ us vs Q E hr I.env0 hb' r h) λq s' hq=>?_);cases q with
 |error e=>exact⟨H,s,I,hq⟩
 | ok fl=>
   cases fl with
   |ret u=>exact I.after hq
   |next=>exact False.elim hq
   |brk=>exact False.elim hq
   |cont=>exact False.elim hq
def rB{t:TA}{Q:l_->Hp->Prop}(ha:PA X.nox es t)(pos:Pos)(I:L2.Inv X G_ σ H s)(h:t σ H Q):wpAny (model X.prog X.w) X.A (spliced (backTo pos (starEach es X.env))) (AP X G_ σ Q) E s:=
 z8p (ha pos G_ s σ H Q (I.wish _) h) (λ_ _ y0=>by obtain⟨vs,H',I',r,q⟩:=y0;exact⟨vs,H',I'.unwish,r,q⟩) λ_ _ z=>False.elim z
def rC{t:TE}(ha:PE X.nox e t)(I:L2.Inv X G_ σ H s)(h:t σ H Q):wpAny (model X.prog X.w) X.A (eval e X.env) (EP X G_ σ Q) E s:=
 z8p (ha G_ s σ H Q (I.wish _) h) (λ_ _ y0=>by obtain⟨vs,H',I',r,q⟩:=y0;exact⟨vs,H',I'.unwish,r,q⟩) λ_ _ z=>False.elim z
def li(d:DefE X.prog X.w X.K X.mg X.base x k ps T)(hr:Room k X.A)(ha:YA X.nox (a::es) tas)(hg:Gl X x<|>J7)(hdb:DB x<|>J8)(he:SE a es X<|>J7)(hpl:BT pos es X<|>J7):
  YX X (.Call (.Name x p) (a::es) [] pos) (iE T tas):=⟨by
 have ha:=ha.h;intro G_ s σ H Q E I ⟨U,M,QW,EX,hE,ht,hQ,hX⟩;obtain⟨f,fd,F,hm,hk,hb⟩:=d;refine z6l (gA I hg hm ?_ hdb);refine z6m (h₀:=X.base) I.ok.mod.kin hk (cQ (rB (Q:=λvs H1=>∃ds M1,PostWs X.K H M ds vs H1 M1/\T ds M1 QW EX) ha pos I ⟨U,M,_,hE,ht,λds M1 h1 vs H1 p1=>⟨ds,M1,p1,h1⟩⟩) λus s1 vs H1 I1 r ⟨ds,M1,p1,h1⟩=>⟨I1.kIn,?_⟩) he hpl;exact nD F hr hb I1 r ⟨ds,M1,QW,EX,p1.rep,p1.ok,h1,λd M' hd v H' p'=>hQ d M' hd v H' ⟨p1.toPostT.trans p'.toPostT,p'.rep⟩,λv c H' z=>hX v c H' (z.pre p1.same)⟩⟩
def Hu(cl:Cls X.K C)(d:MetE X.prog X.w X.K X.mg X.base C m k ps T)(hr:Room k X.A)(ho:NE X.nox b tb)(ha:NA X.nox (a::es) tas)(hno:¬m∈ns)(hst:SE a es X)(hpl:BT pos es X)(ht:(eval (.Call (.Attribute b m ap) (a::es) [] pos) X.env=(do
   let ov <- eval b X.env
   standAt ap.atName
   let(f,first) <- holding [ov] (getMethod ov m pl)
   callWith pos f first (backTo pos (starEach (a::es) X.env)) (backToKw pos (keywordEach [] X.env))))<|>J7):
  NX X (.Call (.Attribute b m ap) (a::es) [] pos) (dA C ns T tb tas):=by
 intro G_ s σ H Q E I ⟨U,M,QW,EX,hE,hw,hQ,hX⟩;obtain⟨f,fd,F,hm,hb⟩:=d;refine z6n (pl:=pl) (b9 (rC (Q:=λv H1=>∃d M1,PostW X.K H M d v H1 M1/\∃q ds0,d=.ptr q/\M1 q=some (.ins C ns ds0)/\tas U M1 λds M2=>T (d::ds) M2 QW EX) ho I ⟨U,M,_,hE,hw,λd M1 h1 v H1 p1=>⟨d,M1,p1,h1⟩⟩) λu s1 v H1 I1 ru y0=>?_) ht;obtain⟨d,M1,p1,q,ds0,ed,hm1,h1⟩:=y0;subst ed;have pr:=p1.rep;cases pr;obtain⟨dx,vs0,g1,gl,g2⟩:=gp p1.ok hm1;obtain rfl:u=Value.ref q:=ru;refine kf I1 g1 cl hm (jB hno) ?_;refine z6m (first:=[.ref q]) (h₀:=X.base) I.ok.mod.kin hm.kp (cQ (rB (Q:=λvs H2=>∃ds M2,PostWs X.K H1 M1 ds vs H2 M2/\T (.ptr q::ds) M2 QW EX) ha pos I1 ⟨U,M1,_,hE.next p1.toPostT,h1,λds M2 h2 vs H2 p2=>⟨ds,M2,p2,h2⟩⟩) λus s2 vs H2 I2 r ⟨ds,M2,p2,h2⟩=>⟨I2.kIn,?_⟩) hst hpl;have p12:=p1.toPostT.trans p2.toPostT;exact nD (us:=.ref q::us) (vs:=.ref q::vs) F hr hb I2 (.cons rfl r) ⟨.ptr q::ds,M2,QW,EX,.cons (.ptr q) p2.rep,p2.ok,h2,λd M' hd v H' p'=>hQ d M' hd v H' ⟨p12.trans p'.toPostT,p'.rep⟩,λv c H' z=>hX v c H' (z.pre p12.same)⟩
def Hv(cl:Cls X.K C)(d:MetE X.prog X.w X.K X.mg X.base C m k ps T)(hr:Room k X.A)(ho:NE X.nox b tb)(hno:¬m∈ns)(ht:(eval (.Call (.Attribute b m ap) [] [] pos) X.env=(do
   let ov <- eval b X.env
   standAt ap.atName
   let(f,first) <- holding [ov] (getMethod ov m pl)
   callWith pos f first (backTo pos (starEach [] X.env)) (backToKw pos (keywordEach [] X.env))))<|>J7):
  NX X (.Call (.Attribute b m ap) [] [] pos) (dA C ns T tb ak):=by
 intro G_ s σ H Q E I ⟨U,M,QW,EX,hE,hw,hQ,hX⟩;obtain⟨f,fd,F,hm,hb⟩:=d;refine z6n (pl:=pl) (b9 (rC (Q:=λv H1=>∃d M1,PostW X.K H M d v H1 M1/\∃q ds0,d=.ptr q/\M1 q=some (.ins C ns ds0)/\ak U M1 λds M2=>T (d::ds) M2 QW EX) ho I ⟨U,M,_,hE,hw,λd M1 h1 v H1 p1=>⟨d,M1,p1,h1⟩⟩) λu s1 v H1 I1 ru y0=>?_) ht;obtain⟨d,M1,p1,q,ds0,ed,hm1,h1⟩:=y0;subst ed;have pr:=p1.rep;cases pr;obtain⟨dx,vs0,g1,gl,g2⟩:=gp p1.ok hm1;obtain rfl:u=Value.ref q:=ru;refine kf I1 g1 cl hm (jB hno) ?_;exact z4s (first:=[.ref q]) I1.kIn hm.kp (nD (us:=[.ref q]) (vs:=[.ref q]) F hr hb I1 (.cons rfl .nil) ⟨[.ptr q],M1,QW,EX,.cons (.ptr q) .nil,p1.ok,h1,λd M' hd v H' p'=>hQ d M' hd v H' ⟨p1.toPostT.trans p'.toPostT,p'.rep⟩,λv c H' z=>hX v c H' (z.pre p1.same)⟩)
theorem Hw{E:XK}(M:Mk X.K C f)(F:FnOk X.prog X.w X.K X.mg X.base (CXN X.prog X.w) k f fd ps sp)(hr:Room (k+1) X.A)(hb:Binds X.K fd ps [])(I:L2.Inv X G_ σ H s)(r:Vals vs us)(h:∀x dx,H x=none->H dx=none->dx≠x->sp (.ref x::vs) (upd (upd H dx (.own x)) x (.ins C dx [])) (λv H2=>v=.non/\Q (.ref x) H2) E):
  wpAny (model X.prog X.w) X.A (call (.ref C) us) (EP X G_ σ Q) (Fl X G_ σ E) s:=by
 have hq:=h (s.heap.objs.size+1) s.heap.objs.size (I.hok.fresh (Nat.le_succ _)) (I.hok.fresh (z9i _)) (z8q (Nat.lt_succ_self _));have I2:=Inv.made (C:=C) I;have r2:Vals (V.ref (s.heap.objs.size+1)::vs) (Value.ref (s.heap.objs.size+1)::us):=.cons rfl r;have hl:(Value.ref (s.heap.objs.size+1)::us++([]:z5)).length=ps.length:=by rw[z8v,<- r2.length];exact F.len _ _ _ _ hq
 have hb':=hb _ (Value.ref (s.heap.objs.size+1)::us) I2.kIn hl;rw[z8v]at hb';refine wpAny_call (uo (f:=f) I.kIn M.makes M.init (z7n.mp M.fn) (z5c (F.run _ X.stack _ _ ⟨Value.ref (s.heap.objs.size+1)::us,[]⟩ (Value.ref (s.heap.objs.size+1)::us) _ _ E (hr.make C us []) (I2.env0.make C us []) hb' r2 hq) λz s' hz=>?_));cases z with
 |error e=>exact⟨_,_,I2,hz⟩
 | ok fl=>
   cases fl with
   |ret u=>obtain⟨v,H',I3,rv,ev,q3⟩:=I2.after hz;subst ev;exact⟨rv,⟨V.ref (s.heap.objs.size+1),H',I3,rfl,q3⟩⟩
   |next=>exact False.elim hz
   |brk=>exact False.elim hz
   |cont=>exact False.elim hz
def Hx(d:MakE X.prog X.w X.K X.mg X.base x C k ps T)(hr:Room (k+1) X.A)(ha:YA X.nox (a::es) tas)(hg:Gl X x<|>J7)(hdb:DB x<|>J8)(he:SE a es X<|>J7)(hpl:BT pos es X<|>J7):
  YX X (.Call (.Name x p) (a::es) [] pos) (qX C T tas):=⟨by
 have ha:=ha.h;intro G_ s σ H Q E I ⟨U,M,QW,EX,hE,ht,hQ,hX⟩;obtain⟨f,fd,F,Mk',hm,hb⟩:=d;refine z6l (gA I hg hm ?_ hdb);refine z6m (h₀:=X.base) I.ok.mod.kin Mk'.kp (cQ (rB (Q:=λvs H1=>∃ds M1,PostWs X.K H M ds vs H1 M1/\∀a,M1 a=none->T (.ptr a::ds) (aB M1 a (.ins C [] [])) (λd M2=>d=.non/\QW (.ptr a) M2) EX) ha pos I ⟨U,M,_,hE,ht,λds M1 h1 vs H1 p1=>⟨ds,M1,p1,h1⟩⟩) λus s1 vs H1 I1 r ⟨ds,M1,p,h1⟩=>⟨I1.kIn,?_⟩) he hpl;refine Hw Mk' F hr hb I1 r λq dx hq hdx ne=>?_
 have hqd:upd H1 dx (.own q) q=none:=by rw[aE (Ne.symm ne)];exact hq
 have s1:=bo hdx (.own q);have s2:=bo hqd (.ins C dx []);obtain⟨e1,e2⟩:=fL (c:=.ins C [] []) (p.ok.up s1) hqd s2 bn ⟨rfl,[],rfl,rfl,.nil⟩;have pt:PostT X.K H1 M1 _ _:=(PostT.of p.ok s1).trans ⟨e1,e2⟩;exact⟨.ptr q::ds,_,_,EX,.cons (.ptr q) (aV pt.same p.rep),e2,h1 q (p.ok.fresh hq),λd M' y0 v H' p'=>by obtain⟨hd,hq'⟩:=y0;subst hd;have pr:=p'.rep;cases pr;exact⟨rfl,hQ _ M' hq' _ H' ⟨(p.toPostT.trans pt).trans p'.toPostT,.ptr q⟩⟩,λv c H' z=>hX v c H' (z.pre (p.toPostT.trans pt).same)⟩⟩
end
section
variable {P:Hp}
def nE{t:St->Hp->VK->XK->Prop}{E:XK}(h:PX X e t)(ho:gb (CXN X.prog X.w) X E):PE X e λσ H Q=>t σ H Q E:=λG_ s σ H Q I hw=>z8p (h G_ s σ H Q E I hw) (λ_ _ z=>z) λe' s' y0=>by obtain⟨H1,s1,I1,hc⟩:=y0;exact ho G_ σ H1 s1 e' s' I1 hc
def xJ(i:Nat)(ho:OutX X P EX)(hN:X.N.Nodup)(he:YX X a te)(hi:X.N[i]?=some x<|>J7)(hx:Loc X.env.scope x<|>J9)(hs:swapsWith a (some (.Name x p2)) pos.line X.env=pure false<|>J7)(hfn:X.fn x=true\/X.env.scope.names.lookup x=some .local<|>J9):YM X P EX (.Assign [.Name x p2] a pos) (jw i te):=⟨have he:=he.h;λn=>da (j2 hN hi hx (nE he ho.pass) hs hfn) λDe σ H y0=>by obtain⟨U,M,Ew,hE,ht,hl,hX⟩:=y0;exact⟨U,M,_,_,hE.q,ht,λd M1 h1 v H1 p1=>hl.nx _ M1 h1 _ H1 ((hE.next p1.toPostT).set p1.rep),λv c H' z=>(z.pre hE.same).post hX⟩⟩
def iJ(ho:OutX X P EX)(he:YX X a te):YM X P EX (.Return (some a) pos) (gk te):=⟨have he:=he.h;λn=>da (i9 (nE he ho.pass)) λDe σ H y0=>by obtain⟨U,M,Ew,hE,ht,hl,hX⟩:=y0;exact⟨U,M,_,_,hE.q,ht,λd M1 h1 v H1 p1=>hl.rt d M1 h1 v H1 (hE.same.trans p1.same) p1.ok p1.rep,λv c H' z=>(z.pre hE.same).post hX⟩⟩
end
def Hy{k:Nat}{body:NTS}{T:NTX}(h1:ps.length=np)(h2:N.length=n)(h3:T=mkX np n body)(Fn:Fun K x qual st f fd)(S:FnScope N ps (am st))(h:∀(cdv:Value) (A:Around) (outer:List PySem.Env) (s:Shared) (H:Hp) (E:XK) (PP:Hp) (EX:QX),Room k (A.deeper (envOfC qual (am st) s.heap.objs.size f cdv))->OutX (cM (CXN P w) P w K mg base N qual (am st) f cdv A outer s H E) PP EX ->
   MSs (cM (CXN P w) P w K mg base N qual (am st) f cdv A outer s H E) PP EX (cU st) body):
  FnOk P w K mg base (CXN P w) (k+1) f fd ps (spE K T):=by
 subst h1 h2 h3;have hpl:ps.length<=N.length:=by have:=z8w List.length S.pre;rw[z8j]at this;ext
 obtain⟨oc,od,kV,doc,pm,an,cdv,ct,osl,rfl,lk,hcd⟩:=Fn.ex;refine uC lk hcd S (λvs H Q E h=>?_) λA outer s H vs Q E hr h'=>?_
 ·obtain⟨ds,M,QW,EX,r,_,hg,_⟩:=h
  rw[r.length,hg.1]
 ·obtain⟨ds,M,QW,EX,r,hok,⟨hl,ht⟩,hQ,hX⟩:=h'
  have lv:=r.length;refine⟨_,h cdv A outer s H E (PH H M) EX hr (Hs hX) N.length,ds.map some++List.replicate (N.length-ps.length) none,M,_,⟨⟨λi d q=>?_,hok⟩,Same.refl _,?_,?_⟩,ht,⟨λU M' hn σ' H' hE=>?_,λU M' hn=>hn.elim,λU M' hn=>hn.elim,λd M' hd v H' e1 e2 e3=>?_⟩,λ_ _ z=>z⟩
  ·have get:ds[i]?=some d:=by
    by_cases hi:i<ds.length
    ·rw[z8d (by simpa using hi),z9z]at q
     cases e:ds[i]? with
     |none=>rw[e]at q;cases q
     |some z=>rw[e]at q;simpa using q
    ·rw[z9x (by simpa using hi),z7k]at q
     split at q<;>cases q
   obtain⟨v,h2,h3⟩:=r.get get;refine⟨v,?_,h3⟩;unfold L2.start;have hi:i<vs.length:=(z9c.mp h2).1;rw[z8d (by simpa using hi),z9z,h2];rfl
  ·show(L2.start N vs).length=N.length
   unfold L2.start;rw[z9h,z9b,z8s];ext
  ·rw[z9h,z9b,z8s]
   ext
  ·exact hQ _ M' hn _ H' ⟨⟨hE.same,hE.q.ok⟩,.non⟩
  ·exact hQ d M' hd v H' ⟨⟨e1,e2⟩,e3⟩
section
variable {x:Addr}
def xK(I:L2.Inv X G_ σ H s)(hx:H x=some (fP x C))(hst:B.StaysIn s.heap)(hB:B.StaysIn h')(hth:∃o,h'.get? x=some o/\o.cls=.ref C)(hup:s.heap.UpToSlots h')(c1:∀b u,H b=some u->b≠x->B.get? b≠none)(c2:∀b o,X.s₀.heap.get? b=some o->b∉frs X.outer->B.get? b≠none)(c3:∀p∈X.pn++G_,B.get? p.1≠none)(hex:X.ex=[]):L2.Inv X G_ σ H {s with heap:=h'}:=by
 have same:∀{b:Addr} {o:Obj},B.get? b≠none->s.heap.get? b=some o->h'.get? b=some o:=λ{b o} n e=>by
  cases q:B.get? b with
  |none=>exact absurd q n
  |some o'=>have h1:=hst b o' q;have h2:=hB b o' q;rw[e]at h1;cases h1;exact h2
 have nx:∀b:Addr,b∉X.ex:=λb z=>by rw[hex]at z;cases z
 have fr:∀b o,s.heap.get? b=some o->b∈frs X.outer->∃sl,h'.get? b=some {o with slots:=sl}:=λb o e hb=>by obtain⟨_,o0,ho0,hd0⟩:=I.ok.funs.mem hb;obtain⟨sl,q⟩:=I.base.slot b o0 ho0 (I.ok.frf b hb) hb (nx b);rw[e]at q;cases q;exact hup b _ e hd0
 have cellK:∀c v,s.heap.IsCell c v->h'.IsCell c v:=λc v y0=>by obtain⟨o,ho,hd⟩:=y0;obtain⟨sl,q⟩:=hup c o ho (λvs z=>by rw[hd]at z;cases z);exact⟨_,q,hd⟩
 refine⟨I.ok,I.os,I.bare,⟨λb o e n hb _=>?_,λb o e n hb _=>?_,λb o e n _=>I.base.free b o e n (nx b),λb o e _=>?_,I.base.tups,I.base.frzs,I.base.tbls⟩,?_,λy c e=>?_,I.free,I.freeC,λp hp=>?_,λb u e=>?_,I.len⟩
 ·exact same (c2 b o e hb) (I.base.keep b o e n hb (nx b))
 ·obtain⟨sl,q⟩:=I.base.slot b o e n hb (nx b)
  obtain⟨sl2,q2⟩:=fr b _ q hb;exact⟨sl2,q2⟩
 ·obtain⟨o',q⟩:=I.base.there b o e (nx b)
  by_cases hb:b∈frs X.outer
  ·obtain⟨sl,q2⟩:=fr b o' q hb
   exact⟨_,q2⟩
  ·exact⟨o',same (c2 b o e hb) q⟩
 ·obtain⟨m,hn,hl⟩:=I.loc
  refine⟨m,hup.ns hn,λi y v e1 e2 e3=>?_⟩;obtain⟨u,r,l⟩:=hl i y v e1 e2 e3;refine⟨u,r,?_⟩;rcases l with l|⟨k,c,e,z⟩
  ·exact .inl l
  ·exact .inr ⟨k,c,e,cellK c _ z⟩
 ·obtain⟨v,z⟩:=I.cell y c e
  exact⟨v,cellK c v z⟩
 ·obtain⟨e,r⟩:=I.pin p hp
  exact⟨same (c3 p hp) e,r⟩
 ·by_cases hb:b=x
  ·subst hb
   rw[hx]at e;cases e;exact rp hth
  ·refine(I.hok b u e).stay (λc v hc q=>?_) (λ_ q=>q) λ_ _ q=>q
   have:H c≠none/\c≠x:=by
    rcases hc with rfl|hc
    ·exact⟨by rw[e];exact(λz=>nomatch z),hb⟩
    ·exact⟨by rw[hc];exact(λz=>nomatch z),λz=>by rw[z,hx]at hc;cases hc⟩
   cases hq:H c with
   |none=>exact absurd hq this.1
   |some u'=>exact same (c1 c u' hq this.2) q
def Hz{n:Str}{m:Str->i_}{v:i_}(I:L2.Inv X G_ σ H s)(hN:X.N.Nodup)(hi:X.N[i]?=some n)(hn:s.heap.Ns X.env.locals m)(hn':h'.Ns X.env.locals λy=>if y=n then v else m y)(hs:Heap.SameBut X.env.locals s.heap h'):L2.Inv X G_ (σ.set i none) H {s with heap:=h',toks:=t'}:=by
 obtain⟨oL,_,_,hoL,_⟩:=id hn;have hb0:∀b o,X.s₀.heap.get? b=some o->b≠X.env.locals:=λb o e=>z8q (z9u (z9m e) I.ok.above)
 refine⟨I.ok,I.os,I.bare,⟨λb o e n hb hx=>?_,λb o e n hb hx=>?_,I.base.free,λb o e hx=>?_,I.base.tups,I.base.frzs,I.base.tbls⟩,⟨_,hn',λj y v' e1 e2 e3=>?_⟩,λy c e=>?_,I.free,I.freeC,λp hp=>?_,λb u e=>?_,by simpa using I.len⟩
 ·exact(hs.2 b (hb0 b o e)).trans (I.base.keep b o e n hb hx)
 ·obtain⟨sl,e1⟩:=I.base.slot b o e n hb hx
  exact⟨sl,(hs.2 b (hb0 b o e)).trans e1⟩
 ·obtain⟨o',e1⟩:=I.base.there b o e hx
  exact⟨o',(hs.2 b (hb0 b o e)).trans e1⟩
 ·by_cases hj:j=i
  ·subst hj
   have hl:j<σ.length:=by rw[I.len];exact(z9c.mp hi).1
   rw[z9r hl]at e2;cases e2
  ·rw[z9f (Ne.symm hj)]at e2
   obtain⟨m1,hn1,hl1⟩:=I.loc;obtain⟨u',r',q⟩:=hl1 j y v' e1 e2 e3;refine⟨u',r',?_⟩;rcases q with⟨k,e⟩|⟨k,c,e,z⟩
   ·refine .inl ⟨k,?_⟩
    have ne:y≠n:=λe=>hj (oN hN e1 (e▸hi))
    simp only[ne,z4t];obtain⟨o1,es1,ep1,a1,a2,a3,a4⟩:=hn1;obtain⟨o2,es2,ep2,b1,b2,b3,b4⟩:=hn;rw[a1]at b1;cases b1;rw[a2]at b2;cases b2;rw[<- b4,a4,e]
   ·exact .inr ⟨k,c,e,z.sameBut hs (I.cne y c e)⟩
 ·obtain⟨w',z⟩:=I.cell y c e
  exact⟨w',z.sameBut hs (I.cne y c e)⟩
 ·obtain⟨e,n,ne,nf,d⟩:=I.pin p hp
  exact⟨(hs.2 p.1 ne).trans e,n,ne,nf,d⟩
 ·refine(I.hok b u e).stay (λc w' hc q=>(hs.2 c ?_).trans q) (λ_ q=>q) λ_ _ q=>q
  rintro rfl;rcases hc with rfl|hc
  ·rw[I.free]at e;cases e
  ·rw[I.free]at hc;cases hc
def HA{M:Model}{B:Addr}{Q:Bool->Shared->Prop}(kin:K.In s.heap)(XB:XBase K B)(e:W.mroIn K C (.ref B)=some true)(hx:∃o,s.heap.get? x=some o/\o.cls=.ref C)(hq:Q true s):
  wpAny M A (excMatches (.ref x) (.ref B)) Q E s:=by
 obtain⟨o,hx,hc⟩:=hx;unfold excMatches;refine z9o ((W.looks_instIn kin XB.nt).at ?_);simp only[z4w,z4t];refine z9o (z8n ?_);have L1:W.Looks M s.heap (isExcClass (.ref B)) true:=by intro A' Q' E' s' k q;unfold isExcClass;refine z9o (Hq kin XB.is _ _ _ _ k ?_);simp only[if_true];exact W.looks_mroIn kin XB.be _ _ _ _ k q
 simp only[List.forIn_cons,List.forIn_nil];refine z9o (z9o (z9o (L1.at ?_)));simp only[Bool.not_true,z4w,z4t];refine z8n ?_;refine z8n ?_;refine z9o ((Ho hx hc).at ?_);refine z9o (z9o (z9o ((W.looks_mroIn kin e).at ?_)));simp only[if_true];refine z8n ?_;refine z8n ?_;exact z8n hq
def xL{e:Value}(I:L2.Inv X G_ σ H s):L2.Inv {X with A:=X.A.mark (some e),calm:=false,xe:=λ_ _=>False} G_ σ H s:=
 ⟨⟨I.ok.mod,I.ok.kind,I.ok.glob,I.ok.blt,I.ok.above,I.ok.inj,I.ok.has,I.ok.cab,(λz=>nomatch z),I.ok.frames,I.ok.stk,I.ok.exf,I.ok.bs,I.ok.bsz,I.ok.noex,I.ok.exfs,I.ok.funs,I.ok.frf⟩,I.os,I.bare,I.base,I.loc,I.cell,I.free,I.freeC,I.pin,I.hok,I.len⟩
def HB{e:Value}(I0:L2.Inv X G_ σ H s){σ1:St}(I:L2.Inv {X with A:=X.A.mark (some e),calm:=false,xe:=λ_ _=>False} G_ σ1 H1 s1):L2.Inv X G_ σ1 H1 s1:=
 ⟨I0.ok,I.os,I.bare,I.base,I.loc,I.cell,I.free,I.freeC,I.pin,I.hok,I.len⟩
def HC{E:XK}{e:Value}{D:Ends}{E0:Value->Shared->Prop}{cn n:Str}{c:Nat}(xt:iI X.K=true)(hN:X.N.Nodup)(hc:X.N[c]?=some cn)(hj:X.N[j]?=some n)(hcj:c≠j)(lc:X.env.scope.names.lookup cn=some .local)(lj:X.env.scope.names.lookup n=some .local)(kj:X.env.kindOf n=some .local)(hg:Gl X "FareError")(hst:X.stack=X.env::X.outer)(hfr:X.env.frame=some X.env.locals)(hex:X.ex=[])(hdb:DB n)(hcd:(n==("__classdict__" : Str))=false)(hsw:swapsWith (.Name n pn) (some (.Name cn pc)) pa.line X.env=pure false)(hF:Fl X G_ σ E e s')(hD:∀x C H2,H2 x=some (fP x C)->E (.ref x) (some C) H2->(∃nm∈XS,W.nsIn X.K mainGlobals nm=some (some (.ref C)))/\D.nx ((σ.set j none).set c (some (.ref x))) H2):
  wpAny (model X.prog X.w) X.A (noteFrame e X.env) (λ_ s2=>wpAny (model X.prog X.w) X.A (setFlight e none) (λ_ s3=>wpAny (model X.prog X.w) X.A (handleBy e X.env [.ExceptHandler (some (.Name "FareError" pf)) (some n) [.Assign [.Name cn pc] (.Name n pn) pa] ph]) (SP X G_ D) E0 s3) E0 s2) E0 s':=by
 obtain⟨H1,s1,I,x,C,H2,B,a0,rfl,os,bare,un,hok,hfl,c1,c2,hx,hE1⟩:=hF;obtain⟨hh,g,d,t,os'⟩:=s';obtain rfl:os'=s1.os:=os;have I2:L2.Inv X G_ σ H2 {s1 with heap:=hh,gens:=g,drawn:=d,toks:=t}:=I.call (h':=hh) (g':=g) (d':=d) (t':=t) (ch:=[]) un hok bare (λb z=>absurd z (by simp));obtain⟨⟨nm,hnm,hns⟩,hnx⟩:=hD x C H2 hx hE1;obtain⟨B0,XB,hall⟩:=rA xt;obtain⟨C',hns',O,hmro,_⟩:=hall nm hnm;rw[hns]at hns';obtain rfl:C=C':=by cases hns';rfl
 have hmB:X.mg "FareError"=some (.ref B0):=z6z I.ok.mod.kin I.ok.mod.glob XB.ns;have hfl':Heap.FlyingW B (X.env::X.outer) x (.ref C) a0 hh:=by rw[<- hst];exact hfl
 have c2':∀b o,X.s₀.heap.get? b=some o->b∉frs X.outer->B.get? b≠none:=λb o e hb=>by
  obtain⟨o',q⟩:=I.base.there b o e (by rw[hex];exact λz=>nomatch z);refine c2 b o' q λz=>?_
  rcases z9j.mp (I.stkSub b z)with e1|e1
  ·have:=I.ok.above
   rw[<- e1]at this;exact absurd (z9u (z9m e) this) (z7x _)
  ·exact hb e1
 have c3:∀p∈X.pn++G_,B.get? p.1≠none:=λp hp=>by
  obtain⟨e,_,ne,nf,_⟩:=I.pin p hp;refine c2 p.1 p.2 e λz=>?_
  rcases z9j.mp (I.stkSub _ z)with e1|e1
  ·exact ne e1
  ·exact nf e1
 refine PySem.wpAny_looks_onW (by rw[<- hst];exact I.ok.frames) hfr hfl' λh3 q3 u3=>?_
 refine PySem.wpAny_landsW q3 λh4 q4 u4=>?_
 have u34:=u3.trans u4;have I4:L2.Inv X G_ σ H2 {s1 with heap:=h4,gens:=g,drawn:=d,toks:=t}:=xK (s:={s1 with heap:=hh,gens:=g,drawn:=d,toks:=t}) I2 hx hfl'.1 q4.1 q4.there u34 c1 c2' c3 hex;refine wpAny_handleBy_cons (codeAny_handlers_test ?_) (λz=>nomatch z);refine gA (xL (e:=.ref x) I4) hg hmB ?_;refine HA I4.kIn XB hmro q4.there ?_;refine codeAny_handlers_suite_as ?_;refine lands_againW q4 λh5 q5 u5=>?_
 have I5:L2.Inv X G_ σ H2 {s1 with heap:=h5,gens:=g,drawn:=d,toks:=t}:=xK (s:={s1 with heap:=h4,gens:=g,drawn:=d,toks:=t}) I4 hx q4.1 q5.1 q5.there u5 c1 c2' c3 hex;refine lN I5 hN hj (.inl lj) (v:=.ref x) rfl (λs6 I6=>?_) (.inr lj);have hj':j<σ.length:=by rw[I5.len];exact(z9c.mp hj).1
 have P:=jV (j2 (X:={X with A:=X.A.mark (some (.ref x)),calm:=false,xe:=λ_ _=>False}) hN hc (.inl lc) (fu (pos:=pn) hj (.inl lj) hdb hcd) hsw (.inr lc)) G_ s6 _ H2 ⟨λσ7 H7=>σ7=(σ.set j (some (.ref x))).set c (some (.ref x))/\H7=H2,λ_ _=>False,λ_ _=>False,λ_ _=>False⟩ (xL (e:=.ref x) I6) ⟨.ref x,z9r hj',rfl,rfl⟩;refine z8p P (λf s7 h7=>?_) λ_ _ z=>False.elim z
 cases f with
 |brk=>obtain⟨_,_,_,z⟩:=h7;exact z.elim
 |cont=>obtain⟨_,_,_,z⟩:=h7;exact z.elim
 |ret v=>obtain⟨_,_,_,_,_,z⟩:=h7;exact z.elim
 | next=>
   obtain⟨σ7,H7,I7,rfl,rfl⟩:=h7;have I7:=HB I6 I7;obtain⟨m,hn,_⟩:=id I7.loc;refine wpAny_nameGoes_keeps kj hn (by rw[I.ok.kind];rfl) λh8 v hn8 hs8=>?_
   have I8:=Hz (t':=s7.toks+1) I7 hN hj hn hn8 hs8;refine⟨_,_,I8,?_⟩;rw[List.set_comm _ _ hcj,List.set_set];exact hnx
end
section
variable {cn n:Str}
def EnvN.gone{P:Hp}{m:Nat}(h:EnvN K P m σ U H M):EnvN K P m (σ.set j none) (U.set j none) H M:=
 ⟨⟨λk e q=>by
   by_cases e1:k=j
   ·subst e1
    have hl:k<U.length:=by have:=(z9c.mp q).1;simpa using this
    rw[z9r hl]at q;cases q
   ·rw[z9f (Ne.symm e1)]at q
    obtain⟨v',h1,h2⟩:=h.q.env k e q;exact⟨v',by rw[z9f (Ne.symm e1)];exact h1,h2⟩,h.q.ok⟩,h.same,by rw[z8e];exact h.lσ,by rw[z8e];exact h.lρ⟩
def HD{P:Hp}{m:Nat}{c:Nat}{y:Addr}(hE:EnvN K P m σ U H M)(hl:LeE Ew (hG K P m De))(hy:H2 y=some (fP y C))(h:EXK K (PH H M) (λx M1=>∀a,M1 a=none->Ew.nx ((U.set j none).set c (some (.ptr a))) (aB M1 a (.exn a x))) (.ref y) (some C) H2):
  (∃nm∈XS,W.nsIn K mainGlobals nm=some (some (.ref C)))/\De.nx ((σ.set j none).set c (some (.ref y))) H2:=by
 obtain⟨b,nm,M1,C1,e1,e2,hns,hxs,hex,hsame,hok⟩:=h;obtain rfl:y=b:=by cases e1;rfl
 obtain rfl:C=C1:=by cases e2;rfl
 refine⟨⟨nm,hxs,hns⟩,?_⟩;obtain⟨s1,ok1⟩:=fL (c:=.exn y nm) hok xG Hr hy ⟨C,rfl,hns⟩;exact hl.nx _ _ (hex y (hok.fresh xG)) _ _ (((hE.next ⟨hsame.trans s1,ok1⟩).gone (j:=j)).set (.ptr y))
def HE(i c j:Nat)(xt:iI X.K=true)(hN:X.N.Nodup)(he:YX X a te)(hi:X.N[i]?=some x<|>J7)(hx:Loc X.env.scope x<|>J9)(hs:swapsWith a (some (.Name x p2)) p3.line X.env=pure false<|>J7)(hfn:X.fn x=true\/X.env.scope.names.lookup x=some .local<|>J9)(hc:X.N[c]?=some cn<|>J7)(hj:X.N[j]?=some n<|>J7)(hcj:c≠j<|>J8)(lc:X.env.scope.names.lookup cn=some .local<|>J7)(lj:X.env.scope.names.lookup n=some .local<|>J7)(kj:X.env.kindOf n=some .local<|>J7)(hg:Gl X "FareError"<|>J7)(hst:X.stack=X.env::X.outer<|>J7)(hfr:X.env.frame=some X.env.locals<|>J7)(hex:X.ex=[]<|>J7)(hdb:DB n<|>J8)(hcd:(n==("__classdict__" : Str))=false<|>J8)(hsw:swapsWith (.Name n pn) (some (.Name cn pc)) pa.line X.env=pure false<|>J7):
  YS X (.Try [.Assign [.Name x p2] a p3] [.ExceptHandler (some (.Name "FareError" pf)) (some n) [.Assign [.Name cn pc] (.Name n pn) pa] ph] [] [] pos) (qY c j (jw i te)):=⟨by
 have he:=he.h;intro P m G_ s σ H De I ⟨U,M,Ew,hE,ht,hl⟩;refine wpAny_Try_except (z8p (wpAny_execs_cons (wpAny_Assign_Name (b9 (he G_ s σ H (λv H1=>∃d M1,PostW X.K H M d v H1 M1/\Ew.nx (U.set i (some d)) M1) _ I ⟨U,M,_,_,hE.q,ht,λd M1 h1 v H1 p1=>⟨d,M1,p1,h1⟩,λv c H' z=>z⟩) λv s1 y H1 I1 r1 ⟨d,M1,p1,h1⟩=>?_) hs)) (λf s1 h1=>h1) λe s1 hF=>?_)
 ·exact lN I1 hN hi hx r1 (λs2 I2=>z5m (z5m ⟨_,H1,I2,hl.nx _ M1 h1 _ H1 ((hE.next p1.toPostT).set p1.rep)⟩)) hfn
 ·exact HC xt hN hc hj hcj lc lj kj hg hst hfr hex hdb hcd hsw hF λy C H2 hy z=>HD hE hl hy z⟩
end
section
variable {tv:NTE}{f:Str}{k:Nat}
theorem rD:∀{ns:z0} {vs:l_} {f:Str},¬f∈ns->bN (aF ns vs) (Sum.inr f:Key)=none
 |[],_,_,_=>rfl
 |_::_,[],_,_=>rfl
 | n::ns,w::vs,f,h=>by
   have ne:¬((Sum.inr n:Key)=Sum.inr f):=λq=>h (z5i q▸z9a)
   have ih:=rD (vs:=vs) λz=>h (z9d n z)
   show bN ((Sum.inr n,w)::aF ns vs) _=none;unfold bN at ih ⊢;simp[ne,ih]
def xM{j}(hr:Room k X.A)(ha:YE X a ta)(hv:YE X b tv)(hi:¬f∈ns<|>Q1)(hlt:ns.length<1000<|>J8)(hs:swapsWith b (some (.Subscript a (.Constant (.str f) j p3) p2)) pos.line X.env=pure false<|>J7):
  YS X (.Assign [.Subscript a (.Constant (.str f) j p3) p2] b pos) (nq ns f ta tv):=⟨have ha:=ha.h;have hv:=hv.h;λP n=>
 dC (pI (by have:=hr.un;ext) ha fv hv hs) λDe σ H U M Ew hE ht hl=>⟨U,M,_,hE.q,ht,λd M1 h1 v H1 p1=>⟨U,M1,_,hE.q.next p1.toPostT,h1,λx M2 y0 vx H2 p2=>by
  obtain⟨q,ds,ex,hm,h2⟩:=y0;subst ex;cases p2.rep;obtain⟨vs,g1,gl,g2⟩:=gZ p2.ok hm;have rv:=au p2.same p1.rep;have hz:(aF ns vs).length<sizeLine:=by
   have:(aF ns vs).length=ns.length:=by simp[aF,gl]
   rw[this,z7y];ext
  refine⟨q,_,rfl,.inl ⟨_,.inr f,g1,rfl,hz,rfl⟩,?_⟩;have ez:aF ns vs++[(Sum.inr f,v)]=aF (ns++[f]) (vs++[v]):=by unfold aF;rw[List.zip_append gl.symm,z8g];rfl
  rw[pG _ (rD hi),ez];obtain⟨e1,e2⟩:=gm (o:=.dK (aF (ns++[f]) (vs++[v]))) (c:=.dic (ns++[f]) (ds++[d])) p2.ok hm ⟨_,rfl,by simp[gl],g2.append (.cons rv .nil)⟩;exact hl.nx _ _ h2 σ _ ((hE.next (p1.toPostT.trans p2.toPostT)).next ⟨e1,e2⟩)⟩⟩⟩
end
section
variable {tb:NTE}
def a7(h:JE X a fa es):YE X a (nP fa):=⟨r8 h.h⟩
def rE{k:Nat}(hr:Room k X.A)(ha:YE X a ta)(hb:YE X b tb):YE X (.Compare a [.Eq] [b] pos) (n2 eqD ta tb):=⟨ne_eq hr ha.h hb.h⟩
end
section
variable {tb:NTE}{k:Nat}{es:z6}
def xN(cl:Cls X.K C)(d:MetN X.prog X.w X.K X.mg X.base C m k ps T)(hr:Room k X.A)(ho:YE X b tb)(ha:YA X (a::es) tas)(hno:¬m∈ns<|>Q1)(hst:SE a es X<|>J7)(hpl:BT pos es X<|>J7)(ht:(eval (.Call (.Attribute b m ap) (a::es) [] pos) X.env=(do
   let ov <- eval b X.env
   standAt ap.atName
   let(f,first) <- holding [ov] (getMethod ov m pl)
   callWith pos f first (backTo pos (starEach (a::es) X.env)) (backToKw pos (keywordEach [] X.env))))<|>J7):YE X (.Call (.Attribute b m ap) (a::es) [] pos) (cI C ns T tb tas):=⟨GQ cl d hr ho.h ha.h hno hst hpl ht⟩
def eS(cl:Cls X.K C)(d:MetN X.prog X.w X.K X.mg X.base C m k ps T)(hr:Room k X.A)(ho:YE X b tb)(hno:¬m∈ns<|>Q1)(ht:(eval (.Call (.Attribute b m ap) [] [] pos) X.env=(do
   let ov <- eval b X.env
   standAt ap.atName
   let(f,first) <- holding [ov] (getMethod ov m pl)
   callWith pos f first (backTo pos (starEach [] X.env)) (backToKw pos (keywordEach [] X.env))))<|>J7):YE X (.Call (.Attribute b m ap) [] [] pos) (cI C ns T tb ak):=⟨GR cl d hr ho.h hno ht⟩
end
section
variable {tv:NTE}
def ll(ha:YE X a ta)(he:YE X e tv)(hbase:attributeBase a "append" X.env (eval a X.env)=eval a X.env<|>J7)(hfew:(((backTo cp (starEach [e] X.env)).all (λx=>!x.1)&&(backToKw cp (keywordEach [] X.env)).all (λx=>x.1.isSome)
   && decide (([e]:z6).length+([]:z8).length+(if([]:z8).isEmpty then 0 else 1)<30))=true)<|>J7)(hline:(ap.endLine==cp.line)=true<|>J7)(hs:SE e [] X<|>J7)(hplain:BT cp [] X<|>J7)(hsw:swapsWith (.Call (.Attribute a "append" ap) [e] [] cp) none pos.line X.env=pure false<|>J7):YS X (.Expr (.Call (.Attribute a "append" ap) [e] [] cp) pos) (gY ta tv):=⟨GT ha.h he.h hbase hfew hline hs hplain hsw⟩
def xO(ha':YE X a ta)(hb:YE X b ti)(he:YE X e tv)(ha:(∀v,assign (.Subscript a b p3) X.env v=(do
   let ov <- holding [v] (eval a X.env);let iv <- holding [v,ov] (eval b X.env)
   standAt p3
   holding [v,ov,iv] (setItem ov iv v)
   release [v,ov,iv] []))<|>Q0)(hs:swapsWithSole [.Subscript a b p3] e pos.line X.env=pure false<|>J7)(hw:swappedStores [.Subscript a b p3] e X.env=pure none<|>J7)(h1:(assignEach [.Subscript a b p3] X.env).map (·.2)=[assign (.Subscript a b p3) X.env]<|>J7):YS X (.Assign [.Subscript a b p3] e pos) (l7 ta ti tv):=⟨GU ha'.h hb.h he.h ha hs hw h1⟩
end
section
variable {tb:NTE}{k:Nat}{es:z6}{T:NTX}
def gr(cl:Cls X.K C)(d:MetE X.prog X.w X.K X.mg X.base C m k ps T)(hr:Room k X.A)(ho:YE X.nox b tb)(ha:YA X.nox (a::es) tas)(hno:¬m∈ns<|>Q1)(hst:SE a es X<|>J7)(hpl:BT pos es X<|>J7)(ht:(eval (.Call (.Attribute b m ap) (a::es) [] pos) X.env=(do
   let ov <- eval b X.env
   standAt ap.atName
   let(f,first) <- holding [ov] (getMethod ov m pl)
   callWith pos f first (backTo pos (starEach (a::es) X.env)) (backToKw pos (keywordEach [] X.env))))<|>J7):YX X (.Call (.Attribute b m ap) (a::es) [] pos) (dA C ns T tb tas):=⟨Hu cl d hr ho.h ha.h hno hst hpl ht⟩
def HF(cl:Cls X.K C)(d:MetE X.prog X.w X.K X.mg X.base C m k ps T)(hr:Room k X.A)(ho:YE X.nox b tb)(hno:¬m∈ns<|>Q1)(ht:(eval (.Call (.Attribute b m ap) [] [] pos) X.env=(do
   let ov <- eval b X.env
   standAt ap.atName
   let(f,first) <- holding [ov] (getMethod ov m pl)
   callWith pos f first (backTo pos (starEach [] X.env)) (backToKw pos (keywordEach [] X.env))))<|>J7):YX X (.Call (.Attribute b m ap) [] [] pos) (dA C ns T tb ak):=⟨Hv cl d hr ho.h hno ht⟩
end
section
variable {k:Nat}
def cu{body:NTS}(h1:ps.length=np)(h2:N.length=n)(h3:T=mkN np n body)(Fn:Fun K x qual st f fd)(S:FnScope N ps (am st))(h:∀(cdv:Value) (A:Around) (outer:List PySem.Env) (s:Shared) (H:Hp) (E:XK),Room k (A.deeper (envOfC qual (am st) s.heap.objs.size f cdv)) ->
   YSs (cM CX0 P w K mg base N qual (am st) f cdv A outer s H E).nox (cU st) body):
  FnOk P w K mg base CX0 (k+1) f fd ps (spN K T):=GW h1 h2 h3 Fn S λcdv A outer s H E hr=>(h cdv A outer s H E hr).h
def dg{body:NTS}{T:NTX}(h1:ps.length=np)(h2:N.length=n)(h3:T=mkX np n body)(Fn:Fun K x qual st f fd)(S:FnScope N ps (am st))(h:∀(cdv:Value) (A:Around) (outer:List PySem.Env) (s:Shared) (H:Hp) (E:XK) (PP:Hp) (EX:QX),Room k (A.deeper (envOfC qual (am st) s.heap.objs.size f cdv))->OutX (cM (CXN P w) P w K mg base N qual (am st) f cdv A outer s H E) PP EX ->
   YMs (cM (CXN P w) P w K mg base N qual (am st) f cdv A outer s H E) PP EX (cU st) body):
  FnOk P w K mg base (CXN P w) (k+1) f fd ps (spE K T):=Hy h1 h2 h3 Fn S λcdv A outer s H E PP EX hr ho=>(h cdv A outer s H E PP EX hr ho).h
end
end VL
namespace VL
open PySem (Str)
open L2 (atI ixN)
section
variable {Q:QE}{QB:Bool->Sto->Prop}{QL:n_->Sto->Prop}{tb tv:NTE}{f:FE}{fb:ag->k_}{g1:D->o_}{C:Nat}{E:EndN}{u v:NTS}
def HG(h:WE f U λd=>Q d M):nP f U M Q:=h
def HH(h:WB fb U λb=>QB b M):nPB fb U M QB:=h
def HI(h:ta U M λx M1=>tb U M1 λy M2=>W2 g x y λd=>Q d M2):n2 g ta tb U M Q:=h
def HJ(h:ta U M λx M1=>W1 g1 x λd=>Q d M1):n1 g1 ta U M Q:=h
def HK(h:ta U M λx M1=>kT (λb=>QB b M1) x):bu ta U M QB:=h
def HL(h:ta U M λx M1=>∃b,tru x=some b/\QB b M1):eP ta U M QB:=h
def HM(h:ka U M λb M1=>kIf b (kb U M1 QB) (QB false M1)):mZ ka kb U M QB:=h
def HN(h:ka U M λb M1=>kIf b (QB true M1) (kb U M1 QB)):nOr ka kb U M QB:=h
def HP(h:ka U M λb M1=>QB (!b) M1):gj ka U M QB:=h
def HQ(h:ka U M λb M1=>kIf b (ta U M1 Q) (tb U M1 Q)):nIf ka ta tb U M Q:=h
def HR(h:ta U M λx M1=>kT (λb=>kIf b (tb U M1 Q) (Q (.bl false) M1)) x):qQ ta tb U M Q:=h
def HS(h:QL [] M):ak U M QL:=h
def HU(h:ta U M λx M1=>tas U M1 λxs M2=>QL (x::xs) M2):aa ta tas U M QL:=h
def HV(h:tas U M λds M1=>ds.length<=1000/\Q (.lst ds) M1):qR tas U M Q:=h
def HW(h:tas U M λds M1=>ds.length<=1000/\Q (.tup ds) M1):jt tas U M Q:=h
def HX(h:WE f U λd=>∃ds,d=.lst ds/\∀a,M a=none->Q (.ptr a) (aB M a (.lst ds))):iD f U M Q:=h
def xP(h:WA as U λds=>ds.length=ns.length/\∀a,M a=none->Q (.ptr a) (aB M a (.dic ns ds))):n8 ns as U M Q:=h
def nF{a:Nat}(hv:a5 j U=some (.ptr a))(hm:M a=some (.dic ns ds))(hd:ds[i]?=some d)(h:Q d M):nDg ns i (nP (a5 j)) U M Q:=⟨_,hv,a,ds,d,rfl,hm,hd,h⟩
def HY{a:Nat}(hv:a5 j U=some (.ptr a))(hm:M a=some (.ins C ns ds))(hd:ds[i]?=some d)(h:Q d M):aN C ns i (nP (a5 j)) U M Q:=⟨_,hv,a,ds,d,rfl,hm,hd,h⟩
def HZ(h:tas U M λds M1=>T ds M1 Q):b5 T tas U M Q:=h
def Ia(h:tas U M λds M1=>WF G (ds.map (vw1 M1)) λd=>aW d=true/\Q d M1):cA G tas U M Q:=h
def Ib(h:tas U M λds M1=>WF G ds λd=>Q d M1):ju G tas U M Q:=h
def Ic{a:Nat}(hv:a5 j U=some (.ptr a))(hm:M a=some (.ins C ns ds0))(h:tas U M λds M2=>T (.ptr a::ds) M2 Q):cI C ns T (nP (a5 j)) tas U M Q:=⟨_,hv,a,ds0,rfl,hm,h⟩
def bT(hl:ds.length=np)(h:u {nx:=λ_ M'=>Q .non M',rt:=Q} (ds.map some++List.replicate (n-np) none) M):mkN np n u ds M Q:=⟨hl,h⟩
def Id(h:E.nx U M):sN E U M:=h
def Ie(h:u {E with nx:=λU M=>v E U M} U M):ah u v E U M:=h
def Ig(h:ka U M λb M1=>kIf b (u E U M1) (v E U M1)):aI ka u v E U M:=h
def Ih(h:ta U M E.rt):aX ta E U M:=h
def lm{a:Nat}(hv:a5 i U=some (.ptr a))(hm:M a=some (.lst ds))(h:E.rt (.lst ds) (eg M a)):nc i E U M:=⟨a,ds,hv,hm,h⟩
def Ii(h:ta U M λd M1=>E.nx (U.set i (some d)) M1):aK i ta E U M:=h
def Ij(h:ta U M λd M1=>∃ds,d=.tup ds/\ds.length=is.length/\E.nx ((is.zip ds).foldl (λr p=>r.set p.1 (some p.2)) U) M1):ng is ta E U M:=h
def Ik(h:tv U M λx M1=>ta U M1 λy M2=>∃a ds,y=.ptr a/\M2 a=some (.dic ns ds)/\E.nx U (aB M2 a (.dic ns (ds.set i x)))):eQ ns i ta tv E U M:=h
def Il(h:tv U M λx M1=>ta U M1 λy M2=>∃a ds,y=.ptr a/\M2 a=some (.ins C ns ds)/\E.nx U (aB M2 a (.ins C ns (ds.set i x)))):gX C ns i ta tv E U M:=h
def eU{fl:Str}(h:tv U M λx M1=>ta U M1 λy M2=>∃a ds,y=.ptr a/\M2 a=some (.ins C ns ds)/\E.nx U (aB M2 a (.ins C (ns++[fl]) (ds++[x])))):de C ns fl ta tv E U M:=h
def Im(h:ta U M λx M1=>∃a ds0,x=.ptr a/\M1 a=some (.lst ds0)/\tv U M1 λy M2=>∃ds,M2 a=some (.lst ds)/\ds.length<100000/\E.nx U (aB M2 a (.lst (ds++[y])))):gY ta tv E U M:=h
def Io(h:tv U M λx M1=>ta U M1 λy M2=>ti U M2 λz M3=>∃a ds k j,y=.ptr a/\M3 a=some (.lst ds)/\z=.int k/\ixN ds.length k=some j/\E.nx U (aB M3 a (.lst (ds.set j x)))):l7 ta ti tv E U M:=h
def Ip(h:tas U M λds M1=>∃j,ds=[.int j]/\okR j/\cB (λx E U M=>u E (U.set t (some x)) M) ((List.range j.toNat).map λk=>.int (k:Nat)) E U M1):ni t tas u E U M:=h
def Iq(h:tas U M λds M1=>∃i j,ds=[.int i,.int j]/\okR i/\okR j/\cB (λx E U M=>u E (U.set t (some x)) M) ((List.range (j-i).toNat).map λk=>.int (i+(k:Nat))) E U M1):qS t tas u E U M:=h
def rF(h:tas U M λds M1=>∃j,ds=[.int j]/\okR j/\j<1000/\dt 1 ta (bq 1 J3 U) ((List.range j.toNat).map λk=>.int (k:Nat)) [] M1 λds M2=>Q (.lst ds) M2):jv J3 tas ta U M Q:=h
def Ir(h:tas U M λds M1=>WF G (ds.map (vw2 M1)) λd=>aW d=true/\Q d M1):qT G tas U M Q:=h
def Iu(h:tas U M λds M1=>WF G (ds.map (vw2 M1)) λd=>(∃xs:z_,d=.lst (xs.map .int))/\Q d M1):qU G tas U M Q:=h
def Iv(h:tas U M λds M1=>WF G (ds.map (vw2 M1)) λd=>Q d M1):qV G tas U M Q:=h
def Iw(h:ta U M λx M1=>∃ds,vw1 M1 x=.lst ds/\Q (.lst ds) M1):qW ta U M Q:=h
def Ix(h:ti U M λd M1=>∃ds,bX d=some ds/\ds.length<=1000/\dt 1 ta (bq 1 J3 U) ds [] M1 λds M2=>Q (.lst ds) M2):nj J3 ti ta U M Q:=h
def Iy(h:ta U M λd M1=>∃ds,bX d=some ds/\cB (λx E U M=>u E (U.set t (some x)) M) ds E U M1):nh t ta u E U M:=h
def Iz(h:ta U M λx M1=>tb U M1 λy M2=>W2 g (vw3 M2 x) (vw3 M2 y) λd=>aW d=true/\Q d M2):n2V g ta tb U M Q:=h
def IC(h:ta U M λx M1=>∃a ds,x=.ptr a/\M1 a=some (.lst ds)/\n<=1000/\Q (.lst (eN ds (some (n:Nat)) none)) M1):nk n ta U M Q:=h
def ID(h:tas U M λds M1=>ds.length<=1000/\∀a,M1 a=none->Q (.ptr a) (aB M1 a (.lst ds))):n0 tas U M Q:=h
def IE(h:ta U M λx M1=>tb U M1 λy M2=>∃a ds i d,x=.ptr a/\M2 a=some (.lst ds)/\y=.int i/\atI ds i=some d/\Q d M2):n9 ta tb U M Q:=h
def bE(hl:ds.length=np)(h:u {nx:=λ_ M'=>Q .non M',rt:=Q,ex:=EX} (ds.map some++List.replicate (n-np) none) M):mkX np n u ds M Q EX:=⟨hl,h⟩
def jD(hx:x∈XS)(h:E.ex x M):cJ x E U M:=⟨hx,h⟩
def IF(h:te U M (λd M1=>E.nx (U.set i (some d)) M1) E.ex):jw i te E U M:=h
def IG(h:te U M E.rt E.ex):gk te E U M:=h
def IH(h:te U M (λ_ M1=>E.nx U M1) E.ex):jx te E U M:=h
def II(h:u {E with ex:=λx M1=>∀a,M1 a=none->E.nx ((U.set j none).set i (some (.ptr a))) (aB M1 a (.exn a x))} U M):qY i j u E U M:=h
def IJ{f:Str}(h:tv U M λx M1=>ta U M1 λy M2=>∃a ds,y=.ptr a/\M2 a=some (.dic ns ds)/\E.nx U (aB M2 a (.dic (ns++[f]) (ds++[x])))):nq ns f ta tv E U M:=h
def IK{T:NTX}(h:tas U M λds M1=>T ds M1 Q EX):iE T tas U M Q EX:=h
def IL{T:NTX}{a:Nat}(hv:a5 j U=some (.ptr a))(hm:M a=some (.ins C ns ds0))(h:tas U M λds M2=>T (.ptr a::ds) M2 Q EX):dA C ns T (nP (a5 j)) tas U M Q EX:=⟨_,hv,a,ds0,rfl,hm,h⟩
def IM{T:NTX}(h:tas U M λds M1=>∀a,M1 a=none->T (.ptr a::ds) (aB M1 a (.ins C [] [])) (λd M2=>d=.non/\Q (.ptr a) M2) EX):qX C T tas U M Q EX:=h
def IN{T:NTX}(h:T ds M Q λ_ _=>False):qtX T ds M Q:=h
def xQ{q:QX}{a b c:ag->Sto->Prop}{d:D->Sto->Prop}(h:a U M):EndN.nx ⟨a,d,b,c,q⟩ U M:=h
def xR{q:QX}{a b c:ag->Sto->Prop}{d:D->Sto->Prop}{x:D}(h:d x M):EndN.rt ⟨a,d,b,c,q⟩ x M:=h
def nG{α:Type}{body:D->NTS}(enc:α->D)(xs:List α)(I:Nat->ag->Sto->Prop)(h0:I 0 U M)(he:∀U M,I xs.length U M->E.nx U M)(hs:∀k (hk:k<xs.length) U M,I k U M->∀N:ag->Sto->Prop,(∀U M,I (k+1) U M->N U M)->body (enc xs[k]) {E with nx:=N,ct:=N,bk:=E.nx} U M):cB body (xs.map enc) E U M:=by
 have gen:∀(m k:Nat),m=xs.length-k->k<=xs.length->∀U M,I k U M->cB body ((xs.drop k).map enc) E U M:=by
  intro m
  induction m with
  | zero=>
    intro k hm hk U M h;have:k=xs.length:=by ext
    subst this;rw[z7q];exact he U M h
  | succ m ih=>
    intro k hm hk U M h;have hlt:k<xs.length:=by ext
    rw[z9v hlt,z9n];exact hs k hlt U M h _ λU M z=>ih (k+1) ∅ hlt U M z
 simpa using gen xs.length 0 (by simp) (z7a _) U M h0
def iK{α:Type}{ρb:ag}(enc:α->D)(xs:List α)(I:Nat->n_->Sto->Prop)(h0:I 0 [] M)(he:∀ds M,I xs.length ds M->QL ds M)(hs:∀k (hk:k<xs.length) ds M,I k ds M->∀N:QE,(∀d M1,I (k+1) (ds++[d]) M1->N d M1)->ta (ρb.set 0 (some (enc xs[k]))) M N):dt 1 ta ρb (xs.map enc) [] M QL:=by
 have gen:∀(m k:Nat),m=xs.length-k->k<=xs.length->∀ds M,I k ds M->dt 1 ta ρb ((xs.drop k).map enc) ds M QL:=by
  intro m
  induction m with
  | zero=>
    intro k hm hk ds M h;have:k=xs.length:=by ext
    subst this;rw[z7q];exact he ds M h
  | succ m ih=>
    intro k hm hk ds M h;have hlt:k<xs.length:=by ext
    rw[z9v hlt,z9n];exact hs k hlt ds M h _ λd M1 z=>ih (k+1) ∅ hlt (ds++[d]) M1 z
 simpa using gen xs.length 0 (by simp) (z7a _) [] M h0
end
def IO{K:D->Prop}(h:K (.bl true)):W1 cX .non K:=⟨_,rfl,h⟩
def IP{K:D->Prop}{i:Int}(h:K (.bl false)):W1 cX (.int i) K:=⟨_,rfl,h⟩
def IQ{K:D->Prop}(h:K (.bl false)):W1 cX (.tup ds) K:=⟨_,rfl,h⟩
def IR{K:D->Prop}(h:K (.bl false)):W1 dJ .non K:=⟨_,rfl,h⟩
def IS{K:D->Prop}{i:Int}(h:K (.bl true)):W1 dJ (.int i) K:=⟨_,rfl,h⟩
def IU{K:D->Prop}{a:Nat}(h:K (.bl false)):W1 cX (.ptr a) K:=⟨_,rfl,h⟩
def IV{K:D->Prop}{a:Nat}(h:K (.bl true)):W1 dJ (.ptr a) K:=⟨_,rfl,h⟩
def Kp(S:Nat->Prop)(M M':Sto):Prop:=∀b c,M b=some c->¬S b->M' b=some c
def Kp.refl:Kp S M M:=λ_ _ h _=>h
def Kp.trans{S':Nat->Prop}{M1 M2:Sto}(a:Kp S M M1)(b:Kp S' M1 M2)(h:∀x,S' x->M x≠none->S x):Kp S M M2:=λx c e n=>b x c (a x c e n) λz=>n (h x z (by rw[e];exact λq=>nomatch q))
def Kp.upd{a:Nat}{c:Cell}(h:S a\/M a=none):Kp S M (aB M a c):=λb d e n=>by
 by_cases q:b=a
 ·subst q;rcases h with h|h
  ·exact absurd h n
  ·rw[h]at e;cases e
 ·rw[aH q];exact e
def Kp.del{a:Nat}(h:S a):Kp S M (eg M a):=λb d e n=>by
 have ne:b≠a:=λq=>n (by rw[q];exact h)
 rw[qP ne];exact e
noncomputable def tx(x:Str):y9:=x.cps.toList
noncomputable def mkT(l:y9):Str:=⟨l.toArray⟩
def aM(l:y9):tx (mkT l)=l:=rfl
def iL(x:Str):mkT (tx x)=x:=rfl
def cL:D->D->o_
 |.str x,.str y=>if(tx x).length+(tx y).length<=100000 then some (.str (mkT (tx x++tx y)))else none
 |_,_=>none
def jE:D->o_
 |.str x=>if(tx x).length<=100000 then some (.int (tx x).length)else none
 |_=>none
def ixT:D->D->o_
 |.str x,.int i=>if(tx x).length<=100000 then(atI (tx x) i).map λc=>.str (mkT [c])else none
 |_,_=>none
noncomputable def eh:j_->Bool
 |none=>true
 |some i=>decide (0<=i)
noncomputable def ck(l:y9)(lo hi:j_):y9:=(l.take ((hi.getD (l.length:Int)).toNat)).drop ((lo.getD 0).toNat)
def slT(x:D)(lo hi:j_):o_:=match x with
 |.str x=>if eh lo=true/\eh hi=true/\(tx x).length<=100000 then some (.str (mkT (ck (tx x) lo hi)))else none
 |_=>none
def iM(f:FE)(fl fh:FO):FE:=λU=>(f U).bind λd=>(fl U).bind λl=>(fh U).bind λh=>slT d l h
noncomputable def fQ:y9->y9->Bool
 |[],y=>y.isEmpty
 |a::x,y=>y.isPrefixOf (a::x)||fQ x y
def inT:D->D->o_
 |.str y,.str x=>some (.bl (fQ (tx x) (tx y)))
 |_,_=>none
noncomputable def bB(c:Nat):y9->List y9
 |[]=>[[]]
 | a::x=>if a=c then []::bB c x else match bB c x with
   |h::t=>(a::h)::t
   |[]=>[[a]]
def nH:D->D->o_
 | .str x,.str y=>match tx y with
   |[c]=>if(tx x).length<=10000 then some (.lst ((bB c (tx x)).map λl=>.str (mkT l)))else none
   |_=>none
 |_,_=>none
noncomputable def bh(s:y9):List y9->y9
 |[]=>[]
 |[a]=>a
 |a::b::r=>a++s++bh s (b::r)
noncomputable def hU:n_->Option (List y9)
 |[]=>some []
 |.str x::r=>(hU r).map (tx x::·)
 |_::_=>none
def eV:D->D->o_
 |.str s,.lst ds=>(hU ds).bind λls=>if(ls.map List.length).sum+ls.length*(tx s).length<=100000 then some (.str (mkT (bh (tx s) ls)))else none
 |_,_=>none
noncomputable def digs(n:Nat):y9:=if n<10 then [48+n]else digs (n / 10)++[48+n % 10]
decreasing_by ext
noncomputable def cC(l:y9):Nat:=l.foldl (λv c=>10*v+(c-48)) 0
def jF:D->o_
 |.str x=>if cC (tx x)<1000000000/\digs (cC (tx x))=tx x then some (.int (cC (tx x):Nat))else none
 |_=>none
def nI(f:FE):FEs:=λU=>(f U).bind λd=>match d with
 |.str x=>if(tx x).all (λc=>decide (c<128))=true/\(tx x).length<=100000 then some ((tx x).map λc=>.str (mkT [c]))else none
 |_=>none
def okF(d:D):Prop:=∃z,d=.str z/\(tx z).all (λc=>decide (c<128))=true/\(tx z).length<=10000
def jG(x:Str)(fe:FE):NTS:=λE U M=>x∈XS/\WE fe U okF/\E.ex x M
theorem rG(s a:y9):∀(r:List y9),bh s (a::r)=a++(r.map (s++·)).flatten
 |[]=>by simp[bh]
 |b::r=>by rw[bh,rG s b r];simp
theorem xS(c:Nat):∀(l:y9),bh [c] (bB c l)=l/\(∀q∈bB c l,c∉q)/\bB c l≠[]
 |[]=>by simp[bB,bh]
 | a::x=>by
   obtain⟨h1,h2,h3⟩:=xS c x;unfold bB;by_cases e:a=c
   ·subst e
    rw[if_pos rfl];refine⟨?_,λq hq=>?_,λz=>nomatch z⟩
    ·cases hs:bB a x with
     |nil=>exact absurd hs h3
     |cons y r=>rw[bh,<- hs,h1];rfl
    ·rcases z9j.mp hq with rfl|hq
     ·exact z7r
     ·exact h2 q hq
   ·rw[if_neg e]
    cases hs:bB c x with
    |nil=>exact absurd hs h3
    | cons y r=>
      rw[hs]at h1 h2;refine⟨?_,λq hq=>?_,λz=>nomatch z⟩
      ·rw[rG]at h1 ⊢
       rw[z6e,h1]
      ·rcases z9j.mp hq with rfl|hq
       ·intro z
        rcases z9j.mp z with z|z
        ·exact e z.symm
        ·exact h2 y z9a z
       ·exact h2 q (z9d _ hq)
theorem xT(c:Nat):∀(l:y9),(bB c l).length<=l.length+1
 |[]=>by simp[bB]
 | a::x=>by
   have ih:=xT c x;unfold bB;split
   ·simp;ext
   ·cases hs:bB c x with
    |nil=>simp
    |cons y r=>rw[hs]at ih;simp at ih ⊢;ext
section
variable {K:D->Prop}{y:Str}{a:FE}{lo hi:FO}
def IW(hl:(tx x).length+(tx y).length<=100000)(h:K (.str (mkT (tx x++tx y)))):W2 cL (.str x) (.str y) K:=⟨_,by simp only[cL,if_pos hl],h⟩
def IY(hl:(tx x).length<=100000)(h:K (.int (tx x).length)):WF (ar jE) [.str x] K:=⟨_,by simp only[ar,jE,if_pos hl],h⟩
def nJ{i:Int}{c:Nat}(hl:(tx x).length<=100000)(e:atI (tx x) i=some c)(h:K (.str (mkT [c]))):W2 ixT (.str x) (.int i) K:=⟨_,by simp only[ixT,if_pos hl,e,z8z],h⟩
def IZ(h:WE a U λd=>WO lo U λl=>WO hi U λu=>∃z,d=.str z/\(eh l=true/\eh u=true/\(tx z).length<=100000)/\K (.str (mkT (ck (tx z) l u)))):WE (iM a lo hi) U K:=by obtain⟨d,e1,l,e2,u,e3,z,rfl,hc,k⟩:=h;exact⟨_,by simp only[iM,e1,e2,e3,z9g,slT,if_pos hc],k⟩
def Ja(h:K (.bl (decide (x=y)))):W2 eqD (.str x) (.str y) K:=⟨_,rfl,h⟩
def Jb(h:K (.bl (!decide (x=y)))):W2 neD (.str x) (.str y) K:=⟨_,rfl,h⟩
def Jc(h:K (.bl (fQ (tx y) (tx x)))):W2 inT (.str x) (.str y) K:=⟨_,rfl,h⟩
theorem xU:∀(ls:List y9),hU (ls.map λl=>D.str (mkT l))=some ls
 |[]=>rfl
 |l::r=>by simp only[z9n,hU,xU r,z8z,aM]
def jH{s:Str}{ls:List y9}(hl:(ls.map List.length).sum+ls.length*(tx s).length<=100000)(h:K (.str (mkT (bh (tx s) ls)))):W1 (eV (.str s)) (.lst (ls.map λl=>.str (mkT l))) K:=
 ⟨_,by simp only[eV,xU,z9g,if_pos hl],h⟩
def Jd(h1:cC (tx x)<1000000000)(h2:digs (cC (tx x))=tx x)(h:K (.int (cC (tx x):Nat))):WF (ar jF) [.str x] K:=⟨_,by simp only[ar,jF];rw[if_pos ⟨h1,h2⟩],h⟩
def Je{c:Nat}(hl:(tx x).length<=10000)(h:K (.lst ((bB c (tx x)).map λl=>.str (mkT l)))):W1 (λd=>nH d (.str (mkT [c]))) (.str x) K:=⟨_,by simp only[nH,aM];rw[if_pos hl],h⟩
def Jf{K:n_->Prop}{f:FE}(h:WE f U λd=>∃z,d=.str z/\((tx z).all (λc=>decide (c<128))=true/\(tx z).length<=100000)/\K ((tx z).map λc=>.str (mkT [c]))):WI (nI f) U K:=by obtain⟨d,e,z,rfl,hc,k⟩:=h;exact⟨_,by simp only[nI,e,z9g];rw[if_pos hc],k⟩
end
section
variable {E:EndN}
def rH(hx:x∈XS)(h:WE fe U okF)(he:E.ex x M):jG x fe E U M:=⟨hx,h,he⟩
end
end VL
namespace VL
open PySem PySem.Spec PyProof.Rows L2
def xV{α:Type}{c:Prop}[Decidable c]{a:Option α}{b:α}(h:(if c then a else none)=some b):c/\a=some b:=by
 by_cases q:c
 ·rw[if_pos q]at h;exact⟨q,h⟩
 ·rw[if_neg q]at h;cases h
def ln(i j:Str):i++j=mkT (tx i++tx j):=by show(⟨i.cps++j.cps⟩:Str)=⟨(i.cps.toList++j.cps.toList).toArray⟩;congr 1;simp
def cg(i:Str):i.length=(tx i).length:=by simp[Str.length,tx]
section
variable {tb:NTE}
def xW{y:Str}{t:Tok}(hm:X.mg x=some (.str y t))(hg:Gl X x<|>J7)(hd:DB x<|>J8):JE X (.Name x pos) (eC (.str y)) []:=
 ⟨jb (tO (v:=.str y) hg hm ⟨t,rfl⟩ hd) λ_=>.str y⟩
def Jg:R2:=λx y H Q=>∃i j,x=.str i/\y=.str j/\i.length+j.length<=sizeLine/\Q (.str (i++j)) H
def xX(K:K0):OpV K Jg cL:=by
 intro x y H dx dy d Q rx ry hg hQ;cases dx with
 | str i=>
   cases dy with
   |str j=>obtain⟨hl,rfl⟩:=bP hg;cases rx;cases ry;refine⟨i,j,rfl,rfl,by rw[cg,cg];exact dQ hl,?_⟩;rw[ln];exact hQ _ H (Same.refl _) (.str _) λ_ _ _ _=>.str _
   |_=>cases hg
 |_=>cases hg
def Jh(x y d:D)(h:cL x y=some d):aW d=true:=by
 cases x with
 | str i=>
   cases y with
   |str j=>obtain⟨_,rfl⟩:=bP h;rfl
   |_=>cases h
 |_=>cases h
def eW(ha:JE X a fa ea)(hb:JE X b fb eb):JE X (.BinOp a .Add b pos) (e2 cL fa fb) []:=⟨jd (v9 uk (xX X.K) ha.h hb.h) (ma Jh fa fb)⟩
def xY(ha:YE X a ta)(hb:YE X b tb):YE X (.BinOp a .Add b pos) (n2 cL ta tb):=⟨nw uk (xX X.K) ha.h hb.h⟩
def xZ(K:K0):OpV K uE ixT:=by
 intro x y H dx dy d Q rx ry hg hQ;cases dx with
 | str i=>
   cases dy with
   | int j=>
     obtain⟨hl,hg⟩:=xV hg;cases e:atI (tx i) j with
     |none=>rw[e]at hg;cases hg
     |some c=>rw[e]at hg;cases hg;cases rx;cases ry;exact⟨i,j,c,rfl,rfl,by rw[cg];exact dQ hl,e,hQ _ H (Same.refl _) (.str _) λ_ _ _ _=>.str _⟩
   |_=>cases hg
 |_=>cases hg
def Ji(x y d:D)(h:ixT x y=some d):aW d=true:=by
 cases x with
 | str i=>
   cases y with
   | int j=>
     obtain⟨_,h⟩:=xV h;cases e:atI (tx i) j with
     |none=>rw[e]at h;cases h
     |some c=>rw[e]at h;cases h;rfl
   |_=>cases h
 |_=>cases h
def rJ(ha:JE X a fa ea)(hb:JE X b fb eb)(hs:j6 b):JE X (.Subscript a b pos) (e2 ixT fa fb) []:=
 ⟨jd (es:=ea++eb) (cV (kg uF ha.h hb.h hs) λ_ _ _ h=>m9 (xZ X.K) h) (ma Ji fa fb)⟩
def Jj(ha:YE X a ta)(hb:YE X b tb)(hs:j6 b):YE X (.Subscript a b pos) (n2 ixT ta tb):=
 ⟨cV (kg uF ha.h hb.h hs) λ_ _ _ h=>nv (xZ X.K) h⟩
def ya{o:j_}{d:Int}(h:eh o=true)(hd:d=0\/d=n):(match o with|none=>d|some i=>max 0 (min (if i<0 then i+(n:Int)else i) (n:Int)))=((min (o.getD d).toNat n:Nat):Int):=by
 cases o with
 |none=>rcases hd with rfl|rfl<;>simp
 |some i=>have h0:0<=i:=z6o h;simp only[z7b];rw[if_neg ∅];ext
def rK{lo hi:j_}(h1:eh lo=true)(h2:eh hi=true):Builtin.Str.strSliceIndices lo hi 1 n=sliceRange ((min (lo.getD 0).toNat n:Nat):Int) ((min (hi.getD (n:Int)).toNat n:Nat):Int) 1:=by unfold Builtin.Str.strSliceIndices;have e1:=ya (n:=n) (d:=0) h1 (.inl rfl);have e2:=ya (n:=n) (d:=(n:Int)) h2 (.inr rfl);rw[<- e1,<- e2];cases lo<;>cases hi<;>rfl
def Jk{a b n:Nat}(h:b<a):sliceRange (a:Int) (b:Int) 1=[]:=by
 unfold sliceRange;have:¬((a:Int)<b):=by ext
 simp[this]
def Jl(z:Str){lo hi:j_}(h1:eh lo=true)(h2:eh hi=true):List.filterMap (λi=>z.cps[i]?) (Builtin.Str.strSliceIndices lo hi 1 z.length)=ck (tx z) lo hi:=by
 rw[rK h1 h2];have ec:ck (tx z) lo hi=List.drop (min (lo.getD 0).toNat z.length) (List.take (min (hi.getD (z.length:Int)).toNat z.length) (tx z)):=by
  unfold ck;rw[cg];have e1:List.take (min (hi.getD ((tx z).length:Int)).toNat (tx z).length) (tx z)=List.take (hi.getD ((tx z).length:Int)).toNat (tx z):=by
   rcases Nat.le_total (hi.getD ((tx z).length:Int)).toNat (tx z).length with h|h
   ·rw[z5o h]
   ·rw[Nat.min_eq_right h,z7l (z9i _),z7l h]
  rw[e1];rcases Nat.le_total (lo.getD 0).toNat (tx z).length with h|h
  ·rw[z5o h]
  ·rw[Nat.min_eq_right h,z7d (by rw[z8j];ext),z7d (by rw[z8j];ext)]
 rw[ec];by_cases hab:min (lo.getD 0).toNat z.length<=min (hi.getD (z.length:Int)).toNat z.length
 ·have e3:=StrLaws.sliced_plain z hab (z4a _ _)
  have e4:=rK (lo:=some ((min (lo.getD 0).toNat z.length:Nat):Int)) (hi:=some ((min (hi.getD (z.length:Int)).toNat z.length:Nat):Int)) (n:=z.length) (by simp[eh]) (by simp[eh]);simp only[z7b,z8f]at e4;rw[z5o (z4a _ _),z5o (z4a _ _)]at e4;rw[e4]at e3;rw[e3,List.drop_take];rfl
 ·rw[Jk (n:=z.length) ∅,z7d (by rw[z8j];ext)]
  rfl
def Jm:V->j_->j_->Hp->VK->Prop:=λx lo hi H Q=>∃z,x=.str z/\eh lo=true/\eh hi=true/\z.length<=sizeLine/\Q (.str (mkT (ck (tx z) lo hi))) H
def yb{v:Value}{o:j_}(h:IsPart v o):∃l:Option (Int×Tok),v=partValue l/\l.map (·.1)=o:=by
 cases h with
 |none=>exact⟨none,rfl,rfl⟩
 |int i t=>exact⟨some (i,t),rfl,rfl⟩
def Jn(l:y9)(lo hi:j_):(ck l lo hi).length<=l.length:=by unfold ck;rw[z7p,z8j];ext
def yc:SlR X Jm:=by
 intro G_ s σ H x v vl vu lo hi sl Q I rx hs pl pu h;obtain⟨z,rfl,h1,h2,hz,q⟩:=h;obtain⟨t,rfl⟩:=rx;obtain⟨l,rfl,el⟩:=yb pl;obtain⟨u,rfl,eu⟩:=yb pu;refine⟨"str",_,slot_str_getitem.lookup,z4k s z t,?_⟩;have hs':s.heap.IsSlice sl l u none:=hs;refine wpAny_getItem_str_slice hs' rfl ?_;have ep:slicePicked z l u none=Builtin.Str.strSliceIndices lo hi 1 z.length:=by unfold slicePicked;rw[<- el,<- eu];rfl
 have e:=Jl z h1 h2;unfold sliceMade;rw[ep];split
 ·rename_i hc
  have hl:(Builtin.Str.strSliceIndices lo hi 1 z.length).length=z.length:=by simpa using hc
  have e2 : ck (tx z) lo hi=tx z:=by
   have hl2:(ck (tx z) lo hi).length=(tx z).length:=by
    rw[<- e];have:∀i∈Builtin.Str.strSliceIndices lo hi 1 z.length,z.cps[i]?≠none:=λi hi'=>by
     rw[rK h1 h2]at hi';unfold sliceRange at hi';simp only[z7c,z7e]at hi';obtain⟨k,hk,rfl⟩:=hi';split at hk
     ·split at hk
      ·have:((min (lo.getD 0).toNat z.length:Nat)+1*(k:Int)).toNat<z.cps.size:=by have e0:z.length=z.cps.size:=rfl;rw[<- e0];ext
       rw[Array.getElem?_eq_getElem this];exact λq=>nomatch q
      ·simp at hk
     ·ext
    have fl:∀(is:y9),(∀i∈is,z.cps[i]?≠none)->(List.filterMap (λi=>z.cps[i]?) is).length=is.length:=by
     intro is
     induction is with
     |nil=>intro _;rfl
     | cons i r ih=>
       intro hh;cases ei:z.cps[i]? with
       |none=>exact absurd ei (hh i z9a)
       |some w=>rw[z5k,ei];simp[ih λj hj=>hh j (z9d _ hj)]
    rw[fl _ this,hl,cg]
   unfold ck at hl2 ⊢;rw[z7p,z8j]at hl2;by_cases h0:tx z=[]
   ·rw[h0];simp
   ·have hp:0<(tx z).length:=List.length_pos_iff.mpr h0
    have ed:(lo.getD 0).toNat=0:=by ext
    rw[ed,z6s,z7l ∅]
  rw[e2,iL]at q;exact⟨.str z,H,I,⟨t,rfl⟩,q⟩
 ·rw[e]
  exact⟨by rw[cg];exact z7u (Jn _ _ _) (by rw[<- cg];exact hz),.str _,H,I.tok _,⟨_,rfl⟩,q⟩
theorem nK{lo:Option Expr}(ha:JE X a fa ea)(hl:JO X lo flo)(hh:JO X hi fhi):JE X (.Subscript a (.Slice lo hi none p2) pos) (iM fa flo fhi) []:=
 ⟨cV (lV yc ha.h hl.h hh.h) λσ H Q y0=>by
  obtain⟨U,d,hE,hf,hQ⟩:=y0;obtain⟨dx,h1,hf⟩:=bind_some hf;obtain⟨l,h2,hf⟩:=bind_some hf;obtain⟨h,h3,hf⟩:=bind_some hf;refine⟨U,dx,hE,h1,λx H1 p1=>⟨U,l,hE.mono p1.same,h2,λH2 e2=>⟨U,h,hE.mono (p1.same.trans e2),h3,λH3 e3=>?_⟩⟩⟩;cases dx with
  |str z=>obtain⟨hc,rfl⟩:=bP hf;cases p1.rep;exact⟨z,rfl,hc.1,hc.2.1,by rw[cg];exact dQ hc.2.2,hQ _ H3 ⟨p1.same.trans (e2.trans e3),.str _,λ_ _ _=>.str _⟩⟩
  |_=>cases hf⟩
end
theorem yd:∀(x y:y9),fQ x y=true↔∃i,i+y.length<=x.length/\(x.drop i).take y.length=y
 | [],y=>by
   unfold fQ;cases y with
   |nil=>simp
   |cons c r=>simp
 | a::x,y=>by
   unfold fQ;rw[Bool.or_eq_true,yd x y,List.isPrefixOf_iff_prefix];constructor
   ·rintro(⟨t,ht⟩|⟨i,h1,h2⟩)
    ·refine⟨0,?_,?_⟩
     ·rw[<- ht,z9h];ext
     ·rw[z6s,<- ht,List.take_left]
    ·exact⟨i+1,by rw[z9e];ext,by rw[z6x];exact h2⟩
   ·rintro⟨i,h1,h2⟩
    cases i with
    |zero=>left;rw[z6s]at h2;exact⟨_,by rw[<- h2];exact List.take_append_drop y.length (a::x)⟩
    |succ i=>right;exact⟨i,by rw[z9e]at h1;ext,by rw[z6x]at h2;exact h2⟩
def Jo(j i:Str):(!(Builtin.Str.occurrences j i 0 j.length 1).isEmpty)=fQ (tx j) (tx i):=by
 rw[z4n,StrLaws.found_iff,yd];have e:∀k,(Builtin.Str.subAt j i k=true)↔(((tx j).drop k).take (tx i).length=tx i):=λk=>by
  unfold Builtin.Str.subAt;rw[z7n];constructor
  ·intro h
   have h2:=z8w Array.toList h;rw[Array.toList_extract,List.extract_eq_drop_take]at h2;rw[cg,Nat.add_sub_cancel_left]at h2;exact h2
  ·intro h
   apply Array.ext';rw[Array.toList_extract,List.extract_eq_drop_take,cg,Nat.add_sub_cancel_left];exact h
 constructor
 ·rintro⟨k,h1,h2⟩
  exact⟨k,by rw[<- cg,<- cg];exact h1,(e k).mp h2⟩
 ·rintro⟨k,h1,h2⟩
  exact⟨k,by rw[cg,cg];exact h1,(e k).mpr h2⟩
def Jp:R2:=λx y H Q=>∃i j,x=.str i/\y=.str j/\Q (.bl (!(Builtin.Str.occurrences j i 0 j.length 1).isEmpty)) H
def Jq(K:K0):OpV K Jp inT:=by
 intro x y H dx dy d Q rx ry hg hQ;cases dx with
 | str i=>
   cases dy with
   |str j=>cases hg;cases rx;cases ry;refine⟨i,j,rfl,rfl,?_⟩;rw[Jo];exact hQ _ H (Same.refl _) (.bl _) λ_ _ _ _=>.bl _
   |_=>cases hg
 |_=>cases hg
def Jr(x y d:D)(h:inT x y=some d):aW d=true:=by
 cases x with
 | str i=>
   cases y with
   |str j=>cases h;rfl
   |_=>cases h
 |_=>cases h
def Js(ha:JE X a fa ea)(hb:JE X b fb eb)(hm:behindInMarks .In b=false<|>Q3):JE X (.Compare a [.In] [b] pos) (e2 inT fa fb) []:=⟨jh C9 (Jq X.K) ha.h hb.h hm Jr⟩
def Jt:fH X.K (λxs H Q=>∃z,xs=[.str z]/\z.length<=sizeLine/\Q (.int z.length) H) (ar jE):=by
 intro xs H ds d Q r hg hQ;obtain⟨x,rfl,hg1⟩:=gL hg;obtain⟨v,rfl,r1⟩:=f9 r;cases x with
 |str z=>obtain⟨hl,rfl⟩:=bP hg1;cases r1;exact⟨z,rfl,by rw[cg];exact dQ hl,hQ _ λH'=>by rw[cg];exact .int _⟩
 |_=>cases hg1
def ye(ml:X.mg "len"=none)(ha:JA X [a] as es)(hg:Gl X "len"<|>J7)(he:SE a [] X<|>J7)(hpl:BT pos [] X<|>J7):
  JE X (.Call (.Name "len" p) [a] [] pos) (eA (ar jE) as) []:=⟨jn CU Jt ml PySem.boot_len ha.h hg (by decide) (by decide) he hpl⟩
def Ju(n:Nat):digs n=(Nat.toDigits 10 n).map Char.toNat:=by
 induction n using digs.induct with
 | case1 n h=>
   rw[digs,if_pos h,Nat.toDigits_of_lt_base h];have:∀m<10,[48+m]=List.map Char.toNat [m.digitChar]:=by decide
   exact this n h
 | case2 n h ih=>
   have e:=Nat.toDigits_of_base_le (b:=10) (n:=n) ∅ ∅;rw[digs,if_neg h,ih,e,z8g];have:∀m<10,[48+m]=List.map Char.toNat [m.digitChar]:=by decide
   rw[this (n % 10) (Nat.mod_lt _ ∅)]
def rL(n:Nat):Str.ofString (toString (n:Int))=mkT (digs n):=by rw[Ju,<- W.KIN.signs_num];rfl
def Jv:di X (.type "int") (λxs H Q=>∃n:Nat,xs=[.str (mkT (digs n))]/\n<1000000000/\Q (.int n) H):=by intro G_ s σ H xs us Q I r h;obtain⟨n,rfl,hn,q⟩:=h;obtain⟨u,rfl,t,rfl⟩:=dH r;rw[<- rL];exact W.KIN.call_num ∅ ∅ ⟨.int n,H,I.tok _,⟨_,rfl⟩,q⟩
def Jw:fH X.K (λxs H Q=>∃n:Nat,xs=[.str (mkT (digs n))]/\n<1000000000/\Q (.int n) H) (ar jF):=by
 intro xs H ds d Q r hg hQ;obtain⟨x,rfl,hg1⟩:=gL hg;obtain⟨v,rfl,r1⟩:=f9 r;cases x with
 |str z=>obtain⟨hl,rfl⟩:=bP hg1;cases r1;refine⟨cC (tx z),?_,hl.1,hQ _ λH'=>.int _⟩;rw[hl.2,iL]
 |_=>cases hg1
def Jx(mi:X.mg "int"=none)(ha:JA X [a] as es)(hg:Gl X "int"<|>J7)(he:SE a [] X<|>J7)(hpl:BT pos [] X<|>J7):
  JE X (.Call (.Name "int" p) [a] [] pos) (eA (ar jF) as) []:=
 ⟨cV (gD Jv hg mi (by decide +kernel) ha.h (by decide) (by decide) he hpl) λσ H Q y0=>by obtain⟨U,d,hE,hf,hQ⟩:=y0;obtain⟨ds,h1,hf⟩:=bind_some hf;exact⟨U,ds,hE,h1,λvs H1 p=>Jw vs H1 ds d _ p.rep hf λv hr=>hQ v H1 ⟨p.same,hr _,λ_ _ _=>hr _⟩⟩⟩
theorem yf(g:Array Nat):∀(ps:z0) (acc:Array Nat),(List.foldl (λacc p=>acc++g++p.cps) acc ps).toList=acc.toList++(ps.map λp=>g.toList++tx p).flatten
 |[],acc=>by simp
 |x::r,acc=>by rw[List.foldl_cons,yf g r];simp[tx]
def Jy(s:Str)(ys:z0):Txt.join s ys=mkT (bh (tx s) (ys.map tx)):=by
 show(⟨_⟩:Str)=⟨_⟩;congr 1;apply Array.ext';rw[yf];cases ys with
 |nil=>rfl
 |cons y r=>rw[z9n,rG];simp only[z4o,z6x,z6s,z7h];rfl
theorem yg:∀{ss:z0} {its:z5},Vals (ss.map V.str) its->StrsAre its ss
 |[],its,r=>by cases r;exact .nil
 | x::ss,its,r=>by
   cases r with
   |cons h t=>obtain⟨k,rfl⟩:=h;exact .cons x k (yg t)
def Jz:V->l_->Hp->VK->Prop:=λx xs H Q=>∃s l ss,x=.str s/\xs=[.ref l]/\Rd H l (.lst (List.map V.str ss))/\((ss.map λx=>(tx x).length).sum+ss.length*(tx s).length<=100000)/\Q (.str (mkT (bh (tx s) (ss.map tx)))) H
def yh:MtR X "str.join" Jz:=by
 intro G_ s σ H x xs v us Q I rx r h;obtain⟨z,l,ss,rfl,rfl,hH,hb,q⟩:=h;obtain⟨t,rfl⟩:=rx;obtain⟨u,rfl,ru⟩:=dH r;cases ru;obtain⟨_,its,n,rv,_,e⟩:=pP I hH;refine join_list (D:=l) (items:=its.toArray) (ys:=ss) ⟨_,e,rfl,n,rfl⟩ (yg rv) ?_ λt' k=>?_
 ·have:ss.map (λx=>x.length)=ss.map λx=>(tx x).length:=z6c λx _=>cg x
  rw[this,cg];ext
 ·rw[Jy]
  exact⟨.str _,H,I.tok k,⟨_,rfl⟩,q⟩
theorem yi{K:K0}{H:Hp}:∀{ds:n_} {ls:List y9} {xs:l_},hU ds=some ls->Reps K H xs ds->∃ss:z0,xs=ss.map V.str/\ls=ss.map tx
 |[],ls,xs,h,r=>by cases h;cases r;exact⟨[],rfl,rfl⟩
 | .str y::ds,ls,xs,h,r=>by
   cases e:hU ds with
   |none=>simp only[hU,e]at h;cases h
   | some l2=>
     simp only[hU,e]at h;cases h;cases r with
     |cons h1 h2=>obtain⟨ss,rfl,rfl⟩:=yi e h2;cases h1;exact⟨y::ss,rfl,rfl⟩
def yj{s:Str}{dx:D}(r:Rep K H v dx)(h:eV (.str s) dx=some d):∃l ss z,v=.ref l/\Rd H l (.lst (List.map V.str ss))/\((ss.map λx=>(tx x).length).sum+ss.length*(tx s).length<=100000)/\d=.str z/\z=mkT (bh (tx s) (ss.map tx)):=by
 cases dx with
 |lst ds=>obtain⟨ls,h1,h2⟩:=bind_some h;obtain⟨hb,rfl⟩:=bP h2;obtain⟨l,xs,rfl,hl,hx,_⟩:=gJ r;obtain⟨ss,rfl,rfl⟩:=yi h1 hx;refine⟨l,ss,_,rfl,hl,?_,rfl,rfl⟩;rw[z7h,z9b]at hb;exact hb
 |_=>cases h
section
variable {s:Str}
theorem lq(ha:YE X a ta)(hbase:attributeBase (.Constant (.str s) j p1) "join" X.env (eval (.Constant (.str s) j p1) X.env)=eval (.Constant (.str s) j p1) X.env<|>J7)(hfew:(((backTo cp (starEach [a] X.env)).all (λx=>!x.1)&&(backToKw cp (keywordEach [] X.env)).all (λx=>x.1.isSome)&&decide ([a].length+([]:z8).length+(if([]:z8).isEmpty then 0 else 1)<30))=true)<|>J7)(hline:(ap.endLine==cp.line)=true<|>J7)(hs:SE a [] X<|>J7)(hplain:BT cp [] X<|>J7):
  YE X (.Call (.Attribute (.Constant (.str s) j p1) "join" ap) [a] [] cp) (n1 (eV (.str s)) ta):=
 ⟨bA (ib F.plainAttrs_str F.slot_str_join F.type_str_join yh fv (bM ha.h c7 hs) hbase hfew hline hs hplain) λσ H Q U M QW hE ht hQ=>⟨rfl,U,M,_,hE,ht,λdx M1 y0 x H1 p1=>by obtain⟨d,hf,h1⟩:=y0;obtain⟨l,ss,z,rfl,hl,hb,rfl,rfl⟩:=yj (au (aP _ _) p1.rep) hf;exact⟨s,l,ss,rfl,rfl,hl,hb,hQ _ M1 h1 _ H1 ⟨p1.toPostT,.str _⟩⟩⟩⟩
end
theorem yk(c:Nat):∀(n:Nat) {p q:List y9},p.length+q.length<=n->p≠[]->q≠[]->(∀y∈p,c∉y)->(∀y∈q,c∉y)->bh [c] p=bh [c] q->p=q
 |n,[],_,_,h,_,_,_,_=>absurd rfl h
 |n,_,[],_,_,h,_,_,_=>absurd rfl h
 |n,[a],[b],_,_,_,_,_,e=>by rw[bh,bh]at e;rw[e]
 |n,[a],b::b2::r,_,_,_,ha,_,e=>by rw[bh,bh]at e;exact absurd (by rw[e];simp) (ha a z9a)
 |n,a::a2::r,[b],_,_,_,_,hb,e=>by rw[bh,bh]at e;exact absurd (by rw[<- e];simp) (hb b z9a)
 |0,a::a2::r,b::b2::r2,h,_,_,_,_,_=>by simp at h
 | n + 1,a::a2::r,b::b2::r2,h,_,_,ha,hb,e=>by
   rw[bh,bh,z6i,z6i]at e;have key:∀{u v s t:y9},c∉u->c∉v->u++([c]++s)=v++([c]++t)->u=v/\s=t:=by
    intro u
    induction u with
    | nil=>
      intro v s t _ hv e;cases v with
      |nil=>simp at e;exact⟨rfl,e⟩
      |cons w v=>simp at e;exact absurd (by rw[e.1];exact z9a) hv
    | cons w u ih=>
      intro v s t hu hv e;cases v with
      |nil=>simp at e;exact absurd (by rw[<- e.1];exact z9a) hu
      |cons w2 v=>simp only[z6e,z4p]at e;obtain⟨h1,h2⟩:=ih (λz=>hu (z9d _ z)) (λz=>hv (z9d _ z)) e.2;exact⟨by rw[e.1,h1],h2⟩
   obtain⟨h1,h2⟩:=key (ha a z9a) (hb b z9a) e;have:=yk c n (p:=a2::r) (q:=b2::r2) (by simp at h ⊢;ext) (by simp) (by simp) (λy hy=>ha y (z9d _ hy)) (λy hy=>hb y (z9d _ hy)) h2;rw[h1,this]
theorem yl(s:Str):∀(ys:z0),tx (s.join ys)=bh (tx s) (ys.map tx)
 |[]=>rfl
 |[a]=>rfl
 |a::b::r=>by rw[join_cons_cons,ln,ln,aM,aM,yl s (b::r),z9n,z9n,z9n];rfl
def JC{c:Nat}:∀{l:y9},c∈l->countIn (PyData.str {cps:=#[c]}) (List.map (λn=>PyData.str {cps:=#[n]}) l)≠0:=by
 have nn:∀(l:List PyData) (x:PyData),0<=countIn x l:=λl x=>by
  induction l with
  |nil=>simp[countIn]
  |cons y r ih=>simp only[countIn];split<;>ext
 intro l h
 induction l with
 |nil=>cases h
 | cons a r ih=>
   rw[z9n];simp only[countIn];rcases z9j.mp h with rfl|h
   ·rw[if_pos (by simp[PySem.Spec.same])]
    have:=nn (List.map (λn=>PyData.str {cps:=#[n]}) r) (PyData.str {cps:=#[c]});ext
   ·have h1:=ih h
    have h2:=nn (List.map (λn=>PyData.str {cps:=#[n]}) r) (PyData.str {cps:=#[c]});split<;>ext
def ym(x:Str)(c:Nat):(Txt.split x ⟨#[c]⟩).map tx=bB c (tx x):=by
 have h:=split_closes x c;rw[z8m,z7n,z9y]at h;obtain⟨h1,h2⟩:=h;obtain⟨g1,g2,g3⟩:=xS c (tx x);refine yk c _ (z9i _) (λz=>?_) g3 (λy hy=>?_) g2 ?_
 ·have:=(fact_split x ⟨#[c]⟩).1
  rw[List.map_eq_nil_iff.mp z]at this;simp at this
 ·obtain⟨q,hq,rfl⟩:=z7c.mp hy
  have h3:=h2 q hq;intro hc;simp only[ne_eq,decide_not,Bool.not_not,decide_eq_true_eq]at h3;exact JC hc h3
 ·rw[g1]
  have:=yl ⟨#[c]⟩ (Txt.split x ⟨#[c]⟩);rw[h1]at this;exact this.symm
def JD:V->l_->Hp->VK->Prop:=λx xs H Q=>∃z c,x=.str z/\xs=[.str ⟨#[c]⟩]/\(tx z).length<=10000/\∀p,H p=none->Q (.ref p) (upd H p (.lst ((bB c (tx z)).map λl=>V.str (mkT l))))
theorem yn:∀(ys:z0) (n:Nat),Vals (ys.map V.str) (strsFrom n ys)
 |[],n=>.nil
 |y::r,n=>.cons ⟨n,rfl⟩ (yn r (n+1))
def JG(x:Str)(c:Nat):(bB c (tx x)).map (λl=>V.str (mkT l))=(Txt.split x ⟨#[c]⟩).map V.str:=by rw[<- ym,z7h];exact z6c λy _=>by show V.str (mkT (tx y))=V.str y;rw[iL]
def JH:MtR X "str.split" JD:=by
 intro G_ s σ H x xs v us Q I rx r h;obtain⟨z,c,rfl,rfl,hz,q⟩:=h;obtain⟨t,rfl⟩:=rx;obtain⟨u,rfl,t',rfl⟩:=dH r;have hl1:(⟨#[c]⟩:Str).length=1:=rfl;have hk:Builtin.Str.strKind z<Builtin.Str.strKind ⟨#[c]⟩->(Builtin.Str.occurrences z ⟨#[c]⟩ 0 z.length (z.length+1)).isEmpty=true\/True:=λ_=>.inr trivial
 have len:(Txt.split z ⟨#[c]⟩).length<=sizeLine:=by have h1:=z8w List.length (ym z c);rw[z9b]at h1;have h2:=xT c (tx z);rw[z7y];ext
 rw[JG]at q;have itself:Txt.split z ⟨#[c]⟩=[z]->wpAny (model X.prog X.w) X.A (call (.builtin "str.split") [.str z t,.str ⟨#[c]⟩ t']) (EP X G_ σ Q) X.xe s\/True:=λ_=>.inr trivial
 by_cases hshort:(decide (z.length<(⟨#[c]⟩:Str).length)||decide (Builtin.Str.strKind z<Builtin.Str.strKind ⟨#[c]⟩))=true
 ·have es:Txt.split z ⟨#[c]⟩=[z]:=by unfold Txt.split;rw[if_pos hshort]
  rw[es]at q;refine z4m z4b (z4k s z t) z3f (z4y _ _) (S:=listOfItself z t) (Meets.of_wp λprog w A R s' hR=>?_) ?_
  ·obtain⟨raising,et⟩:=split_sep_tree z ⟨#[c]⟩ t t'
   rw[et,if_pos hshort];refine z9o (wpAny_rule ?_);refine z9o (wpAny_newList ?_ (by show 1<=sizeLine;decide));exact z8n ⟨_,rfl,hR⟩
  ·exact⟨.ref _,_,I.lnew (t':=s.toks) (ys:=[.str z]) (its:=[.str z t]) (.cons ⟨t,rfl⟩ .nil) (by show 1<=sizeLine;decide),rfl,q _ I.fresh⟩
 ·have hshort':(decide (z.length<(⟨#[c]⟩:Str).length)||decide (Builtin.Str.strKind z<Builtin.Str.strKind ⟨#[c]⟩))=false:=by simpa using hshort
  by_cases hocc:(Builtin.Str.occurrences z ⟨#[c]⟩ 0 z.length (z.length+1)).isEmpty=true
  ·have es:Txt.split z ⟨#[c]⟩=[z]:=by unfold Txt.split;rw[if_neg hshort,if_pos hocc]
   rw[es]at q;exact z4m z4b (z4k s z t) z3f (z4y _ _) (meets_str_split_not_found z ⟨#[c]⟩ t t' hshort' rfl hocc)
    ⟨.ref _,_,I.lnew (t':=s.toks) (ys:=[.str z]) (its:=[.str z t]) (.cons ⟨t,rfl⟩ .nil) (by show 1<=sizeLine;decide),rfl,q _ I.fresh⟩
  ·have es:Txt.split z ⟨#[c]⟩=Builtin.Str.partsBetween z (Builtin.Str.occurrences z ⟨#[c]⟩ 0 z.length (z.length+1)) (⟨#[c]⟩:Str).length:=by unfold Txt.split;rw[if_neg hshort,if_neg hocc]
   rw[es]at q len;refine z4m z4b (z4k s z t) z3f (z4y _ _) (meets_str_split_sep z ⟨#[c]⟩ t t' hshort' rfl (by simpa using hocc) (by rw[cg];exact dQ ∅) len) ?_;exact⟨.ref _,_,I.lnew (t':=_) (yn _ _) (by rw[z9b];exact len),rfl,q _ I.fresh⟩
theorem JJ{s:Str}(ha:JE X a fa ea)(hbase:attributeBase a "split" X.env (eval a X.env)=eval a X.env<|>J7)(hfew:(((backTo cp (starEach [.Constant (.str s) j p1] X.env)).all (λx=>!x.1)&&(backToKw cp (keywordEach [] X.env)).all (λx=>x.1.isSome)&&decide ([Expr.Constant (.str s) j p1].length+([]:z8).length+(if([]:z8).isEmpty then 0 else 1)<30))=true)<|>J7)(hline:(ap.endLine==cp.line)=true<|>J7)(hs:starEach [.Constant (.str s) j p1] X.env=(false,eval (.Constant (.str s) j p1) X.env)::starEach [] X.env<|>J7)(hplain:BT cp [] X<|>J7):
  JF X (.Call (.Attribute a "split" ap) [.Constant (.str s) j p1] [] cp) (e1 (λx=>nH x (.str s)) fa) []:=
 ⟨cV (ib F.plainAttrs_str z4b F.type_str_split JH ha.h (bM fv c7 hs) hbase hfew hline hs hplain) λσ H Q y0=>by
  obtain⟨U,d,hE,hf,hQ⟩:=y0;obtain⟨dx,h1,hf⟩:=bind_some hf;refine⟨U,dx,hE,h1,λx H1 p1=>?_⟩;cases dx with
  | str z=>
    have hf:(match tx s with | [c]=>if(tx z).length<=10000 then some (D.lst ((bB c (tx z)).map λl=>D.str (mkT l)))else none|_=>none)=some d:=hf
    ·set_option tactic.hygienic true in split at hf
     ·rename_i c ec
      obtain⟨hz,rfl⟩:=bP hf;cases p1.rep;have es:s=⟨#[c]⟩:=by rw[<- iL s,ec];rfl
      subst es;refine⟨rfl,z,c,rfl,rfl,hz,λr hr=>hQ _ _ (jk p1.same hr λA hD hz'=>?_)⟩;have gen:∀(ls:List y9) (H':Hp),Reps X.K H' (ls.map λl=>V.str (mkT l)) (ls.map λl=>D.str (mkT l)):=by
       intro ls H'
       induction ls with
       |nil=>exact .nil
       |cons y r ih=>exact .cons (.str _) ih
      exact gen _ _
     ·cases hf
  |_=>cases hf⟩
noncomputable def Its(z:Str):It:=⟨λi _=>i<z.cps.size,λi H x H'=>H'=H/\∃c,z.cps[i]?=some c/\x=.str ⟨#[c]⟩,λi _=>i=z.cps.size⟩
def JK(it:Addr)(z:Str)(t:Tok):Turn P w K tg (Its z) [it] it (λi h=>h.IsStrIter it "str_ascii_iterator" z t i) where
 mem:=by simp
 obj:=λi h st b hb=>by
  have e:b=it:=by simpa using hb
  subst e;obtain⟨o,e,c,d⟩:=st;exact⟨o,e,λv z=>by rw[d]at z;cases z⟩
 keep:=λi h h' st k=>by obtain⟨o,e,c,d⟩:=st;exact⟨o,k it (by simp) o e,c,d⟩
 item:=by
  intro X hP hw hK hc i G_ s σ H E I hf st hg;subst hP hw hK;obtain⟨f0,f1,f2,f3,f4,f5⟩:=hf it (by simp);have W:=Walks.strAscii (prog:=X.prog) (w:=X.w) (I.ok.hd hc) it z t;refine W.item i s _ _ hg st λv h' tk hv st' kk=>?_
  obtain⟨c,u,hc',rfl⟩:=hv;have I1:Inv X G_ σ H {s with heap:=h',toks:=tk}:=I.turned (λb o hb e=>kk b o (by simpa using hb) e) f0 f1 f3 f4 f5;obtain⟨o,e,co,d⟩:=id st';refine⟨_,rfl,j3 (s:={s with heap:=h',toks:=tk}) e co d (by decide) ⟨.str ⟨#[c]⟩,H,I1,⟨u,rfl⟩,⟨rfl,c,hc',rfl⟩,st',λb hb=>(hf b hb).1⟩⟩
 done:=by intro X hP hw hK hc i G_ s σ H E I hf st hg;subst hP hw hK;obtain⟨f0,f1,f2,f3,f4,f5⟩:=hf it (by simp);have W:=Walks.strAscii (prog:=X.prog) (w:=X.w) (I.ok.hd hc) it z t;have hg:i=z.cps.size:=hg;subst hg;exact W.done s _ _ st λh' tk kk=>⟨rfl,I.turned (λb o hb e=>kk b o (by simpa using hb) e) f0 f1 f3 f4 f5⟩
 self:=λ_ _ _ _ _ st h=>wpAny_pyIter_striter_ascii st h
def JL(tl:TE):TI:=λσ H R=>tl σ H λx H1=>∃z,x=.str z/\(z.cps.all λx=>decide (x<128))=true/\R (Its z) H1
def JM{l:Expr}(hl:PE X l tl):PI X tg l (JL tl):=by
 intro G_ s σ H R I h;refine b9 (hl G_ s σ H _ I h) λv s1 x H1 I1 r1 q1=>?_
 obtain⟨z,rfl,ha,q⟩:=q1;obtain⟨t,rfl⟩:=r1;refine wpAny_pyIter_ascii ha ?_;refine⟨s1.heap.objs.size,[s1.heap.objs.size],_,_,H1,rfl,I1.kept (t':=s1.toks) λb o e=>z9l _ e,JK _ z t,?_,λb hb=>?_,q⟩
 ·exact⟨_,z8l _ rfl,rfl,rfl⟩
 have e:b=s1.heap.objs.size:=by simpa using hb
 subst e;exact I1.fpOk (z9i _) (I1.hok.fresh (z9i _))
def JN{fi:FE}(h:JE X iter fi ei):JI X tg iter (nI fi) []:=⟨qe (JM h.h) λσ H R y0=>by
 obtain⟨U,ds,hE,hf,hR⟩:=y0;obtain⟨d,h1,hf⟩:=bind_some hf;refine⟨U,d,hE,h1,λv H1 p=>?_⟩;cases d with
 | str z=>
   obtain⟨hc,rfl⟩:=bP hf;cases p.rep;refine⟨z,rfl,?_,hR _ _ ⟨p.same,λi d' H' hd e=>?_,λH' e=>?_⟩⟩
   ·rw[<- Array.all_toList];exact hc.1
   ·rw[z9z]at hd
    cases hk:(tx z)[i]? with
    |none=>rw[hk]at hd;cases hd
    | some c=>
      rw[hk]at hd;cases hd;have hk':z.cps[i]?=some c:=by rw[<- Array.getElem?_toList];exact hk
      refine⟨?_,λx H'' ⟨e1,c2,hc2,ex⟩=>?_⟩
      ·show i<z.cps.size
       exact(Array.getElem?_eq_some_iff.mp hk').1
      ·subst e1
       rw[hk']at hc2;cases hc2;subst ex;exact⟨Same.refl _,.str _,λA _ _=>.str _⟩
   ·show((tx z).map _).length=z.cps.size
    rw[z9b];rfl
 |_=>cases hf⟩
def JP:∀c<128,(Nat.toDigits 16 c).length<=2:=by decide
def JQ{q c:Nat}(h:c<128):(Builtin.Str.reprChar q c).length<=4:=by
 unfold Builtin.Str.reprChar;have hd:=JP c h;simp only;split
 ·simp
 split
 ·simp
 split
 ·simp
 split
 ·simp
 split
 ·simp
 rw[if_pos ∅];simp;ext
theorem yo(f:Nat->y9)(hf:∀c<128,(f c).length<=4):∀(l:y9) (acc:Array Nat),(∀c∈l,c<128)->(List.foldl (λout c=>out++(f c).toArray) acc l).size<=acc.size+4*l.length
 |[],acc,_=>by simp
 | a::r,acc,h=>by
   rw[List.foldl_cons];have h1:=yo f hf r (acc++(f a).toArray) λc hc=>h c (z9d _ hc)
   have h2:=hf a (h a z9a);simp at h1 ⊢;ext
def JR{z:Str}(ha:(tx z).all (λc=>decide (c<128))=true)(hl:(tx z).length<=10000):(reprText z).length<=50000:=by
 have h:∀c∈tx z,c<128:=λc hc=>z6o (z9y.mp ha c hc)
 have h1:=yo (Builtin.Str.reprChar (reprQuote z)) (λc hc=>JQ hc) (tx z) #[reprQuote z] h;show(Array.push _ _).size<=_;rw[Array.size_push,<- Array.foldl_toList];have h2:(List.foldl (λout c=>out++(Builtin.Str.reprChar (reprQuote z) c).toArray) #[reprQuote z] z.cps.toList).size<=1+4*(tx z).length:=h1;ext
section
variable {P:Hp}{te:TE}{np:Pos}
def tFs(te:TE):TE:=λσ H Q=>te σ H λx H1=>∃z,x=.str z/\(tx z).all (λc=>decide (c<128))=true/\(tx z).length<=10000/\∀y,Q (.str y) H1
def JU{j}(he:PE X e te)(hm:m.length<=1000<|>J8):PE X (.JoinedStr [.FormattedValue e 114 none p1,.Constant (.str m) j p2] pos) (tFs te):=by
 intro G_ s σ H Q I h;refine JoinedStr_many (joinParts_cons (wpAny_FormattedValue_repr (b9 (he G_ s σ H _ I h) λv s1 y H1 I1 r1 q1=>?_)));obtain⟨z,rfl,hz1,hz2,q⟩:=q1;obtain⟨t,rfl⟩:=r1;have hl:=JR hz1 hz2;refine pyReprObj_str (formatField_str (λt' tk=>?_) (dQ ∅)) (dQ ∅);have e0:(Str.empty++reprText z).length=(reprText z).length:=by rw[ln,cg,aM,cg];simp[tx,Str.empty]
 refine⟨by rw[e0];exact dQ ∅,joinParts_cons (Calls.Constant_str ?_)⟩;have e1:(Str.empty++reprText z++m).length=(reprText z).length+m.length:=by rw[ln (Str.empty++reprText z),cg,aM,z9h,<- cg,<- cg,e0]
 refine⟨by rw[e1];exact dQ ∅,joinParts_nil ?_ (by rw[e1];exact dQ ∅)⟩;exact⟨.str _,H1,I1.tok _,⟨_,rfl⟩,q _⟩
theorem rM{j}(xt:iI X.K=true)(ho:OutX X P EX)(ha:JE X.nox e fa ea)(hm:m.length<=1000<|>J8)(hc:X.calm=true<|>J7)(hg:Gl X x<|>J7)(hd:DB x<|>J8)(he:starEach [.JoinedStr [.FormattedValue e 114 none p1,.Constant (.str m) j p2] np] X.env=(false,eval (.JoinedStr [.FormattedValue e 114 none p1,.Constant (.str m) j p2] np) X.env)::starEach [] X.env<|>J7)(hpl:(backTo cpos (starEach [.JoinedStr [.FormattedValue e 114 none p1,.Constant (.str m) j p2] np] X.env)).any (·.1)=false<|>J7):
  YM X P EX (.Raise (some (.Call (.Name x kp) [.JoinedStr [.FormattedValue e 114 none p1,.Constant (.str m) j p2] np] [] cpos)) none pos) (jG x fa):=by
 refine⟨?_⟩;intro n G_ s σ H De I ⟨U,M,Ew,hE,⟨hx,⟨d0,hd0,hok⟩,hex⟩,hl,hX⟩;obtain⟨B,XB,hall⟩:=rA xt;obtain⟨C,hns,O,_,_⟩:=hall x hx;have hmg:X.mg x=some (.ref C):=z6z I.ok.mod.kin I.ok.mod.glob hns;obtain⟨tl,N,nm,qn,bs,hdct,sn,sub,ab,col,dd,k0,k1,k2,k3,k5,mN,hC,hN,hni,T⟩:=xH I.ok.mod.kin O.exc;refine wpAny_Raise_call_subT (C:=C) (nm:=nm) (q:=qn) (N:=N) (bs:=bs) (bm:=tl) (hdct:=hdct) (sn:=sn) (sub:=sub) (ab:=ab) (col:=col) (dd:=dd) (k0:=k0) (k1:=k1) (k2:=k2) (k3:=k3) (k5:=k5) (mN:=mN)
  F.excBase_ValueError (T.hasType (by decide)) (I.ok.hd hc) hpl hni (gA I hg hmg ⟨rfl,?_⟩ hd)
 have hA:=bM (JU (m:=m) (j:=j) (p1:=p1) (p2:=p2) (pos:=np) (PE.nox ha.h) hm) c7 he;have h1:=hA cpos G_ s σ H (λws H'=>∃y,ws=[.str y]/\Same H H') I ⟨U,d0,hE.q.envR,hd0,λv H1 p1=>by obtain⟨z,rfl,hz1,hz2⟩:=hok;cases p1.rep;exact⟨z,rfl,hz1,hz2,λy=>⟨y,rfl,p1.same⟩⟩⟩
 rw[he]at h1 ⊢;refine z4l (z8p h1 (λvs s2 h2=>?_) λ_ _ y=>y);obtain⟨ws,H2,I2,r2,y,rfl,hs⟩:=h2;have hE2:=hE.next (PostT.of hE.q.ok hs);refine⟨rfl,?_,I2.bk _ _ hC,hN.keeps I2.bk,T.keeps I2.bk,λh' e hm'=>ho.made G_ σ _ s2 e C h' vs I2 hm' ?_⟩
 ·rw[<- r2.length,z7y];exact(by decide:1<=16777216)
 ·have hn:H2 e=none:=by
   cases q:H2 e with
   |none=>rfl
   |some u=>obtain⟨o,q2⟩:=j4 (I2.hok e u q);rw[hm'.new]at q2;cases q2
  exact⟨e,x,M,C,rfl,rfl,hns,hx,hX _ _ hex,by rw[nC hn];exact hE2.same,by rw[nC hn];exact hE2.q.ok⟩
end
section
variable {tb:NTE}{k:Nat}
theorem yp(ho:OpR X (compareOp op) r)(hr:OpV X.K r g)(ha:NE X a ta)(hb:NE X b tb)(hm:behindInMarks op b=false):NT X (.Compare a [op] [b] pos) (bu (n2V g ta tb)):=
 l8 (oY ho ha hb hm) λσ H Q U M QW hE ht hQ=>Hj hr ⟨U,M,_,hE,ht,λd M' hd v H' p=>by
  cases d with
  |bl k=>cases p.rep;exact⟨k,rfl,hQ k M' hd H' p.toPostT⟩
  |_=>exact hd.elim⟩
def JV(ha:YE X a ta)(hb:YE X b tb)(hm:behindInMarks .In b=false<|>Q3):YT X (.Compare a [.In] [b] pos) (bu (n2V inD ta tb)):=⟨yp CS (Ez X.K) ha.h hb.h hm⟩
end
end VL
namespace VL
open PySem (Str)
open L2 (atI ixN)
def rN:NTE:=λ_ M Q=>∀a,M a=none->Q (.ptr a) (aB M a (.dic [] []))
def nL(tk ta:NTE):NTE:=λU M Q=>tk U M λy M1=>ta U M1 λx M2=>∃a ns ds f,x=.ptr a/\y=.str f/\M2 a=some (.dic ns ds)/\Q (.bl (decide (f∈ns))) M2
def nM(tk ta:NTE):NTE:=λU M Q=>tk U M λy M1=>ta U M1 λx M2=>∃a ns ds f,x=.ptr a/\y=.str f/\M2 a=some (.dic ns ds)/\Q (.bl (!decide (f∈ns))) M2
noncomputable def er(ns:z0)(ds:n_)(f:Str):o_:=(ns.zip ds).lookup f
def nN(ta tk:NTE):NTE:=λU M Q=>ta U M λx M1=>tk U M1 λy M2=>∃a ns ds f d,x=.ptr a/\y=.str f/\M2 a=some (.dic ns ds)/\er ns ds f=some d/\Q d M2
def rO(ta tk tv:NTE):NTS:=λE U M=>tv U M λv M1=>ta U M1 λx M2=>tk U M2 λy M3=>∃a ns ds f,x=.ptr a/\y=.str f/\M3 a=some (.dic ns ds)/\f∉ns/\ns.length<1000/\E.nx U (aB M3 a (.dic (ns++[f]) (ds++[v])))
def aZ(i:Int):y9:=if i<0 then 45::digs i.natAbs else digs i.toNat
def bF:D->o_
 |.int i=>if i.natAbs.log2<1900 then some (.str (mkT (aZ i)))else none
 |_=>none
abbrev NXA:=ag->Sto->(n_->Sto->Prop)->QX->Prop
def hV:NXA:=λ_ M Q _=>Q [] M
def gu(te:NEX)(ta:NXA):NXA:=λU M Q EX=>te U M (λd M1=>ta U M1 (λds M2=>Q (d::ds) M2) EX) EX
def iN(C:Nat)(ns:z0)(T:NTX)(ta:NTE)(tas:NXA):NEX:=λU M Q EX=>ta U M λx M1=>∃a ds0,x=.ptr a/\M1 a=some (.ins C ns ds0)/\tas U M1 (λds M2=>T (x::ds) M2 Q EX) EX
def x1(g:D->o_)(te:NEX):NEX:=λU M Q EX=>te U M (λx M1=>W1 g x λd=>Q d M1) EX
def nO(G:n_->o_)(ta:NXA):NEX:=λU M Q EX=>ta U M (λds M1=>WF G ds λd=>Q d M1) EX
def rP(J3:y9)(ti te:NTE):NTE:=λU M Q=>ti U M λd M1=>∃ds,d=.tup ds/\ds.length<=1000/\dt 1 te (bq 1 J3 U) ds [] M1 λds M2=>Q (.lst ds) M2
def rQ(J3:y9)(ti:NEX)(te:NTE):NEX:=λU M Q EX=>ti U M (λd M1=>∃ds,d=.tup ds/\ds.length<=1000/\dt 1 te (bq 1 J3 U) ds [] M1 λds M2=>Q (.lst ds) M2) EX
def rR(ta:NTE):NTE:=λU M Q=>ta U M λx M1=>∃ds,x=.lst ds/\Q (.tup ds) M1
def rS(ta tb:NTE):NTE:=λU M Q=>ta U M λx M1=>tb U M1 λy M2=>∃xs ys,vw1 M2 x=.lst xs/\y=.lst ys/\xs.length+ys.length<=100000/\∀a,M2 a=none->Q (.ptr a) (aB M2 a (.lst (xs++ys)))
def rT(ta tb:NTE):NTE:=λU M Q=>ta U M λx M1=>tb U M1 λy M2=>∃xs ys,vw1 M2 x=.lst xs/\y=.lst ys/\xs.length+ys.length<=100000/\Q (.lst (xs++ys)) M2
def rV(ta th:NTE):NTE:=λU M Q=>ta U M λx M1=>th U M1 λy M2=>∃i d,y=.int i/\slT x none (some i)=some d/\Q d M2
def rW(ns:z0)(tas:NTA):NTE:=λU M Q=>∀a,M a=none->tas U (aB M a (.dic [] [])) λds M2=>ds.length=ns.length/\M2 a=some (.dic [] [])/\Q (.ptr a) (aB M2 a (.dic ns ds))
def rX(C:Nat)(T:NTF):NTE:=λ_ M Q=>∀a,M a=none->T [.ptr a] (aB M a (.ins C [] [])) λd M2=>d=.non/\Q (.ptr a) M2
def rY(C:Nat)(ns:z0)(i:Nat)(ta:NTE)(te:NEX):NTS:=λE U M=>te U M (λv M1=>ta U M1 λx M2=>∃a ds,x=.ptr a/\M2 a=some (.ins C ns ds)/\E.nx U (aB M2 a (.ins C ns (ds.set i v)))) E.ex
noncomputable def nQ(f:FE):FEs:=λU=>(f U).bind λd=>match d with
 |.tup ds=>some ds
 |_=>none
end VL
namespace VL
open PySem PySem.Spec PyProof.Rows L2
noncomputable abbrev fly(X:Cx)(G_:h_)(σ:St)(E:XK):Cx:={X with xe:=Fl X G_ σ E,pn:=X.pn++G_}
section
variable {σ':St}{E:XK}
def yq(ok:X.Ok):(fly X G_ σ E).Ok:=⟨ok.mod,ok.kind,ok.glob,ok.blt,ok.above,ok.inj,ok.has,ok.cab,ok.hd,ok.frames,ok.stk,ok.exf,ok.bs,ok.bsz,ok.noex,ok.exfs,ok.funs,ok.frf⟩
def JY(ok:(fly X G_ σ E).Ok):X.Ok:=⟨ok.mod,ok.kind,ok.glob,ok.blt,ok.above,ok.inj,ok.has,ok.cab,ok.hd,ok.frames,ok.stk,ok.exf,ok.bs,ok.bsz,ok.noex,ok.exfs,ok.funs,ok.frf⟩
def yr(I:L2.Inv X G_ σ' H s):L2.Inv (fly X G_ σ E) [] σ' H s:=
 ⟨yq I.ok,I.os,I.bare,I.base,I.loc,I.cell,I.free,I.freeC,λp hp=>I.pin p (by simpa using hp),I.hok,I.len⟩
def rZ(I:L2.Inv (fly X G_ σ E) pins' σ' H s):L2.Inv X (G_++pins') σ' H s:=
 ⟨JY I.ok,I.os,I.bare,I.base,I.loc,I.cell,I.free,I.freeC,λp hp=>I.pin p (by rw[z6i];exact hp),I.hok,I.len⟩
def JZ(I:L2.Inv X (G_++pins') σ' H s):L2.Inv (fly X G_ σ E) pins' σ' H s:=
 ⟨yq I.ok,I.os,I.bare,I.base,I.loc,I.cell,I.free,I.freeC,λp hp=>I.pin p (by rw[z6i]at hp;exact hp),I.hok,I.len⟩
def Ka(I:L2.Inv X (G_++pins') σ' H s):L2.Inv X G_ σ' H s:=
 ⟨I.ok,I.os,I.bare,I.base,I.loc,I.cell,I.free,I.freeC,λp hp=>I.pin p (by rw[<- z6i];exact z8i _ hp),I.hok,I.len⟩
def nR{t:St->Hp->VK->XK->Prop}(h:PX X a t):PE (fly X G_ σ E) a λσ' H' Q'=>σ'=σ/\t σ' H' Q' E:=by intro pins' s' σ' H' Q' I ⟨e,hw⟩;subst e;refine z8p (h (G_++pins') s' σ' H' Q' E (rZ I) hw) (λv s1 y0=>by obtain⟨x,H1,I1,r1,q1⟩:=y0;exact⟨x,H1,JZ I1,r1,q1⟩) λe s1 y0=>by obtain⟨H1,s2,I1,hc⟩:=y0;exact⟨H1,s2,Ka I1,hc⟩
def nS{op:Expr}{t:TE}(h:PE (fly X G_ σ E) op t)(I:L2.Inv X G_ σ H s)(hw:t σ H Q):wpAny (model X.prog X.w) X.A (eval op X.env) (EP X G_ σ Q) (Fl X G_ σ E) s:=
 z8p (h [] s σ H Q (yr I) hw) (λv s1 y0=>by obtain⟨x,H1,I1,r1,q1⟩:=y0;exact⟨x,H1,by have:=rZ I1;rwa [z8v]at this,r1,q1⟩) λ_ _ z=>z
end
def yt(K:K0)(ta:NXA):St->Hp->(l_->Hp->Prop)->XK->Prop:=λσ H Q E=>∃U M QW EX,EnvQ K σ U H M/\ta U M QW EX/\(∀ds M',QW ds M'->∀vs H',PostWs K H M ds vs H' M'->Q vs H')/\∀v c H',EXK K (PH H M) EX v c H'->E v c H'
structure YXA (X:Cx) (es:z6) (ta:NXA):Prop where
 h:∀G_ σ E,PA (fly X G_ σ E) es λσ' H Q=>σ'=σ/\yt X.K ta σ' H Q E
section
variable {tb:NTE}{tas:NXA}{es:z6}{k:Nat}{T:NTX}
def jI:YXA X [] hV:=⟨λG_ σ E=>ku c7 λσ' H Q y0=>by obtain⟨e,U,M,QW,EX,hE,ht,hQ,hX⟩:=y0;exact hQ [] M ht [] H ⟨PostT.refl hE.ok,.nil⟩⟩
def iO(ha:YX X a te)(hr:YXA X es tas)(hs:SE a es X<|>J7):YXA X (a::es) (gu te tas):=
 ⟨λG_ σ E=>ku (bM (nR ha.h) (hr.h G_ σ E) hs) λσ' H Q y0=>by obtain⟨e,U,M,QW,EX,hE,ht,hQ,hX⟩:=y0;exact⟨e,U,M,_,EX,hE,ht,λd M1 h1 v H1 p1=>⟨e,U,M1,_,EX,hE.next p1.toPostT,h1,λds M2 h2 vs H2 p2=>hQ _ M2 h2 _ H2 ⟨p1.toPostT.trans p2.toPostT,.cons (au p2.same p1.rep) p2.rep⟩,λv c H' z=>hX v c H' (z.pre p1.same)⟩,hX⟩⟩
def Kb{Q:l_->Hp->Prop}{E:XK}(ha:YXA X es tas)(pos:Pos)(I:L2.Inv X G_ σ H s)(h:yt X.K tas σ H Q E):wpAny (model X.prog X.w) X.A (spliced (backTo pos (starEach es X.env))) (AP X G_ σ Q) (Fl X G_ σ E) s:=
 z8p (ha.h G_ σ E pos [] s σ H Q (yr I) ⟨rfl,h⟩) (λv s1 y0=>by obtain⟨x,H1,I1,r1,q1⟩:=y0;exact⟨x,H1,by have:=rZ I1;rwa [z8v]at this,r1,q1⟩) λ_ _ z=>z
def nT(cl:Cls X.K C)(d:MetE X.prog X.w X.K X.mg X.base C m k ps T)(hr:Room k X.A)(ho:YE X.nox b tb)(ha:YXA X (a::es) tas)(hno:¬m∈ns<|>Q1)(hst:SE a es X<|>J7)(hpl:BT pos es X<|>J7)(ht:(eval (.Call (.Attribute b m ap) (a::es) [] pos) X.env=(do
   let ov <- eval b X.env
   standAt ap.atName
   let(f,first) <- holding [ov] (getMethod ov m pl)
   callWith pos f first (backTo pos (starEach (a::es) X.env)) (backToKw pos (keywordEach [] X.env))))<|>J7):
  YX X (.Call (.Attribute b m ap) (a::es) [] pos) (iN C ns T tb tas):=by
 refine⟨λG_ s σ H Q E I y0=>?_⟩;obtain⟨U,M,QW,EX,hE,hw,hQ,hX⟩:=y0;obtain⟨f,fd,F,hm,hb⟩:=d;refine z6n (pl:=pl) (b9 (rC (Q:=λv H1=>∃d M1,PostW X.K H M d v H1 M1/\∃q ds0,d=.ptr q/\M1 q=some (.ins C ns ds0)/\tas U M1 (λds M2=>T (d::ds) M2 QW EX) EX) ho.h I ⟨U,M,_,hE,hw,λd M1 h1 v H1 p1=>⟨d,M1,p1,h1⟩⟩) λu s1 v H1 I1 ru y0=>?_) ht;obtain⟨d,M1,p1,q,ds0,ed,hm1,h1⟩:=y0;subst ed;have pr:=p1.rep;cases pr;obtain⟨dx,vs0,g1,gl,g2⟩:=gp p1.ok hm1;obtain rfl:u=Value.ref q:=ru;refine kf I1 g1 cl hm (jB hno) ?_;refine z6m (first:=[.ref q]) (h₀:=X.base) I.ok.mod.kin hm.kp (cQ (Kb (Q:=λvs H2=>∃ds M2,PostWs X.K H1 M1 ds vs H2 M2/\T (.ptr q::ds) M2 QW EX) ha pos I1 ⟨U,M1,_,EX,hE.next p1.toPostT,h1,λds M2 h2 vs H2 p2=>⟨ds,M2,p2,h2⟩,λv c H' z=>hX v c H' (z.pre p1.same)⟩) λus s2 vs H2 I2 r ⟨ds,M2,p2,h2⟩=>⟨I2.kIn,?_⟩) hst hpl;have p12:=p1.toPostT.trans p2.toPostT;exact nD (us:=.ref q::us) (vs:=.ref q::vs) F hr hb I2 (.cons rfl r) ⟨.ptr q::ds,M2,QW,EX,.cons (.ptr q) p2.rep,p2.ok,h2,λd M' hd v H' p'=>hQ d M' hd v H' ⟨p12.trans p'.toPostT,p'.rep⟩,λv c H' z=>hX v c H' (z.pre p12.same)⟩
end
theorem m7:∀{ns:z0} {vs:l_} {f:Str},vs.length=ns.length->(bN (aF ns vs) (Sum.inr f:Key)).isSome=decide (f∈ns)
 |[],_,_,_=>rfl
 |_::_,[],_,h=>by simp at h
 | n::ns,w::vs,f,h=>by
   have ih:=m7 (ns:=ns) (vs:=vs) (f:=f) (by simpa using h);show(bN ((Sum.inr n,w)::aF ns vs) _).isSome=_;unfold bN at ih ⊢;by_cases e:n=f
   ·subst e;simp
   ·have ne:¬((Sum.inr n:Key)=Sum.inr f):=λq=>e (z5i q)
    have e2:¬f=n:=λq=>e q.symm
    rw[List.find?_cons_of_neg (by simpa using ne),ih];simp[e2]
theorem yu{K:K0}{H:Hp}:∀{ns:z0} {vs:l_} {ds:n_} {f:Str} {d:D},vs.length=ns.length->Reps K H vs ds->er ns ds f=some d->∃v,bN (aF ns vs) (Sum.inr f:Key)=some v/\Rep K H v d
 |[],_,_,_,_,_,_,h=>by simp[er]at h
 |_::_,[],_,_,_,hl,_,_=>by simp at hl
 | n::ns,w::vs,ds,f,d,hl,r,h=>by
   cases r with
   | @cons _ d0 _ ds r1 r2=>
     unfold er at h;rw[z7o,z8u]at h;show ∃v,bN ((Sum.inr n,w)::aF ns vs) _=some v/\_;by_cases e:f=n
     ·subst e
      simp at h;subst h;exact⟨w,by unfold bN;simp,r1⟩
     ·have hb:(f==n)=false:=z7i.mpr e
      rw[hb]at h;obtain⟨v,h1,h2⟩:=yu (by simpa using hl) r2 h;refine⟨v,?_,h2⟩;have ne:¬((Sum.inr n:Key)=Sum.inr f):=λq=>e (z5i q).symm
      unfold bN at h1 ⊢;rw[List.find?_cons_of_neg (by simpa using ne)];exact h1
section
variable {tb tv:NTE}{k:Nat}
def Kc:YE X (.Dict [] [] pos) rN:=⟨bA Dh λσ H Q U M QW hE ht hQ p hp=>by obtain⟨e1,e2⟩:=fL (c:=.dic [] []) hE.ok hp (bo hp (.dK [])) bn ⟨[],rfl,rfl,.nil⟩;exact hQ _ _ (ht p (hE.ok.fresh hp)) _ _ ⟨⟨e1,e2⟩,.ptr p⟩⟩
def Kd(h:tw K (nL tb ta) σ H Q):uS (tw K tb) (tw K ta) σ H Q:=by obtain⟨U,M,QW,hE,ht,hQ⟩:=h;refine⟨U,M,_,hE,ht,λy M1 h1 vy H1 p1=>⟨U,M1,_,hE.next p1.toPostT,h1,λx M2 h2 vx H2 p2=>?_⟩⟩;obtain⟨q,ns,ds,f,ex,ey,hm,hq⟩:=h2;subst ex ey;have r1:=au p2.same p1.rep;have r2:=p2.rep;cases r1;cases r2;obtain⟨vs,g1,gl,g2⟩:=gZ p2.ok hm;refine⟨q,_,rfl,DGet.k (k:=Sum.inr f) g1,?_⟩;rw[m7 gl];exact hQ _ M2 hq _ H2 ⟨p1.toPostT.trans p2.toPostT,.bl _⟩
def Ke(h:tw K (nM tb ta) σ H Q):uT (tw K tb) (tw K ta) σ H Q:=by obtain⟨U,M,QW,hE,ht,hQ⟩:=h;refine⟨U,M,_,hE,ht,λy M1 h1 vy H1 p1=>⟨U,M1,_,hE.next p1.toPostT,h1,λx M2 h2 vx H2 p2=>?_⟩⟩;obtain⟨q,ns,ds,f,ex,ey,hm,hq⟩:=h2;subst ex ey;have r1:=au p2.same p1.rep;have r2:=p2.rep;cases r1;cases r2;obtain⟨vs,g1,gl,g2⟩:=gZ p2.ok hm;refine⟨q,_,rfl,DGet.k (k:=Sum.inr f) g1,?_⟩;rw[m7 gl];exact hQ _ M2 hq _ H2 ⟨p1.toPostT.trans p2.toPostT,.bl _⟩
def yv{t:NTE}{Q:Bool->Hp->Prop}(h:twT K (bu t) σ H Q):tw K t σ H λv H'=>∃d,v=.bl d/\Q d H':=by
 obtain⟨U,M,QW,hE,ht,hQ⟩:=h;refine⟨U,M,_,hE,ht,λd M' hd v H' p=>?_⟩;cases d with
 |bl k=>cases p.rep;exact⟨k,rfl,hQ k M' hd H' p.toPostT⟩
 |_=>exact hd.elim
def Kf(hr:Room k X.A)(hk:YE X b tb)(ha:YE X a ta)(hm:behindInMarks .In a=false<|>Q3):YT X (.Compare b [.In] [a] pos) (bu (nL tb ta)):=
 ⟨m8 (tP (Dd (by have:=hr.un;ext) hk.h ha.h) hm) λσ H Q h=>Kd (yv h)⟩
def Kg(hr:Room k X.A)(hk:YE X b tb)(ha:YE X a ta)(hm:behindInMarks .NotIn a=false<|>Q3):YT X (.Compare b [.NotIn] [a] pos) (bu (nM tb ta)):=
 ⟨m8 (tP (Df (by have:=hr.un;ext) hk.h ha.h) hm) λσ H Q h=>Ke (yv h)⟩
def yw(hr:Room k X.A)(ha:YE X a ta)(hk:YE X b tb)(hs:m6 b):YE X (.Subscript a b pos) (nN ta tb):=
 ⟨bA (uU (by have:=hr.un;ext) ha.h hk.h hs) λσ H Q U M QW hE ht hQ=>⟨U,M,_,hE,ht,λx M1 h1 vx H1 p1=>⟨U,M1,_,hE.next p1.toPostT,h1,λy M2 y0 vy H2 p2=>by obtain⟨q,ns,ds,f,d,ex,ey,hm,hf,hq⟩:=y0;subst ex ey;have r1:=au p2.same p1.rep;have r2:=p2.rep;cases r1;cases r2;obtain⟨vs,g1,gl,g2⟩:=gZ p2.ok hm;obtain⟨v,h3,h4⟩:=yu gl g2 hf;exact⟨q,v,rfl,by have:=DGet.k (k:=Sum.inr f) g1;rw[h3]at this;exact this,hQ _ M2 hq _ H2 ⟨p1.toPostT.trans p2.toPostT,h4⟩⟩⟩⟩⟩
def Kh(hr:Room k X.A)(ha:YE X a ta)(hk:YE X b tb)(hv:YE X c tv)(hs:swapsWith c (some (.Subscript a b p2)) pos.line X.env=pure false<|>J7):
  YS X (.Assign [.Subscript a b p2] c pos) (rO ta tb tv):=⟨λP n=>
 dC (pI (by have:=hr.un;ext) ha.h hk.h hv.h hs) λDe σ H U M Ew hE ht hl=>⟨U,M,_,hE.q,ht,λd M1 h1 v H1 p1=>⟨U,M1,_,hE.q.next p1.toPostT,h1,λx M2 h2 vx H2 p2=>⟨U,M2,_,(hE.q.next p1.toPostT).next p2.toPostT,h2,λy M3 y0 vy H3 p3=>by
  obtain⟨q,ns,ds,f,ex,ey,hm,hi,hlt,h3⟩:=y0;subst ex ey;have rx:=au p3.same p2.rep;have ry:=p3.rep;cases rx;cases ry;obtain⟨vs,g1,gl,g2⟩:=gZ p3.ok hm;have rv:=au p3.same (au p2.same p1.rep);have hz:(aF ns vs).length<sizeLine:=by
   have:(aF ns vs).length=ns.length:=by simp[aF,gl]
   rw[this,z7y];ext
  refine⟨q,_,rfl,.inl ⟨_,.inr f,g1,rfl,hz,rfl⟩,?_⟩;have ez:aF ns vs++[(Sum.inr f,v)]=aF (ns++[f]) (vs++[v]):=by unfold aF;rw[List.zip_append gl.symm,z8g];rfl
  rw[pG _ (rD hi),ez];obtain⟨e1,e2⟩:=gm (o:=.dK (aF (ns++[f]) (vs++[v]))) (c:=.dic (ns++[f]) (ds++[d])) p3.ok hm ⟨_,rfl,by simp[gl],g2.append (.cons rv .nil)⟩;exact hl.nx _ _ h3 σ _ ((hE.next ((p1.toPostT.trans p2.toPostT).trans p3.toPostT)).next ⟨e1,e2⟩)⟩⟩⟩⟩
end
def Ki(i:Int):Str.ofString (toString i)=mkT (aZ i):=by
 cases i with
 | ofNat n=>
   have h:¬(Int.ofNat n<0):=by simp
   unfold aZ;rw[if_neg h];exact rL n
 | negSucc n=>
   have h:Int.negSucc n<0:=Int.negSucc_lt_zero n;unfold aZ;rw[if_pos h];have e1:toString (Int.negSucc n)="-"++toString (n+1):=rfl;have e2:=rL (n+1);have e3:toString ((n+1:Nat):Int)=toString (n+1):=rfl;rw[e3]at e2;have e4:=z8w tx e2;rw[aM]at e4;have e5:tx (Str.ofString ("-"++toString (n+1)))=45::digs (n+1):=by show(Str.ofString _).cps.toList=_;rw[signs_ofString,String.toList_append,z8g,<- signs_ofString (toString (n+1))];show _++tx (Str.ofString (toString (n+1)))=_;rw[e4];rfl
   rw[e1,<- iL (Str.ofString _),e5];rfl
section
variable {tas:NXA}{ntas:NTA}{xs:z6}{k:Nat}{y:Str}{E:XK}
def sd:fH X.K (λxs H Q=>∃i,xs=[.int i]/\i.natAbs.log2<1920/\Q (.str (toString i)) H) (ar bF):=by
 intro xs H ds d Q r hg hQ;obtain⟨x,rfl,hg1⟩:=gL hg;obtain⟨v,rfl,r1⟩:=f9 r;cases x with
 |int i=>obtain⟨hl,rfl⟩:=bP hg1;cases r1;refine⟨i,rfl,by ext,?_⟩;show Q (.str (Str.ofString (toString i))) H;rw[Ki];exact hQ _ λH'=>.str _
 |_=>cases hg1
def eB(mi:X.mg "str"=none)(ha:JA X [a] as es)(hg:Gl X "str"<|>J7)(he:SE a [] X<|>J7)(hpl:BT pos [] X<|>J7):
  JE X (.Call (.Name "str" p) [a] [] pos) (eA (ar bF) as) []:=
 ⟨cV (gD pe hg mi (by decide +kernel) ha.h (by decide) (by decide) he hpl) λσ H Q y0=>by obtain⟨U,d,hE,hf,hQ⟩:=y0;obtain⟨ds,h1,hf⟩:=bind_some hf;exact⟨U,ds,hE,h1,λvs H1 p=>sd vs H1 ds d _ p.rep hf λv hr=>hQ v H1 ⟨p.same,hr _,λ_ _ _=>hr _⟩⟩⟩
def iP(mi:X.mg "str"=none)(ha:YA X [a] ntas)(hg:Gl X "str"<|>J7)(he:SE a [] X<|>J7)(hpl:BT pos [] X<|>J7):
  YE X (.Call (.Name "str" p) [a] [] pos) (cA (ar bF) ntas):=
 ⟨bA (gD pe hg mi (by decide +kernel) ha.h (by decide) (by decide) he hpl) λσ H Q U M QW hE ht hQ=>⟨U,M,_,hE,ht,λds M1 ⟨d,hf,_,h1⟩ vs H1 p=>sd vs H1 _ d _ (nz p.ok p.rep) hf λv hr=>hQ d M1 h1 v H1 ⟨p.toPostT,hr _⟩⟩⟩
def Kj(mi:X.mg "str"=none)(ha:YX X a te)(hg:Gl X "str"<|>J7)(he:SE a [] X<|>J7)(hpl:BT pos [] X<|>J7):
  YX X (.Call (.Name "str" p) [a] [] pos) (x1 bF te):=
 ⟨λG_ s σ H Q E I ⟨U,M,QW,EX,hE,ht,hQ,hX⟩=>nS (gD (X:=fly X G_ σ E) pe hg mi (by decide +kernel) (bM (nR ha.h) c7 he) (by decide) (by decide) he hpl) I ⟨rfl,U,M,_,EX,hE,ht,λx M1 ⟨d,hf,h1⟩ v H1 p1=>sd (X:=X) [v] H1 [x] d _ (.cons (au (aP _ _) p1.rep) .nil) hf λv hr=>hQ d M1 h1 v H1 ⟨p1.toPostT,hr _⟩,hX⟩⟩
def yx(d:Def X.prog X.w X.K X.mg X.base x k ps G fr)(hr:Room k X.A)(ha:YXA X (a::xs) tas)(hg:Gl X x<|>J7)(hdb:DB x<|>J8)(he:SE a xs X<|>J7)(hpl:BT pos xs X<|>J7):
  YX X (.Call (.Name x p) (a::xs) [] pos) (nO G tas):=
 let⟨_,_,F,hm,hk,hb⟩:=d
 ⟨λG_ s σ H Q E I ⟨U,M,QW,EX,hE,ht,hQ,hX⟩=>nS (gC (X:=fly X G_ σ E) F hr hg hm hk hb .nil f6 (ha.h G_ σ E) hdb he hpl) I ⟨rfl,U,M,_,EX,hE,ht,λds M1 y0 vs H1 p=>by obtain⟨d,hf,hq⟩:=y0;show spF X.K G fr (vs++[]) H1 Q E0;rw[z8v];exact⟨ds,d,aV (aP _ _) p.rep,hf,λv H' r=>hQ d M1 hq v H' ⟨p.toPostT.trans (PostT.of p.ok r.same),r.rep _ p.ok.dom p.rep⟩⟩,hX⟩⟩
def yy{M1:Sto}{L:n_}(hE:EnvQ K σ U H M)(p1:PostW K H M (.tup L) v H1 M1)(hll:L.length<=1000)(h1:dt 1 tel (bq 1 J3 U) L [] M1 λds M2=>QW (.lst ds) M2)(hQ:∀d M',QW d M'->∀v H',PostW K H M d v H' M'->Q v H'):
  ∃a,v=.ref a/\(∃xs,SqT K H1 a xs)/\∃W:Nat->Nat->l_->St->Hp->Prop,(∃m,W 0 m [] (List.replicate 1 none++cP σ J3) H1)/\∀i m ys σb H2,W i m ys σb H2->ys.length<sizeLine /\
    (((Itt K a).stop i H2/\∀d,H2 d=none->Q (.ref d) (upd H2 d (.lst ys))) \/
     ((Itt K a).go i H2/\∀x H3,(Itt K a).yld i H2 x H3->cq 0 x σb H3 λσb' H4=>(λ_ H Q=>Q true H) σb' H4 λb H5=>if b=true then tw K tel σb' H5 λy H6=>∃m',m'<m/\W (i+1) m' (ys++[y]) σb' H6 else ∃m',m'<m/\W (i+1) m' ys σb' H5)):=by
 obtain⟨q,xs,rfl,hq,hx'⟩:=w8 p1.rep;have len:=hx'.length;have hq1:H1 q=some (.tup xs):=(PH.at hq).2;refine⟨q,rfl,⟨xs,SqT.of hq1⟩,?_⟩;have hE1:=hE.next p1.toPostT;refine⟨λi m ys σb H2=>m=xs.length-i/\i<=xs.length/\(σb.length=1+J3.length/\∀k,1<=k->σb[k]?=(cP σ J3)[k-1]?) /\
  ∃M2 done,PostT K H1 M1 H2 M2/\Reps K (PH H2 M2) ys done/\done.length=i/\dt 1 tel (bq 1 J3 U) (L.drop i) done M2 λds M2=>QW (.lst ds) M2,?_,?_⟩
 ·refine⟨xs.length,by simp,z7a _,⟨by simp[cP];ext,λk hk=>?_⟩,M1,[],PostT.refl p1.ok,.nil,rfl,by simpa using h1⟩
  rw[z9x (by simpa using hk)];simp
 ·rintro i m ys σb H2 ⟨rfl,hi,⟨hlen,hcap⟩,M2,done,pt,hr,hdl,hgo⟩
  have lys:=hr.length;have sq:SqT K H2 q xs:=SqT.of (PH.at (pt.same _ _ hq)).2;refine⟨by rw[z7y];ext,?_⟩;by_cases hlt:i<xs.length
  ·obtain⟨dy,h4,h5⟩:=hx'.getV (z9k hlt)
   have ed:L.drop i=dy::L.drop (i+1):=by rw[z9v ∅];have e2:L[i]'(by ext)=dy:=(z9c.mp h4).2;rw[e2]
   rw[ed]at hgo;refine .inr ⟨⟨xs,xs[i],sq,z9k hlt⟩,λx H3 hy=>?_⟩;obtain⟨e4,e5⟩:=hy;subst e4;have e6:=e5 xs sq;rw[z9k hlt]at e6;cases e6;unfold cq;dsimp only;rw[if_pos rfl];refine⟨_,M2,_,⟨rm (hE1.env.mono pt.same) hlen hcap (au pt.same h5),pt.ok⟩,hgo,λd M3 h3 w H4 p4=>?_⟩;refine⟨xs.length-(i+1),by ext,rfl,hlt,⟨by rw[z8e];exact hlen,λk hk=>by rw[z9f ∅];exact hcap k hk⟩,M3,done++[d],pt.trans p4.toPostT,(aV p4.same hr).append (.cons p4.rep .nil),by simp[hdl],h3⟩
  ·have e:i=xs.length:=by ext
   subst e;rw[z7d ∅]at hgo;refine .inl ⟨⟨xs,sq,z9i _⟩,λl hl=>?_⟩;obtain⟨d,M3,g1,g2⟩:=xB hgo (p1.toPostT.trans pt) hr hl;exact hQ d M3 g1 _ _ g2
variable {sp:Str}
def Kk(B:BlkOk X scope [y] J3 cn)(hc:X.calm=true)(hi:YE X iter tit)(hg:∀s H cl ex,PG (blk X ([y]++cn) s H scope cl ex) tg (cq 0))(he:∀s H cl ex,YE (blk X ([y]++cn) s H scope cl ex) elt tel)(hs:(∀x,foldedSetIterable iter X.env x=pure x)<|>Q0):
  YE X (.ListComp elt [⟨tg,iter,[],0⟩] scope pos) (rP J3 tit tel):=
 ⟨bA (nB B hc (oS hi.h) hg (λ_ _ _ _=>kO) (λs H cl ex=>(he s H cl ex).h) hs) λσ H Q U M QW hE ht hQ=>⟨U,M,_,hE,ht,λd M1 y0 v H1 p1=>by obtain⟨L,ed,hll,h1⟩:=y0;subst ed;exact yy hE p1 hll h1 hQ⟩⟩
def Kl(B:BlkOk X scope [y] J3 cn)(hc:X.calm=true)(hi:YX X iter te)(hg:∀s H cl ex,PG (blk X ([y]++cn) s H scope cl ex) tg (cq 0))(he:∀s H cl ex,YE (blk X ([y]++cn) s H scope cl ex) elt tel)(hs:(∀x,foldedSetIterable iter X.env x=pure x)<|>Q0):
  YX X (.ListComp elt [⟨tg,iter,[],0⟩] scope pos) (rQ J3 te tel):=
 ⟨λG_ s σ H Q E I ⟨U,M,QW,EX,hE,ht,hQ,hX⟩=>nS (nB (X:=fly X G_ σ E) ⟨B.kind,B.nocell,B.locals,B.free,B.names,B.capf,B.nd⟩ hc (oS (nR hi.h)) hg (λ_ _ _ _=>kO) (λs H cl ex=>(show PE (blk (fly X G_ σ E) ([y]++cn) s H scope cl ex) elt (tw X.K tel)from(he s H cl ex).h)) hs) I ⟨rfl,U,M,_,EX,hE,ht,(λd M1 y0 v H1 p1=>by obtain⟨L,ed,hll,h1⟩:=y0;subst ed;exact yy hE p1 hll h1 hQ),hX⟩⟩
theorem Km(ha:YX X a te)(hbase:attributeBase (.Constant (.str sp) j p1) "join" X.env (eval (.Constant (.str sp) j p1) X.env)=eval (.Constant (.str sp) j p1) X.env<|>J7)(hfew:(((backTo cp (starEach [a] X.env)).all (λx=>!x.1)&&(backToKw cp (keywordEach [] X.env)).all (λx=>x.1.isSome)&&decide ([a].length+([]:z8).length+(if([]:z8).isEmpty then 0 else 1)<30))=true)<|>J7)(hline:(ap.endLine==cp.line)=true<|>J7)(hs:SE a [] X<|>J7)(hplain:BT cp [] X<|>J7):
  YX X (.Call (.Attribute (.Constant (.str sp) j p1) "join" ap) [a] [] cp) (x1 (eV (.str sp)) te):=
 ⟨λG_ s σ H Q E I ⟨U,M,QW,EX,hE,ht,hQ,hX⟩=>nS (ib (X:=fly X G_ σ E) F.plainAttrs_str F.slot_str_join F.type_str_join yh fv (bM (nR ha.h) c7 hs) hbase hfew hline hs hplain) I ⟨rfl,rfl,U,M,_,EX,hE,ht,(λdx M1 y0 x H1 p1=>by obtain⟨d,hf,h1⟩:=y0;obtain⟨l,ss,z,rfl,hl,hb,rfl,rfl⟩:=yj (au (aP _ _) p1.rep) hf;exact⟨sp,l,ss,rfl,rfl,hl,hb,hQ _ M1 h1 _ H1 ⟨p1.toPostT,.str _⟩⟩),hX⟩⟩
def Kn(ml:X.mg "tuple"=none)(ha:YE X a ta)(hg:Gl X "tuple"<|>J7)(he:SE a [] X<|>J7)(hpl:BT pos [] X<|>J7):
  YE X (.Call (.Name "tuple" p) [a] [] pos) (rR ta):=
 ⟨bA (gD CV hg ml (by decide +kernel) (bM ha.h c7 he) (by decide) (by decide) he hpl) λσ H Q U M QW hE ht hQ=>⟨U,M,_,hE,ht,λd M1 y0 v H1 p1=>by obtain⟨ds,ed,hq⟩:=y0;subst ed;obtain⟨q,xs,rfl,h1,h2,_⟩:=gJ p1.rep;refine⟨q,xs,rfl,.inl ⟨(aP _ _).seq (.inl h1),λl hl=>?_⟩⟩;have hn:=p1.ok.fresh hl;refine hQ _ M1 hq _ _ ⟨p1.toPostT.trans (PostT.of p1.ok (bo hl _)),.tup ?_ (aV (PH.up (bo hl _)) h2)⟩;rw[PH.of hn];exact bn⟩⟩
end
section
variable {P:Hp}
def nU(ho:OutX X P EX)(he:YX X a te)(hs:swapsWith a none pos.line X.env=pure false<|>J7):YM X P EX (.Expr a pos) (jx te):=⟨λn=>da (jW (nE he.h ho.pass) hs) λDe σ H y0=>by obtain⟨U,M,Ew,hE,ht,hl,hX⟩:=y0;exact⟨U,M,_,_,hE.q,ht,λd M1 h1 v H1 p1=>hl.nx _ M1 h1 σ H1 (hE.next p1.toPostT),λv c H' z=>(z.pre hE.same).post hX⟩⟩
def Ko:YM X P EX st wP:=⟨λn=>da BR λDe σ H y0=>by obtain⟨U,M,Ew,hE,ht,hl,hX⟩:=y0;exact ht⟩
end
section
variable {g:TG}{c:ag->k_}{un:D->Option n_}
def Kq(i:Nat)(hN:X.N.Nodup)(B:BlkOk X scope own J3 cn)(hc:X.calm=true)(hi:JI X tg iter fi ei)(hg:∀s H cl ex,PG (blk X (own++cn) s H scope cl ex) tg g)(hgv:TgV X.K g is un)(his:∀i∈is,i<own.length)(ht:∀s H cl ex,PTs (blk X (own++cn) s H scope cl ex) ifs (tvT X.K c))(he:∀s H cl ex,JE (blk X (own++cn) s H scope cl ex) elt fe ee)(hsw:swapsWith (.ListComp elt [⟨tg,iter,ifs,0⟩] scope pos) (some (.Name x p2)) spos.line X.env=pure true<|>J7)(hxi:X.N[i]?=some x<|>J7)(hx:Loc X.env.scope x<|>J9)(hfn:X.fn x=true\/X.env.scope.names.lookup x=some .local<|>J9)(hs:(∀x,foldedSetIterable iter X.env x=pure x)<|>Q0):
  YS X (.Assign [.Name x p2] (.ListComp elt [⟨tg,iter,ifs,0⟩] scope pos) spos) (aK i (iD (bW own.length J3 is un fi c fe))):=⟨λP n=>
 dC (DX i hN B hc hi.h hg hgv his ht (λs H cl ex=>(he s H cl ex).h) hsw hxi hx hfn hs) λDe σ H U M Ew hE ⟨d,hf,ds,e,hq⟩ hl=>⟨U,d,hE.q.envR,hf,λv H' p=>by obtain⟨l,xs,ds',rfl,rfl,hl0,hl',hr⟩:=p.new;cases e;obtain⟨e1,e2⟩:=fL (c:=.lst ds) hE.q.ok hl0 p.same hl' (hr (inM M) hE.q.ok.dom λe _=>qZ hE.q e);exact hl.nx _ _ (hq l (hE.q.ok.fresh hl0)) _ H' ((hE.next ⟨e1,e2⟩).set (.ptr l))⟩⟩
end
section
variable {tb:NTE}
def yz{x:D}{xs:n_}(ok:MOk K H M)(r:Rep K (PH H M) v x)(h:vw1 M x=.lst xs):∃q ys,v=.ref q/\Rd H q (.lst ys)/\Reps K (PH H M) ys xs:=by
 cases x with
 | ptr b=>
   cases r;cases hm:M b with
   |none=>simp[vw1,hm]at h
   | some c=>
     cases c with
     |lst es=>simp only[vw1,hm]at h;cases h;obtain⟨ys,g1,g2⟩:=fN ok hm;exact⟨b,ys,rfl,.inl g1,g2⟩
     |_=>simp[vw1,hm]at h
 |lst es=>cases h;obtain⟨q,ys,rfl,h1,h2,_⟩:=gJ r;exact⟨q,ys,rfl,dI (aP _ _) h1,h2⟩
 |_=>cases h
def Kr(ha:YE X a ta)(hb:YE X b tb):YE X (.BinOp a .Add b pos) (rS ta tb):=
 ⟨bA (jZ pQ ha.h hb.h) λσ H Q U M QW hE ht hQ=>⟨U,M,_,hE,ht,λx M1 h1 vx H1 p1=>⟨U,M1,_,hE.next p1.toPostT,h1,λy M2 y0 vy H2 p2=>by obtain⟨xs,ys,ex,ey,hl,hq⟩:=y0;subst ey;have rx:=au p2.same p1.rep;obtain⟨q,us,rfl,g1,g2⟩:=yz p2.ok rx ex;obtain⟨q',ws,rfl,g3,g4,_⟩:=gJ p2.rep;refine⟨q,q',us,ws,rfl,rfl,g1,dI (aP _ _) g3,by rw[g2.length,g4.length];exact dQ hl,λr hr=>?_⟩;obtain⟨e1,e2⟩:=fL (c:=.lst (xs++ys)) p2.ok hr (bo hr (.lst (us++ws))) bn (aV (rf hr) (g2.append g4));exact hQ _ _ (hq r (p2.ok.fresh hr)) _ _ ⟨(p1.toPostT.trans p2.toPostT).trans ⟨e1,e2⟩,.ptr r⟩⟩⟩⟩
def Ks(ha:YE X a ta)(hb:YE X b tb):YE X (.BinOp a .Add b pos) (rT ta tb):=
 ⟨bA (jZ pQ ha.h hb.h) λσ H Q U M QW hE ht hQ=>⟨U,M,_,hE,ht,λx M1 h1 vx H1 p1=>⟨U,M1,_,hE.next p1.toPostT,h1,λy M2 y0 vy H2 p2=>by obtain⟨xs,ys,ex,ey,hl,hq⟩:=y0;subst ey;have rx:=au p2.same p1.rep;obtain⟨q,us,rfl,g1,g2⟩:=yz p2.ok rx ex;obtain⟨q',ws,rfl,g3,g4,_⟩:=gJ p2.rep;refine⟨q,q',us,ws,rfl,rfl,g1,dI (aP _ _) g3,by rw[g2.length,g4.length];exact dQ hl,λr hr=>?_⟩;have hn:=p2.ok.fresh hr;refine hQ _ M2 hq _ _ ⟨(p1.toPostT.trans p2.toPostT).trans (PostT.of p2.ok (bo hr _)),.lst (.inl ?_) (aV (PH.up (bo hr _)) (g2.append g4))⟩;rw[PH.of hn];exact bn⟩⟩⟩
def Kt(ha:YE X a ta)(hb:YE X b tb)(hm:behindInMarks .NotIn b=false<|>Q3):YT X (.Compare a [.NotIn] [b] pos) (bu (n2V mT ta tb)):=⟨yp CT (EA X.K) ha.h hb.h hm⟩
theorem Ku(ha:YE X a ta)(hb:YE X b tb):YE X (.Subscript a (.Slice none (some b) none p2) pos) (rV ta tb):=
 ⟨bA (lV yc ha.h py (pz hb.h)) λσ H Q U M QW hE ht hQ=>⟨U,M,_,hE,ht,λx M1 h1 vx H1 p1=>⟨U,M1,_,hE.next p1.toPostT,h1,λy M2 y0 vy H2 p2=>by
  obtain⟨i,d,ey,hd,hq⟩:=y0;subst ey;have rx:=au p2.same p1.rep;cases p2.rep;refine⟨i,rfl,?_⟩;cases x with
  |str z=>obtain⟨hc,rfl⟩:=bP hd;cases rx;exact⟨z,rfl,hc.1,hc.2.1,by rw[cg];exact dQ hc.2.2,hQ _ M2 hq _ H2 ⟨p1.toPostT.trans p2.toPostT,.str _⟩⟩
  |_=>cases hd⟩⟩⟩
end
structure YPN (X:Cx) (pos:Pos) (keys:List (Option Expr)) (vals:z6) (ns:z0) (tas:NTA):Prop where
 h:∃trs,PPs X pos keys vals trs/\keys.length=ns.length/\∀σ H Q,twA X.K tas σ H (λvs H'=>Q ((ns.zip vs).map λp=>(V.str p.1,p.2)) H')->ko trs σ H Q
section
variable {f:Str}{k:Nat}{P:Hp}
def Kv:YPN X pos [] [] [] ak:=⟨[],uW,rfl,λσ H Q y0=>by obtain⟨U,M,QW,hE,ht,hQ⟩:=y0;exact hQ [] M ht [] H ⟨PostT.refl hE.ok,.nil⟩⟩
def se{j}(ha:YE X a ta)(hr:YPN X pos keys vals ns tas):YPN X pos (some (.Constant (.str x) j p2)::keys) (a::vals) (x::ns) (aa ta tas):=by obtain⟨trs,h1,hl,h2⟩:=hr.h;refine⟨_,uX fv ha.h h1,by simp[hl],λσ H Q y0=>?_⟩;obtain⟨U,M,QW,hE,ht,hQ⟩:=y0;exact⟨U,M,_,hE,ht,λd M1 h3 v H1 p1=>h2 σ H1 _ ⟨U,M1,_,hE.next p1.toPostT,h3,λds M2 h4 vs H2 p2=>hQ _ M2 h4 (v::vs) H2 ⟨p1.toPostT.trans p2.toPostT,.cons (au p2.same p1.rep) p2.rep⟩⟩⟩
def Kw(h:YPN X pos keys vals ns tas)(hn:ns.Nodup<|>Q1)(hall:keys.all (·.isSome)=true<|>J7)(hl:keys.length=vals.length<|>J7)(h0:keys≠[]:=by simp)(h15:keys.length<=15<|>J8):YE X (.Dict keys vals pos) (rW ns tas):=by
 obtain⟨trs,h1,hk,h2⟩:=h.h;refine⟨bA (v6 h1 hall hl h0 h15) λσ H Q U M QW hE ht hQ p hp=>?_⟩;obtain⟨e1,e2⟩:=fL (c:=.dic [] []) hE.ok hp (bo hp (.dK [])) bn ⟨[],rfl,rfl,.nil⟩;refine h2 σ _ _ ⟨U,_,_,hE.next ⟨e1,e2⟩,ht p (hE.ok.fresh hp),λds M2 y0 vs H2 p2=>?_⟩;obtain⟨h3,h4,h5⟩:=y0;have lv:=p2.rep.length;obtain⟨vs0,g1,gl,g2⟩:=gZ p2.ok h4;have hpp:H2 p=some (.dK []):=by
  have:aF [] vs0=[]:=by cases vs0<;>rfl
  rw[this]at g1;exact g1
 refine⟨hpp,aF ns vs,by simp[aF,kV,z3e],by simp[aF];ext,?_⟩;have em:fA [] (aF ns vs)=aF ns vs:=by rw[rl ∅ hn λx hx=>uM];rfl
 rw[em];obtain⟨e3,e4⟩:=gm (o:=.dK (aF ns vs)) (c:=.dic ns ds) p2.ok h4 ⟨vs,rfl,by ext,p2.rep⟩;exact hQ _ _ h5 _ _ ⟨(PostT.mk e1 e2).trans (p2.toPostT.trans ⟨e3,e4⟩),.ptr p⟩
def Kx(d:MakN X.prog X.w X.K X.mg X.base x C k ps T)(hr:Room (k+1) X.A)(hg:Gl X x<|>J7)(hdb:DB x<|>J8):YE X (.Call (.Name x p) [] [] pos) (rX C T):=
 let⟨_,_,F,M,hm,hb⟩:=d
 ⟨bA (CB M F hr hg hm hb .nil f6 hdb) λσ H Q U M QW hE ht hQ q dx hq hdx ne=>by
  have hqd:upd H dx (.own q) q=none:=by rw[aE (Ne.symm ne)];exact hq
  have s1:=bo hdx (.own q);have s2:=bo hqd (.ins C dx []);obtain⟨e1,e2⟩:=fL (c:=.ins C [] []) (hE.ok.up s1) hqd s2 bn ⟨rfl,[],rfl,rfl,.nil⟩;have pt:PostT X.K H M _ _:=(PostT.of hE.ok s1).trans ⟨e1,e2⟩;exact⟨[.ptr q],_,_,.cons (.ptr q) .nil,e2,ht q (hE.ok.fresh hq),λd M' y0 v H' p'=>by obtain⟨hd,hq'⟩:=y0;subst hd;cases p'.rep;exact⟨rfl,hQ _ M' hq' _ H' ⟨pt.trans p'.toPostT,.ptr q⟩⟩⟩⟩
def Ky(ho:OutX X P EX)(cl:Cls X.K C)(nat:NoAttr X.K C f)(ha:YE X.nox a ta)(hv:YX X b te)(hn:ns.Nodup<|>Q1)(hi:ns[i]?=some f<|>J7)(hlt:ns.length<1000<|>J8)(hs:swapsWith b (some (.Attribute a f p2)) pos.line X.env=pure false<|>J7):
  YM X P EX (.Assign [.Attribute a f p2] b pos) (rY C ns i ta te):=⟨λn=>
 da (pp (PE.nox ha.h) (nE hv.h ho.pass) hs) λDe σ H ⟨U,M,Ew,hE,ht,hl,hX⟩=>⟨U,M,_,_,hE.q,ht,λd M1 h1 v H1 p1=>⟨U,M1,_,hE.q.next p1.toPostT,h1,λx M2 y0 vx H2 p2=>by obtain⟨q,ds,ex,hm,h2⟩:=y0;subst ex;cases p2.rep;obtain⟨dx,vs,g1,gl,g2⟩:=gp p2.ok hm;have rv:=au p2.same p1.rep;refine⟨q,C,dx,_,rfl,g1,cl,nat,by rw[List.length_zip,gl,Nat.min_self];exact hlt,?_⟩;rw[rj _ gl hn hi];obtain⟨e1,e2⟩:=gm (o:=.ins C dx (ns.zip (vs.set i v))) (c:=.ins C ns (ds.set i d)) p2.ok hm ⟨rfl,_,rfl,by rw[z8e];exact gl,g2.set rv i⟩;exact hl.nx _ _ h2 σ _ ((hE.next (p1.toPostT.trans p2.toPostT)).next ⟨e1,e2⟩)⟩,λv c H' z=>(z.pre hE.same).post hX⟩⟩
end
theorem Kz{fi:FE}(h:JE X iter fi ei):JI X tg iter (nQ fi) ei:=⟨qe (oS h.h) λσ H R y0=>by
 obtain⟨U,ds,hE,hf,hR⟩:=y0;obtain⟨d,h1,hf⟩:=bind_some hf;refine⟨U,d,hE,h1,λv H1 p=>?_⟩;cases d with
 |tup es=>cases hf;obtain⟨q,xs,rfl,hq,hx⟩:=w8 p.rep;have len:=hx.length;refine⟨q,rfl,⟨xs,SqT.of hq⟩,hR _ _ ⟨p.same,λi d' H' hd e=>?_,λH' e=>⟨xs,SqT.of (e _ _ hq),by ext⟩⟩⟩;obtain⟨x,h2,h3⟩:=hx.get hd;refine⟨⟨xs,x,SqT.of (e _ _ hq),h2⟩,λy H'' y0=>?_⟩;obtain⟨eq,hy⟩:=y0;subst eq;have h4:=hy xs (SqT.of (e _ _ hq));rw[h2]at h4;cases h4;refine⟨Same.refl _,au e h3,λA hA hz=>?_⟩;obtain⟨x',h5,h6⟩:=(E5 (.inl hq) (p.av A hA hz)).get hd;rw[h2]at h5;cases h5;exact au (c8 e) h6
 |_=>cases hf⟩
section
variable {α:Type}{us:List α}
def yA(h:us.length=1):∃a,us=[a]:=by
 cases us with
 |nil=>cases h
 |cons a r=>exact⟨a,by rw[List.eq_nil_of_length_eq_zero (z5v h)]⟩
def yB(h:us.length=2):∃a b,us=[a,b]:=by
 cases us with
 |nil=>cases h
 |cons a r=>obtain⟨b,rfl⟩:=yA (z5v h);exact⟨a,b,rfl⟩
def yC(h:us.length=3):∃a b c,us=[a,b,c]:=by
 cases us with
 |nil=>cases h
 |cons a r=>obtain⟨b,c,rfl⟩:=yB (z5v h);exact⟨a,b,c,rfl⟩
def yD(h:us.length=4):∃a b c d,us=[a,b,c,d]:=by
 cases us with
 |nil=>cases h
 |cons a r=>obtain⟨b,c,d,rfl⟩:=yC (z5v h);exact⟨a,b,c,d,rfl⟩
def yE(h:us.length=5):∃a b c d e,us=[a,b,c,d,e]:=by
 cases us with
 |nil=>cases h
 |cons a r=>obtain⟨b,c,d,e,rfl⟩:=yD (z5v h);exact⟨a,b,c,d,e,rfl⟩
def KA(h:us.length=6):∃a b c d e f,us=[a,b,c,d,e,f]:=by
 cases us with
 |nil=>cases h
 |cons a r=>obtain⟨b,c,d,e,f,rfl⟩:=yE (z5v h);exact⟨a,b,c,d,e,f,rfl⟩
end
def FA(K:K0)(mg:Str->i_)(x:Str)(s:Stmt):Prop:=∃a fd,Fun K x x s a fd/\mg x=some (.ref a)
def MA(K:K0)(C:Addr)(x q:Str)(s:Stmt):Prop:=∃a fd,Fun K x q s a fd/\Meth K C x a
def IA(K:K0)(mg:Str->i_)(c:Str)(C:Addr)(q:Str)(s:Stmt):Prop:=∃a fd,Fun K "__init__" q s a fd/\Mk K C a/\mg c=some (.ref C)
section
variable {q c:Str}{kV:Value}
def FA.of(X:K.In h)(G:h.Ns mainGlobals mg)(a:W.nsIn K mainGlobals x=some (some (.ref f)))(l:K.lookup f=some ⟨oc,od,.func (W.fnOf x x (gE st) (cU st) (am st) .none kV doc pm an cdv ct),osl⟩)(c:W.codeIn K cdv x=true)(k:W.keepIn K (.ref f)=true):FA K mg x st:=⟨_,_,pE l c k,z6z X G a⟩
def MA.of(a:W.findIn K (.ref C) x=some (some (.ref f)))(i:W.isFn K (.ref f)=true)(l:K.lookup f=some ⟨oc,od,.func (W.fnOf x q (gE st) (cU st) (am st) .none kV doc pm an cdv ct),osl⟩)(c:W.codeIn K cdv q=true)(k:W.keepIn K (.ref f)=true):MA K C x q st:=⟨_,_,pE l c k,⟨a,i,k⟩⟩
def IA.of(X:K.In h)(G:h.Ns mainGlobals mg)(a:W.findIn K (.ref C) "__init__"=some (some (.ref f)))(i:W.isFn K (.ref f)=true)(l:K.lookup f=some ⟨oc,od,.func (W.fnOf "__init__" q (gE st) (cU st) (am st) .none kV doc pm an cdv ct),osl⟩)(cd:W.codeIn K cdv q=true)(k:W.keepIn K (.ref f)=true)(aC:W.nsIn K mainGlobals c=some (some (.ref C)))(m:W.makesIn K C=true)(kc:W.keepIn K (.ref C)=true):IA K mg c C q st:=
 ⟨_,_,pE l cd k,⟨m,a,i,kc⟩,z6z X G aC⟩
def gi_of{i:Int}{t:Tok}(X:K.In h)(G:h.Ns mainGlobals mg)(a:W.nsIn K mainGlobals x=some (some (.int i t))):∃t,mg x=some (.int i t):=⟨t,z6z X G a⟩
def gs_of{i:Str}{t:Tok}(X:K.In h)(G:h.Ns mainGlobals mg)(a:W.nsIn K mainGlobals x=some (some (.str i t))):∃t,mg x=some (.str i t):=⟨t,z6z X G a⟩
abbrev BdR(x q:Str)(st:Stmt)(ps:z0):Prop:=∀(kV doc pm:Value) (an:Option Addr) (cdv ct:Value) (us:z5),us.length=ps.length->bindArgs (W.fnOf x q (gE st) (cU st) (am st) .none kV doc pm an cdv ct) ⟨us,[]⟩=pure (ps.zip us)
section
variable {k:Nat}
def mkA(h:FA K mg x st)(b:BdR x x st ps)(F:∀f fd,Fun K x x st f fd->FnOk P w K mg base CX k f fd ps sp):∃f fd,FnOk P w K mg base CX k f fd ps sp/\mg x=some (.ref f)/\W.keepIn K (.ref f)=true/\Binds K fd ps []:=
 let⟨a,fd,Fn,m⟩:=h;⟨a,fd,F a fd Fn,m,Fn.kp,Fn.binds b⟩
def mkM(h:MA K C x q st)(b:BdR x q st ps)(F:∀f fd,Fun K x q st f fd->FnOk P w K mg base CX k f fd ps sp):∃f fd,FnOk P w K mg base CX k f fd ps sp/\Meth K C x f/\Binds K fd ps []:=
 let⟨a,fd,Fn,m⟩:=h;⟨a,fd,F a fd Fn,m,Fn.binds b⟩
def mkI(h:IA K mg c C q st)(b:BdR "__init__" q st ps)(F:∀f fd,Fun K "__init__" q st f fd->FnOk P w K mg base CX k f fd ps sp):∃f fd,FnOk P w K mg base CX k f fd ps sp/\Mk K C f/\mg c=some (.ref C)/\Binds K fd ps []:=
 let⟨a,fd,Fn,m,g⟩:=h;⟨a,fd,F a fd Fn,m,g,Fn.binds b⟩
end
def KC{P:z0}{sc:Scope}(_:FnScope N P sc)(hs:X.env.scope=sc)(h:wm sc names=true):∀x∈names,x.2=.free->(X.env.kindOf x.1=some .cell\/X.env.kindOf x.1=some .free):=Ex sc hs h
end
end VL
namespace VL
namespace My
open PySem (Str)
open L2 (atI ixN)
local macro_rules | `(tactic| walk_at"env")=>`(tactic| (simp only[List.set_cons_zero,List.set_cons_succ,z9n,z7v,z6e,List.nil_append,List.replicate_succ,List.replicate_zero,Nat.reduceSub,Nat.reduceAdd,z7o,List.zip_nil_left,List.zip_nil_right,List.foldl_cons,List.foldl_nil,bC,bq,List.getElem?_cons_zero,List.getElem?_cons_succ,z7b,z5e]))
local macro_rules | `(tactic| walk_at"side")=>`(tactic| first|assumption|exact mX ∅ (by ext)|exact G5 ∅ (by ext)|exact wH (kY ∅ ∅) (kY ∅ ∅)|exact G7 (by ext)|exact G6 ∅ (kY ∅ ∅)|exact G8 ∅ ∅ ∅ (by ext)|ext)
local macro_rules | `(tactic| walk_at"run1")=>`(tactic| first
 |(with_reducible first|refine F8 ?_|refine F7 ?_|refine Fs ?_)|((with_reducible refine' F6 ?h ?_);(case h=>exact rfl))|(with_reducible first|refine Fa ?_|refine Fb ?_)
 |((with_reducible refine qG ?h ?_);(case h=>walk_at"side"))|((with_reducible refine Fc ?h ?_);(case h=>walk_at"side"))|((with_reducible refine Fd ?h ?_);(case h=>walk_at"side"))|((with_reducible refine Fe ?h (λv hv=>?_));(case h=>walk_at"side");(simp only[Int.reduceToNat,Int.reducePow]at hv);(subst hv))
 |(with_reducible exact rfl)|(with_reducible first|refine Ff ?_|refine Fg ?_|refine Fh ?_|refine Fi ?_|refine Fk ?_|refine Fo ?_|refine F9 ?_|refine Fj ?_)
 |(with_reducible first|refine Fq ?_|refine Fr ?_|refine Fu ?_|refine Fv ?_|refine Fw ?_|refine Fx ?_|refine Fy ?_|refine FC ?_|refine FJ ?_)
 |(with_reducible first|refine FD ?_|refine FF ?_|refine FG ?_|refine FH ?_|refine FI ?_)
 |(with_reducible first|refine FL ?_|refine FK ?_|refine FM ?_|refine FN ?_|refine FP ?_|refine FQ ?_)|((with_reducible refine wy ?_);(try walk_at"env"))|(with_reducible first|refine Ft ?_|refine wz ?_|refine wD ?_)
 |(with_reducible first|refine FT ?_|refine FU ?_|refine wA ?_|refine wB ?_|refine Fz ?_|refine FB ?_|refine FV ?_|refine Gv ?_)
 |(with_reducible refine Gc ?_)|(with_reducible refine Gd ?_)
 |((with_reducible refine Gb ?h ?_);(case h=>first|exact Nat.le_of_ble_eq_true rfl|decide|(simp;done)|(simp;ext)))
 |((with_reducible refine And.intro ?h ?_);(case h=>first|exact Nat.le_of_ble_eq_true rfl|exact rfl|(with_reducible show ¬(HT.sIx _ _ _=_/\_);simp[HT.sIx];done)))|((with_reducible refine Exists.intro _ (And.intro rfl ?_)))|((with_reducible refine Exists.intro _ (And.intro (seqD_lst _) ?_)))|((with_reducible refine Exists.intro _ (And.intro (seqD_scr _) ?_)))|(with_reducible first|refine FW ?_|refine FX ?_|refine FY ?_|refine FZ ?_|refine G0 ?_|refine G1 ?_)|((with_reducible refine' GB ?h ?_);(case h=>exact rfl))|(with_reducible first|refine G2 ?_|refine G3 ?_|refine G4 ?_|refine Gu ?_|refine Gi ?_|refine Gj ?_|refine Gm ?_|refine Gn ?_|refine Gh ?_|refine Go ?_|refine Gp ?_)
 |((with_reducible refine' mW ?h ?_);(case h=>exact rfl)))
local macro_rules | `(tactic| walk_at"run")=>`(tactic| repeat (first|walk_at"run1" | walk_at"call"))
local macro_rules|`(tactic| lia)=>`(tactic| walk_at"run")
local macro_rules|`(tactic| grind)=>`(tactic|(walk_at"env";walk_at"run"))
local macro_rules | `(tactic| walk_at"all")=>`(tactic| (walk_at"run";try ((with_reducible first|refine ay (λh=>?_) (λh=>?_)|refine gi (λh=>?_) (λh=>?_))<;>walk_at"all")))
local macro_rules | `(tactic| walk_at"leaf")=>`(tactic| first|ext|exact z8w D.bl (z6u.mpr ∅)|exact z8w D.bl (z8y ∅).symm|exact z8w D.bl (z9w ∅).symm)
local macro_rules | `(tactic| walk_at"n1")=>`(tactic| first
 |(with_reducible first|refine HG ?_|refine HH ?_|refine HI ?_|refine HJ ?_|refine HK ?_|refine HL ?_)
 |(with_reducible first|refine HM ?_|refine HN ?_|refine HP ?_|refine HQ ?_|refine HR ?_)
 |(with_reducible first|refine HS ?_|refine HU ?_|refine HV ?_|refine HW ?_|refine HZ ?_|refine Ia ?_)
 |(with_reducible first|refine Ib ?_|refine Id ?_|refine Ie ?_|refine Ig ?_|refine Ih ?_|refine Ii ?_)
 |(with_reducible first|refine Ij ?_|refine Ik ?_|refine Il ?_|refine Im ?_|refine Io ?_)
 |(with_reducible first|refine Ip ?_|refine Iq ?_|refine Ir ?_|refine Iu ?_|refine Iv ?_|refine Iw ?_|refine Iy ?_|refine Ix ?_|refine Iz ?_|refine IC ?_|refine ID ?_|refine IE ?_)
 |(with_reducible first|refine IF ?_|refine IG ?_|refine IH ?_|refine II ?_|refine IK ?_|refine IJ ?_|refine IN ?_|refine IU ?_|refine IV ?_)
 |(with_reducible first|refine IO ?_|refine IP ?_|refine IQ ?_|refine IR ?_|refine IS ?_)
 |((with_reducible refine xQ ?_);(try walk_at"env"))|(with_reducible refine xR ?_))
local macro_rules | `(tactic| walk_at"call")=>`(tactic| walk_at"n1")
local macro_rules | `(tactic| walk_at"call")=>`(tactic| first
 |((with_reducible refine' HY ?h1 ?h2 ?h3 ?_);(case h1=>exact rfl);(case h2=>first|assumption|exact az);(case h3=>exact rfl))
 |((with_reducible refine' nF ?h1 ?h2 ?h3 ?_);(case h1=>exact rfl);(case h2=>first|assumption|exact az);(case h3=>exact rfl))
 |((with_reducible refine' Ic ?h1 ?h2 ?_);(case h1=>exact rfl);(case h2=>first|assumption|exact az))
 |((with_reducible refine' IL ?h1 ?h2 ?_);(case h1=>exact rfl);(case h2=>first|assumption|exact az))
 |fail
 |fail)
local macro_rules | `(tactic| walk_at"call")=>`(tactic| first
 |(with_reducible first|refine Ja ?_|refine Jb ?_|refine Jc ?_|refine IZ ?_|refine Jf ?_|refine HX ?_)
 |((with_reducible refine IY ?h ?_);(case h=>assumption)))
variable {U:ag}{M M':Sto}{Q:QE}{ta:NTA}{E:EndN}{EX:QX}{xa:NXA}{C a j n CD o S J0 J1 num fa ra dk pl st:Nat}{ns row xs H_:z_}{T:NTX}{J3 l hd:y9}{i f r s x c d last scale J4 coins:Int}{t I_:List z_}{J5 J6 p u why:D}{b done:Bool}{z w:Str}{ls nm nl:List y9}{off:n_}{body:D->NTS}
def KD:n_->o_:=mkF false 3 3 (bg (cY (e1 (iu "int") (a5 0)) (cY (mh (e1 (iu "bool") (a5 0))) (e3c leI leI (a5 1) (a5 0) (a5 2)))))
abbrev fk:n_->o_:=scF KD
def KE:n_->o_:=mkF false 2 4 (aR (bj 2 (eC (.int 1))) (aR (gN 3 (a8 (a5 1) (ai)) (bj 2 (e2 bJ (a5 2) (a5 0)))) (bg (a5 2))))
abbrev nV:n_->o_:=scF KE
def KF:n_->o_:=mkF false 1 1 (bg (cY (e3c leI leI (eC (.int 1)) (eA (ar bx) (a8 (a5 0) (ai))) (eC (.int 6))) (eA (ar (gO λbs=>bs.all id)) (a8 (bW 1 [] [0] un1 (fJ (a5 0)) c4 (eA fk (a8 (a5 0) (a8 (eC (.int 1)) (a8 (eC (.int 1000000)) (ai)))))) (ai)))))
abbrev nW:n_->o_:=scF KF
def KG:n_->o_:=mkF false 1 1 (bg (eA (ar dZ) (a8 (a5 0) (ai))))
abbrev nX:n_->o_:=scF KG
def KH:n_->o_:=mkF false 2 2 (aR (sIf (eT (e2 neD (eA (ar bx) (a8 (a5 0) (ai))) (e2 bd (a5 1) (eC (.int 1))))) (bg (eC (.bl false))) (jq)) (bg (cY (eA (ar (gO λbs=>bs.all id)) (a8 (bW 1 [] [0] un1 (fJ (a5 0)) c4 (eA fk (a8 (a5 0) (a8 (eC (.int 0)) (a8 (eC (.int 1000)) (ai)))))) (ai))) (e2 gtI (eA nX (a8 (a5 0) (ai))) (eC (.int 0))))))
abbrev nY:n_->o_:=scF KH
def KI:n_->o_:=mkF false 2 2 (bg (cY (e2 leI (eA (ar bx) (a8 (a5 0) (ai))) (eC (.int 8))) (eA (ar (gO λbs=>bs.all id)) (a8 (bW 1 [1] [0] un1 (fJ (a5 0)) c4 (eA nY (a8 (a5 0) (a8 (a5 1) (ai))))) (ai)))))
abbrev sf:n_->o_:=scF KI
def KJ:n_->o_:=mkF false 3 3 (bg (cY (eA fk (a8 (a5 0) (a8 (eC (.int 0)) (a8 (eC (.int 10)) (ai))))) (cY (eA nW (a8 (a5 1) (ai))) (eA sf (a8 (a5 2) (a8 (eA (ar bx) (a8 (a5 1) (ai))) (ai)))))))
abbrev sg:n_->o_:=scF KJ
def KM:n_->o_:=mkF true 2 4 (aR (bj 2 (bV (a8 (a5 1) (ai)))) (aR (kQ 3 (a5 0) (jr 2 (e2 bJ (e2 ixD (a5 2) (e1 eK (eC (.int 1)))) (eA nX (a8 (a5 3) (ai)))))) (bg (e1 qp (a5 2)))))
abbrev nZ:n_->o_:=KM
def KN:n_->o_:=mkF false 3 3 (bg (eA (ar dZ) (a8 (bW 2 [] [0,1] (unT 2) (kS (a5 0) (e2 gK (a5 1) (bV (a8 (a5 2) (ai))))) c4 (e2 bJ (a5 0) (a5 1))) (ai))))
abbrev sh:n_->o_:=scF KN
def KP:n_->o_:=mkF false 4 4 (bg (e2 bd (e2 bJ (a5 0) (a5 1)) (e2 ixD (a5 2) (e2 bI (a5 3) (eC (.int 1))))))
abbrev o3:n_->o_:=scF KP
def KQ:n_->o_:=mkF false 4 4 (aR (sIf (eT (e2 eqD (a5 3) (eC (.int 0)))) (bg (e2 ixD (a5 2) (a5 3))) (jq)) (bg (eA (d9 e8) (a8 (e2 ixD (a5 2) (a5 3)) (a8 (eA o3 (a8 (a5 0) (a8 (a5 1) (a8 (a5 2) (a8 (a5 3) (ai)))))) (ai))))))
abbrev sj:n_->o_:=scF KQ
def KR:n_->o_:=mkF false 5 5 (bg (eA sh (a8 (a5 1) (a8 (bW 1 [2,3,4] [0] un1 (fJ (a5 0)) c4 (eA sj (a8 (a5 0) (a8 (a5 1) (a8 (a5 2) (a8 (a5 3) (ai))))))) (a8 (e2 ixD (a5 3) (a5 4)) (ai))))))
abbrev sk:n_->o_:=scF KR
def KS:n_->o_:=mkF true 4 4 (bg (bW 1 [0,1,2,3] [0] un1 (iR1 (a8 (eA (ar bx) (a8 (a5 3) (ai))) (ai))) c4 (eA sk (a8 (a5 1) (a8 (a5 2) (a8 (a5 3) (a8 (a5 4) (a8 (a5 0) (ai)))))))))
abbrev sm:n_->o_:=KS
def KU:n_->o_:=mkF true 4 7 (aR (bj 4 (eA nZ (a8 (a5 1) (a8 (a5 2) (ai))))) (aR (bj 5 (bV (a8 (e1 pT (a5 3)) ai))) (aR (mU 6 (a8 (e2 bI (eA (ar bx) (a8 (a5 1) (ai))) (eC (.int 1))) (a8 (e1 eK (eC (.int 1))) (a8 (e1 eK (eC (.int 1))) (ai)))) (kU 5 (eA sm (a8 (a5 0) (a8 (e2 ixD (a5 1) (a5 6)) (a8 (e2 ixD (a5 4) (e2 bd (a5 6) (eC (.int 1)))) (a8 (e2 ixD (a5 5) (e1 eK (eC (.int 1)))) (ai)))))))) (kW 5))))
abbrev so:n_->o_:=KU
def KW:n_->o_:=mkF false 4 4 (bg (cY (e2 gtI (a5 3) (eC (.int 0))) (e2 geI (eA o3 (a8 (a5 0) (a8 (a5 1) (a8 (a5 2) (a8 (a5 3) (ai)))))) (e2 ixD (a5 2) (a5 3)))))
abbrev sr:n_->o_:=scF KW
def KY:n_->o_:=mkF false 3 3 (bg (e1 eK (e2 ie (e2 bI (e2 ixD (a5 1) (e2 bI (a5 2) (eC (.int 1)))) (e2 ixD (a5 1) (a5 2))) (a5 0))))
abbrev su:n_->o_:=scF KY
def KZ:n_->o_:=mkF false 1 6 (aR (bj 1 (e2 ixD (a5 0) (eC (.int 0)))) (aR (bj 2 (e2 ixD (a5 0) (eC (.int 1)))) (aR (bj 3 (e2 ixD (a5 0) (eC (.int 2)))) (aR (bj 4 (e2 ixD (a5 0) (eC (.int 3)))) (aR (bj 5 (cY (eA fk (a8 (a5 3) (a8 (eC (.int 1)) (a8 (eC (.int 1000)) (ai))))) (eA fk (a8 (a5 2) (a8 (eC (.int 0)) (a8 (a5 3) (ai))))))) (bg (cY (eA fk (a8 (a5 1) (a8 (eC (.int 0)) (a8 (eC (.int 10)) (ai))))) (cY (a5 5) (eA fk (a8 (a5 4) (a8 (eC (.int 0)) (a8 (eC (.int 1000000)) (ai)))))))))))))
abbrev o6:n_->o_:=scF KZ
def L0:n_->o_:=mkF true 3 5 (aR (bj 3 (e2 gK (bW 1 [2] [0] un1 (fJ (a5 0)) c4 (e2 bJ (a5 0) (a5 1))) (bV (a8 (eC (.int 0)) (ai))))) (aR (bj 4 (e2 gK (bV (a8 (eC (.int 0)) (ai))) (bW 1 [1] [0] un1 (fJ (a5 0)) c4 (e2 bJ (a5 0) (a5 1))))) (bg (bW 2 [] [0,1] (unT 2) (kS (a5 3) (a5 4)) c4 (e2 bd (a5 0) (a5 1))))))
abbrev sv:n_->o_:=L0
def L3:n_->o_:=mkF true 3 5 (aR (bj 3 (bV (a8 (eC (.int 1)) (ai)))) (aR (gN 4 (a8 (a5 0) (ai)) (bj 3 (eA sv (a8 (a5 3) (a8 (a5 1) (a8 (e2 bI (a5 2) (a5 1)) (ai))))))) (bg (eL (a5 3)))))
abbrev sw:n_->o_:=L3
def L4:n_->o_:=mkF false 2 4 (aR (bj 2 (e2 ixD (a5 1) (eC (.int 0)))) (aR (bj 3 (eA sw (a8 (a5 0) (a8 (e2 ixD (a5 1) (eC (.int 1))) (a8 (e2 ixD (a5 1) (eC (.int 2))) (ai)))))) (bg (eA (ar dZ) (a8 (bW 2 [2] [0,1] (unT 2) (kR (a5 3)) c4 (e2 bJ (a5 1) (eA (d9 e8) (a8 (e2 bI (a5 0) (a5 2)) (a8 (eC (.int 0)) (ai)))))) (ai))))))
abbrev sx:n_->o_:=scF L4
def L5:n_->o_:=mkF false 3 4 (aR (bj 3 (e2 ixD (a5 2) (eC (.int 3)))) (bg (e2 bJ (e2 bJ (e1 eK (a5 3)) (eA sx (a8 (a5 0) (a8 (a5 2) (ai))))) (eA nV (a8 (e2 ixD (a5 2) (eC (.int 2))) (a8 (a5 1) (ai)))))))
abbrev sy:n_->o_:=scF L5
def L6:n_->o_:=mkF true 2 2 (bg (bW 1 [0,1] [0] un1 (iR1 (a8 (e2 bd (a5 0) (eC (.int 1))) (ai))) c4 (eA sy (a8 (e2 bI (a5 1) (a5 0)) (a8 (a5 0) (a8 (a5 2) (ai)))))))
abbrev sA:n_->o_:=L6
def L7:n_->o_:=mkF false 2 2 (bg (eA nV (a8 (e2 ixD (a5 1) (eC (.int 2))) (a8 (a5 0) (ai)))))
abbrev sB:n_->o_:=scF L7
def L8:n_->o_:=mkF false 3 3 (bg (cY (e3c leI leI (eC (.int 1)) (eA (ar jE) (a8 (a5 0) (ai))) (a5 2)) (eA (ar (gO λbs=>bs.all id)) (a8 (bW 1 [1] [0] un1 (nI (a5 0)) c4 (e2 inT (a5 0) (a5 1))) (ai)))))
abbrev iQ:n_->o_:=scF L8
def L9:n_->o_:=mkF false 1 1 (bg (eIf (f7 (a5 0)) (eC (.str "yes")) (eC (.str "no"))))
abbrev iR:n_->o_:=scF L9
def La:n_->o_:=mkF false 1 1 (bg (eIf (eT (e1 cX (a5 0))) (eC (.str "-")) (eA (ar bF) (a8 (a5 0) (ai)))))
abbrev sC:n_->o_:=scF La
def Lb:n_->o_:=mkF false 2 3 (aR (mB 2 (eSl (a5 0) (gf (a5 1)) (gf (e2 bd (a5 1) (eC (.int 1))))) (bg (a5 2))) (bg (eC (.int 0))))
abbrev o7:n_->o_:=scF Lb
def Lc:n_->o_:=mkF true 2 12 (aR (kK [2,3,4,5] (a5 1)) (aR (bj 6 (bV (ai))) (aR (bj 7 (bV (a8 (eC (.int 1)) (ai)))) (aR (bj 8 (eC (.int 1))) (aR (gN 9 (a8 (e2 bd (a5 0) (eC (.int 1))) (ai)) (aR (bj 10 (eA (ar dZ) (a8 (bW 1 [2,7] [0] un1 (iR1 (a8 (e2 bd (a5 9) (eC (.int 1))) (ai))) c4 (e2 bJ (e2 ixD (a5 2) (a5 0)) (eA (d9 e8) (a8 (eC (.int 0)) (a8 (e2 bI (a5 0) (a5 1)) (ai)))))) (ai)))) (aR (iz 6 (eC (.int 0)) (e2 bI (eC (.int 0)) (e2 bJ (a5 5) (a5 10)))) (bj 7 (bW 1 [3,4,7] [0] un1 (iR1 (a8 (e2 bd (a5 9) (eC (.int 2))) (ai))) c4 (e2 bd (e2 bJ (e2 ixD (e2 gK (a5 3) (bV (a8 (eC (.int 0)) (ai)))) (a5 0)) (e2 bI (a5 2) (a5 1))) (e2 bJ (e2 ixD (e2 gK (bV (a8 (eC (.int 0)) (ai))) (a5 3)) (a5 0)) (a5 1)))))))) (aR (gN 11 (a8 (e2 bd (a5 0) (eC (.int 1))) (ai)) (aR (kJ 6 (a5 11) (e2 bJ (e2 ixD (a5 6) (a5 11)) (a5 8))) (bj 8 (e2 bJ (a5 8) (a5 4))))) (bg (eL (a5 6)))))))))
abbrev sD:n_->o_:=Lc
def Ld:n_->o_:=mkF false 2 4 (aR (bj 2 (eC (.int 1))) (aR (gN 3 (a8 (a5 0) (ai)) (bj 2 (e2 bJ (a5 2) (e2 ixD (a5 1) (eC (.int 2)))))) (bg (a5 2))))
abbrev sE:n_->o_:=scF Ld
def Le:n_->o_:=mkF true 4 11 (aR (bj 4 (bV (ai))) (aR (mR 5 6 (a5 3) (aR (bj 7 (e2 bJ (e2 ixD (a5 1) (e1 eK (eC (.int 1)))) (a5 6))) (aR (mS 8 9 (a5 0) (a5 1) (aR (bj 10 (a5 6)) (aR (sIf (eT (e2 gtI (a5 5) (eC (.int 0)))) (bj 10 (eA (d9 e8) (a8 (a5 6) (a8 (e2 bd (e2 bJ (a5 8) (a5 2)) (e2 ixD (a5 3) (e2 bI (a5 5) (eC (.int 1))))) (ai))))) (jq)) (bj 7 (e2 bd (a5 7) (e2 bJ (a5 9) (a5 10))))))) (jr 4 (a5 7))))) (bg (eL (a5 4)))))
abbrev sF:n_->o_:=Le
def Lf:n_->o_:=mkF false 1 8 (aR (kK [1,2,3,4] (a5 0)) (aR (bj 5 (bV (a8 (eA sD (a8 (a5 1) (a8 (a5 4) (ai)))) (ai)))) (aR (bj 6 (bV (a8 (eA sE (a8 (a5 1) (a8 (a5 4) (ai)))) (ai)))) (aR (kQ 7 (a5 3) (aR (iz 5 (eC (.int 0)) (eA sF (a8 (a5 2) (a8 (a5 7) (a8 (e2 ixD (a5 6) (eC (.int 0))) (a8 (e2 ixD (a5 5) (eC (.int 0))) (ai))))))) (iz 6 (eC (.int 0)) (e2 bJ (e2 ixD (a5 6) (eC (.int 0))) (eA (ar dZ) (a8 (a5 7) (ai))))))) (bg (kE (a8 (a5 6) (a8 (a5 5) (ai)))))))))
abbrev sG:n_->o_:=Lf
def Lg:n_->o_:=mkF false 3 3 (aR (sIf (eT (e2 eqD (a5 2) (eC (.int 0)))) (bg (eC (.str "-"))) (jq)) (bg (eA (ar bF) (a8 (e2 bI (eC (.int 0)) (e2 ie (e2 bI (e2 ixD (a5 1) (e2 bI (a5 2) (eC (.int 1)))) (e2 ixD (a5 1) (a5 2))) (a5 0))) (ai)))))
abbrev sH:n_->o_:=scF Lg
noncomputable abbrev c_:z0:=["seats","fares","rule","scales","table","told","sold","paid","dues","latest"]
noncomputable abbrev d_:z0:=["places","fares","rows","rule","office"]
def sI(b_:Nat)(a_:Nat):NTX:=mkX 1 2 (ah (aK 1 (iD (e1 (λx=>nH x (.str " ")) (a5 0)))) (ah (aI (bu (n2V inD (nP (eC (.str ""))) (nP (a5 1)))) (cJ "NoRow") (sN)) (aX (nP (a5 1)))))
def o8(b_:Nat)(a_:Nat):NTF:=mkN 1 1 (aX (n2 eqD (aN a_ c_ 5 (nP (a5 0))) (n2 bI (cA (ar bx) (aa (aN a_ c_ 3 (nP (a5 0))) (ak))) (nP (eC (.int 1))))))
def o9(b_:Nat)(a_:Nat):NTX:=mkX 2 2 (ah (aI (nPB (eT (e1 cX (a5 1)))) (aX (nP (eC .non))) (sN)) (ah (aI (gj (eP (ju fk (aa (nP (a5 1)) (aa (nP (eC (.int 0))) (aa (n2 bI (cA (ar bx) (aa (aN a_ c_ 1 (nP (a5 0))) (ak))) (nP (eC (.int 1)))) (ak))))))) (cJ "NoClass") (sN)) (aX (n2 ixD (aN a_ c_ 1 (nP (a5 0))) (nP (a5 1))))))
def iS(b_:Nat)(a_:Nat):NTF:=mkN 1 1 (aX (n2 bI (aN a_ c_ 0 (nP (a5 0))) (aN a_ c_ 6 (nP (a5 0)))))
def oa(b_:Nat)(a_:Nat):NTF:=mkN 2 3 (ah (aK 2 (n2 bd (aN a_ c_ 5 (nP (a5 0))) (nP (eC (.int 1))))) (aX (qQ (nP (e1 dJ (a5 1))) (ju sr (aa (nP (a5 1)) (aa (n2 ixD (aN a_ c_ 3 (nP (a5 0))) (nP (a5 2))) (aa (n2 ixD (aN a_ c_ 4 (nP (a5 0))) (nP (a5 2))) (aa (cI a_ c_ (iS b_ a_) (nP (a5 0)) ak) (ak)))))))))
def sJ(b_:Nat)(a_:Nat):NTF:=mkN 1 2 (ah (aI (bu (n2 eqD (cI a_ c_ (iS b_ a_) (nP (a5 0)) ak) (nP (eC (.int 0))))) (aX (nP (eC .non))) (sN)) (ah (aK 1 (n2 bd (aN a_ c_ 5 (nP (a5 0))) (nP (eC (.int 1))))) (aX (ju su (aa (n2 ixD (aN a_ c_ 3 (nP (a5 0))) (nP (a5 1))) (aa (n2 ixD (aN a_ c_ 4 (nP (a5 0))) (nP (a5 1))) (aa (cI a_ c_ (iS b_ a_) (nP (a5 0)) ak) (ak))))))))
def gv(b_:Nat)(a_:Nat):NTX:=mkX 2 4 (ah (aI (eP (cI a_ c_ (o8 b_ a_) (nP (a5 0)) ak)) (cJ "Over") (sN)) (ah (jw 2 (dA a_ c_ (o9 b_ a_) (nP (a5 0)) (aa (nP (a5 1)) (ak)))) (ah (aK 3 (cI a_ c_ (oa b_ a_) (nP (a5 0)) (aa (nP (a5 2)) (ak)))) (ah (gX a_ c_ 9 (nP (a5 0)) (jt (aa (aN a_ c_ 5 (nP (a5 0))) (aa (cI a_ c_ (iS b_ a_) (nP (a5 0)) ak) (aa (cI a_ c_ (sJ b_ a_) (nP (a5 0)) ak) (aa (nP (a5 2)) (ak))))))) (ah (gX a_ c_ 5 (nP (a5 0)) (n2 bd (aN a_ c_ 5 (nP (a5 0))) (nP (eC (.int 1))))) (ah (aI (nPB (f7 (a5 3))) (ah (gX a_ c_ 6 (nP (a5 0)) (n2 bd (aN a_ c_ 6 (nP (a5 0))) (nP (eC (.int 1))))) (gX a_ c_ 7 (nP (a5 0)) (n2 bd (aN a_ c_ 7 (nP (a5 0))) (nP (a5 2))))) (sN)) (aX (nP (a5 3)))))))))
def sK(b_:Nat)(a_:Nat):NTF:=mkN 1 1 (aX (aN a_ c_ 5 (nP (a5 0))))
def lr(b_:Nat)(a_:Nat):NTF:=mkN 1 1 (aX (nIf (bu (n1 cX (aN a_ c_ 8 (nP (a5 0))))) (aN a_ c_ 7 (nP (a5 0))) (n2 bI (aN a_ c_ 7 (nP (a5 0))) (aN a_ c_ 8 (nP (a5 0))))))
def sL(b_:Nat)(a_:Nat):NTX:=mkX 1 1 (ah (aI (bu (n1 cX (aN a_ c_ 9 (nP (a5 0))))) (cJ "Early") (sN)) (aX (aN a_ c_ 9 (nP (a5 0)))))
def oe(b_:Nat)(a_:Nat):NTF:=mkN 1 1 (aX (jt (aa (n2 ixD (n2 ixD (aN a_ c_ 4 (nP (a5 0))) (nP (eC (.int 0)))) (aN a_ c_ 0 (nP (a5 0)))) (aa (n2 ixD (aN a_ c_ 3 (nP (a5 0))) (nP (eC (.int 0)))) (ak)))))
def fm(b_:Nat)(a_:Nat):NTX:=mkX 2 2 (ah (aI (nPB (eT (e2 eqD (a5 1) (eC (.str "quiet"))))) (gk (nO iR (gu (dA a_ c_ (gv b_ a_) (aN b_ d_ 4 (nP (a5 0))) (aa (nP (eC .non)) (ak))) (hV)))) (sN)) (ah (aI (nPB (eT (e2 eqD (a5 1) (eC (.str "left"))))) (aX (cA (ar bF) (aa (cI a_ c_ (iS b_ a_) (aN b_ d_ 4 (nP (a5 0))) ak) (ak)))) (sN)) (ah (aI (nPB (eT (e2 eqD (a5 1) (eC (.str "turns"))))) (aX (cA (ar bF) (aa (cI a_ c_ (sK b_ a_) (aN b_ d_ 4 (nP (a5 0))) ak) (ak)))) (sN)) (ah (aI (nPB (eT (e2 eqD (a5 1) (eC (.str "coins"))))) (aX (cA (ar bF) (aa (cI a_ c_ (lr b_ a_) (aN b_ d_ 4 (nP (a5 0))) ak) (ak)))) (sN)) (ah (aI (nPB (eT (e2 eqD (a5 1) (eC (.str "why"))))) (gk (x1 (eV (.str " ")) (rQ [] (dA a_ c_ (sL b_ a_) (aN b_ d_ 4 (nP (a5 0))) ak) (nP (eA sC (a8 (a5 0) (ai))))))) (sN)) (ah (aI (nPB (eT (e2 eqD (a5 1) (eC (.str "worth"))))) (aX (n1 (eV (.str " of ")) (rP [] (cI a_ c_ (oe b_ a_) (aN b_ d_ 4 (nP (a5 0))) ak) (nP (eA (ar bF) (a8 (a5 0) (ai))))))) (sN)) (cJ "NoRow")))))))
def jJ(b_:Nat)(a_:Nat):NTX:=mkX 2 2 (ah (aI (gj (eP (cI a_ c_ (o8 b_ a_) (nP (a5 0)) ak))) (cJ "Early") (sN)) (ah (aI (bu (n1 dJ (aN a_ c_ 8 (nP (a5 0))))) (cJ "Done") (sN)) (ah (aI (gj (eP (ju fk (aa (nP (a5 1)) (aa (nP (eC (.int 0))) (aa (aN a_ c_ 6 (nP (a5 0))) (ak))))))) (cJ "TooMany") (sN)) (ah (gX a_ c_ 8 (nP (a5 0)) (n2 bJ (n2 ixD (aN a_ c_ 2 (nP (a5 0))) (nP (eC (.int 3)))) (cA (d9 e8) (aa (n2 bI (nP (a5 1)) (n2 ixD (aN a_ c_ 2 (nP (a5 0))) (nP (eC (.int 0))))) (aa (nP (eC (.int 0))) (ak)))))) (aX (cI a_ c_ (lr b_ a_) (nP (a5 0)) ak))))))
def jK(b_:Nat)(a_:Nat):NTX:=mkX 2 2 (ah (aI (bu (nM (nP (a5 1)) (aN b_ d_ 0 (nP (a5 0))))) (jG "NoClass" (a5 1)) (sN)) (aX (nN (aN b_ d_ 0 (nP (a5 0))) (nP (a5 1)))))
def iT(b_:Nat)(a_:Nat):NTX:=mkX 1 1 (ah (aI (nPB (bOr (fE (f7 (eA iQ (a8 (a5 0) (a8 (eC (.str "0123456789")) (a8 (eC (.int 7)) (ai))))))) (eM (eT (e2 eqD (e2 ixT (a5 0) (eC (.int 0))) (eC (.str "0")))) (eT (e2 neD (a5 0) (eC (.str "0"))))))) (jG "NoRow" (a5 0)) (sN)) (aX (nP (eA (ar jF) (a8 (a5 0) (ai))))))
def jL(b_:Nat)(a_:Nat):NTX:=mkX 3 3 (ah (aI (nPB (eM (eT (e2 eqD (a5 1) (eC (.str "ask")))) (eT (e2 eqD (eA (ar bx) (a8 (a5 2) (ai))) (eC (.int 1)))))) (gk (nO iR (gu (iN a_ c_ (gv b_ a_) (aN b_ d_ 4 (nP (a5 0))) (gu (dA b_ d_ (jK b_ a_) (nP (a5 0)) (aa (nP (e2 ixD (a5 2) (eC (.int 0)))) (ak))) (hV))) (hV)))) (sN)) (ah (aI (nPB (eM (eT (e2 eqD (a5 1) (eC (.str "came")))) (eT (e2 eqD (eA (ar bx) (a8 (a5 2) (ai))) (eC (.int 1)))))) (gk (x1 bF (iN a_ c_ (jJ b_ a_) (aN b_ d_ 4 (nP (a5 0))) (gu (iE (iT b_ a_) (aa (nP (e2 ixD (a5 2) (eC (.int 0)))) (ak))) (hV))))) (sN)) (ah (aI (nPB (eT (e2 gtI (eA (ar bx) (a8 (a5 2) (ai))) (eC (.int 0))))) (cJ "NoRow") (sN)) (gk (dA b_ d_ (fm b_ a_) (nP (a5 0)) (aa (nP (a5 1)) (ak)))))))
def sM(b_:Nat)(a_:Nat):NTX:=mkX 3 3 (ah (aI (bu (nL (nP (a5 1)) (aN b_ d_ 0 (nP (a5 0))))) (wP) (sN)) (ah (aI (bu (n2 gtI (cA (ar bx) (aa (aN b_ d_ 2 (nP (a5 0))) (ak))) (nP (eC (.int 0))))) (cJ "NoTurn") (sN)) (ah (aI (bu (n2 eqD (cA (ar bx) (aa (aN b_ d_ 1 (nP (a5 0))) (ak))) (nP (eC (.int 6))))) (cJ "Full") (sN)) (ah (aI (nPB (fE (f7 (eA nW (a8 (bV (a8 (a5 2) (ai))) (ai)))))) (cJ "NoSale") (sN)) (ah (rO (aN b_ d_ 0 (nP (a5 0))) (nP (a5 1)) (cA (ar bx) (aa (aN b_ d_ 1 (nP (a5 0))) (ak)))) (gY (aN b_ d_ 1 (nP (a5 0))) (nP (a5 2))))))))
def sO(b_:Nat)(a_:Nat):NTX:=mkX 1 1 (ah (aI (nPB (fE (f7 (eA iQ (a8 (a5 0) (a8 (eC (.str "abcdefghijklmnopqrstuvwxyz")) (a8 (eC (.int 8)) (ai)))))))) (jG "NoRow" (a5 0)) (sN)) (aX (nP (a5 0))))
def sP(b_:Nat)(a_:Nat):NTX:=mkX 2 3 (ah (aK 2 (cA (ar bx) (aa (aN b_ d_ 1 (nP (a5 0))) (ak)))) (ah (aI (nPB (bOr (eT (e2 eqD (a5 2) (eC (.int 0)))) (eT (e2 neD (eA (ar bx) (a8 (a5 1) (ai))) (e2 bd (a5 2) (eC (.int 1))))))) (cJ "NoTurn") (sN)) (ah (aI (bu (n2 eqD (cA (ar bx) (aa (aN b_ d_ 2 (nP (a5 0))) (ak))) (nP (eC (.int 8))))) (cJ "Full") (sN)) (ah (aI (nPB (fE (f7 (eA nY (a8 (a5 1) (a8 (a5 2) (ai))))))) (cJ "NoSale") (sN)) (gY (aN b_ d_ 2 (nP (a5 0))) (nP (a5 1)))))))
def og(b_:Nat)(a_:Nat):NTF:=mkN 1 1 (aX (nj [] (nP (a5 0)) (b5 (qtX (iT b_ a_)) (aa (nP (a5 0)) (ak)))))
def yF(b_:Nat)(a_:Nat):NTX:=mkX 2 2 (ah (aI (nPB (fE (f7 (eA o6 (a8 (a5 1) (ai)))))) (cJ "NoSale") (sN)) (gX b_ d_ 3 (nP (a5 0)) (nP (a5 1))))
def sQ(b_:Nat)(a_:Nat):NTX:=mkX 5 6 (ah (aI (gj (eP (qT sg (aa (nP (a5 1)) (aa (nP (a5 2)) (aa (nP (a5 3)) (ak))))))) (cJ "NoSale") (sN)) (ah (aI (nPB (fE (f7 (eA o6 (a8 (a5 4) (ai)))))) (cJ "NoSale") (sN)) (ah (aK 5 (nP (eA sB (a8 (a5 1) (a8 (a5 4) (ai)))))) (ah (de a_ (c_.take 0) "seats" (nP (a5 0)) (nP (a5 1))) (ah (de a_ (c_.take 1) "fares" (nP (a5 0)) (qW (nP (a5 2)))) (ah (de a_ (c_.take 2) "rule" (nP (a5 0)) (nP (a5 4))) (ah (de a_ (c_.take 3) "scales" (nP (a5 0)) (qU nZ (aa (nP (a5 3)) (aa (nP (a5 5)) (ak))))) (ah (de a_ (c_.take 4) "table" (nP (a5 0)) (qV so (aa (nP (a5 2)) (aa (nP (a5 3)) (aa (nP (a5 5)) (aa (nP (eA sA (a8 (a5 1) (a8 (a5 4) (ai))))) (ak))))))) (ah (de a_ (c_.take 5) "told" (nP (a5 0)) (nP (eC (.int 0)))) (ah (de a_ (c_.take 6) "sold" (nP (a5 0)) (nP (eC (.int 0)))) (ah (de a_ (c_.take 7) "paid" (nP (a5 0)) (nP (eC (.int 0)))) (ah (de a_ (c_.take 8) "dues" (nP (a5 0)) (nP (eC .non))) (de a_ (c_.take 9) "latest" (nP (a5 0)) (nP (eC .non)))))))))))))))
def sR(b_:Nat)(a_:Nat):NTX:=mkX 2 3 (ah (aK 2 (nIf (bu (n1 cX (aN b_ d_ 3 (nP (a5 0))))) (nP (kE (a8 (a5 1) (a8 (eC (.int 1)) (a8 (eC (.int 1)) (a8 (eC (.int 0)) (ai))))))) (aN b_ d_ 3 (nP (a5 0))))) (rY b_ d_ 4 (nP (a5 0)) (qX a_ (sQ b_ a_) (aa (nP (a5 1)) (aa (aN b_ d_ 1 (nP (a5 0))) (aa (aN b_ d_ 2 (nP (a5 0))) (aa (nP (a5 2)) (ak))))))))
def hW(b_:Nat)(a_:Nat):NTX:=mkX 3 3 (ah (aI (nPB (eM (eT (e2 eqD (a5 1) (eC (.str "class")))) (eT (e2 eqD (eA (ar bx) (a8 (a5 2) (ai))) (eC (.int 2)))))) (jx (iN b_ d_ (sM b_ a_) (nP (a5 0)) (gu (iE (sO b_ a_) (aa (nP (e2 ixD (a5 2) (eC (.int 0)))) (ak))) (gu (iE (iT b_ a_) (aa (nP (e2 ixD (a5 2) (eC (.int 1)))) (ak))) (hV))))) (aI (nPB (eM (eT (e2 eqD (a5 1) (eC (.str "turn")))) (eT (e2 gtI (eA (ar bx) (a8 (a5 2) (ai))) (eC (.int 0)))))) (jx (dA b_ d_ (sP b_ a_) (nP (a5 0)) (aa (b5 (og b_ a_) (aa (nP (a5 2)) (ak))) (ak)))) (aI (nPB (eM (eT (e2 eqD (a5 1) (eC (.str "rule")))) (eT (e2 eqD (eA (ar bx) (a8 (a5 2) (ai))) (eC (.int 4)))))) (jx (dA b_ d_ (yF b_ a_) (nP (a5 0)) (aa (rR (b5 (og b_ a_) (aa (nP (a5 2)) (ak)))) (ak)))) (aI (nPB (eM (eT (e2 eqD (a5 1) (eC (.str "open")))) (eT (e2 eqD (eA (ar bx) (a8 (a5 2) (ai))) (eC (.int 1)))))) (jx (iN b_ d_ (sR b_ a_) (nP (a5 0)) (gu (iE (iT b_ a_) (aa (nP (e2 ixD (a5 2) (eC (.int 0)))) (ak))) (hV)))) (cJ "NoRow"))))) (aX (nP (eC (.str "ok")))))
def eX(b_:Nat)(a_:Nat):NTX:=mkX 2 3 (ah (jw 2 (iE (sI b_ a_) (aa (nP (a5 1)) (ak)))) (ah (aI (bu (n1 cX (aN b_ d_ 4 (nP (a5 0))))) (gk (dA b_ d_ (hW b_ a_) (nP (a5 0)) (aa (n9 (nP (a5 2)) (nP (eC (.int 0)))) (aa (nk 1 (nP (a5 2))) (ak))))) (sN)) (gk (dA b_ d_ (jL b_ a_) (nP (a5 0)) (aa (n9 (nP (a5 2)) (nP (eC (.int 0)))) (aa (nk 1 (nP (a5 2))) (ak)))))))
def lu(b_:Nat)(a_:Nat):NTF:=mkN 2 5 (ah (aK 2 (nP (eC .non))) (ah (aK 3 (nP (eC .non))) (ah (qY 2 4 (jw 3 (dA b_ d_ (eX b_ a_) (nP (a5 0)) (aa (nP (a5 1)) (ak))))) (ah (aI (nPB (eT (e1 dJ (a5 2)))) (aX (nP (eC (.str "refused")))) (sN)) (aX (nP (a5 3)))))))
def hZ(b_:Nat)(a_:Nat):NTF:=mkN 6 15 (ah (aK 6 (nP (eC (.str "quiet")))) (ah (aI (nPB (eT (e1 dJ (a5 5)))) (aK 6 (nP (e2 cL (eC (.str "ask ")) (e2 ixD (a5 4) (a5 5))))) (sN)) (ah (aK 7 (b5 (lu b_ a_) (aa (nDg ["desk","turn","left","coins","done","why"] 0 (nP (a5 0))) (aa (nP (a5 6)) (ak))))) (ah (aK 8 (nDg ["desk","turn","left","coins","done","why"] 1 (nP (a5 0)))) (ah (aI (nPB (bOr (eT (e2 eqD (a5 8) (eA (ar bx) (a8 (e2 ixD (a5 1) (eC (.int 2))) (ai))))) (eM (eT (e1 dJ (a5 5))) (eT (e2 geI (a5 5) (eA (ar bx) (a8 (e2 ixD (a5 1) (eC (.int 1))) (ai)))))))) (aX (nP (e2 eqD (a5 7) (eC (.str "refused"))))) (sN)) (ah (aK 9 (nDg ["desk","turn","left","coins","done","why"] 2 (nP (a5 0)))) (ah (aK 10 (nP (e2 ixD (a5 3) (e2 bd (a5 8) (eC (.int 1)))))) (ah (aK 11 (nP (eC (.bl false)))) (ah (aK 12 (nP (eC (.str "-")))) (ah (aI (nPB (eT (e1 dJ (a5 5)))) (ah (aK 13 (nP (e2 ixD (e2 ixD (a5 1) (eC (.int 1))) (a5 5)))) (ah (aK 11 (nP (cY (e2 gtI (a5 9) (eC (.int 0))) (e2 geI (e2 bd (e2 bJ (a5 13) (e2 ixD (a5 2) (e2 bd (a5 8) (eC (.int 1))))) (e2 ixD (a5 10) (e2 bI (a5 9) (eC (.int 1))))) (e2 ixD (a5 10) (a5 9)))))) (ah (aK 12 (nP (eA (ar bF) (a8 (a5 13) (ai))))) (eQ ["desk","turn","left","coins","done","why"] 3 (nP (a5 0)) (n2 bd (nDg ["desk","turn","left","coins","done","why"] 3 (nP (a5 0))) (nP (e2 bJ (a5 13) (eA (ar iA) (a8 (a5 11) (ai)))))))))) (sN)) (ah (aK 14 (nP (eA sH (a8 (e2 ixD (a5 2) (e2 bd (a5 8) (eC (.int 1)))) (a8 (a5 10) (a8 (a5 9) (ai))))))) (ah (eQ ["desk","turn","left","coins","done","why"] 5 (nP (a5 0)) (n1 (eV (.str " ")) (nP (bV (a8 (eA (ar bF) (a8 (a5 8) (ai))) (a8 (eA (ar bF) (a8 (a5 9) (ai))) (a8 (a5 14) (a8 (a5 12) (ai))))))))) (ah (eQ ["desk","turn","left","coins","done","why"] 1 (nP (a5 0)) (nP (e2 bd (a5 8) (eC (.int 1))))) (ah (eQ ["desk","turn","left","coins","done","why"] 2 (nP (a5 0)) (nP (e2 bI (a5 9) (eA (ar iA) (a8 (a5 11) (ai)))))) (aX (nP (e2 eqD (a5 7) (e2 ixD (bV (a8 (eC (.str "no")) (a8 (eC (.str "yes")) (ai)))) (eA (ar iA) (a8 (a5 11) (ai)))))))))))))))))))))
def sS(b_:Nat)(a_:Nat):NTF:=mkN 3 5 (ah (aK 3 (b5 (lu b_ a_) (aa (nDg ["desk","turn","left","coins","done","why"] 0 (nP (a5 0))) (aa (nP (e2 cL (eC (.str "came ")) (eA (ar bF) (a8 (a5 2) (ai))))) (ak))))) (ah (aK 4 (n2 bI (nP (e2 ixD (a5 1) (eC (.int 0)))) (nDg ["desk","turn","left","coins","done","why"] 2 (nP (a5 0))))) (ah (aI (nOr (bu (n2 ltI (nDg ["desk","turn","left","coins","done","why"] 1 (nP (a5 0))) (nP (eA (ar bx) (a8 (e2 ixD (a5 1) (eC (.int 2))) (ai)))))) (nOr (eP (nDg ["desk","turn","left","coins","done","why"] 4 (nP (a5 0)))) (nPB (eT (e2 gtI (a5 2) (a5 4)))))) (aX (nP (e2 eqD (a5 3) (eC (.str "refused"))))) (sN)) (ah (eQ ["desk","turn","left","coins","done","why"] 4 (nP (a5 0)) (nP (eC (.bl true)))) (ah (eQ ["desk","turn","left","coins","done","why"] 3 (nP (a5 0)) (n2 bI (nDg ["desk","turn","left","coins","done","why"] 3 (nP (a5 0))) (nP (e2 bJ (e2 ixD (e2 ixD (a5 1) (eC (.int 3))) (eC (.int 3))) (eA (d9 e8) (a8 (eC (.int 0)) (a8 (e2 bI (a5 2) (e2 ixD (e2 ixD (a5 1) (eC (.int 3))) (eC (.int 0)))) (ai)))))))) (aX (n2 eqD (nP (a5 3)) (cA (ar bF) (aa (nDg ["desk","turn","left","coins","done","why"] 3 (nP (a5 0))) (ak))))))))))
def ci(b_:Nat)(a_:Nat):NTF:=mkN 2 3 (ah (aK 2 (nDg ["rest","mixed","count"] 0 (nP (a5 0)))) (ah (aI (gj (eP (nDg ["rest","mixed","count"] 1 (nP (a5 0))))) (ah (eQ ["rest","mixed","count"] 0 (nP (a5 0)) (nP (e2 ie (a5 2) (a5 1)))) (aX (nP (e2 eJ (a5 2) (a5 1))))) (sN)) (ah (eQ ["rest","mixed","count"] 2 (nP (a5 0)) (n2 bd (nDg ["rest","mixed","count"] 2 (nP (a5 0))) (nP (eC (.int 1))))) (ah (aK 2 (n2 bd (nP (e2 eJ (a5 2) (eC (.int 1000000000039)))) (n2 bJ (nP (eC (.int 60013))) (nDg ["rest","mixed","count"] 2 (nP (a5 0)))))) (ah (aK 2 (nP (e2 eJ (e2 bJ (a5 2) (e2 bd (a5 2) (eC (.int 17)))) (eC (.int 1000000000061))))) (ah (aK 2 (nP (e2 eJ (e2 bJ (a5 2) (a5 2)) (eC (.int 999999999989))))) (ah (eQ ["rest","mixed","count"] 0 (nP (a5 0)) (nP (a5 2))) (aX (nP (e2 eJ (e2 ie (a5 2) (eC (.int 5))) (a5 1)))))))))))
def sT(b_:Nat)(a_:Nat):NTF:=mkN 2 14 (ah (aK 2 (nP (eC (.str "abcdefghijklmnopqrstuvwxyz")))) (ah (aK 3 (nP (bV (a8 (eC (.str "class")) (a8 (eC (.str "turn")) (a8 (eC (.str "rule")) (a8 (eC (.str "open")) (a8 (eC (.str "ask")) (a8 (eC (.str "quiet")) (a8 (eC (.str "came")) (a8 (eC (.str "left")) (a8 (eC (.str "turns")) (a8 (eC (.str "coins")) (a8 (eC (.str "why")) (a8 (eC (.str "worth")) (a8 (eC (.str "no")) (ai))))))))))))))))) (ah (aK 4 (n1 (eV (.str "")) (jv [0,2] (aa (nP (eC (.int 7))) (ak)) (n2 ixT (nP (a5 2)) (b5 (ci b_ a_) (aa (nP (a5 1)) (aa (nP (eC (.int 26))) (ak)))))))) (ah (aK 5 (b5 (ci b_ a_) (aa (nP (a5 0)) (aa (nP (eC (.int 4))) (ak))))) (ah (aK 6 (b5 (ci b_ a_) (aa (nP (a5 0)) (aa (nP (eC (.int 26))) (ak))))) (ah (aK 7 (rV (nP (a5 4)) (b5 (ci b_ a_) (aa (nP (a5 0)) (aa (nP (eC (.int 8))) (ak)))))) (ah (aK 8 (b5 (ci b_ a_) (aa (nP (a5 0)) (aa (nP (e2 bd (eA (ar jE) (a8 (a5 7) (ai))) (eC (.int 1)))) (ak))))) (ah (aK 9 (iD (bV (ai)))) (ah (ni 10 (aa (nP (a5 1)) (ak)) (ah (aK 11 (nP (e2 ixT (a5 2) (e2 eJ (e2 bd (a5 6) (e2 ie (a5 10) (eC (.int 8)))) (eC (.int 26)))))) (ah (aK 12 (nP (e2 cL (e2 cL (iM (a5 7) (jl) (gf (a5 8))) (e2 ixT (a5 2) (e2 eJ (e2 bd (a5 6) (a5 10)) (eC (.int 26))))) (iM (a5 7) (gf (a5 8)) (jl))))) (gY (nP (a5 9)) (nP (e2 ixD (bV (a8 (e2 cL (a5 11) (iM (a5 4) (jl) (gf (e2 eJ (a5 10) (eC (.int 8)))))) (a8 (e2 cL (iM (a5 4) (gf (e2 bI (eC (.int 7)) (e2 eJ (a5 10) (eC (.int 8))))) (jl)) (a5 11)) (a8 (a5 12) (a8 (a5 12) (ai)))))) (a5 5))))))) (ah (aK 13 (n2 ixD (nP (a5 3)) (b5 (ci b_ a_) (aa (nP (a5 0)) (aa (nP (eC (.int 13))) (ak)))))) (ah (aI (mZ (bu (n2V mT (nP (a5 13)) (nP (a5 9)))) (bu (n2 eqD (b5 (ci b_ a_) (aa (nP (a5 0)) (aa (nP (eC (.int 2))) (ak)))) (nP (eC (.int 0)))))) (l7 (nP (a5 9)) (b5 (ci b_ a_) (aa (nP (a5 0)) (aa (nP (a5 1)) (ak)))) (nP (a5 13))) (sN)) (nc 9))))))))))))
def sU(b_:Nat)(a_:Nat):NTF:=mkN 1 1 (ah (de b_ (d_.take 0) "places" (nP (a5 0)) (rN)) (ah (de b_ (d_.take 1) "fares" (nP (a5 0)) (n0 ak)) (ah (de b_ (d_.take 2) "rows" (nP (a5 0)) (n0 ak)) (ah (de b_ (d_.take 3) "rule" (nP (a5 0)) (nP (eC .non))) (de b_ (d_.take 4) "office" (nP (a5 0)) (nP (eC .non)))))))
def oh(b_:Nat)(a_:Nat):NTF:=mkN 2 9 (ah (ng [2,3,4,5] (nP (a5 0))) (ah (aK 6 (rX b_ (sU b_ a_))) (ah (aK 7 (iD (bW 2 [1] [0,1] (unT 2) (kR (a5 3)) c4 (e2 cL (e2 cL (e2 cL (eC (.str "class ")) (e2 ixD (a5 2) (a5 0))) (eC (.str " "))) (eA (ar bF) (a8 (a5 1) (ai))))))) (ah (aK 7 (rS (nP (a5 7)) (nj [] (nP (a5 4)) (n2 cL (nP (eC (.str "turn "))) (n1 (eV (.str " ")) (nP (bW 1 [] [0] un1 (fJ (a5 0)) c4 (eA (ar bF) (a8 (a5 0) (ai)))))))))) (ah (gY (nP (a5 7)) (n2 cL (nP (eC (.str "rule "))) (n1 (eV (.str " ")) (nP (bW 1 [] [0] un1 (nQ (a5 5)) c4 (eA (ar bF) (a8 (a5 0) (ai)))))))) (ah (nh 8 (rT (nP (a5 7)) (nP (bV (a8 (e2 cL (eC (.str "open ")) (eA (ar bF) (a8 (a5 2) (ai)))) (ai))))) (aI (bu (n2 neD (cI b_ d_ (qtX (eX b_ a_)) (nP (a5 6)) (aa (nP (a5 8)) (ak))) (nP (eC (.str "ok"))))) (aX (nP (eC .non))) (sN))) (aX (n8 ["desk","turn","left","coins","done","why"] (a8 (a5 6) (a8 (eC (.int 0)) (a8 (a5 2) (a8 (eC (.int 0)) (a8 (eC (.bl false)) (a8 (eC .non) (ai)))))))))))))))
def jM(b_:Nat)(a_:Nat):NTF:=mkN 2 2 (aX (n8 ["rest","mixed","count"] (a8 (eA o7 (a8 (a5 0) (a8 (a5 1) (ai)))) (a8 (e2 eqD (e2 eJ (eA o7 (a8 (a5 0) (a8 (eC (.int 0)) (ai)))) (eC (.int 2))) (eC (.int 1))) (a8 (e2 bd (eC (.int 1)) (a5 1)) (ai))))))
def lw(b_:Nat)(a_:Nat):NTF:=mkN 5 6 (ah (aK 5 (rW ["left","turns","coins"] (aa (cA (ar bF) (aa (nDg ["desk","turn","left","coins","done","why"] 2 (nP (a5 0))) (ak))) (aa (cA (ar bF) (aa (nDg ["desk","turn","left","coins","done","why"] 1 (nP (a5 0))) (ak))) (aa (cA (ar bF) (aa (nDg ["desk","turn","left","coins","done","why"] 3 (nP (a5 0))) (ak))) (ak)))))) (ah (nq ["left","turns","coins"] "worth" (nP (a5 5)) (nP (e2 cL (e2 cL (eA (ar bF) (a8 (e2 ixD (e2 ixD (a5 3) (eC (.int 0))) (e2 ixD (a5 1) (eC (.int 0)))) (ai))) (eC (.str " of "))) (eA (ar bF) (a8 (e2 ixD (a5 2) (eC (.int 0))) (ai)))))) (ah (nq ["left","turns","coins","worth"] "why" (nP (a5 5)) (nDg ["desk","turn","left","coins","done","why"] 5 (nP (a5 0)))) (ah (aI (bu (n1 cX (nDg ["desk","turn","left","coins","done","why"] 5 (nP (a5 0))))) (eQ ["left","turns","coins","worth","why"] 4 (nP (a5 5)) (nP (eC (.str "refused")))) (sN)) (aX (n2 eqD (b5 (lu b_ a_) (aa (nDg ["desk","turn","left","coins","done","why"] 0 (nP (a5 0))) (aa (nP (a5 4)) (ak)))) (nN (nP (a5 5)) (nP (a5 4)))))))))
def sV(b_:Nat)(a_:Nat):NTF:=mkN 6 9 (ah (aK 6 (b5 (ci b_ a_) (aa (nP (a5 5)) (aa (nP (eC (.int 16))) (ak))))) (ah (aI (nPB (eT (e2 ltI (a5 6) (eC (.int 8))))) (ah (aK 7 (b5 (ci b_ a_) (aa (nP (a5 5)) (aa (nP (e2 bd (eA (ar bx) (a8 (e2 ixD (a5 1) (eC (.int 1))) (ai))) (eC (.int 1)))) (ak))))) (aX (b5 (hZ b_ a_) (aa (nP (a5 0)) (aa (nP (a5 1)) (aa (nP (a5 2)) (aa (nP (a5 3)) (aa (nP (a5 4)) (aa (nP (a5 7)) (ak)))))))))) (sN)) (ah (aI (nPB (eT (e2 eqD (a5 6) (eC (.int 8))))) (aX (b5 (hZ b_ a_) (aa (nP (a5 0)) (aa (nP (a5 1)) (aa (nP (a5 2)) (aa (nP (a5 3)) (aa (nP (a5 4)) (aa (nP (eC .non)) (ak))))))))) (sN)) (ah (aI (nPB (eT (e2 ltI (a5 6) (eC (.int 11))))) (aX (b5 (sS b_ a_) (aa (nP (a5 0)) (aa (nP (a5 1)) (aa (b5 (ci b_ a_) (aa (nP (a5 5)) (aa (nP (eC (.int 12))) (ak)))) (ak)))))) (sN)) (ah (aK 8 (nP (e2 ixD (bV (a8 (eC (.str "left")) (a8 (eC (.str "turns")) (a8 (eC (.str "coins")) (a8 (eC (.str "why")) (a8 (eC (.str "worth")) (ai))))))) (e2 bI (a5 6) (eC (.int 11)))))) (aX (b5 (lw b_ a_) (aa (nP (a5 0)) (aa (nP (a5 1)) (aa (nP (a5 2)) (aa (nP (a5 3)) (aa (nP (a5 8)) (ak)))))))))))))
def lz(b_:Nat)(a_:Nat):NTF:=mkN 2 3 (ah (aK 2 (b5 (ci b_ a_) (aa (nP (a5 0)) (aa (nP (eC (.int 4))) (ak))))) (ah (aI (nPB (eT (e2 eqD (a5 2) (eC (.int 0))))) (aX (b5 (ci b_ a_) (aa (nP (a5 0)) (aa (nP (eA (d9 jo) (a8 (eC (.int 10)) (a8 (a5 1) (ai))))) (ak))))) (sN)) (ah (aI (nPB (eT (e2 eqD (a5 2) (eC (.int 1))))) (aX (nP (e2 bI (a5 1) (eC (.int 1))))) (sN)) (aX (b5 (ci b_ a_) (aa (nP (a5 0)) (aa (nP (a5 1)) (ak))))))))
def sW(b_:Nat)(a_:Nat):NTF:=mkN 1 2 (ah (aK 1 (n2 bd (nP (eC (.int 1))) (b5 (lz b_ a_) (aa (nP (a5 0)) (aa (nP (eC (.int 1000))) (ak)))))) (aX (jt (aa (b5 (ci b_ a_) (aa (nP (a5 0)) (aa (nP (eC (.int 11))) (ak)))) (aa (b5 (ci b_ a_) (aa (nP (a5 0)) (aa (nP (e2 bd (a5 1) (eC (.int 1)))) (ak)))) (aa (nP (a5 1)) (aa (b5 (lz b_ a_) (aa (nP (a5 0)) (aa (nP (e2 bd (e2 me (eC (.int 10)) (eC (.int 6))) (eC (.int 1)))) (ak)))) (ak))))))))
def sX(b_:Nat)(a_:Nat):NTF:=mkN 2 4 (ah (aK 2 (iD (bV (ai)))) (ah (ni 3 (aa (nP (e2 bd (a5 1) (eC (.int 1)))) (ak)) (gY (nP (a5 2)) (n2 ixD (qR (aa (nP (eC (.int 0))) (aa (b5 (ci b_ a_) (aa (nP (a5 0)) (aa (nP (eC (.int 10))) (ak)))) (aa (b5 (ci b_ a_) (aa (nP (a5 0)) (aa (nP (eC (.int 1001))) (ak)))) (ak))))) (b5 (ci b_ a_) (aa (nP (a5 0)) (aa (nP (eC (.int 3))) (ak))))))) (ah (aI (bu (n2 eqD (cA (ar dZ) (aa (nP (a5 2)) (ak))) (nP (eC (.int 0))))) (l7 (nP (a5 2)) (nP (a5 1)) (nP (eC (.int 1)))) (sN)) (nc 2))))
def sY(b_:Nat)(a_:Nat):NTF:=mkN 2 7 (ah (aK 2 (b5 (jM b_ a_) (aa (nP (a5 0)) (aa (nP (a5 1)) (ak))))) (ah (aK 3 (b5 (ci b_ a_) (aa (nP (a5 2)) (aa (nP (eC (.int 11))) (ak))))) (ah (aK 4 (jv [2] (aa (n2 bd (nP (eC (.int 1))) (b5 (ci b_ a_) (aa (nP (a5 2)) (aa (nP (eC (.int 6))) (ak))))) (ak)) (n2 bd (nP (eC (.int 1))) (b5 (lz b_ a_) (aa (nP (a5 1)) (aa (nP (e2 me (eC (.int 10)) (eC (.int 6)))) (ak))))))) (ah (aK 5 (b5 (sW b_ a_) (aa (nP (a5 2)) (ak)))) (ah (aK 6 (b5 (ci b_ a_) (aa (nP (a5 2)) (aa (nP (eC (.int 9))) (ak))))) (ah (aK 2 (b5 (jM b_ a_) (aa (nP (a5 0)) (aa (nP (e2 bd (a5 1) (eC (.int 1)))) (ak))))) (aX (jt (aa (nP (a5 3)) (aa (nP (a5 4)) (aa (jv [2,4] (aa (nP (a5 6)) (ak)) (b5 (sX b_ a_) (aa (nP (a5 1)) (aa (nP (eA (ar bx) (a8 (a5 2) (ai)))) (ak))))) (aa (nP (a5 5)) (ak)))))))))))))
def sZ(b_:Nat)(a_:Nat):NTF:=mkN 1 9 (ah (aK 1 (b5 (sY b_ a_) (aa (nP (a5 0)) (aa (nP (eC (.int 1))) (ak))))) (ah (aK 2 (b5 (sT b_ a_) (aa (b5 (jM b_ a_) (aa (nP (a5 0)) (aa (nP (eC (.int 3))) (ak)))) (aa (nP (eC (.int 9))) (ak))))) (ah (ng [3,4] (nP (eA sG (a8 (a5 1) (ai))))) (ah (aK 5 (b5 (oh b_ a_) (aa (nP (a5 1)) (aa (nP (a5 2)) (ak))))) (ah (aI (nPB (eT (e1 cX (a5 5)))) (aX (nP (eC (.bl false)))) (sN)) (ah (qS 6 (aa (nP (eC (.int 4))) (aa (nP (eA (d9 jo) (a8 (eC (.int 63)) (a8 (eA (ar bx) (a8 (a5 0) (ai))) (ai))))) (ak))) (ah (aK 7 (b5 (jM b_ a_) (aa (nP (a5 0)) (aa (nP (a5 6)) (ak))))) (ah (aI (mZ (eP (nDg ["desk","turn","left","coins","done","why"] 4 (nP (a5 5)))) (bu (n2 eqD (b5 (ci b_ a_) (aa (nP (a5 7)) (aa (nP (eC (.int 3))) (ak)))) (nP (eC (.int 0)))))) (aK 5 (b5 (oh b_ a_) (aa (nP (a5 1)) (aa (nP (a5 2)) (ak))))) (sN)) (ah (aI (nPB (eT (e1 cX (a5 5)))) (aX (nP (eC (.bl false)))) (sN)) (aI (gj (eP (b5 (sV b_ a_) (aa (nP (a5 5)) (aa (nP (a5 1)) (aa (nP (a5 3)) (aa (nP (a5 4)) (aa (nP (a5 2)) (aa (nP (a5 7)) (ak)))))))))) (aX (nP (eC (.bl false)))) (sN)))))) (ah (nh 8 (nP (bV (a8 (eC (.str "worth")) (a8 (eC (.str "why")) (a8 (eC (.str "left")) (a8 (eC (.str "turns")) (a8 (eC (.str "coins")) (ai)))))))) (aI (gj (eP (b5 (lw b_ a_) (aa (nP (a5 5)) (aa (nP (a5 1)) (aa (nP (a5 3)) (aa (nP (a5 4)) (aa (nP (a5 8)) (ak))))))))) (aX (nP (eC (.bl false)))) (sN))) (aX (nP (eC (.bl true)))))))))))
section
variable {ta tb tk tv ti te th:NTE}{tas:NTA}{xe:NEX}{ns:z0}
def Lh{QA:n_->Sto->Prop}(h:QA [] M):hV U M QA EX:=h
def Li{QA:n_->Sto->Prop}(h:xe U M (λd M1=>xa U M1 (λds M2=>QA (d::ds) M2) EX) EX):gu xe xa U M QA EX:=h
def Lj{ds0:n_}(hv:a5 j U=some (.ptr a))(hm:M a=some (.ins C ns ds0))(h:xa U M (λds M2=>T (.ptr a::ds) M2 Q EX) EX):iN C ns T (nP (a5 j)) xa U M Q EX:=⟨_,hv,a,ds0,rfl,hm,h⟩
def Lk{g:D->o_}(h:xe U M (λx M1=>W1 g x λd=>Q d M1) EX):x1 g xe U M Q EX:=h
def Ll{G:n_->o_}(h:xa U M (λds M1=>WF G ds λd=>Q d M1) EX):nO G xa U M Q EX:=h
def Lm(h:ta U M λx M1=>th U M1 λy M2=>∃i d,y=.int i/\slT x none (some i)=some d/\Q d M2):rV ta th U M Q:=h
def Ln(h:∀a,M a=none->Q (.ptr a) (aB M a (.dic [] []))):rN U M Q:=h
def Lo(h:tk U M λy M1=>ta U M1 λx M2=>∃a ns ds f,x=.ptr a/\y=.str f/\M2 a=some (.dic ns ds)/\Q (.bl (decide (f∈ns))) M2):nL tk ta U M Q:=h
def Lp(h:tk U M λy M1=>ta U M1 λx M2=>∃a ns ds f,x=.ptr a/\y=.str f/\M2 a=some (.dic ns ds)/\Q (.bl (!decide (f∈ns))) M2):nM tk ta U M Q:=h
def Lq(h:ta U M λx M1=>tk U M1 λy M2=>∃a ns ds f d,x=.ptr a/\y=.str f/\M2 a=some (.dic ns ds)/\er ns ds f=some d/\Q d M2):nN ta tk U M Q:=h
def Lr(h:tv U M λv M1=>ta U M1 λx M2=>tk U M2 λy M3=>∃a ns ds f,x=.ptr a/\y=.str f/\M3 a=some (.dic ns ds)/\f∉ns/\ns.length<1000/\E.nx U (aB M3 a (.dic (ns++[f]) (ds++[v])))):rO ta tk tv E U M:=h
def Ls(h:ti U M λd M1=>∃ds,d=.tup ds/\ds.length<=1000/\dt 1 te (bq 1 J3 U) ds [] M1 λds M2=>Q (.lst ds) M2):rP J3 ti te U M Q:=h
def Lu(h:xe U M (λd M1=>∃ds,d=.tup ds/\ds.length<=1000/\dt 1 te (bq 1 J3 U) ds [] M1 λds M2=>Q (.lst ds) M2) EX):rQ J3 xe te U M Q EX:=h
def Lv(h:ta U M λx M1=>∃ds,x=.lst ds/\Q (.tup ds) M1):rR ta U M Q:=h
def Lw(h:ta U M λx M1=>tb U M1 λy M2=>∃xs ys,vw1 M2 x=.lst xs/\y=.lst ys/\xs.length+ys.length<=100000/\∀a,M2 a=none->Q (.ptr a) (aB M2 a (.lst (xs++ys)))):rS ta tb U M Q:=h
def Lx(h:ta U M λx M1=>tb U M1 λy M2=>∃xs ys,vw1 M2 x=.lst xs/\y=.lst ys/\xs.length+ys.length<=100000/\Q (.lst (xs++ys)) M2):rT ta tb U M Q:=h
def Ly(h:∀a,M a=none->tas U (aB M a (.dic [] [])) λds M2=>ds.length=ns.length/\M2 a=some (.dic [] [])/\Q (.ptr a) (aB M2 a (.dic ns ds))):rW ns tas U M Q:=h
def Lz{T:NTF}(h:∀a,M a=none->T [.ptr a] (aB M a (.ins C [] [])) λd M2=>d=.non/\Q (.ptr a) M2):rX C T U M Q:=h
def LA{i:Nat}(h:xe U M (λv M1=>ta U M1 λx M2=>∃a ds,x=.ptr a/\M2 a=some (.ins C ns ds)/\E.nx U (aB M2 a (.ins C ns (ds.set i v)))) E.ex):rY C ns i ta xe E U M:=h
def LB{K:n_->Prop}{f:FE}(h:WE f U λd=>∃ds,d=.tup ds/\K ds):WI (nQ f) U K:=by obtain⟨d,e,ds,rfl,hk⟩:=h;exact⟨ds,by simp[nQ,e],hk⟩
def cD{K:D->Prop}(hn:i.natAbs.log2<1900)(h:K (.str (mkT (aZ i)))):WF (ar bF) [.int i] K:=⟨_,by simp only[ar,bF,if_pos hn],h⟩
def LC{K:D->Prop}(hn:i.natAbs.log2<1900)(h:K (.str (mkT (aZ i)))):W1 bF (.int i) K:=⟨_,by simp only[bF,if_pos hn],h⟩
end
local macro_rules | `(tactic| walk_at"call")=>`(tactic| first
 |(with_reducible first|refine kx_q ?_|refine Lh ?_|refine Li ?_|refine kx_callA ?_|refine Lk ?_|refine Ll ?_|refine Lm ?_|refine Lo ?_|refine Lp ?_|refine Lq ?_|refine Lr ?_)
 |(with_reducible first|refine Ls ?_|refine Lu ?_|refine Lv ?_|refine Lw ?_|refine Lx ?_|refine LA ?_|refine LB ?_)
 |((with_reducible refine' Lj ?h1 ?h2 ?_);(case h1=>exact rfl);(case h2=>first|assumption|exact az)))
def Pool(M:Sto)(a:Nat)(n:Nat):Prop:=∃(r:Int) (m:Bool) (c:Int),M a=some (.dic ["rest","mixed","count"] [.int r,.bl m,.int c])/\0<=c/\c<=(n:Nat)
def Pool.keep{S:Nat->Prop}(h:Pool M a n)(k:Kp S M M')(hs:¬S a):Pool M' a n:=by obtain⟨r,m,c,h1,h2⟩:=h;exact⟨r,m,c,k _ _ h1 hs,h2⟩
def Pool.le{n':Nat}(h:Pool M a n)(k:n<=n'):Pool M a n':=by obtain⟨r,m,c,h1,h2,h3⟩:=h;exact⟨r,m,c,h1,h2,by ext⟩
def cv{many:Int}(hp:Pool M a n)(hn:n<=100000)(h0:0<many)(h1:many<=10 ^ 41)(h:∀r M',0<=r->r<many->Pool M' a (n+1)->Kp (· = a) M M'->Q (.int r) M'):ci CD C [.ptr a,.int many] M Q:=by
 obtain⟨r,m,c,hm,hc1,hc2⟩:=hp;refine bT rfl ?_;walk_at"env";cases m with
 |false=>lia;refine⟨a,_,rfl,hm,?_⟩;lia;refine h _ _ (Int.emod_nonneg _ ∅) (Int.emod_lt_of_pos _ h0) ⟨_,_,_,az,hc1,by ext⟩ (Kp.upd (.inl rfl))
 |true=>lia;refine⟨a,_,rfl,hm,?_⟩;lia;refine⟨a,_,rfl,az,?_⟩;lia;rw[cj];refine h _ _ (Int.emod_nonneg _ ∅) (Int.emod_lt_of_pos _ h0) ⟨_,_,_,az,by ext,by ext⟩ (Kp.upd (.inl rfl))
def yG{k:Int}(h0:0<=k):WF o7 [.scr ns,.int k] λd=>∃x,d=.int x:=by
 refine cz (bH rfl ?_);grind;have e:eN (ns.map D.int) (some k) (some (k+1))=(eN ns (some k) (some (k+1))).map D.int:=by simp[eN,List.map_drop,List.map_take]
 rw[e];cases eN ns (some k) (some (k+1))with
 |nil=>exact⟨_,rfl,_,rfl,rfl,_,rfl⟩
 |cons x r=>exact⟨_,rfl,rfl,_,rfl⟩
def oi{k:Int}(h0:0<=k)(h1:k<=1000)(h:∀a M',M a=none->Pool M' a 2000->Kp (λ_=>False) M M'->Q (.ptr a) M'):jM CD C [.scr ns,.int k] M Q:=by refine bT rfl ?_;grind;refine xP ?_;lia;refine iB (yG h0) ?_;rintro _ ⟨x,rfl⟩;lia;refine iB (yG ∅) ?_;rintro _ ⟨y,rfl⟩;lia;intro a ha;refine xR ?_;exact h a _ ha ⟨_,_,_,az,by ext,by ext⟩ (Kp.upd (.inr ha))
def t3{most:Int}(hp:Pool M a n)(hn:n<=90000)(h0:0<most)(h1:most<=10 ^ 41)(h:∀r M',0<=r->r<most->Pool M' a (n+2)->Kp (· = a) M M'->Q (.int r) M'):lz CD C [.ptr a,.int most] M Q:=by
 refine bT rfl ?_;grind;refine cv hp ∅ ∅ ∅ λr M1 a1 a2 p1 k1=>?_
 lia;refine ay (λe=>?_) λe=>?_
 ·lia
  refine cv p1 ∅ ∅ ∅ λr2 M2 b1 b2 p2 k2=>?_
  lia;exact h _ _ b1 ∅ p2 (k1.trans k2 λ_ z _=>z)
 lia;refine ay (λe=>?_) λe=>?_
 ·lia
  exact h _ _ ∅ ∅ (p1.le ∅) k1
 lia;refine cv p1 ∅ ∅ ∅ λr2 M2 b1 b2 p2 k2=>?_
 lia;exact h _ _ b1 b2 p2 (k1.trans k2 λ_ z _=>z)
def gw{ds:n_}(h:M a=some (.lst ds)):vw1 M (.ptr a)=.lst ds:=by simp only[vw1,h]
def LD(m:Nat)(r:z_):Prop:=r.length=m+1/\(∀x∈r,0<=x/\x<=1000)/\0<r.sum
def LE{m:Nat}(hp:Pool M a n)(hn:n<=60000)(hm:m<=10)(h:∀r M',LD m r->Pool M' a (n+33)->Kp (· = a) M M'->Q (DI r) M'):sX CD C [.ptr a,.int (m:Nat)] M Q:=by
 refine bT rfl ?_;grind;lia;intro x hx;have hxa:x≠a:=λe=>by subst e;obtain⟨_,_,_,h1,_⟩:=hp;rw[hx]at h1;cases h1
 lia;refine⟨⟨by ext,by ext⟩,?_⟩;rw[show((m:Int)+1).toNat=m+1 by ext];refine nG _ _ (λk U M'=>∃b,U=[some (.ptr a),some (.int (m:Nat)),some (.ptr x),b]/\∃r:z_,M' x=some (.lst (r.map D.int))/\r.length=k/\(∀z∈r,0<=z/\z<=1000)/\Pool M' a (n+3*k)/\Kp (· = a) M M') ⟨_,rfl,[],az,rfl,by simp,hp.keep (S:=λ_=>False) (Kp.upd (.inr hx)) id,Kp.upd (.inr hx)⟩ ?_ ?_
 ·rintro U M1 ⟨b,rfl,r,h1,h2,h3,p1,k1⟩
  rw[z8h]at h2 p1;lia;rw[show List.map (vw1 M1) [D.ptr x]=[DI r]by simp[gw h1]];lia;have hnn:=kZ λz hz=>(h3 z hz).1
  have hdel:∀c,Kp (· = a) M (eg (aB M1 x c) x):=λc=>(k1.trans (Kp.upd (S:=(· = x)) (.inl rfl)) λb z n=>by subst z;exact absurd hx n).trans (Kp.del (S:=(· = x)) rfl) λb z n=>by subst z;exact absurd hx n
  have hpd:∀M2:Sto,Pool M2 a (n+3*(m+1))->Pool (eg M2 x) a (n+33):=λM2 p=>(p.keep (S:=(· = x)) (Kp.del rfl) (Ne.symm hxa)).le ∅
  refine ay (λe=>?_) λe=>?_
  ·lia
   refine⟨x,_,_,m,rfl,h1,rfl,?_,?_⟩
   ·rw[z9b,h2];unfold ixN;rw[if_pos ∅,if_pos ∅];congr 1
   lia;refine lm rfl az ?_;lia;have hs:(r.map D.int).set m (D.int 1)=(r.set m 1).map D.int:=by rw[List.map_set]
   rw[hs];refine h (r.set m 1) _ ⟨by rw[z8e,h2],λz hz=>?_,?_⟩ ?_ ?_
   ·rcases z5p hz with hz|hz
    ·exact h3 z hz
    ·subst hz;ext
   ·have hall:∀z∈r.set m 1,0<=z:=λz hz=>by
     rcases z5p hz with hz|hz
     ·exact(h3 z hz).1
     ·subst hz;ext
    have hmem:(1:Int)∈r.set m 1:=List.mem_set ∅ ..;obtain⟨u,w,e⟩:=List.append_of_mem hmem;rw[e]at hall ⊢;rw[List.sum_append,z8t];have g1:=kZ λy hy=>hall y (z8i _ hy)
    have g2:=kZ λy hy=>hall y (z9t _ (z9d _ hy))
    ext
   ·exact hpd _ (p1.keep (S:=(· = x)) (Kp.upd (.inl rfl)) (Ne.symm hxa))
   ·exact hdel _
  ·lia
   refine lm rfl h1 ?_;lia;refine h r _ ⟨h2,h3,by ext⟩ (hpd _ p1) ?_;have:=hdel (.lst (r.map D.int))
   rwa [GC h1]at this
 ·rintro k hk U M1 ⟨b,rfl,r,h1,h2,h3,p1,k1⟩ N hN
  rw[z8h]at hk;grind;refine⟨x,_,rfl,h1,?_⟩;lia;refine cv p1 ∅ ∅ ∅ λv1 M2 a1 a2 p2 k2=>?_
  lia;refine cv p2 ∅ ∅ ∅ λv2 M3 b1 b2 p3 k3=>?_
  lia;refine cv p3 ∅ ∅ ∅ λv3 M4 c1 c2 p4 k4=>?_
  lia;refine Ga 0 1000 c1 (by show _<(3:Int);ext) (by simp only[AllI,and_true];ext) λv e1 e2=>?_
  have x4:M4 x=some (.lst (r.map D.int)):=k4 _ _ (k3 _ _ (k2 _ _ h1 hxa) hxa) hxa;refine⟨_,x4,by simp;ext,xQ (hN _ _ ⟨_,rfl,r++[v],?_,by simp[h2],λz hz=>?_,?_,?_⟩)⟩
  ·rw[az,z8g];rfl
  ·rcases z7g.mp hz with hz|hz
   ·exact h3 z hz
   ·rw[z8b.mp hz];exact⟨e1,e2⟩
  ·exact(p4.keep (S:=(· = x)) (Kp.upd (.inl rfl)) (Ne.symm hxa)).le ∅
  ·exact(((k1.trans k2 λ_ z _=>z).trans k3 λ_ z _=>z).trans k4 λ_ z _=>z).trans (Kp.upd (S:=(· = x)) (.inl rfl)) λb z n=>by subst z;exact absurd hx n
def LF(hp:Pool M a n)(hn:n<=80000)(h:∀r c o d M',0<=r->r<=10->0<=c->c<=o->1<=o->o<=1000->0<=d->d<=1000000->Pool M' a (n+6)->Kp (· = a) M M'->Q (.tup [.int r,.int c,.int o,.int d]) M'):sW CD C [.ptr a] M Q:=by
 refine bT rfl ?_;grind;refine t3 hp ∅ ∅ ∅ λo M1 a1 a2 p1 k1=>?_
 lia;refine cv p1 ∅ ∅ ∅ λr M2 b1 b2 p2 k2=>?_
 lia;refine cv p2 ∅ ∅ ∅ λc M3 c1 c2 p3 k3=>?_
 lia;refine t3 p3 ∅ ∅ ∅ λd M4 d1 d2 p4 k4=>?_
 lia;exact h _ _ _ _ _ b1 ∅ c1 ∅ ∅ ∅ d1 ∅ p4 (((k1.trans k2 λ_ z _=>z).trans k3 λ_ z _=>z).trans k4 λ_ z _=>z)
def RowsOk(n:Nat)(ts:List z_):Prop:=∀r∈ts,r.length=n+1/\(∀x∈r,0<=x/\x<=1000)/\0<r.sum
def RowsOk.sum{ts:List z_}(h:RowsOk n ts)(hn:n<=10):∀r∈ts,0<=r.sum/\r.sum<1000000:=λr hr=>by
 obtain⟨h1,h2,h3⟩:=h r hr;have h4:=qK (b:=1000) λx hx=>(h2 x hx).2
 ext
def LG{k:Int}(h0:0<=k)(h1:k<=900)(h:∀(S:Nat) H_ I_ r c o d M',S<=10->1<=H_.length->H_.length<=6->(∀x∈H_,1<=x/\x<=1000000)->I_.length<=8->RowsOk H_.length I_->0<=r->r<=10->0<=c->c<=o->1<=o->o<=1000->0<=d->d<=1000000->Kp (λ_=>False) M M' ->
   Q (.tup [.int (S:Nat),DI H_,DII I_,.tup [.int r,.int c,.int o,.int d]]) M'):sY CD C [.scr ns,.int k] M Q:=by
 refine bT rfl ?_;grind;refine oi h0 ∅ λp M1 hp P1 K1=>?_
 lia;refine cv P1 ∅ ∅ ∅ λs M2 a1 a2 P2 K2=>?_
 lia;refine rF ?_;lia;refine cv P2 ∅ ∅ ∅ λj M3 b1 b2 P3 K3=>?_
 lia;refine⟨⟨by ext,by ext⟩,by ext,?_⟩;obtain⟨J,rfl⟩:∃J:Nat,j=J:=⟨j.toNat,by ext⟩;rw[show(1+(J:Int)).toNat=J+1 by ext];refine iK _ _ (λk ds M'=>∃fs:z_,ds=fs.map D.int/\fs.length=k/\(∀x∈fs,1<=x/\x<=1000000)/\Pool M' p (3000+2*k)/\Kp (· = p) M3 M') ⟨[],rfl,rfl,by simp,P3.le ∅,Kp.refl⟩ ?_ ?_
 ·rintro _ M4 ⟨H_,rfl,c1,c2,P4,K4⟩
  rw[z8h]at c1 P4;lia;refine LF P4 ∅ λr c o d M5 d1 d2 d3 d4 d5 d6 d7 d8 P5 K5=>?_
  lia;refine cv P5 ∅ ∅ ∅ λm M6 e1 e2 P6 K6=>?_
  lia;refine oi ∅ ∅ λq M7 hq P7 K7=>?_
  lia;refine rF ?_;lia;refine⟨⟨by ext,by ext⟩,by ext,?_⟩;obtain⟨T,rfl⟩:∃T:Nat,m=T:=⟨m.toNat,by ext⟩;obtain⟨S,rfl⟩:∃S:Nat,s=S:=⟨s.toNat,by ext⟩;rw[z8f];have KK:Kp (λ_=>False) M M7:=by
   have z:Kp (· = p) M1 M6:=(((K2.trans K3 λ_ z _=>z).trans K4 λ_ z _=>z).trans K5 λ_ z _=>z).trans K6 λ_ z _=>z
   exact(K1.trans z λx e n=>by subst e;exact absurd hp n).trans K7 λ_ z _=>z
  refine iK _ _ (λk ds M'=>∃ts:List z_,ds=ts.map DI/\ts.length=k/\RowsOk H_.length ts/\Pool M' q (2000+33*k)/\Kp (· = q) M7 M') ⟨[],rfl,rfl,λ_ z=>by simp at z,P7,Kp.refl⟩ ?_ ?_
  ·rintro _ M8 ⟨ts,rfl,f1,f2,P8,K8⟩
   rw[z8h]at f1;lia;have hq':M q=none:=by
    cases e:M q with
    |none=>rfl
    | some c=>
      have z:Kp (· = p) M1 M6:=(((K2.trans K3 λ_ z _=>z).trans K4 λ_ z _=>z).trans K5 λ_ z _=>z).trans K6 λ_ z _=>z
      have:=z _ _ (K1 _ _ e id) (λe'=>by subst e';rw[e]at hp;cases hp);rw[hq]at this;cases this
   exact h S H_ ts r c o d M8 ∅ ∅ ∅ c2 ∅ f2 d1 d2 d3 d4 d5 d6 d7 d8 (KK.trans K8 λx e n=>by subst e;exact absurd hq' n)
  ·rintro k hk _ M8 ⟨ts,rfl,f1,f2,P8,K8⟩ N hN
   rw[z8h]at hk;grind;rw[z9b];refine LE P8 ∅ ∅ λrow M9 g1 P9 K9=>?_
   refine hN _ _ ⟨ts++[row],by simp[DI],by simp[f1],λr' hr'=>?_,P9.le ∅,K8.trans K9 λ_ z _=>z⟩;rcases z7g.mp hr' with hr' | hr'
   ·exact f2 r' hr'
   ·rw[z8b.mp hr'];exact g1
 ·rintro k hk _ M4 ⟨fs,rfl,c1,c2,P4,K4⟩ N hN
  rw[z8h]at hk;grind;refine t3 P4 ∅ ∅ ∅ λv M5 d1 d2 P5 K5=>?_
  lia;refine hN _ _ ⟨fs++[1+v],by simp,by simp[c1],λx hx=>?_,P5.le ∅,K4.trans K5 λ_ z _=>z⟩;rcases z7g.mp hx with hx|hx
  ·exact c2 x hx
  ·rw[z8b.mp hx];ext
def yH(n l m:Int):fk [.int n,.int l,.int m]=some (.bl (decide (l<=n/\n<=m))):=by refine ce (cz (bH rfl ?_));walk_at"env";walk_at"all" <;> walk_at"leaf"
local macro_rules | `(tactic| walk_at"call")=>`(tactic| (with_reducible refine bi (yH _ _ _) ?_))
def yI:nX [DI row]=some (.int row.sum):=by refine ce (cz (bH rfl ?_));grind
structure SaleOk (seats:Int) (H_:z_) (I_:List z_):Prop where
 s0:0<=seats
 s1:seats<=10
 f0:1<=H_.length
 f1:H_.length<=6
 f:∀x∈H_,1<=x/\x<=1000000
 t:I_.length<=8
 r:∀r∈I_,r.length=H_.length+1/\(∀x∈r,0<=x/\x<=1000)/\0<r.sum
local macro_rules | `(tactic| walk_at"call")=>`(tactic| (with_reducible refine bi (yH _ _ _) ?_))
def gx(n:Nat)(r:z_):Prop:=r.length=n+1/\(∀x∈r,0<=x/\x<=1000)/\0<r.sum
def yJ{r:z_}(hl:r.length<=1000):WF nY [DI r,.int (n:Nat)] λd=>∃b,d=.bl b/\(b=true↔gx n r):=by
 refine cz (bH rfl ?_);grind;rw[z9b];refine gi (λh=>?_) λh=>?_
 ·lia
  unfold gx;simp;ext
 ·lia
  refine mY (α:=Int) (λx=>0<=x/\x<=1000) ?_;lia;refine⟨.int,r,rfl,by ext,λx hx=>⟨_,rfl,?_⟩,λbs hb=>?_⟩
  ·walk_at"env"
   lia;simp
  lia;refine wM hb (λh1=>?_) λh1=>?_
  ·lia
   refine bi yI ?_;lia;unfold gx;rw[z4z];exact⟨λh2=>⟨by ext,h1,h2⟩,λh2=>h2.2.2⟩
  ·lia
   unfold gx;simp;intro _ h2;exact absurd h2 h1
def yK{f:z_}(hl:f.length<=1000):WF nW [DI f] λd=>∃b,d=.bl b/\(b=true↔1<=f.length/\f.length<=6/\∀x∈f,1<=x/\x<=1000000):=by
 refine cz (bH rfl ?_);grind;rw[z9b];refine ay (λh=>?_) λh=>?_
 ·lia
  refine ay (λh2=>?_) λh2=>?_
  ·lia
   refine mY (α:=Int) (λx=>1<=x/\x<=1000000) ?_;lia;refine⟨.int,f,rfl,by ext,λx hx=>⟨_,rfl,?_⟩,λbs hb=>?_⟩
   ·walk_at"env"
    lia;simp
   lia;exact hb.trans ⟨λh=>⟨by ext,by ext,h⟩,λh=>h.2.2⟩
  ·lia
   simp;ext
 ·lia
  simp;ext
def LH(hl:t.length<=1000)(hr:∀r∈t,r.length<=1000):WF sf [DII t,.int (n:Nat)] λd=>∃b,d=.bl b/\(b=true↔t.length<=8/\∀r∈t,gx n r):=by
 refine cz (bH rfl ?_);grind;rw[z9b];refine ay (λh=>?_) λh=>?_
 ·lia
  refine mY (α:=z_) (gx n) ?_;lia;refine⟨DI,t,rfl,by ext,λx hx=>⟨_,rfl,?_⟩,λbs hb=>?_⟩
  ·walk_at"env"
   lia;exact yJ (hr x hx)
  lia;exact hb.trans ⟨λh=>⟨by ext,h⟩,λh=>h.2⟩
 ·lia
  simp;ext
def LI{f:z_}(hf:f.length<=1000)(hl:t.length<=1000)(hr:∀r∈t,r.length<=1000):WF sg [.int s,DI f,DII t] λd=>∃b,d=.bl b/\(b=true↔SaleOk s f t):=by
 refine cz (bH rfl ?_);grind;refine ay (λh=>?_) λh=>?_
 ·lia
  refine iB (yK hf) ?_;rintro _ ⟨b,rfl,hb⟩;lia;refine wM hb (λh1=>?_) λh1=>?_
  ·lia
   rw[z9b];refine iB (LH hl hr) ?_;rintro _ ⟨b,rfl,hb⟩;lia;exact hb.trans ⟨λh2=>⟨h.1,h.2,h1.1,h1.2.1,h1.2.2,h2.1,h2.2⟩,λh2=>⟨h2.t,h2.r⟩⟩
  ·lia
   exact⟨λh=>(nomatch h),λh2=>absurd ⟨h2.f0,h2.f1,h2.f⟩ h1⟩
 ·lia
  exact⟨λh=>(nomatch h),λh2=>absurd ⟨h2.s0,h2.s1⟩ h⟩
noncomputable def oj(r c o d:Int):Bool:=decide (0<=r/\r<=10/\1<=o/\o<=1000/\0<=c/\c<=o/\0<=d/\d<=1000000)
def yL(r c o d:Int):o6 [.tup [.int r,.int c,.int o,.int d]]=some (.bl (oj r c o d)):=by refine ce (cz (bH rfl ?_));unfold oj;walk_at"env";walk_at"all" <;> walk_at"leaf"
def yM(hl:n<=1000)(hx:0<=x/\x<=1000000):nV [.int x,.int (n:Nat)]=some (.int (x ^ n)):=by
 refine ce (cz (bH rfl ?_));grind;refine⟨⟨by ext,by ext⟩,?_⟩;rw[z8f];refine gS _ _ (λk U=>∃a,U=[some (.int x),some (.int (n:Nat)),some (.int (x ^ k)),a]) ⟨_,by rw[z5d]⟩ ?_ ?_
 ·rintro U ⟨a,rfl⟩
  rw[z8h];lia
 ·rintro k hk U ⟨a,rfl⟩
  rw[z8h]at hk;grind;walk_at"env";rw[z7s];exact⟨_,rfl⟩
noncomputable def more(xs:z_)(c s:Int):z_:=List.zipWith (λa b=>a+b) (xs.map (λx=>x*s)++[0]) (0::xs.map λx=>x*c)
def ol(xs:z_)(c s:Int):(more xs c s).length=xs.length+1:=by simp[more]
def LJ(hl:xs.length<=1000)(hc:0<=c/\c<=1000000)(hs:0<=s/\s<=1000000):sv [DI xs,.int c,.int s]=some (DI (more xs c s)):=by
 refine ce (bH rfl ?_);grind;refine gT (α:=Int) ?_;lia;refine⟨.int,λx=>.int (x*s),xs,rfl,by ext,λx hx=>⟨_,rfl,?_⟩,?_⟩
 ·walk_at"env"
  lia
 lia;refine gT (α:=Int) ?_;lia;refine⟨.int,λx=>.int (x*c),xs,rfl,by ext,λx hx=>⟨_,rfl,?_⟩,?_⟩
 ·walk_at"env"
  lia
 lia;refine gT (α:=Int×Int) ?_;lia;refine⟨λp=>.tup [.int p.1,.int p.2],λp=>.int (p.1+p.2),(xs.map (λx=>x*s)++[0]).zip (0::xs.map λx=>x*c),?_,by simp;ext,λx hx=>⟨_,rfl,?_⟩,?_⟩
 ·rw[<- qM];simp;rfl
 ·walk_at"env"
  lia
 ·lia
  congr 1;rw[more,<- z4g,z7h];rfl
noncomputable def bU:Nat->Int->Int->z_
 |0,_,_=>[1]
 |n+1,c,s=>more (bU n c s) c s
def iU(n:Nat)(c s:Int):(bU n c s).length=n+1:=by
 induction n with
 |zero=>rfl
 |succ n ih=>rw[bU,ol,ih]
def LK{o:Int}(hl:n<=100)(hc:0<=c/\c<=o)(ho:o<=1000000):sw [.int (n:Nat),.int c,.int o]=some (DI (bU n c (o-c))):=by
 refine ce (bH rfl ?_);grind;refine⟨⟨by ext,by ext⟩,?_⟩;rw[z8f];refine gS _ _ (λk U=>∃a,U=[some (.int (n:Nat)),some (.int c),some (.int o),some (DI (bU k c (o-c))),a]) ⟨_,rfl⟩ ?_ ?_
 ·rintro U ⟨a,rfl⟩
  rw[z8h];lia
 ·rintro k hk U ⟨a,rfl⟩
  rw[z8h]at hk;grind;refine bi (LJ (by rw[iU];ext) ∅ ∅) ?_;lia;walk_at"env";exact⟨_,rfl⟩
theorem yN:∀(xs ys:z_),xs.length=ys.length->(List.zipWith (λa b=>a+b) xs ys).sum=xs.sum+ys.sum
 |[],[],_=>by simp
 |x::xs,y::ys,h=>by have:=yN xs ys (by simpa using h);rw[z5z,z8t,this,z8t,z8t];ext
def yO(xs:z_)(c:Int):(xs.map λx=>x*c).sum=xs.sum*c:=by
 induction xs with
 |nil=>simp
 |cons x r ih=>rw[z9n,z8t,ih,z8t,Int.add_mul]
def LL(xs:z_)(c s:Int):(more xs c s).sum=xs.sum*(c+s):=by rw[more,yN _ _ (by simp),List.sum_append,yO,z8t (a:=0) (l:=xs.map _),yO,Int.mul_add];simp;ext
def LM(n:Nat)(c s:Int):(bU n c s).sum=(c+s) ^ n:=by
 induction n with
 |zero=>simp[bU]
 |succ n ih=>rw[bU,LL,ih,z7s]
def yP(h:j<(more xs c s).length):(more xs c s)[j]=xs.getD j 0*s+(if j=0 then 0 else xs.getD (j-1) 0*c):=by
 have hl:=ol xs c s;simp only[more,List.getElem_zipWith];congr 1
 ·by_cases hj:j<xs.length
  ·rw[List.getElem_append_left (by simpa using hj),z4c,dq _ _ _ hj]
  ·have:j=xs.length:=by ext
   subst this;rw[List.getElem_append_right (by simp)];simp[z8c]
 ·cases j with
  |zero=>simp
  |succ j=>simp only[List.getElem_cons_succ,z4c,z4x];rw[if_neg ∅,dq _ _ _ ∅]
noncomputable def wt(f:Nat->Int):Nat->z_->Int
 |_,[]=>0
 |k,x::r=>x*f k+wt f (k+1) r
def LN{f g:Nat->Int}{k:Nat}(hx:∀x∈xs,0<=x)(h:∀j,k<=j->j<k+xs.length->f j<=g j):wt f k xs<=wt g k xs:=by
 induction xs generalizing k with
 |nil=>simp[wt]
 | cons x r ih=>
   have h1:=ih (k:=k+1) (λy hy=>hx y (z9d _ hy)) λj h1 h2=>h j ∅ (by rw[z9e];ext)
   have h2:=z7m (h k ∅ (by rw[z9e];ext)) (hx x (z9a ..));simp only[wt];ext
def LO(a:Int)(xs:z_)(k:Nat):wt (λ_=>a) k xs=a*xs.sum:=by
 induction xs generalizing k with
 |nil=>simp[wt]
 |cons x r ih=>simp only[wt];rw[ih,z8t];grind (config:={})
def LP{f:Nat->Int}{k:Nat}(hx:∀x∈xs,0<=x)(h:∀j,0<=f j):0<=wt f k xs:=by
 induction xs generalizing k with
 |nil=>simp[wt]
 | cons x r ih=>
   have h1:=ih (k:=k+1) λy hy=>hx y (z9d _ hy)
   have h2:=z7z (hx x (z9a ..)) (h k);simp only[wt];ext
def yQ(F:Int->Nat->Int)(f:Nat->Int)(h:∀x j,F x j=x*f j)(xs:z_)(k:Nat):((xs.zipIdx k).map λp=>F p.1 p.2).sum=wt f k xs:=by
 induction xs generalizing k with
 |nil=>rfl
 |cons x r ih=>rw[List.zipIdx_cons,z9n,z8t,ih];simp only[wt];rw[h]
def LQ(hc:0<=c)(hs:0<=s)(hx:∀x∈xs,0<=x):∀x∈more xs c s,0<=x:=by
 intro x hx';obtain⟨j,hj,rfl⟩:=z6w hx';have hg:∀i,0<=xs.getD i 0:=λi=>by
  by_cases hi:i<xs.length
  ·rw[dq _ _ _ hi];exact hx _ (z9s _)
  ·rw[z8c,z4f ∅];exact Int.le_refl 0
 rw[yP hj];have h1:=z7z (hg j) hs;have h2:=z7z (hg (j-1)) hc;split<;>ext
def yR(hc:0<=c)(hs:0<=s)(n:Nat):∀x∈bU n c s,0<=x:=by
 induction n with
 |zero=>intro x hx;simp[bU]at hx;ext
 |succ n ih=>exact LQ hc hs ih
noncomputable def fo(room:Int)(j:Nat):Int:=max ((j:Int)-room) 0
def dD(room c s:Int)(n:Nat):Int:=wt (fo room) 0 (bU n c s)
def LR{o:Int}(hl:n<=100)(hr:0<=r/\r<=1000)(hc:0<=c/\c<=o)(ho:o<=1000000):sx [.int (n:Nat),.tup [.int r,.int c,.int o,.int d]]=some (.int (dD r c (o-c) n)):=by
 refine ce (cz (bH rfl ?_));grind;refine bi (LK hl hc ho) ?_;have hlen:=iU n c (o-c);lia;refine gT (α:=Int×Nat) ?_;lia;refine⟨λp=>.tup [.int (p.2:Nat),.int p.1],λp=>.int (p.1*fo r p.2),(bU n c (o-c)).zipIdx,qL _ _,by simp;ext,λp hp=>⟨_,rfl,?_⟩,?_⟩
 ·have hp:=List.snd_lt_of_mem_zipIdx hp
  grind;rfl
 rw[show((bU n c (o-c)).zipIdx.map λp=>D.int (p.1*fo r p.2))=((bU n c (o-c)).zipIdx.map λp=>p.1*fo r p.2).map D.int by rw[z7h];rfl];lia;rw[yQ (λx j=>x*fo r j) (fo r) (λ_ _=>rfl)];rfl
def iV(r c o d:Int)(J1 left:Nat):Int:=-d*dD r c (o-c) J1*o ^ left
def LS{l:Nat}{o:Int}(hn:n<=100)(hl:l<=100)(hr:0<=r/\r<=1000)(hc:0<=c/\c<=o)(ho:o<=1000000)(hd:0<=d/\d<=1000000)(hm:okMul (-d*dD r c (o-c) n) (o ^ l)):sy [.int (n:Nat),.int (l:Nat),.tup [.int r,.int c,.int o,.int d]]=some (.int (iV r c o d n l)):=by refine ce (cz (bH rfl ?_));grind;refine bi (LR hn hr hc ho) ?_;lia;refine bi (yM ∅ ∅) ?_;lia;rfl
def ends(r c o d:Int)(S:Nat):z_:=(List.range (S+1)).map λl=>iV r c o d (S-l) l
def i0(r c o d:Int)(S:Nat):(ends r c o d S).length=S+1:=by simp[ends]
def yS(hc:0<=c)(hs:0<=s)(n:Nat):0<=dD r c s n:=LP (yR hc hs n) λj=>by unfold fo;ext
def yT(hr:0<=r)(hc:0<=c)(hs:0<=s)(n:Nat):dD r c s n<=n*(c+s) ^ n:=by
 have:=LN (f:=fo r) (g:=λ_=>(n:Int)) (xs:=bU n c s) (k:=0) (yR hc hs n) λj _ h=>by rw[iU]at h;unfold fo;ext
 rwa [LO,LM]at this
def yU{o:Int}{l:Nat}(hn:n<=10)(hl:l<=10)(hr:0<=r/\r<=1000)(hc:0<=c/\c<=o)(ho:o<=1000)(h1:1<=o)(hd:0<=d/\d<=1000000):okMul (-d*dD r c (o-c) n) (o ^ l):=by have a1:=yS (r:=r) hc.1 (show 0<=o-c by ext) n;have a2:=yT hr.1 hc.1 (show 0<=o-c by ext) n;rw[show c+(o-c)=o by ext]at a2;have a3:o ^ n<=1000 ^ 10:=gW 10 ∅ ho ∅ hn;have a4:(n:Int)*o ^ n<=10*1000 ^ 10:=z7t ∅ a3 (l5 ∅ n) ∅;have b1:=z7z hd.1 a1;have b2:d*dD r c (o-c) n<=1000000*(10*1000 ^ 10):=z7t hd.2 ∅ a1 ∅;have c1:=l5 (show 0<=o by ext) l;have c2:o ^ l<=1000 ^ 10:=gW 10 ∅ ho ∅ hl;have e:-d*dD r c (o-c) n = -(d*dD r c (o-c) n):=z5j ..;exact wH (kY ∅ ∅) (kY ∅ ∅)
def LT{o:Int}(hS:S<=10)(hr:0<=r/\r<=1000)(hc:0<=c/\c<=o)(ho:o<=1000)(h1:1<=o)(hd:0<=d/\d<=1000000):sA [.int (S:Nat),.tup [.int r,.int c,.int o,.int d]]=some (DI (ends r c o d S)):=by
 refine ce (bH rfl ?_);grind;refine gT (α:=Nat) ?_;lia;refine⟨⟨by ext,by ext⟩,λl=>.int (l:Nat),λl=>.int (iV r c o d (S-l) l),List.range (S+1),by rw[show((S:Int)+1).toNat=S+1 by ext],by simp;ext,λl hl=>⟨_,rfl,?_⟩,?_⟩
 ·have hl:=z7e.mp hl
  grind;rw[show(S:Int)-(l:Int)=((S-l:Nat):Int)by ext];refine bi (LS ∅ ∅ hr hc ∅ hd (yU ∅ ∅ hr hc ho h1 hd)) ?_;lia
 lia;simp[ends]
noncomputable def aQ:List z_->Int->z_
 |[],l=>[l]
 |r::rs,l=>((aQ rs l).headD 0*r.sum)::aQ rs l
def yV(rs:List z_)(l:Int):aQ rs l≠[]:=by cases rs<;>simp[aQ]
def fq(rs:List z_)(l:Int):(aQ rs l).length=rs.length+1:=by
 induction rs with
 |nil=>rfl
 |cons r rs ih=>simp[aQ,ih]
def LU(h:xs≠[])(h':xs.reverse≠[]):xs.reverse.getLast h'=xs.headD 0:=by
 cases xs with
 |nil=>exact absurd rfl h
 |cons x r=>simp
def yW(hr:∀r∈I_,0<=r.sum/\r.sum<1000000)(hl:I_.length<=1000):nZ [DII I_,.int last]=some (DI (aQ I_ last)):=by
 refine ce (bH rfl ?_);grind;rw[<- z6t];refine gS _ _ (λk U=>∃o,U=[some (DII I_),some (.int last),some (DI (aQ ((I_.reverse.take k).reverse) last).reverse),o]) ⟨_,rfl⟩ ?_ ?_
 ·rintro U ⟨o,rfl⟩
  lia;rw[z7j,z7l (by simp),z6r,<- z6t,z6r]
 ·rintro k hk U ⟨o,rfl⟩
  rw[z7j]at hk;walk_at"env";refine wC rfl (by simp[fq];ext) ?_;lia;refine wJ (by simp[yV]) ?_;lia;refine bi yI ?_;have hm:=hr (I_.reverse[k]) (by rw[<- z5h];exact z9s _);lia;walk_at"env";rw[wK];have e:(aQ (I_.reverse.take (k+1)).reverse last).reverse=(aQ (I_.reverse.take k).reverse last).reverse++[(aQ (I_.reverse.take k).reverse last).headD 0*I_.reverse[k].sum]:=by rw[z8k (by simpa using hk),List.reverse_append,List.reverse_singleton,List.singleton_append,aQ,z6h]
  rw[e,LU (yV _ _)];exact⟨_,rfl⟩
def yX{bs:z_}{s:Nat}(hm:okMul f scale)(hs:s<bs.length)(h0:0<s):o3 [.int f,.int scale,DI bs,.int (s:Nat)]=some (.int (f*scale+bs.getD (s-1) 0)):=by refine ce (cz (bH rfl ?_));grind;refine bK ∅ ∅ ?_;lia;rw[show((s:Int)-1).toNat=s-1 by ext]
noncomputable def dR(f scale:Int)(bs:z_)(s:Nat):Int:=if s=0 then bs.getD 0 0 else max (bs.getD s 0) (f*scale+bs.getD (s-1) 0)
noncomputable def jN(row cs:z_)(kept:Int):Int:=(List.zipWith (λa b=>a*b) row (cs++[kept])).sum
def ft(H_ row:z_)(scale:Int)(bs:z_)(s:Nat):Int:=jN row (H_.map λf=>dR f scale bs s) (bs.getD s 0)
def gy(H_ row:z_)(scale:Int)(bs:z_):z_:=(List.range bs.length).map (ft H_ row scale bs)
def eD(xs:z_):Prop:=∀x∈xs,-1000000000000<=x/\x<=1000000000000
def LV{bs:z_}{s:Nat}(hf:-1000000000000<=f/\f<=1000000000000)(hs:s<bs.length):sj [.int f,.int scale,DI bs,.int (s:Nat)]=some (.int (dR f scale bs s)):=by
 refine ce (cz (bH rfl ?_));unfold dR;grind;refine ay (λh=>?_) λh=>?_
 ·lia
  refine bK ∅ ∅ ?_;lia;have:s=0:=by ext
  subst this;simp
 ·lia
  refine bK ∅ ∅ ?_;lia;refine bi (yX (mX ∅ ∅) hs ∅) ?_;lia;rw[if_neg ∅,z8f]
def LW{cs:z_}{kept:Int}(hr:eD row)(hl:row.length<=1000)(hc:cs.length<=1000):sh [DI row,DI cs,.int kept]=some (.int (jN row cs kept)):=by
 refine ce (cz (bH rfl ?_));grind;refine l6 (α:=Int×Int) ?_;lia;rw[wN];lia;refine⟨_,λp=>p.1*p.2,_,qM _ _ _ _,by simp;ext,λp hp=>⟨_,rfl,?_⟩,?_⟩
 ·have:=hr _ (z4j hp).1
  grind
 lia;rw[jN,<- z4g];rfl
def LX{bs:z_}{s:Nat}(hf:eD H_)(hr:eD row)(hlf:H_.length<=1000)(hl:row.length<=1000)(hs:s<bs.length):sk [DI H_,DI row,.int scale,DI bs,.int (s:Nat)]=some (.int (ft H_ row scale bs s)):=by
 refine ce (cz (bH rfl ?_));grind;refine l6 (α:=Int) ?_;lia;refine⟨.int,λf=>dR f scale bs s,H_,rfl,by ext,λf hx=>⟨_,rfl,?_⟩,?_⟩
 ·walk_at"env"
  lia;refine bi (LV (hf f hx) hs) ?_;lia
 lia;refine bK ∅ ∅ ?_;lia;rw[z8f];refine bi (LW hr hl (by simp;ext)) ?_;lia;rfl
def LY{bs:z_}(hf:eD H_)(hr:eD row)(hlf:H_.length<=1000)(hl:row.length<=1000)(hs:bs.length<=1000):sm [DI H_,DI row,.int scale,DI bs]=some (DI (gy H_ row scale bs)):=by
 refine ce (bH rfl ?_);grind;refine l6 (α:=Nat) ?_;lia;rw[z9b];refine⟨⟨by ext,by ext⟩,λs=>.int (s:Nat),λs=>ft H_ row scale bs s,List.range bs.length,by rw[z8f],by simp;ext,λs hx=>⟨_,rfl,?_⟩,?_⟩
 ·have hx:=z7e.mp hx
  grind;refine bi (LX hf hr hlf hl hx) ?_;lia
 lia;rfl
def LZ(H_ row:z_)(scale:Int)(bs:z_):(gy H_ row scale bs).length=bs.length:=by simp[gy]
noncomputable def jO(row cs:z_)(k:Nat):Int:=((List.range k).map λj=>row.getD j 0*cs.getD j 0).sum
def Ma(r c:Int)(row cs:z_)(k:Nat):jO (r::row) (c::cs) (k+1)=r*c+jO row cs k:=by unfold jO;rw[List.range_succ_eq_map,z9n,z8t,z7h];rfl
theorem yY:∀(row cs:z_) (kept:Int),row.length=cs.length+1->jN row cs kept=jO row cs cs.length+row.getD cs.length 0*kept
 |[r],[],kept,_=>by simp[jN,jO]
 |r::r'::row,[],kept,h=>by simp at h
 |r::row,c::cs,kept,h=>by have ih:=yY row cs kept (by simpa using h);unfold jN at ih ⊢;rw[z6e,z5z,z8t,ih,z9e,Ma,z5l];ext
noncomputable def aJ(H_:z_):List z_->Int->z_->List z_
 |[],_,ends=>[ends]
 |r::rs,last,ends=>gy H_ r ((aQ rs last).headD 0) ((aJ H_ rs last ends).headD [])::aJ H_ rs last ends
def om(H_:z_)(rs:List z_)(last:Int)(ends:z_):aJ H_ rs last ends≠[]:=by cases rs<;>simp[aJ]
def i5(H_:z_)(rs:List z_)(last:Int)(ends:z_):(aJ H_ rs last ends).length=rs.length+1:=by
 induction rs with
 |nil=>rfl
 |cons r rs ih=>simp[aJ,ih]
def Mb(H_:z_)(rs:List z_)(last:Int)(ends:z_):∀r∈aJ H_ rs last ends,r.length=ends.length:=by
 induction rs with
 |nil=>intro r hr;simp[aJ]at hr;rw[hr]
 | cons r rs ih=>
   intro q hq;simp only[aJ,z9j]at hq;rcases hq with rfl|hq
   ·rw[LZ]
    cases ht:aJ H_ rs last ends with
    |nil=>exact absurd ht (om _ _ _ _)
    |cons a b=>rw[z4o];exact ih a (by rw[ht];exact z9a)
   ·exact ih q hq
def t4(H_:z_)(rs:List z_)(last:Int)(ends:z_):((aJ H_ rs last ends).headD []).length=ends.length:=by
 cases ht:aJ H_ rs last ends with
 |nil=>exact absurd ht (om _ _ _ _)
 |cons a b=>rw[z4o];exact Mb H_ rs last ends a (by rw[ht];exact z9a)
def Mc{xs:List z_}(h:xs≠[])(h':xs.reverse≠[]):xs.reverse.getLast h'=xs.headD []:=by
 cases xs with
 |nil=>exact absurd rfl h
 |cons x r=>simp
theorem t5(l:Int):∀(rs:List z_) (k:Nat),k<=rs.length->(aQ rs l).getD k 0=(aQ (rs.drop k) l).headD 0
 |rs,0,_=>by cases h:aQ rs l<;>simp[h]
 |r::rs,k+1,h=>by rw[aQ,z5l,z6x,t5 l rs k (by simpa using h)]
def Md{ends:z_}(hf:eD H_)(hlf:H_.length<=1000)(hr:∀r∈I_,eD r/\r.length<=1000)(hs:∀r∈I_,0<=r.sum/\r.sum<1000000)(ht:I_.length<=1000)(he:ends.length<=1000):
  so [DI H_,DII I_,.int last,DI ends]=some (DII (aJ H_ I_ last ends)):=by
 refine ce (bH rfl ?_);grind;refine bi (yW hs ht) ?_;lia;rw[z9b];refine⟨_,_,rfl,⟨by ext,by ext⟩,⟨by ext,by ext⟩,?_⟩;rw[show((I_.length:Int)-1 - -1).toNat=I_.length by ext];refine gS _ _ (λk U=>∃a,U=[some (DI H_),some (DII I_),some (.int last),some (DI ends),some (DI (aQ I_ last)),some (DII (aJ H_ (I_.drop (I_.length-k)) last ends).reverse),a]) ⟨none,by rw[Nat.sub_zero,z7q];rfl⟩ ?_ ?_
 ·rintro U ⟨a,rfl⟩
  rw[z8h,Nat.sub_self,z6s];refine wy ?_;refine Gz rfl ?_;rw[z6r];refine wz ?_;rfl
 ·rintro k hk U ⟨a,rfl⟩
  rw[z8h]at hk;simp only[z7w];walk_at"env";have htl:=i5 H_ (I_.drop (I_.length-k)) last ends;rw[z7p]at htl;refine Gy rfl (by rw[z9b,z7j,htl];ext) ?_;lia;refine gU ∅ ∅ ?_;lia;refine bK ∅ (by rw[fq];ext) ?_;lia;refine Gw (by simp[om]) ?_;lia;have hi:I_.length-1-k<I_.length:=by ext
  rw[Mc (om _ _ _ _),show((I_.length:Int)-1-(k:Nat)).toNat=I_.length-1-k by ext,show((I_.length:Int)-1-(k:Nat)+1).toNat=I_.length-k by ext,t5 _ _ _ ∅,dq _ _ _ hi];have hm:=hr _ (z9s hi);refine bi (LY hf hm.1 hlf hm.2 (by rw[t4];exact he)) ?_;refine⟨_,rfl,?_⟩;rw[show(aJ H_ (I_.drop (I_.length-k)) last ends).reverse.map DI++[DI (gy H_ I_[I_.length-1-k] ((aQ (I_.drop (I_.length-k)) last).headD 0) ((aJ H_ (I_.drop (I_.length-k)) last ends).headD []))]=((aJ H_ (I_.drop (I_.length-k)) last ends).reverse++[gy H_ I_[I_.length-1-k] ((aQ (I_.drop (I_.length-k)) last).headD 0) ((aJ H_ (I_.drop (I_.length-k)) last ends).headD [])]).map DI by simp];refine wD ?_;walk_at"env";have e:aJ H_ (I_.drop (I_.length-(k+1))) last ends=gy H_ I_[I_.length-1-k] ((aQ (I_.drop (I_.length-k)) last).headD 0) ((aJ H_ (I_.drop (I_.length-k)) last ends).headD [])::aJ H_ (I_.drop (I_.length-k)) last ends:=by rw[show I_.length-(k+1)=I_.length-1-k by ext,z9v hi,aJ,show I_.length-1-k+1=I_.length-k by ext]
  rw[e,z6h];exact⟨_,rfl⟩
theorem t6(H_:z_)(last:Int)(ends:z_):∀(rs:List z_) (k:Nat),k<=rs.length->(aJ H_ rs last ends).getD k []=(aJ H_ (rs.drop k) last ends).headD []
 |rs,0,_=>by rw[z6s];cases aJ H_ rs last ends<;>rfl
 |r::rs,k+1,h=>by rw[aJ,z5l,z6x,t6 H_ last ends rs k (by simpa using h)]
def jP(H_:z_)(last:Int)(ends:z_)(rs:List z_)(t:Nat)(h:t<=rs.length):((aJ H_ rs last ends).getD t []).length=ends.length:=by rw[t6 _ _ _ _ _ h,t4]
theorem yZ{n:Nat}{l:Int}(hn:n<=10)(h1:1<=l)(h2:l<=10 ^ 40):∀{rs:List z_},RowsOk n rs->1<=(aQ rs l).headD 0/\(aQ rs l).headD 0<=10 ^ 40*1000000 ^ rs.length
 |[],_=>by simp[aQ];ext
 | r::rs,h=>by
   obtain⟨i1,i2⟩:=yZ hn h1 h2 (rs:=rs) λq hq=>h q (z9d _ hq)
   have hs:=h.sum hn r z9a;have hp:=(h r z9a).2.2;rw[aQ,z4o,z9e,z7s];generalize (aQ rs l).headD 0=x at i1 i2 ⊢;generalize r.sum=y at hs hp ⊢;have e1:x*1<=x*y:=z7m ∅ ∅;have e2:x*y<=(10 ^ 40*1000000 ^ rs.length)*1000000:=z7t i2 ∅ ∅ ∅;rw[Int.mul_assoc]at e2;exact⟨by ext,e2⟩
def za{l:Int}(hn:n<=10)(h1:1<=l)(h2:l<=10 ^ 40){rs:List z_}(h:RowsOk n rs)(h8:rs.length<=8):1<=(aQ rs l).headD 0/\(aQ rs l).headD 0<=10 ^ 88:=by obtain⟨i1,i2⟩:=yZ hn h1 h2 h;have:=gW (x:=1000000) (B:=1000000) (n:=rs.length) 8 ∅ ∅ ∅ h8;exact⟨i1,by ext⟩
def RowsOk.drop{k:Nat}{ts:List z_}(h:RowsOk n ts):RowsOk n (ts.drop k):=λr hr=>h r (List.mem_of_mem_drop hr)
noncomputable def lA(f scale:Int)(bs:z_)(s:Nat):Bool:=decide (0<s/\bs.getD s 0<=f*scale+bs.getD (s-1) 0)
def Me{bs:z_}{s:Nat}(hm:okMul f scale)(hs:s<bs.length):sr [.int f,.int scale,DI bs,.int (s:Nat)]=some (.bl (lA f scale bs s)):=by
 refine ce (cz (bH rfl ?_));unfold lA;grind;refine ay (λh=>?_) λh=>?_
 ·lia
  refine bi (yX hm hs ∅) ?_;lia;refine bK ∅ ∅ ?_;lia;rw[z8f];exact z8w D.bl (z6u.mpr ⟨λq=>⟨by ext,q⟩,λq=>q.2⟩)
 ·lia
  exact z8w D.bl (z8y λq=>h ∅).symm
def Mf{bs:z_}{s:Nat}(h1:1<=scale)(h2:scale<=10 ^ 130)(h0:0<s)(hs:s<bs.length):su [.int scale,DI bs,.int (s:Nat)]=some (.int (-((bs.getD (s-1) 0-bs.getD s 0) / scale))):=by refine ce (cz (bH rfl ?_));grind;refine bK ∅ ∅ ?_;lia;refine bK ∅ ∅ ?_;lia;rw[show((s:Int)-1).toNat=s-1 by ext,z8f]
structure Sale (S:Nat) (H_:z_) (I_:List z_) (r c o d:Int):Prop where
 hS:S<=10
 f1:1<=H_.length
 f2:H_.length<=6
 f3:∀x∈H_,1<=x/\x<=1000000
 t1:I_.length<=8
 t2:RowsOk H_.length I_
 r1:0<=r
 r2:r<=10
 c1:0<=c
 c2:c<=o
 o1:1<=o
 o2:o<=1000
 d1:0<=d
 d2:d<=1000000
def bt(S:Nat)(H_:z_)(I_:List z_)(r c o d:Int)(J0 J1:Nat)(J4:Int)(J5 J6:D):n_:=
 [.int (S:Nat),DI H_,.tup [.int r,.int c,.int o,.int d],DI (aQ I_ (o ^ S)),DII (aJ H_ I_ (o ^ S) (ends r c o d S)),.int (J0:Nat),.int (J1:Nat),.int J4,J5,J6]
def Mg{o:Int}(hn:n<=100)(ho:0<=o/\o<=1000):sB [.int (n:Nat),.tup [.int r,.int c,.int o,.int d]]=some (.int (o ^ n)):=by refine ce (cz (bH rfl ?_));grind;refine bi (yM ∅ ∅) ?_;lia
section
variable {of:Int}
def Mh(hm:M o=some (.ins C c_ (bt S H_ I_ r c of d J0 J1 J4 J5 J6)))(h:Q (.int (J0:Nat)) M):sK CD C [.ptr o] M Q:=by refine bT rfl ?_;grind;exact h
end
section
variable {of:Int}
def jQ(hm:M o=some (.ins C c_ (bt S H_ I_ r c of d J0 J1 J4 J5 J6)))(hs:J1<=S)(h:Q (.int ((S-J1:Nat):Int)) M):iS CD C [.ptr o] M Q:=by refine bT rfl ?_;grind;rw[show(S:Int)-(J1:Int)=((S-J1:Nat):Int)by ext];exact h
def lB(hm:M o=some (.ins C c_ (bt S H_ I_ r c of d J0 J1 J4 J5 J6)))(h:Q (.bl (decide (J0=I_.length))) M):o8 CD C [.ptr o] M Q:=by refine bT rfl ?_;grind;rw[show List.map (vw1 M) [DI (aQ I_ (of ^ S))]=[DI (aQ I_ (of ^ S))]from rfl];lia;rw[z9b,fq,show decide ((J0:Int)=((I_.length+1:Nat):Int)-1)=decide (J0=I_.length)from z6u.mpr ∅];exact h
def Mi(hm:M o=some (.ins C c_ (bt S H_ I_ r c of d J0 J1 J4 J5 J6)))(h:Q .non M):o9 CD C [.ptr o,.non] M Q EX:=by refine bE rfl ?_;grind;exact h
def Mj{k:Nat}(hm:M o=some (.ins C c_ (bt S H_ I_ r c of d J0 J1 J4 J5 J6)))(hk:k<H_.length)(h:Q (.int (H_.getD k 0)) M):o9 CD C [.ptr o,.int (k:Nat)] M Q EX:=by refine bE rfl ?_;grind;rw[show List.map (vw1 M) [DI H_]=[DI H_]from rfl];lia;rw[z9b,z9w (show(0:Int)<=(k:Nat)/\((k:Nat):Int)<=(H_.length:Int)-1 by ext)];lia;refine bK ∅ ∅ ?_;rw[z8f];exact h
def Ml(hm:M o=some (.ins C c_ (bt S H_ I_ r c of d J0 J1 J4 J5 J6)))(h:Q (.bl false) M):oa CD C [.ptr o,.non] M Q:=by refine bT rfl ?_;grind;exact h
def Mm(hm:M o=some (.ins C c_ (bt S H_ I_ r c of d J0 J1 J4 J5 J6)))(hs:J1<=S)(ht:J0<I_.length)(hf:1<=f/\f<=1000000)(h:Q (.bl (lA f ((aQ I_ (of ^ S)).getD (J0+1) 0) ((aJ H_ I_ (of ^ S) (ends r c of d S)).getD (J0+1) []) (S-J1))) M):oa CD C [.ptr o,.int f] M Q:=by refine bT rfl ?_;grind;refine bK ∅ (by rw[fq];ext) ?_;lia;refine gU ∅ (by rw[i5];ext) ?_;lia;rw[show((J0:Int)+1).toNat=J0+1 by ext];refine jQ hm hs ?_;lia;refine bi (Me (mX ∅ ∅) (by rw[jP _ _ _ _ _ ∅,i0];ext)) ?_;lia;exact h
def dE(S J1 J0:Nat)(H_:z_)(I_:List z_)(r c of d:Int):D:=
 if S-J1=0 then .non else .int (-((((aJ H_ I_ (of ^ S) (ends r c of d S)).getD (J0+1) []).getD (S-J1-1) 0-((aJ H_ I_ (of ^ S) (ends r c of d S)).getD (J0+1) []).getD (S-J1) 0) / (aQ I_ (of ^ S)).getD (J0+1) 0))
def lC(s:Sale S H_ I_ r c of d){t:Nat}(ht:t<=I_.length):1<=(aQ I_ (of ^ S)).getD t 0/\(aQ I_ (of ^ S)).getD t 0<=10 ^ 88:=by
 rw[t5 _ _ _ ht];have h1:=s.o1;have h2:=s.o2;have h3:=s.hS;have p0:(1:Int)<=of ^ S:=by
  have:∀n:Nat,(1:Int)<=of ^ n:=λn=>by
   induction n with
   |zero=>simp
   |succ n ih=>rw[z7s];have:=z7t ih h1 ∅ ∅;ext
  exact this S
 have p1:of ^ S<=1000 ^ 10:=gW 10 ∅ h2 ∅ h3;exact za (by have:=s.f2;ext) p0 ∅ s.t2.drop (by have:=s.t1;rw[z7p];ext)
def zb(s:Sale S H_ I_ r c of d)(hm:M o=some (.ins C c_ (bt S H_ I_ r c of d J0 J1 J4 J5 J6)))(hs:J1<=S)(ht:J0<I_.length)(h:Q (dE S J1 J0 H_ I_ r c of d) M):sJ CD C [.ptr o] M Q:=by
 refine bT rfl ?_;grind;refine jQ hm hs ?_;lia;refine ay (λe=>?_) λe=>?_
 ·lia
  rw[dE,if_pos ∅]at h;exact h
 ·lia
  refine bK ∅ (by rw[fq];ext) ?_;lia;refine gU ∅ (by rw[i5];ext) ?_;lia;rw[show((J0:Int)+1).toNat=J0+1 by ext];refine jQ hm hs ?_;lia;have hsc:=lC s (t:=J0+1) ∅;refine bi (Mf hsc.1 ∅ ∅ (by rw[jP _ _ _ _ _ ∅,i0];ext)) ?_;lia;rw[dE,if_neg ∅]at h;exact h
def Mn(s:Sale S H_ I_ r c of d)(hm:M o=some (.ins C c_ (bt S H_ I_ r c of d J0 J1 J4 J5 J6)))(hs:J1<=S)(ht:J0<I_.length)(h:∀M',M' o=some (.ins C c_ (bt S H_ I_ r c of d (J0+1) J1 J4 J5 (.tup [.int (J0:Nat),.int ((S-J1:Nat):Int),dE S J1 J0 H_ I_ r c of d,.non])))->Kp (· = o) M M'->Q (.bl false) M'):gv CD C [.ptr o,.non] M Q EX:=by refine bE rfl ?_;grind;refine lB hm ?_;rw[z8y ∅];lia;refine Mi hm ?_;lia;refine Ml hm ?_;lia;refine jQ hm hs ?_;lia;refine zb s hm hs ht ?_;lia;refine⟨o,_,rfl,hm,?_⟩;lia;refine⟨o,_,rfl,az,?_⟩;rw[cj];lia;refine h _ ?_ (Kp.upd (.inl rfl));rw[az];rfl
def Mo{k:Nat}(s:Sale S H_ I_ r c of d)(hm:M o=some (.ins C c_ (bt S H_ I_ r c of d J0 J1 J4 J5 J6)))(hs:J1<=S)(ht:J0<I_.length)(hk:k<H_.length)(hb:lA (H_.getD k 0) ((aQ I_ (of ^ S)).getD (J0+1) 0) ((aJ H_ I_ (of ^ S) (ends r c of d S)).getD (J0+1) []) (S-J1)=b)(h:∀M',M' o=some (.ins C c_ (bt S H_ I_ r c of d (J0+1) (J1+(if b=true then 1 else 0)) (J4+(if b=true then H_.getD k 0 else 0)) J5 (.tup [.int (J0:Nat),.int ((S-J1:Nat):Int),dE S J1 J0 H_ I_ r c of d,.int (H_.getD k 0)])))->Kp (· = o) M M'->Q (.bl b) M'):gv CD C [.ptr o,.int (k:Nat)] M Q EX:=by
 have hf:1<=H_.getD k 0/\H_.getD k 0<=1000000:=by rw[dq _ _ _ hk];exact s.f3 _ (z9s _)
 refine bE rfl ?_;grind;refine lB hm ?_;rw[z8y ∅];lia;refine Mj hm hk ?_;lia;refine Mm hm hs ht hf ?_;rw[hb];lia;refine jQ hm hs ?_;lia;refine zb s hm hs ht ?_;lia;refine⟨o,_,rfl,hm,?_⟩;lia;refine⟨o,_,rfl,az,?_⟩;rw[cj];cases b with
 |true=>lia;refine⟨o,_,rfl,az,?_⟩;rw[cj];lia;refine⟨o,_,rfl,az,?_⟩;rw[cj];lia;refine h _ ?_ (Kp.upd (.inl rfl));rw[az];rfl
 |false=>lia;refine h _ ?_ (Kp.upd (.inl rfl));rw[az,if_neg z8r,if_neg z8r,Int.add_zero];rfl
end
section
variable {of:Int}
def Mp{lt:n_}(hm:M o=some (.ins C c_ (bt S H_ I_ r c of d J0 J1 J4 J5 (.tup lt))))(h:Q (.tup lt) M):sL CD C [.ptr o] M Q EX:=by refine bE rfl ?_;grind;exact h
end
section
variable {of:Int}
def Mq(hm:M o=some (.ins C c_ (bt S H_ I_ r c of d J0 J1 J4 .non J6)))(h:Q (.int J4) M):lr CD C [.ptr o] M Q:=by refine bT rfl ?_;grind;exact h
def zc{due:Int}(hm:M o=some (.ins C c_ (bt S H_ I_ r c of d J0 J1 J4 (.int due) J6)))(h:Q (.int (J4-due)) M):lr CD C [.ptr o] M Q:=by refine bT rfl ?_;grind;exact h
end
section
variable {of:Int}
def Mr(s:Sale S H_ I_ r c of d)(hm:M o=some (.ins C c_ (bt S H_ I_ r c of d I_.length J1 J4 .non J6)))(hn:num<=J1)(h:∀M',M' o=some (.ins C c_ (bt S H_ I_ r c of d I_.length J1 J4 (.int (d*max ((num:Int)-r) 0)) J6))->Kp (· = o) M M'->Q (.int (J4-d*max ((num:Int)-r) 0)) M'):jJ CD C [.ptr o,.int (num:Nat)] M Q EX:=by have hd1:=s.d1;have hd2:=s.d2;refine bE rfl ?_;grind;refine lB hm ?_;rw[z9w rfl];lia;rw[z9w (show(0:Int)<=(num:Nat)/\((num:Nat):Int)<=(J1:Nat)by ext)];lia;rw[show List.map (vw1 M) [D.int ((num:Int)-r),D.int 0]=[D.int ((num:Int)-r),D.int 0]from rfl];lia;refine⟨o,_,rfl,hm,?_⟩;lia;refine zc (due:=d*max ((num:Int)-r) 0) (J4:=J4) (S:=S) (H_:=H_) (I_:=I_) (r:=r) (c:=c) (of:=of) (d:=d) (J0:=I_.length) (J1:=J1) (J6:=J6) (by rw[az];rfl) ?_;lia;exact h _ (by rw[az];rfl) (Kp.upd (.inl rfl))
end
def cm(S:Nat)(H_:z_)(I_:List z_)(r c of d:Int):D:=.tup [.int (S:Nat),DI H_,DII I_,.tup [.int r,.int c,.int of,.int d]]
noncomputable def i6(tk:y9):n_:=tk.map λ(j:Nat)=>D.int (j:Nat)
def Ms(xs:z_)(c s:Int):(List.range (xs.length+1)).map (λj=>(xs++[0]).getD j 0*s+(0::xs).getD j 0*c)=more xs c s:=by
 apply z5g
 ·simp[ol]
 ·intro j h1 h2
  rw[yP h2,z4c,z7w];have hl:=ol xs c s;congr 1
  ·congr 1
   by_cases hj:j<xs.length
   ·rw[z8c,z8c,z8d hj]
   ·have:j=xs.length:=by ext
    subst this;simp[z8c]
  ·cases j with
   |zero=>simp
   |succ j=>rw[z5l,if_neg ∅,z4x]
def eE(r c o d:Int)(n:Nat):Int:=0-d*dD r c (o-c) n
def dF(r c o d:Int)(S k:Nat):z_:=(List.range (S+1)).map λl=>if l<k then iV r c o d (S-l) l else eE r c o d (S-l)
def Mt(r c o d:Int)(S:Nat):dF r c o d S (S+1)=ends r c o d S:=by
 unfold dF ends;refine z6c λl hl=>?_
 rw[if_pos (z7e.mp hl)]
def Mu(r c o d:Int)(S:Nat):dF r c o d S 0=((List.range (S+1)).map (eE r c o d)).reverse:=by
 apply z5g
 ·simp[dF]
 ·intro j h1 h2
  simp[dF]
def t7(r c o d:Int)(S k:Nat):(dF r c o d S k).length=S+1:=by simp[dF]
def Mv(r c o d:Int)(S k:Nat)(hk:k<S+1):(dF r c o d S k).set k (eE r c o d (S-k)*o ^ k)=dF r c o d S (k+1):=by
 apply z5g
 ·simp[dF]
 ·intro j h1 h2
  rw[List.getElem_set];simp only[dF,z4c,z7w];split
  ·rename_i e;subst e
   rw[if_pos ∅,eE,iV,Int.zero_sub,z5j,z5j,z5j]
  ·by_cases hj:j<k
   ·rw[if_pos hj,if_pos ∅]
   ·rw[if_neg hj,if_neg ∅]
def Mw(r c o d:Int)(S k:Nat)(hk:k<S+1):(dF r c o d S k).getD k 0=eE r c o d (S-k):=by rw[dq _ _ _ (by rw[t7];exact hk)];simp[dF]
def Mx(r c s:Int)(n:Nat):((List.range (n+1)).map λj=>(bU n c s).getD j 0*max 0 ((j:Int)-r)).sum=dD r c s n:=by
 rw[dD,<- yQ (λx j=>x*max 0 ((j:Int)-r)) (fo r) (λx j=>by unfold fo;rw[Int.max_comm]) _ 0];congr 1;apply z5g
 ·simp[iU]
 ·intro j h1 h2
  have:j<(bU n c s).length:=by simpa using h2
  simp[z8c,this]
def Mz{o:Int}(hS:S<=10)(hr:0<=r/\r<=1000)(hc:0<=c/\c<=o)(ho:o<=1000)(h1:1<=o)(hd:0<=d/\d<=1000000):sD [.int (S:Nat),.tup [.int r,.int c,.int o,.int d]]=some (DI (ends r c o d S)):=by
 refine ce (bH rfl ?_);grind;refine⟨⟨by ext,by ext⟩,?_⟩;rw[show((S:Int)+1).toNat=S+1 by ext];refine gS _ _ (λk U=>∃a b e,U=[some (.int (S:Nat)),some (.tup [.int r,.int c,.int o,.int d]),some (.int r),some (.int c),some (.int o),some (.int d),some (DI ((List.range k).map (eE r c o d)).reverse),some (DI (bU k c (o-c))),some (.int 1),a,b,e]) ⟨_,_,_,rfl⟩ ?_ ?_
 ·rintro U ⟨a,b,e,rfl⟩
  rw[z8h,<- Mu];lia;refine⟨⟨by ext,by ext⟩,?_⟩;rw[show((S:Int)+1).toNat=S+1 by ext];refine gS _ _ (λk U=>∃e,U=[some (.int (S:Nat)),some (.tup [.int r,.int c,.int o,.int d]),some (.int r),some (.int c),some (.int o),some (.int d),some (DI (dF r c o d S k)),some (DI (bU (S+1) c (o-c))),some (.int (o ^ k)),a,b,e]) ⟨_,by rw[z5d]⟩ ?_ ?_
  ·rintro U ⟨e,rfl⟩
   rw[z8h,Mt];lia
  ·rintro k hk U ⟨e,rfl⟩
   rw[z8h]at hk;rw[z7w];grind;refine FR (k:=(k:Nat)) (j:=k) rfl ?_;lia;refine bK ∅ (by rw[t7];ext) ?_;rw[z8f,Mw _ _ _ _ _ _ hk];lia;have hm:okMul (eE r c o d (S-k)) (o ^ k):=by have:=yU (r:=r) (c:=c) (o:=o) (d:=d) (n:=S-k) (l:=k) ∅ ∅ hr hc ho h1 hd;rw[eE,Int.zero_sub,<- z5j];exact this
   refine qG hm ?_;lia;refine⟨_,k,rfl,by rw[z9b,t7];unfold ixN;rw[if_pos ∅,if_pos ∅];congr 1,?_⟩;lia;rw[<- z7s];rw[show D.lst (((dF r c o d S k).map D.int).set k (D.int (eE r c o d (S-k)*o ^ k)))=DI (dF r c o d S (k+1))by rw[<- List.map_set,Mv _ _ _ _ _ _ hk]];exact⟨_,rfl⟩
 ·rintro k hk U ⟨a,b,e,rfl⟩
  rw[z8h]at hk;rw[z7w];grind;refine l6 (α:=Nat) ?_;lia;refine⟨⟨by ext,by ext⟩,λj=>.int (j:Nat),λj=>(bU k c (o-c)).getD j 0*max 0 ((j:Int)-r),List.range (k+1),by rw[show((k:Int)+1).toNat=k+1 by ext],by simp;ext,λj hj=>⟨_,rfl,?_⟩,?_⟩
  ·have hj:=z7e.mp hj
   grind;refine bK ∅ (by rw[iU];ext) ?_;rw[z8f];lia
  lia;rw[Mx];refine qN rfl (by simp;ext) ?_;lia;refine⟨by ext,by ext,?_⟩;lia;refine l6 (α:=Nat) ?_;lia;refine⟨⟨by ext,by ext⟩,λj=>.int (j:Nat),λj=>(bU k c (o-c)++[0]).getD j 0*(o-c)+(0::bU k c (o-c)).getD j 0*c,List.range (k+2),by rw[show((k:Int)+2).toNat=k+2 by ext],by simp;ext,λj hj=>⟨_,rfl,?_⟩,?_⟩
  ·have hj:=z7e.mp hj
   have hsl:=iU k c (o-c);grind;rw[wN];refine bK ∅ (by rw[z9h,hsl];simp;ext) ?_;rw[z8f];lia;rw[show [D.int 0]++(bU k c (o-c)).map D.int=(0::bU k c (o-c)).map D.int from rfl];refine bK ∅ (by rw[z9e,hsl];ext) ?_;rw[z8f];lia
  lia;walk_at"env";have e1:(List.range (k+2)).map (λj=>(bU k c (o-c)++[0]).getD j 0*(o-c)+(0::bU k c (o-c)).getD j 0*c)=bU (k+1) c (o-c):=by have:=Ms (bU k c (o-c)) c (o-c);rw[iU]at this;exact this
  rw[e1];rw[show D.lst ((((List.range k).map (eE r c o d)).reverse.map D.int).insertIdx (min (Int.toNat 0) (((List.range k).map (eE r c o d)).reverse.map D.int).length) (D.int (0-d*dD r c (o-c) k)))=DI ((List.range (k+1)).map (eE r c o d)).reverse by simp[z5q,eE,DI]];exact⟨_,_,_,rfl⟩
def MB{o:Int}(hS:S<=10)(h1:1<=o)(ho:o<=1000):sE [.int (S:Nat),.tup [.int r,.int c,.int o,.int d]]=some (.int (o ^ S)):=by
 refine ce (cz (bH rfl ?_));grind;refine⟨⟨by ext,by ext⟩,?_⟩;rw[z8f];refine gS _ _ (λk U=>∃a,U=[some (.int (S:Nat)),some (.tup [.int r,.int c,.int o,.int d]),some (.int (o ^ k)),a]) ⟨_,by rw[z5d]⟩ ?_ ?_
 ·rintro U ⟨a,rfl⟩
  rw[z8h];lia
 ·rintro k hk U ⟨a,rfl⟩
  rw[z7w];grind;rw[<- z7s];exact⟨_,rfl⟩
def MC(hl:row.length=H_.length+1)(scale:Int)(bs:z_)(s:Nat):
  ft H_ row scale bs s=row.getLastD 0*bs.getD s 0+((List.range H_.length).map λj=>row.getD j 0*dR (H_.getD j 0) scale bs s).sum:=by
 unfold ft;rw[yY _ _ _ (by simpa using hl),z9b,jO];have e1:row.getD H_.length 0=row.getLastD 0:=by
  cases row with
  |nil=>simp at hl
  |cons x r=>rw[z8c,List.getLastD_eq_getLast?,List.getLast?_eq_getElem?];congr 2;ext
 rw[e1,Int.add_comm];congr 1;refine z8w List.sum (z6c λj hj=>?_);have hj:=z7e.mp hj;congr 1;simp[z8c,hj]
def MD{bs:z_}(hf:eD H_)(hr:eD row)(hl:row.length=H_.length+1)(hlf:H_.length<=100)(hs:bs.length<=100):sF [DI H_,DI row,.int scale,DI bs]=some (DI (gy H_ row scale bs)):=by
 have hne:row≠[]:=λe=>by rw[e]at hl;simp at hl
 refine ce (bH rfl ?_);grind;refine Gq _ _ (λk U=>∃a b e f g h,U=[some (DI H_),some (DI row),some (.int scale),some (DI bs),some (DI ((List.range k).map (ft H_ row scale bs))),a,b,e,f,g,h]) ⟨_,_,_,_,_,_,rfl⟩ ?_ ?_
 ·rintro U ⟨a,b,e,f,g,h,rfl⟩
  lia;rfl
 ·rintro s hs' U ⟨a,b,e,f,g,h,rfl⟩
  grind;refine wJ hne ?_;have hm0:=hr _ (List.getLast_mem hne);lia;refine Gr _ _ _ _ (λj U=>∃f g h,U=[some (DI H_),some (DI row),some (.int scale),some (DI bs),some (DI ((List.range s).map (ft H_ row scale bs))),some (.int (s:Nat)),some (.int bs[s]),some (.int (row.getLast hne*bs[s]+((List.range j).map λj=>row.getD j 0*dR (H_.getD j 0) scale bs s).sum)),f,g,h]) ⟨_,_,_,by rw[List.range_zero,z7v,z4q,Int.add_zero]⟩ ?_ ?_
  ·rintro U ⟨f,g,h,rfl⟩
   rw[show min H_.length row.length=H_.length by ext];refine wC rfl (by simp;ext) ?_;lia;walk_at"env";have ew:=MC hl scale bs s;rw[show row.getLastD 0=row.getLast hne by cases row with|nil=>exact absurd rfl hne|cons x r=>rfl,dq _ _ _ hs']at ew;rw[<- ew,wK,show(List.range s).map (ft H_ row scale bs)++[ft H_ row scale bs s]=(List.range (s+1)).map (ft H_ row scale bs)by rw[z5q,z8g];rfl];exact⟨_,_,_,_,_,_,rfl⟩
  ·rintro j hj1 hj2 U ⟨f,g,h,rfl⟩
   have hfj:=hf _ (z9s hj1);have hrj:=hr _ (z9s hj2);have ec:dR H_[j] scale bs s=if s=0 then bs[s]else max bs[s] (H_[j]*scale+bs.getD (s-1) 0):=by
    unfold dR;split
    ·rename_i e;subst e;rw[dq _ _ _ hs']
    ·rw[dq _ _ _ hs']
   have fin:∀x:Int,x=dR H_[j] scale bs s->row.getLast hne*bs[s]+((List.range j).map λj=>row.getD j 0*dR (H_.getD j 0) scale bs s).sum+row[j]*x=row.getLast hne*bs[s]+((List.range (j+1)).map λj=>row.getD j 0*dR (H_.getD j 0) scale bs s).sum:=λx e=>by rw[e,z5q,z8g,List.sum_append,z9n,z7v,z8t,z4q,dq _ _ _ hj1,dq _ _ _ hj2];ext
   grind;refine ay (λh0=>?_) λh0=>?_
   ·lia
    refine bK ∅ ∅ ?_;rw[show((s:Int)-1).toNat=s-1 by ext];lia;walk_at"env";rw[fin _ (by rw[ec,if_neg ∅])];exact⟨_,_,_,rfl⟩
   ·lia
    walk_at"env";rw[fin _ (by rw[ec,if_pos ∅])];exact⟨_,_,_,rfl⟩
def ME{of:Int}(s:Sale S H_ I_ r c of d):
  sG [cm S H_ I_ r c of d]=some (.tup [DI (aQ I_ (of ^ S)),DII (aJ H_ I_ (of ^ S) (ends r c of d S))]):=by
 obtain⟨hS,f1,f2,f3,t1,t2,r1,r2,c1,c2,o1,o2,d1,d2⟩:=s;have hfs:eD H_:=λx hx=>by have:=f3 x hx;ext
 refine ce (bH rfl ?_);unfold cm;grind;grind;refine bi (Mz hS ∅ ∅ ∅ ∅ ∅) ?_;lia;refine bi (MB hS ∅ ∅) ?_;lia;rw[<- z6t];refine gS _ _ (λk U=>∃a,U=[some (cm S H_ I_ r c of d),some (.int (S:Nat)),some (DI H_),some (DII I_),some (.tup [.int r,.int c,.int of,.int d]),some (DII (aJ H_ (I_.reverse.take k).reverse (of ^ S) (ends r c of d S))),some (DI (aQ (I_.reverse.take k).reverse (of ^ S))),a]) ⟨_,rfl⟩ ?_ ?_
 ·rintro U ⟨a,rfl⟩
  rw[z7j,z7l (by simp),z6r];lia
 ·rintro k hk U ⟨a,rfl⟩
  rw[z7j]at hk;have hm:=t2 (I_.reverse[k]) (by rw[<- z5h];exact z9s _);have hsm:=t2.sum ∅ (I_.reverse[k]) (by rw[<- z5h];exact z9s _);have hrs:eD I_.reverse[k]:=λx hx=>by have:=hm.2.1 x hx;ext
  have et:(I_.reverse.take (k+1)).reverse=I_.reverse[k]::(I_.reverse.take k).reverse:=by rw[z8k (by simpa using hk),List.reverse_append,List.reverse_singleton,List.singleton_append]
  have hlt:(I_.reverse.take k).length=k:=by simp;ext
  generalize I_.reverse[k]=row at hm hsm hrs et ⊢;rw[et];have htl:=i5 H_ (I_.reverse.take k).reverse (of ^ S) (ends r c of d S);have hsl:=fq (I_.reverse.take k).reverse (of ^ S);have hth:=t4 H_ (I_.reverse.take k).reverse (of ^ S) (ends r c of d S);rw[z7j,hlt]at htl hsl;rw[i0]at hth;generalize (I_.reverse.take k).reverse=ts at htl hsl hth ⊢;grind;refine qN (ds:=(aJ H_ ts (of ^ S) (ends r c of d S)).map DI) rfl (by rw[z9b,htl];ext) ?_;lia;refine bK ∅ ∅ ?_;lia;refine gU ∅ ∅ ?_;lia;have e0:(aQ ts (of ^ S)).getD (0:Int).toNat 0=(aQ ts (of ^ S)).headD 0:=by cases aQ ts (of ^ S)<;>rfl
  have e1:(aJ H_ ts (of ^ S) (ends r c of d S)).getD (0:Int).toNat []=(aJ H_ ts (of ^ S) (ends r c of d S)).headD []:=by cases aJ H_ ts (of ^ S) (ends r c of d S)<;>rfl
  rw[e0,e1];refine bi (MD hfs hrs hm.1 ∅ ∅) ?_;refine⟨by ext,by ext,?_⟩;lia;refine qN (ds:=(aQ ts (of ^ S)).map D.int) rfl (by rw[z9b,hsl];ext) ?_;lia;refine bK ∅ ∅ ?_;rw[e0];lia;refine⟨by ext,by ext,?_⟩;exact⟨_,rfl⟩
theorem zd(c:Nat):∀(l:y9),fQ l [c]=decide (c∈l)
 |[]=>by simp[fQ]
 | a::l=>by
   rw[fQ,zd c l];by_cases h:c=a
   ·subst h;simp[List.isPrefixOf]
   ·simp[List.isPrefixOf,h]
def ze{α:Type}{motive:List α->Prop}(nil:motive [])(append_singleton:∀l a,motive l->motive (l++[a]))(l:List α):motive l:=by
 have:∀r:List α,motive r.reverse:=λr=>by
  induction r with
  |nil=>exact nil
  |cons a r ih=>rw[z6h];exact append_singleton _ _ ih
 have h:=this l.reverse
 rwa [z6r]at h
def t8(l:y9)(c:Nat):cC (l++[c])=10*cC l+(c-48):=by simp[cC]
def MF:∀(l:y9),(∀c∈l,48<=c/\c<=57)->cC l<10 ^ l.length:=by
 intro l
 induction l using ze with
 |nil=>intro _;simp[cC]
 | append_singleton l c ih=>
   intro h;have h1:=ih λx hx=>h x (z8i _ hx)
   have h2:=h c (by simp);rw[t8,z9h,z4d,Nat.pow_succ];ext
def MG:∀(l:y9),l≠[]->(∀c∈l,48<=c/\c<=57)->(l=[48]\/l.head?≠some 48)->digs (cC l)=l/\(l.head?≠some 48->0<cC l):=by
 intro l
 induction l using ze with
 |nil=>intro h;exact absurd rfl h
 | append_singleton l c ih=>
   intro hn h hz;have h2:=h c (by simp);rw[t8];cases l with
   | nil=>
     simp only[cC,List.foldl_nil,List.nil_append,Nat.mul_zero,Nat.zero_add,List.head?_cons,_root_.ne_eq,z6p];constructor
     ·rw[digs,if_pos ∅]
      congr 1;ext
     ·intro h48;ext
   | cons a r=>
     have hz':(a::r).head?≠some 48:=by
      rcases hz with hz|hz
      ·have:=z8w List.length hz
       simp at this
      ·simpa using hz
     obtain⟨i1,i2⟩:=ih (by simp) (λx hx=>h x (z8i _ hx)) (.inr hz');have i3:=i2 hz';constructor
     ·rw[digs,if_neg ∅]
      have e1:(10*cC (a::r)+(c-48)) / 10=cC (a::r):=by ext
      have e2:(10*cC (a::r)+(c-48)) % 10=c-48:=by ext
      rw[e1,e2,i1];congr 2;ext
     ·intro _;ext
def Asc(z:Str):Prop:=(tx z).all (λc=>decide (c<128))=true
def lD{x y:Str}:x=y↔tx x=tx y:=⟨λh=>by rw[h],λh=>by rw[<- iL x,h,iL]⟩
def zf{s:Str}{m:Int}(ha:Asc z)(hl:(tx z).length<=10000):iQ [.str z,.str s,.int m]=some (.bl (decide ((1<=((tx z).length:Int)/\((tx z).length:Int)<=m)/\∀c∈tx z,c∈tx s))):=by
 have hl':(tx z).length<=100000:=by ext
 have:WF iQ [.str z,.str s,.int m] λd=>d=.bl (decide ((1<=((tx z).length:Int)/\((tx z).length:Int)<=m)/\∀c∈tx z,c∈tx s)):=by
  refine cz (bH rfl ?_);grind;refine ay (λh1=>?_) λh1=>?_
  ·lia
   refine ay (λh2=>?_) λh2=>?_
   ·lia
    refine mY (α:=Nat) (λc=>c∈tx s) ?_;lia;refine⟨⟨ha,hl'⟩,λc=>.str (mkT [c]),tx z,rfl,by ext,λc hc=>⟨[.str (mkT [c])],rfl,?_⟩,λbs hb=>?_⟩
    ·walk_at"env"
     lia;rw[aM,zd];simp
    ·lia
     refine z8w D.bl ?_;rw[z4n,hb,z4z];exact⟨λh=>⟨⟨h1,h2⟩,h⟩,λh=>h.2⟩
   ·lia
    exact z8w D.bl (z8y λh=>h2 h.1.2).symm
  ·lia
   exact z8w D.bl (z8y λh=>h1 h.1.1).symm
 obtain⟨d,h,rfl⟩:=this;exact h
def fR:(" " : Str)=mkT [32]:=by decide +kernel
def t9:("" : Str)=mkT []:=by decide +kernel
def c_0:("0" : Str)=mkT [48]:=by decide +kernel
noncomputable def on:y9:=[48,49,50,51,52,53,54,55,56,57]
noncomputable def dG:y9:=[97,98,99,100,101,102,103,104,105,106,107,108,109,110,111,112,113,114,115,116,117,118,119,120,121,122]
def MH:("0123456789" : Str)=mkT on:=by decide +kernel
def zg:("abcdefghijklmnopqrstuvwxyz" : Str)=mkT dG:=by decide +kernel
def mem_figs{c:Nat}:c∈on↔(48<=c/\c<=57):=by
 have h1:∀x∈on,48<=x/\x<=57:=by decide
 have h2:∀i:Fin 10,48+i.1∈on:=by decide
 refine⟨h1 c,λh=>?_⟩;have h3:=h2 ⟨c-48,by ext⟩
 rwa [show 48+(c-48)=c from Nat.add_sub_cancel' h.1]at h3
def MI{l:List y9}:inD (.str "") (.lst (l.map λx=>.str (mkT x)))=some (.bl (decide ([]∈l))):=by
 have h1:(l.map λx=>D.str (mkT x)).all aW=true:=by rw[z9y];intro d hd;obtain⟨x,_,rfl⟩:=z7c.mp hd;rfl
 have h2:(l.map λx=>D.str (mkT x)).any (λd=>fg d (.str ""))=decide ([]∈l):=by
  induction l with
  |nil=>rfl
  | cons a r ih=>
    rw[z9n,z6j,ih (by
     rw[z9n,z6d,z8m]at h1;exact h1.2),t9]
    show(mkT a==mkT []||_)=_;by_cases e:a=[]
    ·subst e;simp
    ·have e2:(mkT a==mkT [])=false:=z7i.mpr λz=>e (by rw[lD,aM,aM]at z;exact z)
     rw[e2];simp[Ne.symm e]
 show(if aW (D.str "")=true/\_ then some (D.bl _)else none)=_;rw[if_pos ⟨rfl,h1⟩,h2]
abbrev aA(ls:List y9):n_:=ls.map λl=>.str (mkT l)
def zh(h:M a=some (.lst (aA ls))):vw3 M (.ptr a)=.lst (aA ls):=by
 have e:(aA ls).map (vw1 M)=aA ls:=by rw[aA,z7h];exact z6c λ_ _=>rfl
 show(match M a with|some (.lst ds)=>D.lst (ds.map (vw1 M))|_=>D.ptr a)=_;rw[h];simp only[e]
def zi(hl:(tx z).length<=10000)(h1:[]∈bB 32 (tx z)->∀M',Kp (λ_=>False) M M'->EX "NoRow" M')(h2:[]∉bB 32 (tx z)->∀a,M a=none->Q (.ptr a) (aB M a (.lst ((bB 32 (tx z)).map λl=>.str (mkT l))))):sI CD C [.str z] M Q EX:=by
 refine⟨rfl,?_⟩;grind;rw[fR];refine Je hl ?_;refine⟨_,rfl,λa hn=>?_⟩;lia;rw[zh az];refine iC (x:=.str "") MI ⟨rfl,?_⟩;lia;refine ay (λe=>?_) λe=>?_
 ·exact jD (by decide) (h1 e _ (Kp.upd (.inr hn)))
 ·lia
  exact h2 e a hn
def MJ(ha:Asc z)(hl:(tx z).length<=10000):iQ [.str z,.str "0123456789",.int 7]=some (.bl (decide ((1<=(tx z).length/\(tx z).length<=7)/\∀c∈tx z,48<=c/\c<=57))):=by rw[zf ha hl,MH,aM];congr 2;refine z6u.mpr ⟨λh=>⟨by ext,λc hc=>mem_figs.mp (h.2 c hc)⟩,λh=>⟨by ext,λc hc=>mem_figs.mpr (h.2 c hc)⟩⟩
def MK(ha:Asc z)(hl:(tx z).length<=10000):iQ [.str z,.str "abcdefghijklmnopqrstuvwxyz",.int 8]=some (.bl (decide ((1<=(tx z).length/\(tx z).length<=8)/\∀c∈tx z,c∈dG))):=by rw[zf ha hl,zg,aM];congr 2;refine z6u.mpr ⟨λh=>⟨by ext,h.2⟩,λh=>⟨by ext,h.2⟩⟩
def at0{c:Nat}{r:y9}:atI (c::r) 0=some c:=by simp[atI,ixN]
def jR(l:y9):Prop:=((1<=l.length/\l.length<=7)/\∀c∈l,48<=c/\c<=57)/\(l=[48]\/l.head?≠some 48)
def str_is:z=mkT l↔tx z=l:=by rw[lD,aM]
def ML(ha:Asc z)(hl:(tx z).length<=10000)(h1:¬jR (tx z)->EX "NoRow" M)(h2:jR (tx z)->Q (.int (cC (tx z):Nat)) M):iT CD C [.str z] M Q EX:=by
 refine⟨rfl,?_⟩;grind;refine bi (MJ ha hl) ?_;lia;have bad:∀{E:EndN},E.ex=EX->¬jR (tx z)->jG "NoRow" (a5 0) E [some (.str z)] M:=λ{E} he hn=>by refine rH (by decide) ?_ (by rw[he];exact h1 hn);lia;exact⟨z,rfl,ha,hl⟩
 refine gi (λh=>?_) λh=>?_
 ·lia
  exact bad rfl λg=>h g.1
 ·cases ez:tx z with
  |nil=>rw[ez]at h;simp at h
  | cons c r=>
    lia;refine nJ (c:=c) ∅ (by rw[ez];exact at0) ?_;lia;rw[c_0];have fin:jR (tx z)->WF (ar jF) [.str z] λd=>Q d M:=λg=>by
     have g1:tx z≠[]:=by rw[ez];exact λz=>nomatch z
     have lt:=MF (tx z) g.1.2;have le:10 ^ (tx z).length<=10 ^ 7:=Nat.pow_le_pow_right ∅ g.1.1.2;exact Jd ∅ (MG (tx z) g1 g.1.2 g.2).1 (h2 g)
    refine ay (λe=>?_) λe=>?_
    ·have e:c=48:=by rw[str_is,aM]at e;simpa using e
     lia;refine gi (λe2=>?_) λe2=>?_
     ·lia
      refine bad rfl λg=>g.2.elim (λq=>e2 (str_is.mpr q)) λq=>q ?_
      rw[ez,e];rfl
     ·lia
      exact fin ⟨h,.inl (str_is.mp e2)⟩
    ·lia
     refine fin ⟨h,.inr λq=>e ?_⟩;rw[ez]at q;have:c=48:=by simpa using q
     rw[this]
def fU(l:y9):Prop:=(1<=l.length/\l.length<=8)/\∀c∈l,c∈dG
def MM(ha:Asc z)(hl:(tx z).length<=10000)(h1:¬fU (tx z)->EX "NoRow" M)(h2:fU (tx z)->Q (.str z) M):sO CD C [.str z] M Q EX:=by
 refine⟨rfl,?_⟩;grind;refine bi (MK ha hl) ?_;lia;refine gi (λh=>?_) λh=>?_
 ·refine rH (by decide) ?_ (h1 h)
  lia;exact⟨z,rfl,ha,hl⟩
 ·lia
  exact h2 h
def asc_mk:Asc (mkT l)↔∀c∈l,c<128:=by unfold Asc;rw[aM,z9y];exact⟨λh c hc=>z6o (h c hc),λh c hc=>z9w (h c hc)⟩
theorem zj:∀(cs:y9),bh [] (cs.map λc=>[c])=cs
 |[]=>rfl
 |[c]=>rfl
 |c::d::r=>by have ih:=zj (d::r);rw[z9n,z9n,bh];have e:bh [] ([d]::List.map (λc=>[c]) r)=d::r:=ih;rw[e];rfl
def dO{K:D->Prop}{r:y9}(hl:l.length+r.length<=100000)(h:K (.str (mkT (l++r)))):W2 cL (.str (mkT l)) (.str (mkT r)) K:=IW hl h
def lE(l:y9)(lo hi:j_):(ck l lo hi).length<=l.length:=by unfold ck;rw[z7p,z8j];ext
def lF{lo hi:j_}{c:Nat}(h:c∈ck l lo hi):c∈l:=List.mem_of_mem_take (List.mem_of_mem_drop h)
def lW(h0:0<=i)(h1:i<(l.length:Int)):∃c∈l,atI l i=some c:=by
 have hi:i.toNat<l.length:=by ext
 refine⟨l[i.toNat],z9s _,?_⟩;unfold atI ixN;rw[if_pos h0,if_pos h1];show l[i.toNat]?=_;rw[z9k hi]
def MN{cs:y9}:((cs.map λc=>[c]).map List.length).sum=cs.length:=by
 induction cs with
 |nil=>rfl
 |cons c r ih=>simp only[z9n,z8t,z9e,z9p]at ih ⊢;ext
theorem oo(c:Nat):∀(ls:List y9),ls≠[]->(ls.map List.length).sum+ls.length=(bh [c] ls).length+1
 |[],h=>absurd rfl h
 |[a],_=>by simp[bh]
 |a::b::r,_=>by have ih:=oo c (b::r) (by simp);rw[bh];simp only[z9n,z8t,z9e,z9h,z9p]at ih ⊢;ext
theorem lG(c:Nat):∀(l:y9),c∉l->bB c l=[l]
 |[],_=>rfl
 | a::l,h=>by
   have h1:¬a=c:=λe=>h (by rw[e];exact z9a)
   have h2:=lG c l λz=>h (z9d _ z)
   unfold bB;rw[if_neg h1,h2]
theorem oq(c:Nat)(m:y9):∀(l:y9),c∉l->bB c (l++[c]++m)=l::bB c m
 |[],_=>by show bB c (c::m)=_;rw[bB,if_pos rfl]
 | a::l,h=>by
   have h1:¬a=c:=λe=>h (by rw[e];exact z9a)
   have h2:=oq c m l λz=>h (z9d _ z)
   show bB c (a::(l++[c]++m))=_;rw[bB,if_neg h1,h2]
theorem zk(c:Nat):∀(ws:List y9),ws≠[]->(∀w∈ws,c∉w)->bB c (bh [c] ws)=ws
 |[],h,_=>absurd rfl h
 |[w],_,h=>lG c w (h w z9a)
 |w::v::r,_,h=>by rw[bh,oq c _ w (h w z9a),zk c (v::r) (by simp) λx hx=>h x (z9d _ hx)]
def ot:∀(n:Nat),digs n≠[]/\(∀c∈digs n,48<=c/\c<=57)/\(0<n->(digs n).head?≠some 48)/\cC (digs n)=n:=by
 intro n
 induction n using digs.induct with
 | case1 n h=>
   rw[digs,if_pos h];refine⟨by simp,λc hc=>?_,λhp=>?_,?_⟩
   ·rw[z8b.mp hc];ext
   ·simp;ext
   ·simp[cC]
 | case2 n h ih=>
   obtain⟨i1,i2,i3,i4⟩:=ih;rw[digs,if_neg h];refine⟨by simp,λc hc=>?_,λ_=>?_,?_⟩
   ·rcases z7g.mp hc with hc|hc
    ·exact i2 c hc
    ·rw[z8b.mp hc];ext
   ·have:=i3 ∅
    cases e:digs (n / 10)with
    |nil=>exact absurd e i1
    |cons a r=>rw[e]at this;simpa using this
   ·rw[t8,i4];ext
theorem tf:∀(k n:Nat),n<10 ^ k->1<=k->(digs n).length<=k
 |0,_,_,h=>absurd h ∅
 | k + 1,n,hn,_=>by
   rw[digs];split
   ·simp
   ·rename_i h
    have h1:n / 10<10 ^ k:=by rw[Nat.pow_succ]at hn;ext
    have hk:1<=k:=by
     cases k with
     |zero=>simp at h1;ext
     |succ k=>ext
    have:=tf k (n / 10) h1 hk;rw[z9h];simp only[z9e,z9p];ext
def MO(h:n<10000000):jR (digs n):=by
 obtain⟨h1,h2,h3,h4⟩:=ot n;have hl:=tf 7 n ∅ ∅;refine⟨⟨⟨List.length_pos_iff.mpr h1,hl⟩,h2⟩,?_⟩;rcases Nat.eq_zero_or_pos n with rfl|hp
 ·left;rw[digs];rfl
 ·exact .inr (h3 hp)
def MP:∀c∈digs n,c<128:=λc hc=>by have:=(ot n).2.1 c hc;ext
def MQ:32∉digs n:=λhc=>by have:=(ot n).2.1 32 hc;ext
def tj(h0:0<=i)(h1:i<26):atI dG i=some (97+i.toNat):=by
 have hl:∀j:Fin 26,dG[j.1]?=some (97+j.1):=by decide
 unfold atI ixN;rw[if_pos h0,if_pos (by exact h1)];exact hl ⟨i.toNat,by ext⟩
def let_mem:n∈dG↔97<=n/\n<=122:=by
 have h1:∀x∈dG,97<=x/\x<=122:=by decide
 have h2:∀i:Fin 26,97+i.1∈dG:=by decide
 refine⟨h1 n,λh=>?_⟩;have h3:=h2 ⟨n-97,by ext⟩
 rwa [show 97+(n-97)=n from Nat.add_sub_cancel' h.1]at h3
noncomputable def odds:List y9:=[[99,108,97,115,115],[116,117,114,110],[114,117,108,101],[111,112,101,110],[97,115,107],[113,117,105,101,116],[99,97,109,101],[108,101,102,116],[116,117,114,110,115],[99,111,105,110,115],[119,104,121],[119,111,114,116,104],[110,111]]
def MR:(["class","turn","rule","open","ask","quiet","came","left","turns","coins","why","worth","no"]:z0)=odds.map mkT:=by decide +kernel
def MT:∀l∈odds,(1<=l.length/\l.length<=8)/\∀c∈l,c∈dG:=by decide
def MU{K:D->Prop}(h0:0<=i)(h1:i<(ls.length:Int))(h:∀l∈ls,K (.str (mkT l))):W2 ixD (.lst (aA ls)) (.int i) K:=by
 have hi:i.toNat<ls.length:=by ext
 refine mW (d:=.str (mkT ls[i.toNat])) ?_ (h _ (z9s _));show atI (aA ls) i=_;unfold atI ixN;rw[if_pos h0,if_pos (by rw[z9b];exact h1)];show(aA ls)[i.toNat]?=_;rw[z9z,z9k hi];rfl
def MV{l0 l1 l2:y9}{K:D->Prop}(h0:0<=s)(h1:s<4)(h:K (.str (mkT (if s=0 then l0 else if s=1 then l1 else l2)))):W2 ixD (.lst [.str (mkT l0),.str (mkT l1),.str (mkT l2),.str (mkT l2)]) (.int s) K:=by
 have:s=0\/s=1\/s=2\/s=3:=by ext
 rcases this with rfl|rfl|rfl|rfl<;>exact mW rfl h
def MW:∀{ls:List y9},mT (.str (mkT l)) (.lst (aA ls))=some (.bl (decide (l∉ls))):=by
 intro ls;have h1:(aA ls).all aW=true:=by rw[z9y];intro d hd;obtain⟨x,_,rfl⟩:=z7c.mp hd;rfl
 have h2:(!(aA ls).any (λd=>fg d (.str (mkT l))))=decide (l∉ls):=by
  rw[z4n,z4z,z5x,Bool.eq_false_iff,_root_.ne_eq,List.any_eq_true,not_congr];constructor
  ·rintro⟨d,hd,hb⟩
   obtain⟨x,hx,rfl⟩:=z7c.mp hd;have hb:(mkT x==mkT l)=true:=hb;have hb:=eq_of_beq hb;rw[lD,aM,aM]at hb;exact hb▸hx
  ·intro hl
   exact⟨.str (mkT l),z7c.mpr ⟨l,hl,rfl⟩,z5f (mkT l)⟩
 show(if aW (D.str (mkT l))=true/\_ then some (D.bl _)else none)=_;rw[if_pos ⟨rfl,h1⟩,h2]
def iW(w b:y9)(at_ s off:Int)(k:Nat):y9:=
 if s=0 then [97+((off+(k:Int) / 8) % 26).toNat]++ck w none (some ((k:Int) % 8))else if s=1 then ck w (some (7-(k:Int) % 8)) none++[97+((off+(k:Int) / 8) % 26).toNat]
 else ck b none (some at_)++[97+((off+(k:Int)) % 26).toNat]++ck b (some at_) none
def ou(h0:0<=i)(h1:i<=(l.length:Int)):(ck l none (some i)).length=i.toNat:=by unfold ck;simp only[z7b,z5e,Int.toNat_zero,z6s,z8j];ext
def ow(h0:0<=i)(h1:i<=(l.length:Int)):(ck l (some i) none).length=l.length-i.toNat:=by unfold ck;simp only[z7b,z5e,z8f,z6v,z7p]
structure Names (nm:List y9):Prop where
 len:nm.length=9
 nd:nm.Nodup
 ok:∀l∈nm,fU l
def MX{w b:y9}{at_ off:Int}(hw:w.length=7)(hwl:∀c∈w,c∈dG)(hb:b.length<=7)(hbl:∀c∈b,c∈dG)(ha0:0<=at_)(ha1:at_<=(b.length:Int))(h0:0<=off)(h1:off<26):Names ((List.range 9).map (iW w b at_ s off)):=by
 refine⟨rfl,?_,λl hl=>?_⟩
 ·refine List.pairwise_map.mpr (List.pairwise_lt_range.imp_of_mem λ{i j} hi hj hij e=>?_)
  rw[z7e]at hi hj;have el:=z8w List.length e;unfold iW at e el;split at e
  ·rename_i hs
   simp only[if_pos hs,z9h,z9e,z9p]at el;rw[ou ∅ ∅,ou ∅ ∅]at el;simp only[z6e,List.nil_append,z4p]at e;ext
  ·rename_i hs
   split at e
   ·rename_i hs2
    simp only[if_neg hs,if_pos hs2,z9h,z9e,z9p]at el;rw[ow ∅ ∅,ow ∅ ∅]at el;have e2:=(List.append_inj' e rfl).2;simp only[z4p]at e2;ext
   ·rename_i hs2
    have e2:=(List.append_inj' (List.append_inj_left e (by simp)) rfl).2;simp only[z4p]at e2;ext
 ·obtain⟨k,hk,rfl⟩:=z7c.mp hl
  rw[z7e]at hk;unfold iW;have f1:∀z:Int,97+(z % 26).toNat∈dG:=λz=>let_mem.mpr ∅
  split
  ·refine⟨?_,λc hc=>?_⟩
   ·rw[z9h,ou ∅ ∅]
    simp only[z9e,z9p];ext
   ·rcases z7g.mp hc with hc|hc
    ·rw[z8b.mp hc];exact f1 _
    ·exact hwl c (lF hc)
  ·split
   ·refine⟨?_,λc hc=>?_⟩
    ·rw[z9h,ow ∅ ∅]
     simp only[z9e,z9p];ext
    ·rcases z7g.mp hc with hc|hc
     ·exact hwl c (lF hc)
     ·rw[z8b.mp hc];exact f1 _
   ·refine⟨?_,λc hc=>?_⟩
    ·rw[z9h,z9h,ou ha0 ha1,ow ha0 ha1]
     simp only[z9e,z9p];ext
    ·rcases z7g.mp hc with hc|hc
     ·rcases z7g.mp hc with hc|hc
      ·exact hbl c (lF hc)
      ·rw[z8b.mp hc];exact f1 _
     ·exact hbl c (lF hc)
def Names.put{i:Nat}(h:Names nm)(hl:l∉nm)(g:fU l):Names (nm.set i l):=by
 refine⟨by rw[z8e,h.len],?_,λx hx=>(z5p hx).elim (h.ok x) λe=>e▸g⟩;have hn:=h.nd;rw[List.Nodup,List.pairwise_iff_getElem]at hn ⊢;intro a b ha hb hab;rw[z8e]at ha hb;rw[List.getElem_set,List.getElem_set];split
 ·rename_i e1
  rw[if_neg ∅];exact λe=>hl (e▸z9s _)
 ·split
  ·exact λe=>hl (e▸z9s _)
  ·exact hn a b ha hb hab
def MY:([.str "class",.str "turn",.str "rule",.str "open",.str "ask",.str "quiet",.str "came",.str "left",.str "turns",.str "coins",.str "why",.str "worth",.str "no"]:n_)=aA odds:=(z8w (List.map D.str) MR).trans (by rw[z7h];rfl)
def MZ(hp:Pool M a n)(hn:n<=60000)(h:∀nm M',Names nm->Kp (· = a) M M'->Q (.lst (aA nm)) M'):sT CD C [.ptr a,.int 9] M Q:=by
 refine bT rfl ?_;walk_at"env";rw[zg];lia;rw[MY];walk_at"env";refine rF ?_;lia;refine⟨⟨by ext,by ext⟩,by ext,?_⟩;refine iK _ _ (λk ds M'=>∃w:y9,ds=(w.map λc=>[c]).map (λl=>.str (mkT l))/\w.length=k/\(∀c∈w,c∈dG)/\Pool M' a (n+k)/\Kp (· = a) M M') ⟨[],rfl,rfl,by simp,hp,Kp.refl⟩ ?_ ?_
 ·rintro ds M1 ⟨w,rfl,hw,hwl,p1,k1⟩
  replace hw:w.length=7:=hw;replace p1:Pool M1 a (n+7):=p1;refine jH (s:="") (by rw[t9,aM,MN,z9b];simp[hw]) ?_;rw[t9,aM,zj];lia;refine cv p1 ∅ ∅ ∅ λs M2 s0 s1 p2 k2=>?_
  lia;refine cv p2 ∅ ∅ ∅ λoff M3 o0 o1 p3 k3=>?_
  lia;refine cv p3 ∅ ∅ ∅ λbl M4 b0 b1 p4 k4=>?_
  refine⟨bl,.str (mkT (ck w none (some bl))),rfl,?_,?_⟩
  ·simp only[slT,aM]
   exact if_pos ⟨rfl,z9w b0,by ext⟩
  have hb:=lE w none (some bl);generalize ebv:ck w none (some bl)=bv at hb ⊢;have hbl:∀c∈bv,c∈dG:=λc hc=>hwl c (lF (ebv▸hc))
  have hbl2:(tx (mkT bv)).length<=100000:=by rw[aM];ext
  lia;rw[aM];refine cv p4 ∅ ∅ ∅ λat_ M5 a0 a1 p5 k5=>?_
  lia;intro x hx;have hxa:x≠a:=λe=>by subst e;obtain⟨_,_,_,h1,_⟩:=p5;rw[hx]at h1;cases h1
  lia;refine⟨⟨by ext,by ext⟩,?_⟩;have K5:Kp (· = a) M M5:=(((k1.trans k2 λ_ z _=>z).trans k3 λ_ z _=>z).trans k4 λ_ z _=>z).trans k5 λ_ z _=>z
  have hx0:M x=none:=by
   cases e:M x with
   |none=>rfl
   |some c=>exact absurd (K5 x c e hxa) (by rw[hx];exact λq=>nomatch q)
  refine nG _ _ (λk U M'=>∃b c d,U=[some (.ptr a),some (.int 9),some (.str (mkT dG)),some (.lst (aA odds)),some (.str (mkT w)),some (.int s),some (.int off),some (.str (mkT bv)),some (.int at_),some (.ptr x),b,c,d,none]/\M' x=some (.lst (aA ((List.range k).map (iW w bv at_ s off))))/\Pool M' a (n+11)/\Kp (· = a) M M') ⟨_,_,_,rfl,az,p5.keep (S:=λ_=>False) (Kp.upd (.inr hx)) id,K5.trans (Kp.upd (S:=λ_=>False) (.inr hx)) λ_ z _=>z.elim⟩ ?_ ?_
  ·rintro U M6 ⟨b,c,d,rfl,h1,p6,k6⟩
   have ok:Names ((List.range 9).map (iW w bv at_ s off)):=MX hw hwl ∅ hbl a0 ∅ o0 o1;replace h1:M6 x=some (.lst (aA ((List.range 9).map (iW w bv at_ s off)))):=h1;generalize (List.range 9).map (iW w bv at_ s off)=nm at ok h1;have hdel:∀M' M'':Sto,Kp (· = a) M M'->Kp (· = x) M' M''->Kp (· = a) M (eg M'' x):=λM' M'' z1 z2=>(z1.trans z2 λb z n=>by subst z;exact absurd hx0 n).trans (Kp.del (S:=(· = x)) rfl) λb z n=>by subst z;exact absurd hx0 n
   lia;refine cv p6 ∅ ∅ ∅ λr M7 r0 r1 p7 k7=>?_
   refine MU r0 (by exact r1) λo ho=>?_
   have go:fU o:=MT o ho;lia;have h7:=k7 x _ h1 hxa;rw[zh h7];refine iC (x:=.str (mkT o)) MW ⟨rfl,?_⟩;lia;have K7:=k6.trans k7 λ_ z _=>z
   refine ay (λe=>?_) λe=>?_
   ·lia
    refine cv p7 ∅ ∅ ∅ λr2 M8 q0 q1 p8 k8=>?_
    have h8:=k8 x _ h7 hxa;have K8:=K7.trans k8 λ_ z _=>z
    lia;refine ay (λe2=>?_) λe2=>?_
    ·lia
     refine cv p8 ∅ ∅ ∅ λr3 M9 t0 t1 p9 k9=>?_
     have h9:=k9 x _ h8 hxa;refine⟨x,_,r3,r3.toNat,rfl,h9,rfl,?_,?_⟩
     ·rw[z9b,ok.len];unfold ixN;rw[if_pos t0,if_pos (by exact t1)]
     lia;refine lm rfl az ?_;lia;rw[aA,<- List.map_set (f:=λl=>D.str (mkT l))];exact h _ _ (ok.put e go) (hdel _ _ (K8.trans k9 λ_ z _=>z) (Kp.upd (.inl rfl)))
    ·lia
     refine lm rfl h8 ?_;lia;exact h _ _ ok (hdel _ _ K8 Kp.refl)
   ·lia
    refine lm rfl h7 ?_;lia;exact h _ _ ok (hdel _ _ K7 Kp.refl)
  ·rintro k hk U M6 ⟨b,c,d,rfl,h1,p6,k6⟩ N hN
   rw[z8h]at hk;walk_at"env";have hwl2:(tx (mkT w)).length<=100000:=by rw[aM];ext
   have hll:(tx (mkT dG)).length<=100000:=by rw[aM];decide
   lia;rw[show(List.range (Int.toNat 9))[k]=k from z7w ..];refine nJ hll (by rw[aM];exact tj ∅ ∅) ?_;lia;refine⟨⟨rfl,z9w a0,hbl2⟩,?_⟩;rw[aM];lia;refine nJ hll (by rw[aM];exact tj ∅ ∅) ?_;have hc1:=lE bv none (some at_);have hc2:=lE bv (some at_) none;refine dO (by simp only[z9e,z9p];ext) ?_;lia;refine⟨⟨z9w a0,rfl,hbl2⟩,?_⟩;rw[aM];lia;refine dO (by simp only[z9h,z9e,z9p];ext) ?_;lia;have m0:0<=(k:Int) % 8:=by ext
   have hc3:=lE w none (some ((k:Int) % 8));have hc4:=lE w (some (7-(k:Int) % 8)) none;refine⟨x,_,rfl,h1,?_⟩;lia;refine⟨⟨rfl,z9w m0,hwl2⟩,?_⟩;rw[aM];lia;refine dO (by simp only[z9e,z9p];ext) ?_;lia;refine⟨⟨z9w ∅,rfl,hwl2⟩,?_⟩;rw[aM];lia;refine dO (by simp only[z9e,z9p];ext) ?_;lia;refine MV s0 s1 ?_;refine⟨_,h1,by simp;ext,?_⟩;refine hN _ _ ⟨_,_,_,rfl,?_,p6.keep (S:=(· = x)) (Kp.upd (.inl rfl)) (Ne.symm hxa),k6.trans (Kp.upd (S:=(· = x)) (.inl rfl)) λb z n=>by subst z;exact absurd hx0 n⟩;rw[az,z5q,z8g,aA,aA,z8g];rfl
 ·rintro k hk ds M1 ⟨w,rfl,hw,hwl,p1,k1⟩ N hN
  rw[z8h]at hk;grind;refine cv p1 ∅ ∅ ∅ λr M2 a1 a2 p2 k2=>?_
  lia;refine nJ (c:=97+r.toNat) (by rw[aM];decide) (by rw[aM];exact tj a1 a2) ?_;refine hN _ _ ⟨w++[97+r.toNat],by simp,by simp[hw],λc hc=>?_,p2,k1.trans k2 λ_ z _=>z⟩;rcases z7g.mp hc with hc|hc
  ·exact hwl c hc
  ·rw[z8b.mp hc];exact let_mem.mpr ∅
def zl(h:M a=some (.lst (xs.map D.int))):vw2 M (.ptr a)=DI xs:=by
 have e:(xs.map D.int).map (vw1 M)=xs.map D.int:=by rw[z7h];exact z6c λ_ _=>rfl
 simp only[vw2,h,e]
def zm{xs:List z_}(h:M a=some (.lst (xs.map DI))):vw2 M (.ptr a)=DII xs:=by
 have e:(xs.map DI).map (vw1 M)=xs.map DI:=by rw[z7h];exact z6c λ_ _=>rfl
 simp only[vw2,h,e]
section
variable {of:Int}
def N0(s:Sale S H_ I_ r c of d)(ho:M o=some (.ins C [] []))(hfa:M fa=some (.lst (H_.map D.int)))(hra:M ra=some (.lst (I_.map DI)))(h:∀M',M' o=some (.ins C c_ (bt S H_ I_ r c of d 0 0 0 .non .non))->Kp (· = o) M M'->Q .non M'):
  sQ CD C [.ptr o,.int (S:Nat),.ptr fa,.ptr ra,.tup [.int r,.int c,.int of,.int d]] M Q EX:=by
 obtain⟨hS,f1,f2,f3,t1,t2,r1,r2,c1,c2,o1,o2,d1,d2⟩:=s;have hrl:∀x∈I_,x.length<=1000:=λx hx=>by have:=(t2 x hx).1;ext
 have nf:fa≠o:=λe=>by rw[e,ho]at hfa;cases hfa
 have nr:ra≠o:=λe=>by rw[e,ho]at hra;cases hra
 have w1:vw2 M (.ptr fa)=DI H_:=zl hfa;have w2:vw2 M (.ptr ra)=DII I_:=zm hra;have v1:∀cc:Cell,vw2 (aB M o cc) (.ptr fa)=DI H_:=λcc=>zl ((aH nf).trans hfa)
 have v2:∀cc:Cell,vw2 (aB M o cc) (.ptr ra)=DII I_:=λcc=>zm ((aH nr).trans hra)
 refine bE rfl ?_;grind;rw[show List.map (vw2 M) [.int (S:Nat),.ptr fa,.ptr ra]=[.int (S:Nat),DI H_,DII I_]by simp only[z9n,z7v,w1,w2];rfl];refine iB (LI ∅ ∅ hrl) ?_;rintro _ ⟨b,rfl,hb⟩;have hb':b=true:=hb.mpr ⟨by ext,by ext,f1,f2,f3,t1,t2⟩;subst hb';refine⟨rfl,?_⟩;lia;refine bi (yL r c of d) ?_;rw[show oj r c of d=true from z9w ⟨r1,r2,o1,o2,c1,c2,d1,d2⟩];lia;refine bi (Mg ∅ ∅) ?_;have hfs:eD H_:=λx hx=>by have:=f3 x hx;ext
 have hts:∀x∈I_,eD x/\x.length<=1000:=λx hx=>⟨λy hy=>by have:=(t2 x hx).2.1 y hy;ext,hrl x hx⟩
 have hsum:=t2.sum ∅;lia;refine eU ?_;lia;refine⟨o,_,rfl,ho,?_⟩;lia;refine eU ?_;lia;refine⟨H_.map D.int,gw ((aH nf).trans hfa),?_⟩;lia;refine⟨o,_,rfl,az,?_⟩;rw[cj];lia;refine eU ?_;lia;refine⟨o,_,rfl,az,?_⟩;rw[cj];lia;refine eU ?_;lia;simp only[z9n,z7v,v2];refine bi (yW hsum ∅) ?_;refine⟨⟨_,rfl⟩,?_⟩;lia;refine⟨o,_,rfl,az,?_⟩;rw[cj];lia;refine eU ?_;lia;refine bi (LT ∅ ∅ ⟨c1,c2⟩ o2 o1 ⟨d1,d2⟩) ?_;lia;simp only[z9n,z7v,v1,v2];refine bi (Md hfs ∅ hts hsum ∅ (by rw[i0];ext)) ?_;lia;refine⟨o,_,rfl,az,?_⟩;rw[cj];lia
 iterate 4
  refine eU ?_;lia;refine⟨o,_,rfl,az,?_⟩;rw[cj];lia
 refine eU ?_;lia;refine⟨o,_,rfl,az,?_⟩;rw[cj];lia;exact h _ az (Kp.upd (.inl rfl))
end
section
variable {rest:List y9}{f r:D}
def zn{a:y9}{l:List y9}:eN (aA (a::l)) (some (1:Nat)) none=aA l:=by unfold eN;rw[Ge,Gf];simp[aA];exact z7l (by simp)
def zo{d:D}{l:n_}:atI (d::l) 0=some d:=by simp[atI,ixN]
def N1(hl:(tx z).length<=10000)(hz:bB 32 (tx z)=hd::rest)(hne:[]∉hd::rest)(hm:M dk=some (.ins CD d_ [p,f,r,u,.non]))(h:∀M1,Kp (λ_=>False) M M1->hW CD C [.ptr dk,.str (mkT hd),.lst (aA rest)] M1 Q EX):eX CD C [.ptr dk,.str z] M Q EX:=by
 refine bE rfl ?_;grind;refine zi hl (λe=>absurd (hz▸e) hne) λ_ a ha=>?_
 rw[hz];have hm1:aB M a (.lst (aA (hd::rest))) dk=some (.ins CD d_ [p,f,r,u,.non]):=(aH λe=>by rw[e,ha]at hm;cases hm).trans hm;lia;refine⟨a,_,0,.str (mkT hd),rfl,az,rfl,zo,?_⟩;lia;refine⟨a,_,rfl,az,by ext,?_⟩;lia;rw[show(List.map (λl=>D.str (mkT l)) (hd::rest))=aA (hd::rest)from rfl,zn];exact h _ (Kp.upd (.inr ha))
def tm(hl:(tx z).length<=10000)(hz:bB 32 (tx z)=hd::rest)(hne:[]∉hd::rest)(hm:M dk=some (.ins CD d_ [p,f,r,u,.ptr o]))(h:∀M1,Kp (λ_=>False) M M1->jL CD C [.ptr dk,.str (mkT hd),.lst (aA rest)] M1 Q EX):eX CD C [.ptr dk,.str z] M Q EX:=by
 refine bE rfl ?_;grind;refine zi hl (λe=>absurd (hz▸e) hne) λ_ a ha=>?_
 rw[hz];have hm1:aB M a (.lst (aA (hd::rest))) dk=some (.ins CD d_ [p,f,r,u,.ptr o]):=(aH λe=>by rw[e,ha]at hm;cases hm).trans hm;lia;refine⟨a,_,0,.str (mkT hd),rfl,az,rfl,zo,?_⟩;lia;refine⟨a,_,rfl,az,by ext,?_⟩;lia;rw[show(List.map (λl=>D.str (mkT l)) (hd::rest))=aA (hd::rest)from rfl,zn];exact h _ (Kp.upd (.inr ha))
def N2(h:0<=x):aZ x=digs x.toNat:=if_neg ∅
def ox(h0:0<=x)(h1:x<10000000):jR (aZ x)/\(∀c∈aZ x,c<128)/\32∉aZ x/\((cC (aZ x):Nat):Int)=x:=by rw[N2 h0];refine⟨MO ∅,MP,MQ,?_⟩;rw[(ot _).2.2.2];ext
def oy(h0:0<=x)(h1:x<10000000)(h:Q (.int x) M):iT CD C [.str (mkT (aZ x))] M Q EX:=by
 obtain⟨g,a,_,v⟩:=ox h0 h1;refine ML (asc_mk.mpr a) (by rw[aM];have:=g.1.1.2;ext) (λe=>absurd (by rw[aM];exact g) e) λ_=>?_
 rw[aM,v];exact h
def zp(hb:∀x∈xs,0<=x/\x<10000000)(hlen:xs.length<=1000)(h:Q (DI xs) M):og CD C [.lst (aA (xs.map aZ))] M Q:=by
 refine bT rfl ?_;grind;refine⟨by simpa [aA]using hlen,?_⟩;rw[aA,z7h];refine iK (λx:Int=>.str (mkT (aZ x))) xs (λk ds M'=>ds=(xs.take k).map D.int/\M'=M) ⟨by simp,rfl⟩ ?_ ?_
 ·rintro ds _ ⟨rfl,rfl⟩
  rw[z6v];lia;exact h
 ·rintro k hk ds _ ⟨rfl,rfl⟩ N hN
  grind;have hn:=hb xs[k] (z9s _);refine oy hn.1 hn.2 (hN _ _ ⟨?_,rfl⟩);rw[z8k hk,z8g];rfl
end
structure Gath (M:Sto) (CD dk pl fa ra:Nat) (nm:List y9) (fs:z_) (ts:List z_) (u:D):Prop where
 hd:M dk=some (.ins CD d_ [.ptr pl,.ptr fa,.ptr ra,u,.non])
 hp:M pl=some (.dic (nm.map mkT) (i6 (List.range nm.length)))
 hf:M fa=some (.lst (fs.map D.int))
 hr:M ra=some (.lst (ts.map DI))
 ne:fa≠ra
abbrev S4(dk pl fa ra:Nat):Nat->Prop:=λx=>x=dk\/x=pl\/x=fa\/x=ra
section
variable {fs:z_}{ts:List z_}
def Gath.keep(g:Gath M CD dk pl fa ra nm fs ts u)(k:Kp (λ_=>False) M M'):Gath M' CD dk pl fa ra nm fs ts u:=⟨k _ _ g.hd id,k _ _ g.hp id,k _ _ g.hf id,k _ _ g.hr id,g.ne⟩
def Gath.nes(g:Gath M CD dk pl fa ra nm fs ts u):dk≠pl/\dk≠fa/\dk≠ra/\pl≠fa/\pl≠ra:=by obtain⟨h1,h2,h3,h4,_⟩:=g;refine⟨?_,?_,?_,?_,?_⟩<;>(rintro rfl;first|(rw[h1]at h2;cases h2;done)|(rw[h1]at h3;cases h3;done)|(rw[h1]at h4;cases h4;done)|(rw[h2]at h3;cases h3;done)|(rw[h2]at h4;cases h4;done))
def mem_mk:mkT l∈nm.map mkT↔l∈nm:=by
 rw[z7c];constructor
 ·rintro⟨x,hx,e⟩
  rw[lD,aM,aM]at e;exact e▸hx
 ·exact λh=>⟨l,h,rfl⟩
def N3{n:y9}(g:Gath M CD dk pl fa ra nm fs [] u)(hn:n∉nm)(h0:1<=f)(h1:f<=1000000)(hl:nm.length=fs.length)(h6:fs.length<6)(h:∀M',Gath M' CD dk pl fa ra (nm++[n]) (fs++[f]) [] u->Kp (S4 dk pl fa ra) M M'->Q .non M'):sM CD C [.ptr dk,.str (mkT n),.int f] M Q EX:=by
 obtain⟨n1,n2,n3,n4,n5⟩:=g.nes;obtain⟨e1,e2,e3,e4,n6⟩:=g;refine bE rfl ?_;grind;refine⟨pl,_,_,_,rfl,rfl,e2,?_⟩;lia;refine ay (λe=>absurd (mem_mk.mp e) hn) λ_=>?_
 lia;rw[show List.map (vw1 M) [D.ptr ra]=[.lst []]by simp[gw e4]];lia;refine ay (λe=>absurd e (by decide)) λ_=>?_
 lia;rw[show List.map (vw1 M) [D.ptr fa]=[DI fs]by simp[gw e3]];lia;refine ay (λe=>absurd e (by simp only[z9b];ext)) λ_=>?_
 lia;refine iB (yK (f:=[f]) (by simp)) ?_;rintro _ ⟨b,rfl,hb⟩;have hb':b=true:=hb.mpr ⟨by simp,by simp,λx hx=>by rw[z8b.mp hx];ext⟩;subst hb';lia;rw[show List.map (vw1 M) [D.ptr fa]=[DI fs]by simp[gw e3]];lia;refine⟨pl,_,_,_,rfl,rfl,e2,λe=>hn (mem_mk.mp e),by rw[z9b];ext,?_⟩;have e1':=(aH (c:=.dic (nm.map mkT++[mkT n]) (i6 (List.range nm.length)++[.int ((fs.map D.int).length:Nat)])) n1).trans e1;have e3':=(aH (c:=.dic (nm.map mkT++[mkT n]) (i6 (List.range nm.length)++[.int ((fs.map D.int).length:Nat)])) (Ne.symm n4)).trans e3;lia;refine⟨fa,_,rfl,e3',?_⟩;lia;refine⟨_,e3',by rw[z9b];ext,?_⟩;lia;refine h _ ⟨(aH n2).trans e1',?_,?_,?_,n6⟩ ((Kp.upd (S:=S4 dk pl fa ra) (.inl (.inr (.inl rfl)))).trans (Kp.upd (S:=S4 dk pl fa ra) (.inl (.inr (.inr (.inl rfl))))) λ_ z _=>z)
 ·rw[aH n4,az,z8g,z9h,z4d,z5q,i6,i6,z8g,z9b,hl]
  rfl
 ·rw[az,z8g];rfl
 ·rw[aH (Ne.symm n6),aH (Ne.symm n5),e4]
def N4{n:y9}(g:Gath M CD dk pl fa ra nm fs [] u)(hn:n∉nm)(hg:fU n)(h0:1<=f)(h1:f<=1000000)(hl:nm.length=fs.length)(h6:fs.length<6)(h:∀M',Gath M' CD dk pl fa ra (nm++[n]) (fs++[f]) [] u->Kp (S4 dk pl fa ra) M M'->Q (.str "ok") M'):hW CD C [.ptr dk,.str "class",.lst (aA [n,aZ f])] M Q EX:=by
 have e1:=g.hd;refine bE rfl ?_;grind;refine ay (λ_=>?_) λe=>absurd rfl e
 lia;refine ay (λ_=>?_) λe=>absurd rfl e
 lia;refine MM (asc_mk.mpr λc hc=>by have:=let_mem.mp (hg.2 c hc);ext) (by rw[aM];have:=hg.1.2;ext) (λe=>absurd (by rw[aM];exact hg) e) λ_=>?_
 lia;refine oy ∅ ∅ ?_;lia;refine N3 g hn h0 h1 hl h6 λM1 g1 k1=>?_
 lia;exact h M1 g1 k1
def N5(g:Gath M CD dk pl fa ra nm fs ts u)(hr:gx fs.length row)(h1:1<=fs.length)(h6:fs.length<=6)(h8:ts.length<8)(h:∀M',Gath M' CD dk pl fa ra nm fs (ts++[row]) u->Kp (S4 dk pl fa ra) M M'->Q .non M'):sP CD C [.ptr dk,DI row] M Q EX:=by
 obtain⟨n1,n2,n3,n4,n5⟩:=g.nes;obtain⟨e1,e2,e3,e4,n6⟩:=g;refine bE rfl ?_;grind;rw[show List.map (vw1 M) [D.ptr fa]=[DI fs]by simp[gw e3]];lia;refine ay (λe=>absurd e (by simp only[z9b];ext)) λ_=>?_
 lia;have hrl:=hr.1;refine gi (λe=>absurd (by simp only[z9b];ext) e) λ_=>?_
 lia;rw[show List.map (vw1 M) [D.ptr ra]=[DII ts]by simp[gw e4]];lia;refine ay (λe=>absurd e (by simp only[z9b];ext)) λ_=>?_
 lia;rw[z9b];refine iB (yJ (n:=fs.length) ∅) ?_;rintro _ ⟨b,rfl,hb⟩;have hb':b=true:=hb.mpr hr;subst hb';lia;refine⟨ra,_,rfl,e4,?_⟩;lia;refine⟨_,e4,by rw[z9b];ext,?_⟩;lia;refine h _ ⟨(aH n3).trans e1,(aH n5).trans e2,(aH n6).trans e3,?_,n6⟩ (Kp.upd (S:=S4 dk pl fa ra) (.inl (.inr (.inr (.inr rfl)))));rw[az,z8g];rfl
def N6(g:Gath M CD dk pl fa ra nm fs ts u)(hr:gx fs.length row)(h1:1<=fs.length)(h6:fs.length<=6)(h8:ts.length<8)(h:∀M',Gath M' CD dk pl fa ra nm fs (ts++[row]) u->Kp (S4 dk pl fa ra) M M'->Q (.str "ok") M'):hW CD C [.ptr dk,.str "turn",.lst (aA (row.map aZ))] M Q EX:=by
 have e1:=g.hd;have hrl:=hr.1;refine bE rfl ?_;grind;refine ay (λe=>absurd e (by decide)) λ_=>?_
 lia;refine ay (λ_=>?_) λe=>absurd rfl e
 lia;refine ay (λ_=>?_) λe=>absurd (by simp only[z9b];ext) e
 lia;refine zp (λx hx=>by have:=hr.2.1 x hx;ext) ∅ ?_;lia;refine N5 g hr h1 h6 h8 λM1 g1 k1=>?_
 lia;exact h M1 g1 k1
def N7{of:Int}(g:Gath M CD dk pl fa ra nm fs ts u)(r1:0<=r)(r2:r<=10)(c1:0<=c)(c2:c<=of)(o1:1<=of)(o2:of<=1000)(d1:0<=d)(d2:d<=1000000)(h:∀M',Gath M' CD dk pl fa ra nm fs ts (.tup [.int r,.int c,.int of,.int d])->Kp (S4 dk pl fa ra) M M'->Q (.str "ok") M'):hW CD C [.ptr dk,.str "rule",.lst (aA ([r,c,of,d].map aZ))] M Q EX:=by
 obtain⟨n1,n2,n3,n4,n5⟩:=g.nes;have e1:=g.hd;refine bE rfl ?_;grind;refine ay (λe=>absurd e (by decide)) λ_=>?_
 lia;refine ay (λe=>absurd e (by decide)) λ_=>?_
 lia;refine ay (λ_=>?_) λe=>absurd rfl e
 lia;refine ay (λ_=>?_) λe=>absurd rfl e
 lia;refine zp (xs:=[r,c,of,d]) (λx hx=>by simp only[z9j,z7r,z5w]at hx;ext) (by simp) ?_;lia;refine bE rfl ?_;grind;refine bi (yL r c of d) ?_;rw[show oj r c of d=true from z9w ⟨r1,r2,o1,o2,c1,c2,d1,d2⟩];lia;refine⟨dk,_,rfl,e1,?_⟩;lia;exact h _ ⟨az,(aH (Ne.symm n1)).trans g.hp,(aH (Ne.symm n2)).trans g.hf,(aH (Ne.symm n3)).trans g.hr,g.ne⟩ (Kp.upd (.inl (.inl rfl)))
end
structure Opn (M:Sto) (CD C dk pl o:Nat) (nm:List y9) (off:n_):Prop where
 hd:∃f r u,M dk=some (.ins CD d_ [.ptr pl,f,r,u,.ptr o])
 hp:M pl=some (.dic (nm.map mkT) (i6 (List.range nm.length)))
 ho:M o=some (.ins C c_ off)
section
variable {fs:z_}{ts:List z_}
def N8{of:Int}(s:Sale S fs ts r c of d)(g:Gath M CD dk pl fa ra nm fs ts (.tup [.int r,.int c,.int of,.int d]))(h:∀o M',M o=none->Opn M' CD C dk pl o nm (bt S fs ts r c of d 0 0 0 .non .non)->Kp (S4 dk pl fa ra) M M'->Q .non M'):sR CD C [.ptr dk,.int (S:Nat)] M Q EX:=by
 obtain⟨n1,n2,n3,n4,n5⟩:=g.nes;obtain⟨e1,e2,e3,e4,n6⟩:=g;refine bE rfl ?_;grind;refine IM ?_;lia;intro o ho;have no:∀{x:Nat} {cc:Cell},M x=some cc->x≠o:=λ{x cc} hx e=>by rw[e,ho]at hx;cases hx
 refine N0 s az ((aH (no e3)).trans e3) ((aH (no e4)).trans e4) λM1 m1 k1=>?_
 refine⟨rfl,?_⟩;have f:∀x cc,M x=some cc->M1 x=some cc:=λx cc hx=>k1 x cc ((aH (no hx)).trans hx) (no hx)
 have e1':=f _ _ e1;lia;refine⟨dk,_,rfl,e1',?_⟩;lia;have od:o≠dk:=Ne.symm (no e1);refine h o _ ho ⟨⟨_,_,_,az⟩,(aH (Ne.symm n1)).trans (f _ _ e2),(aH od).trans m1⟩ λx cc hx hn=>?_
 rw[aH λe=>hn (.inl e)];exact f x cc hx
def N9{of:Int}(s:Sale S fs ts r c of d)(g:Gath M CD dk pl fa ra nm fs ts (.tup [.int r,.int c,.int of,.int d]))(h:∀o M',M o=none->Opn M' CD C dk pl o nm (bt S fs ts r c of d 0 0 0 .non .non)->Kp (S4 dk pl fa ra) M M'->Q (.str "ok") M'):hW CD C [.ptr dk,.str "open",.lst (aA [aZ (S:Nat)])] M Q EX:=by
 have e1:=g.hd;have hS:=s.hS;refine bE rfl ?_;grind;refine ay (λe=>absurd e (by decide)) λ_=>?_
 lia;refine ay (λe=>absurd e (by decide)) λ_=>?_
 lia;refine ay (λe=>absurd e (by decide)) λ_=>?_
 lia;refine ay (λ_=>?_) λe=>absurd rfl e
 lia;refine ay (λ_=>?_) λe=>absurd rfl e
 lia;refine oy ∅ ∅ ?_;lia;refine N8 s g λo M1 ho g1 k1=>?_
 lia;exact h o M1 ho g1 k1
end
def zq:iR [.bl b]=some (.str (if b=true then "yes" else "no")):=by cases b<;>rfl
theorem zr:∀(nm:List y9) (j k:Nat) (hk:k<nm.length),nm.Nodup->er (nm.map mkT) (i6 (List.range' j nm.length)) (mkT nm[k])=some (.int ((j+k:Nat):Int))
 |a::r,j,0,_,_=>by show List.lookup (mkT a) ((mkT a,_)::_)=_;rw[z8u,z5f];rfl
 | a::r,j,k+1,hk,h=>by
   have h':=z8o.mp h;have hk':k<r.length:=by simpa using hk
   have ne:(mkT r[k]==mkT a)=false:=z7i.mpr λe=>by rw[lD,aM,aM]at e;exact h'.1 (e▸z9s hk')
   have ih:=zr r (j+1) k hk' h'.2;show List.lookup (mkT r[k]) ((mkT a,_)::List.zip (r.map mkT) (i6 (List.range' (j+1) r.length)))=_;rw[z8u,ne];show er _ _ _=_;rw[ih,show j+1+k=j+(k+1)by ext]
section
variable {of:Int}
def Opn.keep(g:Opn M CD C dk pl o nm off)(k:Kp (λ_=>False) M M'):Opn M' CD C dk pl o nm off:=by obtain⟨⟨f,r,u,h1⟩,h2,h3⟩:=g;exact⟨⟨f,r,u,k _ _ h1 id⟩,k _ _ h2 id,k _ _ h3 id⟩
def Opn.nes(g:Opn M CD C dk pl o nm off):dk≠o/\pl≠o/\dk≠pl:=by
 obtain⟨⟨f,r,u,h1⟩,h2,h3⟩:=g;refine⟨?_,?_,?_⟩
 ·rintro rfl;rw[h1]at h3;simp[d_,c_]at h3
 ·rintro rfl;rw[h2]at h3;cases h3
 ·rintro rfl;rw[h1]at h2;cases h2
def Opn.upd{off':n_}(g:Opn M CD C dk pl o nm off)(k:Kp (· = o) M M')(m:M' o=some (.ins C c_ off')):Opn M' CD C dk pl o nm off':=by obtain⟨n1,n2,_⟩:=g.nes;obtain⟨⟨f,r,u,h1⟩,h2,h3⟩:=g;exact⟨⟨f,r,u,k _ _ h1 n1⟩,k _ _ h2 n2,m⟩
def zt{k:Nat}(g:Opn M CD C dk pl o nm off)(hk:k<nm.length)(nd:nm.Nodup)(h:Q (.int (k:Nat)) M):jK CD C [.ptr dk,.str (mkT nm[k])] M Q EX:=by
 obtain⟨⟨f,r,u,h1⟩,h2,h3⟩:=g;refine bE rfl ?_;grind;refine⟨pl,_,_,_,rfl,rfl,h2,?_⟩;lia;refine gi (λe=>absurd (mem_mk.mpr (z9s hk)) e) λ_=>?_
 lia;refine⟨pl,_,_,_,.int (k:Nat),rfl,rfl,h2,?_,?_⟩
 ·have:=zr nm 0 k hk nd
  rwa [Nat.zero_add,<- List.range_eq_range']at this
 lia;exact h
def Na{n:y9}(g:Opn M CD C dk pl o nm off)(hn:n∉nm)(gn:fU n)(h:EX "NoClass" M):jK CD C [.ptr dk,.str (mkT n)] M Q EX:=by
 obtain⟨⟨f,r,u,h1⟩,h2,h3⟩:=g;refine bE rfl ?_;grind;refine⟨pl,_,_,_,rfl,rfl,h2,?_⟩;lia;refine gi (λe=>?_) λe=>absurd (mem_mk.mp e) hn
 refine rH (by decide) ?_ h;lia;exact⟨_,rfl,asc_mk.mpr λc hc=>by have:=let_mem.mp (gn.2 c hc);ext,by rw[aM];have:=gn.1.2;ext⟩
def zu{x:D}(hm:M o=some (.ins C c_ (bt S H_ I_ r c of d I_.length J1 J4 J5 J6)))(h:EX "Over" M):gv CD C [.ptr o,x] M Q EX:=by refine bE rfl ?_;grind;refine lB hm ?_;rw[z9w rfl];lia;exact jD (by decide) h
def zv{f r:D}(hv:a5 0 U=some (.ptr dk))(h1:M dk=some (.ins CD d_ [.ptr pl,f,r,u,.ptr o]))(h3:M o=some (.ins C c_ off))(h:xa U M (λds M2=>T (.ptr o::ds) M2 Q EX) EX):iN C c_ T (aN CD d_ 4 (nP (a5 0))) xa U M Q EX:=
 ⟨.ptr dk,hv,dk,_,.ptr o,rfl,h1,rfl,o,_,rfl,h3,h⟩
def tq{f r:D}(hv:a5 0 U=some (.ptr dk))(h1:M dk=some (.ins CD d_ [.ptr pl,f,r,u,.ptr o]))(h3:M o=some (.ins C c_ off))(h:ta U M (λds M2=>T (.ptr o::ds) M2 Q EX)):dA C c_ T (aN CD d_ 4 (nP (a5 0))) ta U M Q EX:=
 ⟨.ptr dk,hv,dk,_,.ptr o,rfl,h1,rfl,o,_,rfl,h3,h⟩
def oz{T:NTF}{f r:D}(hv:a5 0 U=some (.ptr dk))(h1:M dk=some (.ins CD d_ [.ptr pl,f,r,u,.ptr o]))(h3:M o=some (.ins C c_ off))(h:ta U M (λds M2=>T (.ptr o::ds) M2 Q)):cI C c_ T (aN CD d_ 4 (nP (a5 0))) ta U M Q:=
 ⟨.ptr dk,hv,dk,_,.ptr o,rfl,h1,rfl,o,_,rfl,h3,h⟩
def Nb{n:y9}(g:Opn M CD C dk pl o nm off)(h:jK CD C [.ptr dk,.str (mkT n)] M (λx M1=>gv CD C [.ptr o,x] M1 (λb M2=>WF iR [b] λy=>Q y M2) EX) EX):jL CD C [.ptr dk,.str "ask",.lst (aA [n])] M Q EX:=by
 obtain⟨⟨f,r,u,h1⟩,h2,h3⟩:=g;refine bE rfl ?_;grind;refine ay (λ_=>?_) λe=>absurd rfl e
 lia;refine ay (λ_=>?_) λe=>absurd rfl e
 lia;refine zv rfl h1 h3 ?_;lia;exact h
end
abbrev Bd(i:Int):Prop:=-(10 ^ 200)<=i/\i<=10 ^ 200
def lg(h:Bd i):i.natAbs.log2<1900:=by
 by_cases h0:i.natAbs=0
 ·rw[h0];decide
 refine(Nat.log2_lt h0).mpr ?_;have h1:i.natAbs<=10 ^ 200:=by have:=h.1;have:=h.2;ext
 have h2:(10:Nat) ^ 200<=(2 ^ 4) ^ 200:=Nat.pow_le_pow_left ∅ _;have h3:((2:Nat) ^ 4) ^ 200=2 ^ 800:=by rw[<- Nat.pow_mul]
 have h4:(2:Nat) ^ 800<2 ^ 1900:=Nat.pow_lt_pow_right ∅ ∅;ext
def i7(h:Bd i):(aZ i).length<=202:=by
 have h1:i.natAbs<10 ^ 201:=by have:=h.1;have:=h.2;ext
 have h2:=tf 201 i.natAbs h1 ∅;unfold aZ;split
 ·simp only[z9e];ext
 ·rw[show i.toNat=i.natAbs by ext];ext
def dP:D->y9
 |.int i=>aZ i
 |_=>[45]
def eY(x:D):Prop:=x=.non\/∃i,x=.int i/\Bd i
def tu:("-" : Str)=mkT [45]:=by decide +kernel
def tz:(" of " : Str)=mkT [32,111,102,32]:=by decide +kernel
def Nc{x:D}(h:eY x):sC [x]=some (.str (mkT (dP x))):=by
 refine ce (cz (bH rfl ?_));walk_at"env";rcases h with rfl|⟨i,rfl,hi⟩
 ·lia
  rw[tu];rfl
 ·lia
  refine cD (lg hi) ?_;lia;rfl
def lH{x:D}(h:eY x):(dP x).length<=202:=by
 rcases h with rfl|⟨i,rfl,hi⟩
 ·simp[dP]
 ·exact i7 hi
def oA(l:n_):y9:=bh [32] (l.map dP)
section
variable {of:Int}
def Nd(g:Opn M CD C dk pl o nm off)(w1:w ≠ "ask")(w2:w ≠ "came")(h:fm CD C [.ptr dk,.str w] M Q EX):jL CD C [.ptr dk,.str w,.lst (aA [])] M Q EX:=by
 obtain⟨⟨f,r,u,h1⟩,h2,h3⟩:=g;refine bE rfl ?_;grind;refine ay (λe=>absurd e w1) λ_=>?_
 lia;refine ay (λe=>absurd e w2) λ_=>?_
 lia;refine ay (λe=>absurd e (by decide)) λ_=>?_
 lia;exact h
def zw(g:Opn M CD C dk pl o nm off)(h:gv CD C [.ptr o,.non] M (λb M2=>WF iR [b] λy=>Q y M2) EX):fm CD C [.ptr dk,.str "quiet"] M Q EX:=by
 obtain⟨⟨f,r,u,h1⟩,h2,h3⟩:=g;refine bE rfl ?_;grind;refine ay (λ_=>?_) λe=>absurd rfl e
 lia;refine tq rfl h1 h3 ?_;lia;exact h
def Nf(g:Opn M CD C dk pl o nm (bt S H_ I_ r c of d J0 J1 J4 J5 J6))(hS:S<=10)(hs:J1<=S)(h:Q (.str (mkT (aZ ((S-J1:Nat):Int)))) M):fm CD C [.ptr dk,.str "left"] M Q EX:=by
 obtain⟨⟨f,r,u,h1⟩,h2,h3⟩:=g;refine bE rfl ?_;grind;refine ay (λe=>absurd e (by decide)) λ_=>?_
 lia;refine ay (λ_=>?_) λe=>absurd rfl e
 lia;refine oz rfl h1 h3 ?_;lia;refine jQ h3 hs ?_;lia;refine cD (lg ⟨by ext,by ext⟩) ?_;lia;exact h
def Ng(g:Opn M CD C dk pl o nm (bt S H_ I_ r c of d J0 J1 J4 J5 J6))(ht:J0<=8)(h:Q (.str (mkT (aZ (J0:Int)))) M):fm CD C [.ptr dk,.str "turns"] M Q EX:=by
 obtain⟨⟨f,r,u,h1⟩,h2,h3⟩:=g;refine bE rfl ?_;grind;refine ay (λe=>absurd e (by decide)) λ_=>?_
 lia;refine ay (λe=>absurd e (by decide)) λ_=>?_
 lia;refine ay (λ_=>?_) λe=>absurd rfl e
 lia;refine oz rfl h1 h3 ?_;lia;refine Mh h3 ?_;lia;refine cD (lg ⟨by ext,by ext⟩) ?_;lia;exact h
def Nh(g:Opn M CD C dk pl o nm (bt S H_ I_ r c of d J0 J1 J4 J5 J6))(hc:J5=.non/\x=J4\/∃y,J5=.int y/\x=J4-y)(hb:Bd x)(h:Q (.str (mkT (aZ x))) M):fm CD C [.ptr dk,.str "coins"] M Q EX:=by
 obtain⟨⟨f,r,u,h1⟩,h2,h3⟩:=g;refine bE rfl ?_;grind;refine ay (λe=>absurd e (by decide)) λ_=>?_
 lia;refine ay (λe=>absurd e (by decide)) λ_=>?_
 lia;refine ay (λe=>absurd e (by decide)) λ_=>?_
 lia;refine ay (λ_=>?_) λe=>absurd rfl e
 lia;refine oz rfl h1 h3 ?_;lia;rcases hc with⟨rfl,rfl⟩|⟨y,rfl,rfl⟩
 ·refine Mq h3 ?_
  lia;refine cD (lg hb) ?_;lia;exact h
 ·refine zc h3 ?_
  lia;refine cD (lg hb) ?_;lia;exact h
def oB{l:List y9}(h:∀x∈l,x.length<=202):(l.map List.length).sum<=202*l.length:=by
 induction l with
 |nil=>simp
 | cons a r ih=>
   have:=ih λx hx=>h x (z9d _ hx)
   have:=h a z9a;simp only[z9n,z8t,z9e];ext
def Ni{l:n_}(g:Opn M CD C dk pl o nm (bt S H_ I_ r c of d J0 J1 J4 J5 (.tup l)))(hl:l.length=4)(hk:∀x∈l,eY x)(h:Q (.str (mkT (oA l))) M):fm CD C [.ptr dk,.str "why"] M Q EX:=by
 obtain⟨⟨f,r,u,h1⟩,h2,h3⟩:=g;refine bE rfl ?_;grind;refine ay (λe=>absurd e (by decide)) λ_=>?_
 lia;refine ay (λe=>absurd e (by decide)) λ_=>?_
 lia;refine ay (λe=>absurd e (by decide)) λ_=>?_
 lia;refine ay (λe=>absurd e (by decide)) λ_=>?_
 lia;refine ay (λ_=>?_) λe=>absurd rfl e
 lia;refine tq rfl h1 h3 ?_;lia;refine Mp h3 ?_;refine⟨l,rfl,by ext,?_⟩;rw[<- List.map_id l];refine iK id l (λk ds M'=>ds=aA ((l.take k).map dP)/\M'=M) ⟨by simp[aA],rfl⟩ ?_ ?_
 ·rintro ds _ ⟨rfl,rfl⟩
  rw[z6v];have hs:=oB (l:=l.map dP) λx hx=>by obtain⟨y,hy,rfl⟩:=z7c.mp hx;exact lH (hk y hy)
  rw[z9b,hl]at hs;refine jH (s:=" ") (by rw[fR,aM,z9b,hl];simp only[z9e,z9p];ext) ?_;rw[fR,aM];exact h
 ·rintro k hk' ds _ ⟨rfl,rfl⟩ N hN
  grind;refine bi (Nc (hk _ (z9s hk'))) ?_;refine hN _ _ ⟨?_,rfl⟩;rw[z8k hk',aA,aA,z8g,z8g];rfl
def Nj(g:Opn M CD C dk pl o nm (bt S H_ I_ r c of d J0 J1 J4 J5 .non))(h:EX "Early" M):fm CD C [.ptr dk,.str "why"] M Q EX:=by
 obtain⟨⟨f,r,u,h1⟩,h2,h3⟩:=g;refine bE rfl ?_;grind;refine ay (λe=>absurd e (by decide)) λ_=>?_
 lia;refine ay (λe=>absurd e (by decide)) λ_=>?_
 lia;refine ay (λe=>absurd e (by decide)) λ_=>?_
 lia;refine ay (λe=>absurd e (by decide)) λ_=>?_
 lia;refine ay (λ_=>?_) λe=>absurd rfl e
 lia;refine tq rfl h1 h3 ?_;lia;refine bE rfl ?_;grind;exact jD (by decide) h
def Nk{a b:Int}(g:Opn M CD C dk pl o nm off)(hw:∀Q':QE,Q' (.tup [.int a,.int b]) M->oe CD C [.ptr o] M Q')(ha:Bd a)(hb:Bd b)(h:Q (.str (mkT (aZ a++[32,111,102,32]++aZ b))) M):fm CD C [.ptr dk,.str "worth"] M Q EX:=by
 obtain⟨⟨f,r,u,h1⟩,h2,h3⟩:=g;refine bE rfl ?_;grind;refine ay (λe=>absurd e (by decide)) λ_=>?_
 lia;refine ay (λe=>absurd e (by decide)) λ_=>?_
 lia;refine ay (λe=>absurd e (by decide)) λ_=>?_
 lia;refine ay (λe=>absurd e (by decide)) λ_=>?_
 lia;refine ay (λe=>absurd e (by decide)) λ_=>?_
 lia;refine ay (λ_=>?_) λe=>absurd rfl e
 lia;refine oz rfl h1 h3 ?_;lia;refine hw _ ?_;refine⟨_,rfl,by simp,?_⟩;rw[show [D.int a,D.int b]=[a,b].map D.int from rfl];refine iK D.int [a,b] (λk ds M'=>ds=aA (([a,b].take k).map aZ)/\M'=M) ⟨by simp[aA],rfl⟩ ?_ ?_
 ·rintro ds _ ⟨rfl,rfl⟩
  have l1:=i7 ha;have l2:=i7 hb;refine jH (s:=" of ") (by rw[tz,aM];simp only[List.take_succ_cons,List.take_nil,z9e,z9p,z9n,z7v,z8t,z4q];ext) ?_;rw[tz,aM];exact h
 ·rintro k hk' ds _ ⟨rfl,rfl⟩ N hN
  grind;refine cD (lg ?_) ?_
  ·have:[a,b][k]=a\/[a,b][k]=b:=by
    have:=z9s hk'
    rwa [z9j,z8b]at this
   rcases this with e|e<;>rw[e]<;>assumption
  refine hN _ _ ⟨?_,rfl⟩;rw[z8k hk',aA,aA,z8g,z8g];rfl
end
section
variable {of:Int}
def Nl(g:Opn M CD C dk pl o nm off)(hn:num<=100)(h:jJ CD C [.ptr o,.int (num:Nat)] M (λx M1=>W1 bF x λy=>Q y M1) EX):jL CD C [.ptr dk,.str "came",.lst (aA [aZ (num:Nat)])] M Q EX:=by
 obtain⟨⟨f,r,u,h1⟩,h2,h3⟩:=g;refine bE rfl ?_;grind;refine ay (λe=>absurd e (by decide)) λ_=>?_
 lia;refine ay (λ_=>?_) λe=>absurd rfl e
 lia;refine ay (λ_=>?_) λe=>absurd rfl e
 lia;refine zv rfl h1 h3 ?_;lia;refine oy ∅ ∅ ?_;lia;exact h
def Nm(hm:M o=some (.ins C c_ (bt S H_ I_ r c of d J0 J1 J4 J5 J6)))(ht:J0<=I_.length)(hd:J5=.non\/∃y,J5=.int y)(hn:J0<I_.length\/J5≠.non\/J1<num)(h:∀x,EX x M):jJ CD C [.ptr o,.int (num:Nat)] M Q EX:=by
 refine bE rfl ?_;grind;refine lB hm ?_;lia;refine gi (λe=>?_) λe=>?_
 ·exact jD (by decide) (h _)
 subst e;rcases hd with rfl|⟨y,rfl⟩
 ·lia
  rw[z8y (show ¬((0:Int)<=(num:Nat)/\((num:Nat):Int)<=(J1:Nat))from λz=>by rcases hn with q|q|q;ext;exact q rfl;ext)];lia;exact jD (by decide) (h _)
 ·lia
  exact jD (by decide) (h _)
def Nn(s:Sale S H_ I_ r c of d)(hm:M o=some (.ins C c_ (bt S H_ I_ r c of d J0 J1 J4 J5 J6)))(h:Q (.tup [.int (((aJ H_ I_ (of ^ S) (ends r c of d S)).getD 0 []).getD S 0),.int ((aQ I_ (of ^ S)).getD 0 0)]) M):oe CD C [.ptr o] M Q:=by refine bT rfl ?_;grind;refine gU ∅ (by rw[i5];ext) ?_;lia;refine bK ∅ (by rw[show(0:Int).toNat=0 from rfl,jP _ _ _ _ _ ∅,i0];ext) ?_;lia;refine bK ∅ (by rw[fq];ext) ?_;lia;rw[show(0:Int).toNat=0 from rfl,z8f];exact h
end
def No{a b:Int}(hb:1<=b):-(a.natAbs:Int)-1<=a / b/\a / b<=a.natAbs:=by
 have h1:=Int.ediv_mul_le a (show b≠0 by ext);have h2:=Int.lt_ediv_add_one_mul_self a (show 0<b by ext);by_cases hq:0<=a / b
 ·have:=z7m hb hq
  constructor<;>ext
 ·have hq':a / b+1<=0:=by ext
  have:=Int.mul_le_mul_of_nonpos_left hq' hb;constructor<;>ext
theorem zx{B:Int}(hB:0<=B):∀(row ys:z_),(∀x∈row,0<=x)->(∀y∈ys,-B<=y/\y<=B)->-(row.sum*B)<=(List.zipWith (λa b=>a*b) row ys).sum/\(List.zipWith (λa b=>a*b) row ys).sum<=row.sum*B
 |[],_,_,_=>by simp
 |x::r,[],h,_=>by have h1:=kZ h;have:=z7z h1 hB;simp only[List.zipWith_nil_right,z4q];ext
 | x::r,y::ys,h,h'=>by
   have ih:=zx hB r ys (λz hz=>h z (z9d _ hz)) λz hz=>h' z (z9d _ hz)
   have hx:=h x z9a;have hy:=h' y z9a;have a1:=z7m hy.2 hx;have a2:=z7m hy.1 hx;rw[z5z,z8t,z8t,Int.add_mul];rw[Int.mul_neg]at a2;ext
def Np{A:Int}{bs:z_}(hr:∀x∈row,0<=x)(hs:0<=row.sum/\row.sum<=7000)(hf:∀x∈H_,1<=x/\x<=1000000)(hsc:1<=scale/\scale<=10 ^ 88)(hA:10 ^ 95<=A)(hb:∀x∈bs,-A<=x/\x<=A):∀x∈gy H_ row scale bs,-(20000*A)<=x/\x<=20000*A:=by
 intro x hx;obtain⟨s,hs',rfl⟩:=z7c.mp hx;have hs':=z7e.mp hs';have hg:∀i,-A<=bs.getD i 0/\bs.getD i 0<=A:=λi=>by
  by_cases hi:i<bs.length
  ·rw[dq _ _ _ hi];exact hb _ (z9s _)
  ·rw[z8c,z4f ∅];simp;ext
 have hc:∀y∈(H_.map λf=>dR f scale bs s)++[bs.getD s 0],-(A+10 ^ 95)<=y/\y<=A+10 ^ 95:=λy hy=>by
  rcases z7g.mp hy with hy|hy
  ·obtain⟨f,hf',rfl⟩:=z7c.mp hy
   have h1:=hf f hf';have h2:f*scale<=1000000*10 ^ 88:=z7t h1.2 hsc.2 ∅ ∅;have h3:0<=f*scale:=z7z ∅ ∅;have g0:=hg 0;have g1:=hg s;have g2:=hg (s-1);simp only[dR];split<;>ext
  ·rw[z8b.mp hy]
   have:=hg s;ext
 have z:=zx (B:=A+10 ^ 95) ∅ row _ hr hc;have m:row.sum*(A+10 ^ 95)<=7000*(A+10 ^ 95):=Int.mul_le_mul_of_nonneg_right hs.2 ∅;have e:ft H_ row scale bs s=(List.zipWith (λa b=>a*b) row ((H_.map λf=>dR f scale bs s)++[bs.getD s 0])).sum:=rfl;rw[<- e]at z;constructor<;>ext
theorem zy{H_:z_}{last:Int}{es:z_}(hf:∀x∈H_,1<=x/\x<=1000000)(hfl:H_.length<=6)(hl:1<=last/\last<=10 ^ 40)(he:∀x∈es,-(10 ^ 95)<=x/\x<=10 ^ 95):∀{ts:List z_},RowsOk H_.length ts->ts.length<=8->∀x∈(aJ H_ ts last es).headD [],-(10 ^ 95*20000 ^ ts.length)<=x/\x<=10 ^ 95*20000 ^ ts.length
 |[],_,_,x,hx=>by have:=he x (by simpa [aJ]using hx);simpa using this
 | r::rs,h,h8,x,hx=>by
   have hrs:RowsOk H_.length rs:=λq hq=>h q (z9d _ hq)
   have ih:=zy hf hfl hl he hrs (by simp at h8;ext);have hr:=h r z9a;have hsum:0<=r.sum/\r.sum<=7000:=by
    have h4:=qK (b:=1000) λx hx=>(hr.2.1 x hx).2
    exact⟨by ext,by ext⟩
   have hsc:=za ∅ hl.1 hl.2 hrs (by simp at h8;ext);have hp:(1:Int)<=20000 ^ rs.length:=by
    have:∀n:Nat,(1:Int)<=20000 ^ n:=λn=>by
     induction n with
     |zero=>simp
     |succ n ih=>rw[z7s];ext
    exact this _
   have hA:(10 ^ 95:Int)<=10 ^ 95*20000 ^ rs.length:=by ext
   have:=Np (λx hx=>(hr.2.1 x hx).1) hsum hf hsc hA ih x (by simpa [aJ]using hx);rw[z9e,z7s];constructor<;>ext
def Nq{o:Int}(hS:S<=10)(hr:0<=r/\r<=1000)(hc:0<=c/\c<=o)(ho:o<=1000)(h1:1<=o)(hd:0<=d/\d<=1000000):∀x∈ends r c o d S,-(10 ^ 95)<=x/\x<=10 ^ 95:=by
 intro x hx;obtain⟨l,hl,rfl⟩:=z7c.mp hx;have hl:=z7e.mp hl;have hn:S-l<=10:=by ext
 generalize S-l=n at hn;have a1:=yS (r:=r) hc.1 (show 0<=o-c by ext) n;have a2:=yT hr.1 hc.1 (show 0<=o-c by ext) n;rw[show c+(o-c)=o by ext]at a2;have a3:o ^ n<=1000 ^ 10:=gW 10 ∅ ho ∅ hn;have a4:(n:Int)*o ^ n<=10*1000 ^ 10:=z7t ∅ a3 (l5 ∅ n) ∅;have b1:=z7z hd.1 a1;have b2:d*dD r c (o-c) n<=1000000*(10*1000 ^ 10):=z7t hd.2 ∅ a1 ∅;have c1:=l5 (show 0<=o by ext) l;have c2:o ^ l<=1000 ^ 10:=gW 10 ∅ ho ∅ ∅;have e:iV r c o d n l = -(d*dD r c (o-c) n*o ^ l):=by rw[iV,z5j,z5j]
 have m1:d*dD r c (o-c) n*o ^ l<=1000000*(10*1000 ^ 10)*1000 ^ 10:=z7t b2 c2 c1 ∅;have m2:=z7z b1 c1;rw[e];constructor<;>ext
def oC{of:Int}(s:Sale S H_ I_ r c of d){t i:Nat}(ht:t<=I_.length):-(10 ^ 130)<=((aJ H_ I_ (of ^ S) (ends r c of d S)).getD t []).getD i 0/\((aJ H_ I_ (of ^ S) (ends r c of d S)).getD t []).getD i 0<=10 ^ 130:=by
 rw[t6 _ _ _ _ _ ht];have t1:=s.t1;have p0:(1:Int)<=of ^ S:=by
  have:∀n:Nat,(1:Int)<=of ^ n:=λn=>by
   induction n with
   |zero=>simp
   |succ n ih=>rw[z7s];have:=z7t ih s.o1 ∅ ∅;ext
  exact this S
 have p1:of ^ S<=1000 ^ 10:=gW 10 (by have:=s.o1;ext) s.o2 ∅ s.hS;have hb:=zy (es:=ends r c of d S) (last:=of ^ S) s.f3 s.f2 ⟨p0,by ext⟩ (Nq s.hS ⟨s.r1,by have:=s.r2;ext⟩ ⟨s.c1,s.c2⟩ s.o2 s.o1 ⟨s.d1,s.d2⟩) (s.t2.drop (k:=t)) (by rw[z7p];ext);have hp:(20000:Int) ^ (I_.drop t).length<=20000 ^ 8:=gW 8 ∅ ∅ ∅ (by rw[z7p];ext);generalize (aJ H_ (I_.drop t) (of ^ S) (ends r c of d S)).headD []=L at hb ⊢;by_cases hi:i<L.length
 ·have:=hb _ (z9s hi)
  rw[dq _ _ _ hi];constructor<;>ext
 ·rw[z8c,z4f ∅]
  simp
def lI(CD C dk:Nat)(M:Sto)(z:Str)(P:D->Sto->Prop)(R:Sto->Prop):Prop:=∀(Q:QE) (EX:QX),(∀y M1,P y M1->Q y M1)->(∀x M1,R M1->EX x M1)->eX CD C [.ptr dk,.str z] M Q EX
def iX{P:D->Sto->Prop}{R:Sto->Prop}(g:Opn M CD C dk pl o nm off)(hs:lI CD C dk M z P R)(h1:∀y M1,P y M1->Q y M1)(h2:∀M1 M2,R M1->Kp (λ_=>False) M1 M2->Q (.str "refused") M2):lu CD C [.ptr dk,.str z] M Q:=by
 obtain⟨⟨f,r,u,e1⟩,e2,e3⟩:=g;refine bT rfl ?_;grind;refine hs _ _ (λy M1 hy=>?_) λx M1 hx a ha=>?_
 ·lia
  exact h1 y M1 hy
 ·walk_at"env"
  lia;exact h2 _ _ hx (Kp.upd (.inr ha))
def Nr:("ask" : Str)=mkT [97,115,107]:=by decide +kernel
def Nt:("came" : Str)=mkT [99,97,109,101]:=by decide +kernel
def zz:("ask " : Str)=mkT ([97,115,107]++[32]):=by decide +kernel
def Nu:("came " : Str)=mkT ([99,97,109,101]++[32]):=by decide +kernel
def zA{n:y9}(g:fU n):32∉n:=λe=>by have:=let_mem.mp (g.2 _ e);ext
def zB{n:y9}{P:D->Sto->Prop}{R:Sto->Prop}(g:Opn M CD C dk pl o nm off)(gn:fU n)(h:∀(M1:Sto) (Q:QE) (EX:QX),Kp (λ_=>False) M M1->(∀y M2,P y M2->Q y M2)->(∀x M2,R M2->EX x M2)->jK CD C [.ptr dk,.str (mkT n)] M1 (λx M1=>gv CD C [.ptr o,x] M1 (λb M2=>WF iR [b] λy=>Q y M2) EX) EX):lI CD C dk M (mkT ([97,115,107]++[32]++n)) P R:=by
 intro Q EX hq hx;have g0:=g;obtain⟨⟨f,r,u,e1⟩,e2,e3⟩:=g;refine tm (hd:=[97,115,107]) (rest:=[n]) (by rw[aM,z9h];have:=gn.1.2;simp only[z9h,z9e,z9p];ext) (by rw[aM,oq 32 _ _ (by decide),lG 32 n (zA gn)]) (λe=>?_) e1 λM1 k1=>?_
 ·rcases z9j.mp e with e|e
  ·cases e
  ·have:=z8b.mp e
   have h1:=gn.1.1;rw[<- this]at h1;simp at h1
 ·rw[<- Nr]
  exact Nb (g0.keep k1) (h M1 Q EX k1 hq hx)
def iY{wl:y9}{P:D->Sto->Prop}{R:Sto->Prop}(g:Opn M CD C dk pl o nm off)(ew:w=mkT wl)(hl:wl.length<=100)(hn:wl≠[])(hb:32∉wl)(w1:w ≠ "ask")(w2:w ≠ "came")(h:∀(M1:Sto) (Q:QE) (EX:QX),Kp (λ_=>False) M M1->(∀y M2,P y M2->Q y M2)->(∀x M2,R M2->EX x M2)->fm CD C [.ptr dk,.str w] M1 Q EX):lI CD C dk M w P R:=by
 intro Q EX hq hx;have g0:=g;obtain⟨⟨f,r,u,e1⟩,e2,e3⟩:=g;refine tm (hd:=wl) (rest:=[]) (by rw[ew,aM];ext) (by rw[ew,aM,lG 32 _ hb]) (λe=>hn (z8b.mp e).symm) e1 λM1 k1=>?_
 rw[<- ew];exact Nd (g0.keep k1) w1 w2 (h M1 Q EX k1 hq hx)
def zC{P:D->Sto->Prop}{R:Sto->Prop}(g:Opn M CD C dk pl o nm off)(hn:num<=100)(h:∀(M1:Sto) (Q:QE) (EX:QX),Kp (λ_=>False) M M1->(∀y M2,P y M2->Q y M2)->(∀x M2,R M2->EX x M2)->jJ CD C [.ptr o,.int (num:Nat)] M1 (λx M2=>W1 bF x λy=>Q y M2) EX):lI CD C dk M (mkT ([99,97,109,101]++[32]++aZ (num:Nat))) P R:=by
 intro Q EX hq hx;have g0:=g;obtain⟨⟨f,r,u,e1⟩,e2,e3⟩:=g;obtain⟨gn,_,nb,_⟩:=ox (x:=(num:Nat)) ∅ ∅;refine tm (hd:=[99,97,109,101]) (rest:=[aZ (num:Nat)]) (by rw[aM,z9h];have:=gn.1.1.2;simp only[z9h,z9e,z9p];ext) (by rw[aM,oq 32 _ _ (by decide),lG 32 _ nb]) (λe=>?_) e1 λM1 k1=>?_
 ·rcases z9j.mp e with e|e
  ·cases e
  ·have:=z8b.mp e
   have h1:=gn.1.1.1;rw[<- this]at h1;simp at h1
 ·rw[<- Nt]
  exact Nl (g0.keep k1) hn (h M1 Q EX k1 hq hx)
noncomputable abbrev kSt:z0:=["desk","turn","left","coins","done","why"]
structure St (M:Sto) (CD C st dk pl o:Nat) (nm:List y9) (S:Nat) (fs:z_) (ts:List z_) (r c of d:Int) (J0 J1:Nat) (J4:Int) (J5 J6:D) (coins:Int) (done:Bool) (why:D):Prop where
 hs:M st=some (.dic kSt [.ptr dk,.int (J0:Nat),.int ((S-J1:Nat):Int),.int coins,.bl done,why])
 op:Opn M CD C dk pl o nm (bt S fs ts r c of d J0 J1 J4 J5 J6)
 ne:st≠pl
 t:J0<=ts.length
 s:J1<=S
 p0:0<=J4
 p1:J4<=J0*1000000
 du:done=false/\J5=.non/\coins=J4\/done=true/\J0=ts.length/\∃y,J5=.int y/\0<=y/\y<=100000000/\coins=J4-y
 la:J6=.non/\why=.non\/∃l,J6=.tup l/\l.length=4/\(∀x∈l,eY x)/\why=.str (mkT (oA l))
def StE(M:Sto)(CD C st:Nat)(nm:List y9)(S:Nat)(fs:z_)(ts:List z_)(r c of d:Int):Prop:=∃dk pl o J0 J1 J4 J5 J6 coins done why,St M CD C st dk pl o nm S fs ts r c of d J0 J1 J4 J5 J6 coins done why
section
variable {fs:z_}{ts:List z_}{of:Int}
def St.keep{X:Nat->Prop}(g:St M CD C st dk pl o nm S fs ts r c of d J0 J1 J4 J5 J6 coins done why)(k:Kp X M M')(h:¬X st/\¬X dk/\¬X pl/\¬X o):St M' CD C st dk pl o nm S fs ts r c of d J0 J1 J4 J5 J6 coins done why:=by obtain⟨hs,⟨⟨f,r,u,h1⟩,h2,h3⟩,h4,h5,h6,h7,h8,h9,h10⟩:=g;exact⟨k _ _ hs h.1,⟨⟨f,r,u,k _ _ h1 h.2.1⟩,k _ _ h2 h.2.2.1,k _ _ h3 h.2.2.2⟩,h4,h5,h6,h7,h8,h9,h10⟩
def St.nes(g:St M CD C st dk pl o nm S fs ts r c of d J0 J1 J4 J5 J6 coins done why):st≠o/\st≠dk:=by
 obtain⟨hs,⟨⟨f,r,u,h1⟩,h2,h3⟩,_⟩:=g;refine⟨?_,?_⟩
 ·rintro rfl;rw[hs]at h3;cases h3
 ·rintro rfl;rw[hs]at h1;cases h1
def lJ(s:Sale S fs ts r c of d)(ht:J0<ts.length):eY (dE S J1 J0 fs ts r c of d):=by
 unfold dE;split
 ·exact .inl rfl
 ·refine .inr ⟨_,rfl,?_⟩
  have h1:=oC s (t:=J0+1) (i:=S-J1-1) ∅;have h2:=oC s (t:=J0+1) (i:=S-J1) ∅;have h3:=lC s (t:=J0+1) ∅;have h4:=No (a:=((aJ fs ts (of ^ S) (ends r c of d S)).getD (J0+1) []).getD (S-J1-1) 0-((aJ fs ts (of ^ S) (ends r c of d S)).getD (J0+1) []).getD (S-J1) 0) h3.1;constructor<;>ext
def zD(s:Sale S fs ts r c of d)(hs:J1<=S)(ht:J0<ts.length):sH [.int ((aQ ts (of ^ S)).getD (J0+1) 0),DI ((aJ fs ts (of ^ S) (ends r c of d S)).getD (J0+1) []),.int ((S-J1:Nat):Int)]=some (.str (mkT (dP (dE S J1 J0 fs ts r c of d)))):=by
 have hk:=lJ (J1:=J1) s ht;have hsc:=lC s (t:=J0+1) ∅;have hlen:((aJ fs ts (of ^ S) (ends r c of d S)).getD (J0+1) []).length=S+1:=by rw[jP _ _ _ _ _ ∅,i0]
 refine ce (cz (bH rfl ?_));grind;refine ay (λe=>?_) λe=>?_
 ·lia
  rw[tu,dE,if_pos ∅];rfl
 ·lia
  refine bK ∅ ∅ ?_;lia;refine bK ∅ ∅ ?_;lia;rw[show(((S-J1:Nat):Int)-1).toNat=S-J1-1 by ext,z8f,Int.zero_sub];rw[dE,if_neg ∅]at hk ⊢;rcases hk with hk|⟨i,hi,hb⟩
  ·cases hk
  ·cases hi
   refine cD (lg hb) ?_;lia;rfl
def tD{k:Nat}(hk:k<nl.length):ixD (.lst (aA nl)) (.int (k:Nat))=some (.str (mkT nl[k])):=by show atI (aA nl) (k:Nat)=_;unfold atI ixN;rw[if_pos ∅,if_pos (by rw[z9b];ext)];show(aA nl)[((k:Nat):Int).toNat]?=_;rw[z8f,z9z,z9k hk];rfl
def Nv(g:St M CD C st dk pl o nm S fs ts r c of d ts.length J1 J4 J5 J6 coins done why)(h:∀M',StE M' CD C st nm S fs ts r c of d->Q (.bl true) M'):
  hZ CD C [.ptr st,cm S fs ts r c of d,DI (aQ ts (of ^ S)),DII (aJ fs ts (of ^ S) (ends r c of d S)),.lst (aA nl),.non] M Q:=by
 have e0:=g.hs;refine bT rfl ?_;unfold cm;grind;refine iX g.op (iY (P:=λ_ _=>False) (R:=Kp (λ_=>False) M) g.op (wl:=[113,117,105,101,116]) (by decide +kernel) (by decide) (by decide) (by decide) (by decide) (by decide) λM1 Q EX k1 hq hx=>?_) (λ_ _ z=>z.elim) λM1 M2 k1 k2=>?_
 ·exact zw (g.op.keep k1) (zu (g.op.keep k1).ho (hx _ _ k1))
 ·have kk:Kp (λ_=>False) M M2:=k1.trans k2 λ_ z _=>z
  have g2:=g.keep kk ⟨id,id,id,id⟩;have e2:=g2.hs;lia;refine ay (λ_=>?_) λe=>absurd (by simp) e
  lia;rw[z9w rfl];exact h M2 ⟨_,_,_,_,_,_,_,_,_,_,_,g2⟩
def i8(h:n<=100):eY (.int (n:Nat)):=.inr ⟨_,rfl,by constructor<;>ext⟩
def zE{a b e f:D}(ha:eY a)(hb:eY b)(he:eY e)(hf:eY f){K:D->Prop}(h:K (.str (mkT (oA [a,b,e,f])))):W1 (eV (.str (mkT [32]))) (.lst [.str (mkT (dP a)),.str (mkT (dP b)),.str (mkT (dP e)),.str (mkT (dP f))]) K:=by have l1:=lH ha;have l2:=lH hb;have l3:=lH he;have l4:=lH hf;refine jH (ls:=[dP a,dP b,dP e,dP f]) (by rw[aM];simp only[z9e,z9p,z9n,z7v,z8t,z4q];ext) ?_;rw[aM];exact h
def St.next{M1:Sto}{l:n_}(g:St M CD C st dk pl o nm S fs ts r c of d J0 J1 J4 J5 J6 coins done why)(ht:J0<ts.length)(k1:Kp (· = o) M M1)(m1:M1 o=some (.ins C c_ (bt S fs ts r c of d (J0+1) (J1+(if b=true then 1 else 0)) (J4+(if b=true then f else 0)) J5 (.tup l))))(hb:b=true->J1<S)(h0:0<=f)(h1:f<=1000000)(hl:l.length=4)(hk:∀x∈l,eY x):
  StE (aB M1 st (.dic kSt [.ptr dk,.int ((J0:Int)+1),.int (((S-J1:Nat):Int)-(if b=true then 1 else 0)),.int (coins+(if b=true then f else 0)),.bl done,.str (mkT (oA l))])) CD C st nm S fs ts r c of d:=by
 obtain⟨no,nd⟩:=g.nes;have g1:=g.op.upd k1 m1;obtain⟨hs,_,n1,t,gs,p0,p1,du,la⟩:=g;obtain⟨⟨f',r',u,q1⟩,q2,q3⟩:=g1;refine⟨dk,pl,o,_,_,_,J5,_,coins+(if b=true then f else 0),done,_,?_,⟨⟨f',r',u,(aH (Ne.symm nd)).trans q1⟩,(aH (Ne.symm n1)).trans q2,(aH (Ne.symm no)).trans q3⟩,n1,by ext,?_,?_,?_,?_,.inr ⟨l,rfl,hl,hk,rfl⟩⟩
 ·rw[az,show((J0+1:Nat):Int)=(J0:Int)+1 by ext,show((S-(J1+(if b=true then 1 else 0)):Nat):Int)=((S-J1:Nat):Int)-(if b=true then 1 else 0)by cases b<;>simp at hb ⊢;ext]
 ·cases b<;>simp at hb ⊢<;>ext
 ·split<;>ext
 ·split<;>ext
 ·rcases du with⟨q1,q2,q3⟩|⟨_,q,_⟩
  ·exact .inl ⟨q1,q2,by rw[q3]⟩
  ·ext
def Nw(s:Sale S fs ts r c of d)(g:St M CD C st dk pl o nm S fs ts r c of d J0 J1 J4 J5 J6 coins done why)(ht:J0<ts.length)(h:∀M',StE M' CD C st nm S fs ts r c of d->Q (.bl true) M'):
  hZ CD C [.ptr st,cm S fs ts r c of d,DI (aQ ts (of ^ S)),DII (aJ fs ts (of ^ S) (ends r c of d S)),.lst (aA nl),.non] M Q:=by
 have e0:=g.hs;have t1:=s.t1;have hS:=s.hS;have gs:=g.s;obtain⟨no,_⟩:=g.nes;refine bT rfl ?_;unfold cm;grind;refine iX g.op (iY (R:=λ_=>False) (P:=λy M1=>y=.str "no"/\Kp (· = o) M M1/\M1 o=some (.ins C c_ (bt S fs ts r c of d (J0+1) J1 J4 J5 (.tup [.int (J0:Nat),.int ((S-J1:Nat):Int),dE S J1 J0 fs ts r c of d,.non])))) g.op (wl:=[113,117,105,101,116]) (by decide +kernel) (by decide) (by decide) (by decide) (by decide) (by decide) λM1 Q EX k1 hq hx=>?_) (λy M1 hy=>?_) λM1 M2 z _=>z.elim
 ·refine zw (g.op.keep k1) (Mn s (g.op.keep k1).ho g.s ht λM2 m2 k2=>?_)
  exact bi zq (hq _ _ ⟨rfl,λb cc hb hn=>k2 b cc (k1 b cc hb id) hn,m2⟩)
 ·obtain⟨rfl,k1,m1⟩:=hy
  have e1:=k1 _ _ e0 no;lia;refine ay (λe=>absurd e (by simp only[z9b];ext)) λ_=>?_
  lia;refine gU ∅ (by rw[i5];ext) ?_;lia;refine bK ∅ (by rw[fq];ext) ?_;lia;rw[show((J0:Int)+1).toNat=J0+1 by ext];refine bi (zD s gs ht) ?_;lia;refine cD (lg ⟨by ext,by ext⟩) ?_;lia;refine cD (lg ⟨by ext,by ext⟩) ?_;lia;rw[tu,fR];refine zE (a:=.int (J0:Nat)) (b:=.int ((S-J1:Nat):Int)) (e:=dE S J1 J0 fs ts r c of d) (f:=.non) (i8 ∅) (i8 ∅) (lJ s ht) (.inl rfl) ?_;lia;refine⟨st,_,rfl,e1,?_⟩;lia;refine⟨st,_,rfl,az,?_⟩;lia;refine bi (rfl:ar iA [.bl false]=some (.int 0)) ?_;lia;refine⟨st,_,rfl,az,?_⟩;rw[cj,cj];lia;refine bi (rfl:ar iA [.bl false]=some (.int 0)) ?_;lia;rw[z9w rfl];have nx:=g.next (b:=false) (f:=0) (l:=[.int (J0:Nat),.int ((S-J1:Nat):Int),dE S J1 J0 fs ts r c of d,.non]) ht k1 (by simpa using m1) (λz=>nomatch z) ∅ ∅ rfl (λx hx=>by
   simp only[z9j,z7r,z5w]at hx;rcases hx with rfl|rfl|rfl|rfl
   ·exact i8 ∅
   ·exact i8 ∅
   ·exact lJ s ht
   ·exact .inl rfl)
  refine h _ ?_;simpa using nx
end
section
variable {fs:z_}{ts:List z_}{of:Int}
def zF{k:Nat}(hn:nl.length=9)(hf:fs.length<=6)(hk:k<fs.length):∃h:k<(nl.take fs.length).length,(nl.take fs.length)[k]=nl[k]'(by ext):=⟨by rw[z8j];ext,List.getElem_take⟩
def Names.nin{k:Nat}(hn:Names nl)(h:k<=6):nl[k]'(by rw[hn.len];ext)∉nl.take k:=by have hp:=hn.nd;intro hm;obtain⟨j,hj,e⟩:=List.mem_iff_getElem.mp hm;rw[List.getElem_take]at e;rw[z8j]at hj;rw[List.Nodup,List.pairwise_iff_getElem]at hp;exact hp j k ∅ (by rw[hn.len];ext) ∅ e
def Nx{k:Nat}(s:Sale S fs ts r c of d)(hn:Names nl)(hk:k<=fs.length)(g:St M CD C st dk pl o (nl.take fs.length) S fs ts r c of d J0 J1 J4 J5 J6 coins done why)(hr:J0=ts.length\/k=fs.length)(h:∀M',StE M' CD C st (nl.take fs.length) S fs ts r c of d->Q (.bl true) M'):
  hZ CD C [.ptr st,cm S fs ts r c of d,DI (aQ ts (of ^ S)),DII (aJ fs ts (of ^ S) (ends r c of d S)),.lst (aA nl),.int (k:Nat)] M Q:=by
 have e0:=g.hs;have f2:=s.f2;have gt:=g.t;have hl:=hn.len;have gn:=hn.ok _ (z9s (show k<nl.length by ext));refine bT rfl ?_;unfold cm;grind;refine iC (tD (show k<nl.length by ext)) ?_;rw[zz];refine dO (by have:=gn.1.2;simp only[z9h,z9e,z9p];ext) ?_;lia;refine iX g.op (zB (P:=λ_ _=>False) (R:=Kp (λ_=>False) M) g.op gn λM1 Q EX k1 hq hx=>?_) (λ_ _ z=>z.elim) λM1 M2 k1 k2=>?_
 ·by_cases e:k=fs.length
  ·subst e
   exact Na (g.op.keep k1) (hn.nin f2) gn (hx _ _ k1)
  ·obtain⟨hk',ek⟩:=zF (k:=k) hl f2 ∅
   rw[<- ek];refine zt (g.op.keep k1) hk' (hn.nd.sublist (z3c _ _)) ?_;have et:J0=ts.length:=by ext
   have ho:=(g.op.keep k1).ho;rw[et]at ho;exact zu ho (hx _ _ k1)
 ·have kk:Kp (λ_=>False) M M2:=k1.trans k2 λ_ z _=>z
  have g2:=g.keep kk ⟨id,id,id,id⟩;have e2:=g2.hs;have fin:Q (.bl true) M2:=h M2 ⟨_,_,_,_,_,_,_,_,_,_,_,g2⟩;lia;refine ay (λ_=>?_) λe=>?_
  ·lia
   rw[z9w rfl];exact fin
  ·lia
   refine ay (λ_=>?_) λe2=>absurd (by simp only[z9b]at e ⊢;ext) e2
   lia;rw[z9w rfl];exact fin
def Ny{P:Prop}[Decidable P]{f:FE}{K:D->Prop}(h1:P->WE f U λd=>d=.bl b)(h2:¬P->b=false)(h:K (.bl b)):kIf (decide P) (WE f U K) (K (.bl false)):=
 ay (λp=>F4 (h1 p) λ_ e=>e▸h) λp=>by have:=h2 p;subst this;exact h
def tE:ar iA [.bl b]=some (.int (if b=true then 1 else 0)):=by cases b<;>rfl
def Nz{K:D->Prop}(h:K (.str (if b=true then "yes" else "no"))):W2 ixD (.lst [.str "no",.str "yes"]) (.int (if b=true then 1 else 0)) K:=by
 cases b
 ·exact iC rfl h
 ·exact iC rfl h
def NB{k:Nat}(s:Sale S fs ts r c of d)(hn:Names nl)(hk:k<fs.length)(g:St M CD C st dk pl o (nl.take fs.length) S fs ts r c of d J0 J1 J4 J5 J6 coins done why)(ht:J0<ts.length)(h:∀M',StE M' CD C st (nl.take fs.length) S fs ts r c of d->Q (.bl true) M'):
  hZ CD C [.ptr st,cm S fs ts r c of d,DI (aQ ts (of ^ S)),DII (aJ fs ts (of ^ S) (ends r c of d S)),.lst (aA nl),.int (k:Nat)] M Q:=by
 have e0:=g.hs;have f2:=s.f2;have t1:=s.t1;have hS:=s.hS;have gs:=g.s;have hl:=hn.len;have hf:1<=fs.getD k 0/\fs.getD k 0<=1000000:=by rw[dq _ _ _ hk];exact s.f3 _ (z9s _)
 have hlen:((aJ fs ts (of ^ S) (ends r c of d S)).getD (J0+1) []).length=S+1:=by rw[jP _ _ _ _ _ ∅,i0]
 obtain⟨no,_⟩:=g.nes;have gn:=hn.ok _ (z9s (show k<nl.length by ext));refine bT rfl ?_;unfold cm;grind;refine iC (tD (show k<nl.length by ext)) ?_;rw[zz];refine dO (by have:=gn.1.2;simp only[z9h,z9e,z9p];ext) ?_;lia;generalize eb:lA (fs.getD k 0) ((aQ ts (of ^ S)).getD (J0+1) 0) ((aJ fs ts (of ^ S) (ends r c of d S)).getD (J0+1) []) (S-J1)=b;refine iX g.op (zB (R:=λ_=>False) (P:=λy M1=>y=.str (if b=true then "yes" else "no")/\Kp (· = o) M M1/\M1 o=some (.ins C c_ (bt S fs ts r c of d (J0+1) (J1+(if b=true then 1 else 0)) (J4+(if b=true then fs.getD k 0 else 0)) J5 (.tup [.int (J0:Nat),.int ((S-J1:Nat):Int),dE S J1 J0 fs ts r c of d,.int (fs.getD k 0)])))) g.op gn λM1 Q EX k1 hq hx=>?_) (λy M1 hy=>?_) λM1 M2 z _=>z.elim
 ·obtain⟨hk',ek⟩:=zF (k:=k) hl f2 hk
  rw[<- ek];refine zt (g.op.keep k1) hk' (hn.nd.sublist (z3c _ _)) ?_;refine Mo s (g.op.keep k1).ho g.s ht hk eb λM2 m2 k2=>?_
  exact bi zq (hq _ _ ⟨rfl,λb cc hb hn=>k2 b cc (k1 b cc hb id) hn,m2⟩)
 ·obtain⟨rfl,k1,m1⟩:=hy
  have e1:=k1 _ _ e0 no;lia;refine ay (λe=>absurd e (by simp only[z9b];ext)) λ_=>?_
  lia;refine ay (λe=>absurd e (by simp only[z9b];ext)) λ_=>?_
  lia;refine gU ∅ (by rw[i5];ext) ?_;lia;refine bK ∅ ∅ ?_;lia;rw[show((J0:Int)+1).toNat=J0+1 by ext,z8f];refine Ny (b:=b) (λhp=>?_) (λhp=>?_) ?_
  ·walk_at"env"
   lia;refine bK ∅ (by rw[fq];ext) ?_;lia;refine bK ∅ ∅ ?_;lia;refine bK ∅ ∅ ?_;lia;rw[show((J0:Int)+1).toNat=J0+1 by ext,show(((S-J1:Nat):Int)-1).toNat=S-J1-1 by ext,z8f,<- eb];exact z8w D.bl (z6u.mpr ⟨λz=>⟨by ext,z⟩,λz=>z.2⟩)
  ·rw[<- eb]
   exact z8y λz=>hp ∅
  lia;refine cD (lg ⟨by ext,by ext⟩) ?_;lia;refine bi tE ?_;have hi:0<=(if b=true then(1:Int)else 0)/\(if b=true then(1:Int)else 0)<=1:=by split<;>ext
  have hfi:fs.getD k 0*(if b=true then(1:Int)else 0)=if b=true then fs.getD k 0 else 0:=by split<;>ext
  refine qG (mX ∅ ∅) ?_;rw[hfi];lia;refine⟨st,_,rfl,e1,?_⟩;lia;refine bK ∅ (by rw[fq];ext) ?_;lia;rw[show((J0:Int)+1).toNat=J0+1 by ext];refine bi (zD s gs ht) ?_;lia;refine cD (lg ⟨by ext,by ext⟩) ?_;lia;refine cD (lg ⟨by ext,by ext⟩) ?_;lia;have df:eY (.int (fs.getD k 0)):=.inr ⟨_,rfl,by constructor<;>ext⟩;rw[fR];refine zE (a:=.int (J0:Nat)) (b:=.int ((S-J1:Nat):Int)) (e:=dE S J1 J0 fs ts r c of d) (f:=.int (fs.getD k 0)) (i8 ∅) (i8 ∅) (lJ s ht) df ?_;lia;refine⟨st,_,rfl,az,?_⟩;lia;refine⟨st,_,rfl,az,?_⟩;lia;refine bi tE ?_;lia;refine⟨st,_,rfl,az,?_⟩;rw[cj,cj,cj];lia;refine bi tE (Nz ?_);lia;rw[z9w rfl];refine h _ (g.next (b:=b) (f:=fs.getD k 0) (l:=[.int (J0:Nat),.int ((S-J1:Nat):Int),dE S J1 J0 fs ts r c of d,.int (fs.getD k 0)]) ht k1 m1 (λz=>?_) ∅ ∅ rfl λx hx=>?_)
  ·rw[z]at eb
   have:=(z6o eb).1;ext
  ·simp only[z9j,z7r,z5w]at hx
   rcases hx with rfl|rfl|rfl|rfl
   ·exact i8 ∅
   ·exact i8 ∅
   ·exact lJ s ht
   ·exact df
end
section
variable {fs:z_}{ts:List z_}{of:Int}
def NC(s:Sale S fs ts r c of d)(hnum:num<=11)(g:St M CD C st dk pl o nm S fs ts r c of d J0 J1 J4 J5 J6 coins done why)(h:∀M',StE M' CD C st nm S fs ts r c of d->Q (.bl true) M'):
  sS CD C [.ptr st,cm S fs ts r c of d,.int (num:Nat)] M Q:=by
 have e0:=g.hs;have t1:=s.t1;have hS:=s.hS;have gs:=g.s;have gt:=g.t;have p0:=g.p0;have p1:=g.p1;have d1:=s.d1;have d2:=s.d2;have r1:=s.r1;have r2:=s.r2;obtain⟨no,nd⟩:=g.nes;obtain⟨gn,_,_,_⟩:=ox (x:=(num:Nat)) ∅ ∅;refine bT rfl ?_;unfold cm;grind;refine cD (lg ⟨by ext,by ext⟩) ?_;rw[Nu];refine dO (by have:=gn.1.1.2;simp only[z9h,z9e,z9p];ext) ?_;lia;by_cases hok:J0=ts.length/\done=false/\num<=J1
 ·obtain⟨et,ed,en⟩:=hok
  obtain⟨_,edu,ec⟩:done=false/\J5=.non/\coins=J4:=by
   rcases g.du with q|⟨q,_⟩
   ·exact q
   ·rw[ed]at q;cases q
  subst et edu ec ed;have hm0:0<=max ((num:Int)-r) 0/\max ((num:Int)-r) 0<=11:=by ext
  have hx0:0<=d*max ((num:Int)-r) 0:=z7z d1 hm0.1;have hx1:d*max ((num:Int)-r) 0<=1000000*11:=z7t d2 hm0.2 hm0.1 ∅;refine iX g.op (zC (R:=λ_=>False) (P:=λy M1=>y=.str (mkT (aZ (coins-d*max ((num:Int)-r) 0)))/\Kp (· = o) M M1/\M1 o=some (.ins C c_ (bt S fs ts r c of d ts.length J1 coins (.int (d*max ((num:Int)-r) 0)) J6))) g.op ∅ λM1 Q EX k1 hq hx=>?_) (λy M1 hy=>?_) λM1 M2 z _=>z.elim
  ·refine Mr s (g.op.keep k1).ho en λM2 m2 k2=>?_
   exact LC (lg ⟨by ext,by ext⟩) (hq _ _ ⟨rfl,λb cc hb hn=>k2 b cc (k1 b cc hb id) hn,m2⟩)
  ·obtain⟨rfl,k1,m1⟩:=hy
   have e1:=k1 _ _ e0 no;lia;refine ay (λe=>absurd e (by simp only[z9b];ext)) λ_=>?_
   lia;refine ay (λe=>absurd e ∅) λ_=>?_
   lia;refine⟨st,_,rfl,e1,?_⟩;lia;refine⟨st,_,rfl,az,?_⟩;rw[cj];lia;rw[show max (0:Int) ((num:Int)-r)=max ((num:Int)-r) 0 from Int.max_comm ..];rw[show List.map (vw1 (aB M1 st (.dic kSt (([.ptr dk,.int (ts.length:Nat),.int ((S-J1:Nat):Int),.int coins,.bl false,why].set 4 (.bl true)).set 3 (.int (coins-d*max ((num:Int)-r) 0)))))) [D.int (coins-d*max ((num:Int)-r) 0)]=[D.int (coins-d*max ((num:Int)-r) 0)]from rfl];refine cD (lg ⟨by ext,by ext⟩) ?_;lia;rw[z9w rfl];have g1:=g.op.upd k1 m1;obtain⟨_,_,n1,_,_,_,_,_,la⟩:=g;obtain⟨⟨f',r',u,q1⟩,q2,q3⟩:=g1;refine h _ ⟨dk,pl,o,ts.length,J1,coins,_,J6,coins-d*max ((num:Int)-r) 0,true,why,az,⟨⟨f',r',u,(aH (Ne.symm nd)).trans q1⟩,(aH (Ne.symm n1)).trans q2,(aH (Ne.symm no)).trans q3⟩,n1,gt,gs,p0,p1,.inr ⟨rfl,rfl,_,rfl,hx0,by ext,rfl⟩,la⟩
 ·refine iX g.op (zC (P:=λ_ _=>False) (R:=Kp (λ_=>False) M) g.op ∅ λM1 Q EX k1 hq hx=>?_) (λ_ _ z=>z.elim) λM1 M2 k1 k2=>?_
  ·have gd:=g.du
   refine Nm (g.op.keep k1).ho gt ?_ ?_ λx=>hx _ _ k1
   ·rcases gd with⟨_,q,_⟩|⟨_,_,y,q,_⟩
    ·exact .inl q
    ·exact .inr ⟨y,q⟩
   ·by_cases q1:J0<ts.length
    ·exact .inl q1
    ·refine .inr ?_
     by_cases q2:J5=.non
     ·refine .inr (Nat.lt_of_not_le λq3=>hok ⟨by ext,?_,q3⟩)
      rcases gd with⟨q,_⟩|⟨_,_,y,q,_⟩
      ·exact q
      ·rw[q2]at q;cases q
     ·exact .inl q2
  ·have kk:Kp (λ_=>False) M M2:=k1.trans k2 λ_ z _=>z
   have g2:=g.keep kk ⟨id,id,id,id⟩;have e2:=g2.hs;have fin:Q (.bl true) M2:=h M2 ⟨_,_,_,_,_,_,_,_,_,_,_,g2⟩;lia;refine ay (λ_=>?_) λq1=>?_
   ·lia
    rw[z9w rfl];exact fin
   ·simp only[z9b]at q1
    cases done with
    |true=>lia;rw[z9w rfl];exact fin
    | false=>
      lia;refine ay (λ_=>?_) λq2=>absurd ⟨by ext,rfl,by ext⟩ hok
      lia;rw[z9w rfl];exact fin
end
noncomputable abbrev jS:z0:=["left","turns","coins","worth","why"]
def zG(S:Nat)(fs:z_)(ts:List z_)(r c of d:Int):y9:=aZ (((aJ fs ts (of ^ S) (ends r c of d S)).getD 0 []).getD S 0)++[32,111,102,32]++aZ ((aQ ts (of ^ S)).getD 0 0)
def ND(S:Nat)(fs:z_)(ts:List z_)(r c of d:Int)(J0 J1:Nat)(coins:Int)(wv:Str):n_:=[.str (mkT (aZ ((S-J1:Nat):Int))),.str (mkT (aZ (J0:Nat))),.str (mkT (aZ coins)),.str (mkT (zG S fs ts r c of d)),.str wv]
section
variable {fs:z_}{ts:List z_}{of:Int}
def St.cb(s:Sale S fs ts r c of d)(g:St M CD C st dk pl o nm S fs ts r c of d J0 J1 J4 J5 J6 coins done why):Bd coins:=by
 have:=s.t1;have:=g.t;have:=g.p0;have:=g.p1;rcases g.du with⟨_,_,q⟩|⟨_,_,y,_,q1,q2,q3⟩
 ·constructor<;>ext
 ·constructor<;>ext
def lK{v wv:Str}(s:Sale S fs ts r c of d)(g:St M CD C st dk pl o nm S fs ts r c of d J0 J1 J4 J5 J6 coins done why)(hwv:why=.non/\wv="refused"\/why=.str wv)(hv:er jS (ND S fs ts r c of d J0 J1 coins wv) w=some (.str v))(hw:∀M',St M' CD C st dk pl o nm S fs ts r c of d J0 J1 J4 J5 J6 coins done why->lI CD C dk M' w (λy M1=>y=.str v/\Kp (λ_=>False) M' M1) (λM1=>v="refused"/\Kp (λ_=>False) M' M1))(h:∀M',StE M' CD C st nm S fs ts r c of d->Kp (λ_=>False) M M'->Q (.bl true) M'):
  lw CD C [.ptr st,cm S fs ts r c of d,DI (aQ ts (of ^ S)),DII (aJ fs ts (of ^ S) (ends r c of d S)),.str w] M Q:=by
 have e0:=g.hs;have t1:=s.t1;have hS:=s.hS;have gt:=g.t;have cb:=g.cb s;have tb:=oC s (t:=0) (i:=S) ∅;have sb:=lC s (t:=0) ∅;have la:=i7 (i:=((aJ fs ts (of ^ S) (ends r c of d S)).getD 0 []).getD S 0) ⟨by ext,by ext⟩;have lb:=i7 (i:=(aQ ts (of ^ S)).getD 0 0) ⟨by ext,by ext⟩;refine bT rfl ?_;unfold cm;grind;refine Ly λa ha=>?_
 have na:st≠a:=λe=>by rw[e,ha]at e0;cases e0
 have e1:∀cc,aB M a cc st=some (.dic kSt [.ptr dk,.int (J0:Nat),.int ((S-J1:Nat):Int),.int coins,.bl done,why]):=λcc=>(aH na).trans e0
 have e1':=e1 (.dic [] []);lia;rw[show ∀x:Int,List.map (vw1 (aB M a (.dic [] []))) [D.int x]=[D.int x]from λ_=>rfl];refine cD (lg ⟨by ext,by ext⟩) ?_;lia;rw[show ∀x:Int,List.map (vw1 (aB M a (.dic [] []))) [D.int x]=[D.int x]from λ_=>rfl];refine cD (lg ⟨by ext,by ext⟩) ?_;lia;rw[show ∀x:Int,List.map (vw1 (aB M a (.dic [] []))) [D.int x]=[D.int x]from λ_=>rfl];refine cD (lg cb) ?_;lia;refine⟨az,?_⟩;rw[cj];lia;refine gU ∅ (by rw[i5];ext) ?_;lia;refine bK ∅ (by rw[show(0:Int).toNat=0 from rfl,jP _ _ _ _ _ ∅,i0];ext) ?_;lia;rw[show(0:Int).toNat=0 from rfl,z8f];refine cD (lg ⟨by ext,by ext⟩) ?_;lia;rw[tz];refine dO (by simp only[z9e,z9p];ext) ?_;lia;refine bK ∅ (by rw[fq];ext) ?_;lia;rw[show(0:Int).toNat=0 from rfl];refine cD (lg ⟨by ext,by ext⟩) ?_;refine dO (by simp only[z9h,z9e,z9p];ext) ?_;lia;refine⟨a,_,rfl,az,?_⟩;rw[cj];lia;refine nF rfl (e1 _) rfl ?_;lia;refine⟨a,_,rfl,az,?_⟩;rw[cj];lia;refine nF rfl (e1 _) rfl ?_;have g3:∀cc,St (aB M a cc) CD C st dk pl o nm S fs ts r c of d J0 J1 J4 J5 J6 coins done why:=λcc=>g.keep (X:=λ_=>False) (Kp.upd (.inr ha)) ⟨id,id,id,id⟩
 rcases hwv with⟨rfl,rfl⟩|rfl
 lia;refine⟨a,_,rfl,az,?_⟩;rw[cj]
 all_goals
  lia
  try (with_reducible refine Fp (d:=.bl false) rfl ?_);lia
  refine nF rfl (e1 _) rfl ?_;lia;refine iX (g3 _).op (hw _ (g3 _)) (λy M1 hy=>?_) λM1 M2 hr k2=>?_
  ·obtain⟨rfl,k1⟩:=hy
   lia;refine⟨a,_,_,_,_,rfl,rfl,k1 _ _ az id,hv,?_⟩;lia;rw[z9w rfl];exact h _ ⟨_,_,_,_,_,_,_,_,_,_,_,(g3 _).keep k1 ⟨id,id,id,id⟩⟩ ((Kp.upd (.inr ha)).trans k1 λ_ z _=>z)
  ·obtain⟨ev,k1⟩:=hr
   have kk:=k1.trans k2 λ_ z _=>z
   lia;refine⟨a,_,_,_,_,rfl,rfl,kk _ _ az id,hv,?_⟩;lia;rw[ev,z9w rfl];exact h _ ⟨_,_,_,_,_,_,_,_,_,_,_,(g3 _).keep kk ⟨id,id,id,id⟩⟩ ((Kp.upd (.inr ha)).trans kk λ_ z _=>z)
end
section
variable {fs:z_}{ts:List z_}{of:Int}
def NF{a0 a1 a2 a3 a4:D}:er jS [a0,a1,a2,a3,a4] "left"=some a0/\er jS [a0,a1,a2,a3,a4] "turns"=some a1/\er jS [a0,a1,a2,a3,a4] "coins"=some a2/\er jS [a0,a1,a2,a3,a4] "worth"=some a3/\er jS [a0,a1,a2,a3,a4] "why"=some a4:=
 ⟨rfl,rfl,rfl,rfl,rfl⟩
def zH(hw:w∈(["worth","why","left","turns","coins"]:z0))(s:Sale S fs ts r c of d)(g:StE M CD C st nm S fs ts r c of d)(h:∀M',StE M' CD C st nm S fs ts r c of d->Kp (λ_=>False) M M'->Q (.bl true) M'):
  lw CD C [.ptr st,cm S fs ts r c of d,DI (aQ ts (of ^ S)),DII (aJ fs ts (of ^ S) (ends r c of d S)),.str w] M Q:=by
 obtain⟨dk,pl,o,J0,J1,J4,J5,J6,coins,done,why,g⟩:=g;have t1:=s.t1;have hS:=s.hS;have gt:=g.t;have gs:=g.s;have cb:=g.cb s;have tb:=oC s (t:=0) (i:=S) ∅;have sb:=lC s (t:=0) ∅;obtain⟨wv,hwv⟩:∃wv:Str,why=.non/\wv="refused"\/why=.str wv:=by
  rcases g.la with⟨_,q⟩|⟨l,_,_,_,q⟩
  ·exact⟨_,.inl ⟨q,rfl⟩⟩
  ·exact⟨_,.inr q⟩
 obtain⟨v1,v2,v3,v4,v5⟩:=NF (a0:=.str (mkT (aZ ((S-J1:Nat):Int)))) (a1:=.str (mkT (aZ (J0:Nat)))) (a2:=.str (mkT (aZ coins))) (a3:=.str (mkT (zG S fs ts r c of d))) (a4:=.str wv);simp only[z9j,z7r,z5w]at hw;rcases hw with rfl|rfl|rfl|rfl|rfl
 ·refine lK s g hwv v4 (λM' g'=>iY g'.op (wl:=[119,111,114,116,104]) (by decide +kernel) (by decide) (by decide) (by decide) (by decide) (by decide) λM1 Q EX k1 hq hx=>?_) h
  exact Nk (g'.op.keep k1) (λQ' hQ=>Nn s (g'.op.keep k1).ho hQ) ⟨by ext,by ext⟩ ⟨by ext,by ext⟩ (hq _ _ ⟨rfl,k1⟩)
 ·refine lK s g hwv v5 (λM' g'=>iY g'.op (wl:=[119,104,121]) (by decide +kernel) (by decide) (by decide) (by decide) (by decide) (by decide) λM1 Q EX k1 hq hx=>?_) h
  have op:=g'.op.keep k1;rcases g.la with⟨e1,e2⟩|⟨l,e1,e2,e3,e4⟩
  ·rw[e1]at op
   refine Nj op (hx _ _ ⟨?_,k1⟩);rcases hwv with q|q
   ·exact q.2
   ·rw[e2]at q;cases q
  ·rw[e1]at op
   refine Ni op e2 e3 (hq _ _ ⟨?_,k1⟩);rcases hwv with q|q
   ·rw[e4]at q;cases q.1
   ·rw[<- q,e4]
 ·refine lK s g hwv v1 (λM' g'=>iY g'.op (wl:=[108,101,102,116]) (by decide +kernel) (by decide) (by decide) (by decide) (by decide) (by decide) λM1 Q EX k1 hq hx=>?_) h
  exact Nf (g'.op.keep k1) hS gs (hq _ _ ⟨rfl,k1⟩)
 ·refine lK s g hwv v2 (λM' g'=>iY g'.op (wl:=[116,117,114,110,115]) (by decide +kernel) (by decide) (by decide) (by decide) (by decide) (by decide) λM1 Q EX k1 hq hx=>?_) h
  exact Ng (g'.op.keep k1) ∅ (hq _ _ ⟨rfl,k1⟩)
 ·refine lK s g hwv v3 (λM' g'=>iY g'.op (wl:=[99,111,105,110,115]) (by decide +kernel) (by decide) (by decide) (by decide) (by decide) (by decide) λM1 Q EX k1 hq hx=>?_) h
  refine Nh (x:=coins) (g'.op.keep k1) ?_ cb (hq _ _ ⟨rfl,k1⟩);rcases g.du with⟨_,q1,q2⟩|⟨_,_,y,q1,_,_,q2⟩
  ·exact .inl ⟨q1,q2⟩
  ·exact .inr ⟨y,q1,q2⟩
end
def StP(M:Sto)(CD C st p:Nat)(nm:List y9)(S:Nat)(fs:z_)(ts:List z_)(r c of d:Int):Prop:=∃dk pl o J0 J1 J4 J5 J6 coins done why,St M CD C st dk pl o nm S fs ts r c of d J0 J1 J4 J5 J6 coins done why/\st≠p/\dk≠p/\pl≠p/\o≠p
section
variable {p:Nat}{fs:z_}{ts:List z_}{of:Int}
def StP.keep(g:StP M CD C st p nm S fs ts r c of d)(k:Kp (· = p) M M'):StP M' CD C st p nm S fs ts r c of d:=by obtain⟨dk,pl,o,J0,J1,J4,J5,J6,coins,done,why,g,h1,h2,h3,h4⟩:=g;exact⟨dk,pl,o,J0,J1,J4,J5,J6,coins,done,why,g.keep k ⟨h1,h2,h3,h4⟩,h1,h2,h3,h4⟩
def StE.fresh(g:StE M CD C st nm S fs ts r c of d)(h:M p=none)(k:Kp (λ_=>False) M M'):StP M' CD C st p nm S fs ts r c of d:=by
 obtain⟨dk,pl,o,J0,J1,J4,J5,J6,coins,done,why,g⟩:=g;have n:∀{x:Nat} {cc:Cell},M x=some cc->x≠p:=λ{x cc} hx e=>by rw[e,h]at hx;cases hx
 obtain⟨_,_,_,e1⟩:=g.op.hd;exact⟨dk,pl,o,J0,J1,J4,J5,J6,coins,done,why,g.keep k ⟨id,id,id,id⟩,n g.hs,n e1,n g.op.hp,n g.op.ho⟩
def StP.toE(g:StP M CD C st p nm S fs ts r c of d):StE M CD C st nm S fs ts r c of d:=by obtain⟨dk,pl,o,J0,J1,J4,J5,J6,coins,done,why,g,_⟩:=g;exact⟨dk,pl,o,J0,J1,J4,J5,J6,coins,done,why,g⟩
def zI(s:Sale S fs ts r c of d)(hn:Names nl){x:D}(hx:x=.non\/∃k:Nat,x=.int (k:Nat)/\k<=fs.length)(g:StE M CD C st (nl.take fs.length) S fs ts r c of d)(h:∀M',StE M' CD C st (nl.take fs.length) S fs ts r c of d->Q (.bl true) M'):
  hZ CD C [.ptr st,cm S fs ts r c of d,DI (aQ ts (of ^ S)),DII (aJ fs ts (of ^ S) (ends r c of d S)),.lst (aA nl),x] M Q:=by
 obtain⟨dk,pl,o,J0,J1,J4,J5,J6,coins,done,why,g⟩:=g;have gt:=g.t;rcases hx with rfl|⟨k,rfl,hk⟩
 ·by_cases e:J0=ts.length
  ·subst e
   exact Nv g h
  ·exact Nw s g ∅ h
 ·by_cases e:J0=ts.length\/k=fs.length
  ·exact Nx s hn hk g e h
  ·exact NB s hn ∅ g ∅ h
def NG{ls:z0}{K:D->Prop}(h0:0<=i)(h1:i<(ls.length:Int))(h:∀w∈ls,K (.str w)):W2 ixD (.lst (ls.map D.str)) (.int i) K:=by
 have hi:i.toNat<ls.length:=by ext
 refine mW (d:=.str ls[i.toNat]) ?_ (h _ (z9s _));show atI (ls.map D.str) i=_;unfold atI ixN;rw[if_pos h0,if_pos (by rw[z9b];exact h1)];show(ls.map D.str)[i.toNat]?=_;rw[z9z,z9k hi];rfl
def tF(s:Sale S fs ts r c of d)(hn:Names nl)(hp:Pool M p n)(hnn:n<=60000)(g:StP M CD C st p (nl.take fs.length) S fs ts r c of d)(h:∀M',StE M' CD C st (nl.take fs.length) S fs ts r c of d->Q (.bl true) M'):
  sV CD C [.ptr st,cm S fs ts r c of d,DI (aQ ts (of ^ S)),DII (aJ fs ts (of ^ S) (ends r c of d S)),.lst (aA nl),.ptr p] M Q:=by
 have f1:=s.f1;have f2:=s.f2;have es:cm S fs ts r c of d=.tup [.int (S:Nat),DI fs,DII ts,.tup [.int r,.int c,.int of,.int d]]:=rfl;refine bT rfl ?_;grind;refine cv hp ∅ ∅ ∅ λway M1 w0 w1 p1 k1=>?_
 have g1:=g.keep k1;lia;refine ay (λe=>?_) λe=>?_
 ·lia
  refine cv p1 ∅ (by simp only[z9b];ext) (by simp only[z9b];ext) λk M2 a0 a1 p2 k2=>?_
  simp only[z9b]at a1;obtain⟨kn,rfl⟩:∃kn:Nat,k=kn:=⟨k.toNat,by ext⟩;lia;refine zI s hn (.inr ⟨kn,rfl,by ext⟩) (g1.keep k2).toE λM3 g3=>?_
  lia;exact h M3 g3
 lia;refine ay (λe=>?_) λe=>?_
 ·lia
  refine zI s hn (.inl rfl) g1.toE λM3 g3=>?_
  lia;exact h M3 g3
 lia;refine ay (λe=>?_) λe=>?_
 ·lia
  refine cv p1 ∅ ∅ ∅ λk M2 a0 a1 p2 k2=>?_
  obtain⟨kn,rfl⟩:∃kn:Nat,k=kn:=⟨k.toNat,by ext⟩;lia;obtain⟨dk,pl,o,J0,J1,J4,J5,J6,coins,done,why,g2⟩:=(g1.keep k2).toE;refine NC s ∅ g2 λM3 g3=>?_
  lia;exact h M3 g3
 lia;refine NG (ls:=["left","turns","coins","why","worth"]) ∅ (by simp only[z9e,z9p];ext) λw hw=>?_
 lia;refine zH (by simp only[z9j,z7r,z5w]at hw ⊢;rcases hw with q|q|q|q|q<;>simp[q]) s g1.toE λM3 g3 _=>?_
 lia;exact h M3 g3
end
noncomputable def jT:y9:=[99,108,97,115,115]
noncomputable def oE:y9:=[116,117,114,110]
noncomputable def oF:y9:=[114,117,108,101]
noncomputable def oG:y9:=[111,112,101,110]
def NH:("class" : Str)=mkT jT:=by decide +kernel
def NI:("turn" : Str)=mkT oE:=by decide +kernel
def NJ:("rule" : Str)=mkT oF:=by decide +kernel
def NK:("open" : Str)=mkT oG:=by decide +kernel
def fV(n:y9)(f:Int):y9:=bh [32] [jT,n,aZ f]
def oH(row:z_):y9:=bh [32] (oE::row.map aZ)
def tG(r c of d:Int):y9:=bh [32] (oF::[r,c,of,d].map aZ)
def tH(S:Nat):y9:=bh [32] [oG,aZ (S:Nat)]
section
variable {fs:z_}{ts:List z_}
def oI{rest:List y9}{f r:D}(hw:∀w∈hd::rest,32∉w/\1<=w.length/\w.length<=8)(hl:rest.length<=20)(hm:M dk=some (.ins CD d_ [p,f,r,u,.non]))(h:∀M1,Kp (λ_=>False) M M1->hW CD C [.ptr dk,.str (mkT hd),.lst (aA rest)] M1 Q EX):eX CD C [.ptr dk,.str (mkT (bh [32] (hd::rest)))] M Q EX:=by
 refine N1 ?_ (by rw[aM];exact zk 32 _ (by simp) λw hm=>(hw w hm).1) (λe=>?_) hm h
 ·have h1:=oo 32 (hd::rest) (by simp)
  have h2:=oB (l:=hd::rest) λx hx=>by have:=(hw x hx).2.2;ext
  rw[aM];simp only[z9e]at h1 h2;ext
 ·have:=(hw _ e).2.1
  simp at this
def oJ(h0:0<=x)(h1:x<10000000):32∉aZ x/\1<=(aZ x).length/\(aZ x).length<=8:=by obtain⟨g,_,nb,_⟩:=ox h0 h1;have:=g.1.1;exact⟨nb,by ext,by ext⟩
def NL{n:y9}(g:Gath M CD dk pl fa ra nm fs [] u)(hn:n∉nm)(hg:fU n)(h0:1<=f)(h1:f<=1000000)(hl:nm.length=fs.length)(h6:fs.length<6)(h:∀M',Gath M' CD dk pl fa ra (nm++[n]) (fs++[f]) [] u->Kp (S4 dk pl fa ra) M M'->Q (.str "ok") M'):eX CD C [.ptr dk,.str (mkT (fV n f))] M Q EX:=by
 refine oI (λw hw=>?_) (by simp) g.hd λM1 k1=>?_
 ·simp only[z9j,z7r,z5w]at hw
  rcases hw with rfl|rfl|rfl
  ·decide
  ·exact⟨zA hg,hg.1.1,hg.1.2⟩
  ·exact oJ ∅ ∅
 ·rw[<- NH]
  exact N4 (g.keep k1) hn hg h0 h1 hl h6 λM2 g2 k2=>h M2 g2 λb cc hb hn=>k2 b cc (k1 b cc hb id) hn
def NM(g:Gath M CD dk pl fa ra nm fs ts u)(hr:gx fs.length row)(h1:1<=fs.length)(h6:fs.length<=6)(h8:ts.length<8)(h:∀M',Gath M' CD dk pl fa ra nm fs (ts++[row]) u->Kp (S4 dk pl fa ra) M M'->Q (.str "ok") M'):eX CD C [.ptr dk,.str (mkT (oH row))] M Q EX:=by
 have hl:=hr.1;refine oI (λw hw=>?_) (by simp only[z9b];ext) g.hd λM1 k1=>?_
 ·rcases z9j.mp hw with rfl|hw
  ·decide
  ·obtain⟨x,hx,rfl⟩:=z7c.mp hw
   have:=hr.2.1 x hx;exact oJ ∅ ∅
 ·rw[<- NI]
  exact N6 (g.keep k1) hr h1 h6 h8 λM2 g2 k2=>h M2 g2 λb cc hb hn=>k2 b cc (k1 b cc hb id) hn
def NN{of:Int}(s:Sale S fs ts r c of d)(g:Gath M CD dk pl fa ra nm fs ts u)(h:∀M',Gath M' CD dk pl fa ra nm fs ts (.tup [.int r,.int c,.int of,.int d])->Kp (S4 dk pl fa ra) M M'->Q (.str "ok") M'):eX CD C [.ptr dk,.str (mkT (tG r c of d))] M Q EX:=by
 obtain⟨hS,f1,f2,f3,t1,t2,r1,r2,c1,c2,o1,o2,d1,d2⟩:=s;refine oI (λw hw=>?_) (by simp) g.hd λM1 k1=>?_
 ·rcases z9j.mp hw with rfl|hw
  ·decide
  ·obtain⟨x,hx,rfl⟩:=z7c.mp hw
   simp only[z9j,z7r,z5w]at hx;exact oJ ∅ ∅
 ·rw[<- NJ]
  exact N7 (g.keep k1) r1 r2 c1 c2 o1 o2 d1 d2 λM2 g2 k2=>h M2 g2 λb cc hb hn=>k2 b cc (k1 b cc hb id) hn
def NO{of:Int}(s:Sale S fs ts r c of d)(g:Gath M CD dk pl fa ra nm fs ts (.tup [.int r,.int c,.int of,.int d]))(h:∀o M',M o=none->Opn M' CD C dk pl o nm (bt S fs ts r c of d 0 0 0 .non .non)->Kp (S4 dk pl fa ra) M M'->Q (.str "ok") M'):eX CD C [.ptr dk,.str (mkT (tH S))] M Q EX:=by
 have hS:=s.hS;refine oI (λw hw=>?_) (by simp) g.hd λM1 k1=>?_
 ·simp only[z9j,z7r,z5w]at hw
  rcases hw with rfl|rfl
  ·decide
  ·exact oJ ∅ ∅
 ·rw[<- NK]
  refine N9 s (g.keep k1) λo M2 ho g2 k2=>h o M2 ?_ g2 λb cc hb hn=>k2 b cc (k1 b cc hb id) hn
  cases e:M o with
  |none=>rfl
  |some cc=>rw[k1 o cc e id]at ho;cases ho
end
def zJ{α:Type}(enc:α->D)(xs:List α)(rest:n_)(I:Nat->ag->Sto->Prop)(h0:I 0 U M)(he:∀U M,I xs.length U M->cB body rest E U M)(hs:∀k (hk:k<xs.length) U M,I k U M->∀N:ag->Sto->Prop,(∀U M,I (k+1) U M->N U M)->body (enc xs[k]) {E with nx:=N,ct:=N,bk:=E.nx} U M):cB body (xs.map enc++rest) E U M:=by
 have gen:∀(m k:Nat),m=xs.length-k->k<=xs.length->∀U M,I k U M->cB body ((xs.drop k).map enc++rest) E U M:=by
  intro m
  induction m with
  | zero=>
    intro k hm hk U M h;have:k=xs.length:=by ext
    subst this;rw[z7q];exact he U M h
  | succ m ih=>
    intro k hm hk U M h;have hlt:k<xs.length:=by ext
    rw[z9v hlt,z9n,z6e];exact hs k hlt U M h _ λU M z=>ih (k+1) ∅ hlt U M z
 simpa using gen xs.length 0 (by simp) (z7a _) U M h0
def NP(hm:M dk=some (.ins CD [] []))(h:∀pl fa ra M',M pl=none->M fa=none->M ra=none->Gath M' CD dk pl fa ra [] [] [] .non->Kp (· = dk) M M'->Q .non M'):sU CD C [.ptr dk] M Q:=by
 refine bT rfl ?_;grind;refine eU (Ln λpl hpl=>?_);have n1:dk≠pl:=λe=>by rw[e,hpl]at hm;cases hm
 lia;refine⟨dk,_,rfl,(aH n1).trans hm,?_⟩;lia;refine eU ?_;lia;intro fa hfa;have n2:fa≠dk:=λe=>by rw[e,az]at hfa;cases hfa
 rw[aH n2]at hfa;have n3:fa≠pl:=λe=>by rw[e,az]at hfa;cases hfa
 rw[aH n3]at hfa;lia;refine⟨dk,_,rfl,(aH (Ne.symm n2)).trans az,?_⟩;lia;refine eU ?_;lia;intro ra hra;have n4:ra≠dk:=λe=>by rw[e,az]at hra;cases hra
 rw[aH n4]at hra;have n5:ra≠fa:=λe=>by rw[e,az]at hra;cases hra
 rw[aH n5,aH n4]at hra;have n6:ra≠pl:=λe=>by rw[e,az]at hra;cases hra
 rw[aH n6]at hra;lia;refine⟨dk,_,rfl,(aH (Ne.symm n4)).trans az,?_⟩;lia;refine eU ?_;lia;refine⟨dk,_,rfl,az,?_⟩;rw[cj];lia;refine eU ?_;lia;refine⟨dk,_,rfl,az,?_⟩;rw[cj];lia;refine h pl fa ra _ hpl hfa hra ⟨az,?_,?_,?_,Ne.symm n5⟩ λx cc hx hn=>?_
 ·rw[aH (Ne.symm n1),aH (Ne.symm n6),aH (Ne.symm n1),aH (Ne.symm n3),aH (Ne.symm n1),az]
  rfl
 ·rw[aH n2,aH (Ne.symm n5),aH n2,az]
  rfl
 ·rw[aH n4,az]
  rfl
 ·have f:∀{y:Nat},M y=none->x≠y:=λ{y} hy e=>by rw[e,hy]at hx;cases hx
  rw[aH hn,aH (f hra),aH hn,aH (f hfa),aH hn,aH (f hpl),hx]
def NQ:("class " : Str)=mkT (jT++[32]):=by decide +kernel
def NR:("turn " : Str)=mkT (oE++[32]):=by decide +kernel
def NU:("rule " : Str)=mkT (oF++[32]):=by decide +kernel
def NV:("open " : Str)=mkT (oG++[32]):=by decide +kernel
def zK{w:y9}(h:ls≠[]):w++[32]++bh [32] ls=bh [32] (w::ls):=by
 cases ls with
 |nil=>exact absurd rfl h
 |cons a r=>rw[bh]
def zL(h:∀x∈xs,Bd x):∀l∈xs.map aZ,l.length<=202:=λl hl=>by obtain⟨x,hx,rfl⟩:=z7c.mp hl;exact i7 (h x hx)
def zM{K:D->Prop}{fi:FEs}{is:WI fi U λds=>ds=xs.map D.int}(hb:∀x∈xs,Bd x)(hl:xs.length<=1000)(h:K (.lst (aA (xs.map aZ)))):WE (bW 1 [] [0] un1 fi c4 (eA (ar bF) (a8 (a5 0) (ai)))) U K:=by
 refine gT (α:=Int) ?_;obtain⟨ds,e,rfl⟩:=is;refine⟨_,e,D.int,λx=>.str (mkT (aZ x)),xs,rfl,by ext,λx hx=>⟨[.int x],rfl,?_⟩,?_⟩
 ·walk_at"env"
  lia;refine cD (lg (hb x hx)) ?_;lia
 ·rw[aA,z7h]at h
  exact h
section
variable {fs:z_}{ts:List z_}{of:Int}
def NY{L L':n_}(e:L=L')(h:cB body L' E U M):cB body L E U M:=e▸h
def NZ{a2:Nat}{x8:o_}{M3:Sto}(s:Sale S fs ts r c of d)(hn:Names nl)(fS4:∀x,S4 dk pl fa ra x->M x=none)(g3:Gath M3 CD dk pl fa ra [] [] [] .non)(K3:Kp (λ_=>False) M M3)(h:∀b o M',M o=none->Opn M' CD C dk pl o (nl.take fs.length) (bt S fs ts r c of d 0 0 0 .non .non)->Kp (λ_=>False) M M'->E.nx [some (.tup [.int (S:Nat),DI fs,DII ts,.tup [.int r,.int c,.int of,.int d]]),some (.lst (aA nl)),some (.int (S:Nat)),some (DI fs),some (DII ts),some (.tup [.int r,.int c,.int of,.int d]),some (.ptr dk),some (.ptr a2),b] M'):
  cB (λx E U M=>aI (bu (n2 neD (cI CD d_ (qtX (eX CD C)) (nP (a5 6)) (aa (nP (a5 8)) ak)) (nP (eC (.str "ok"))))) (aX (nP (eC .non))) sN E (List.set U 8 (some x)) M)
   ((fs.zipIdx.map λp=>D.str (mkT (fV (nl.getD p.2 []) p.1)))++((ts.map λrow=>D.str (mkT (oH row)))++[.str (mkT (tG r c of d)),.str (mkT (tH S))])) E
   [some (.tup [.int (S:Nat),DI fs,DII ts,.tup [.int r,.int c,.int of,.int d]]),some (.lst (aA nl)),some (.int (S:Nat)),some (DI fs),some (DII ts),some (.tup [.int r,.int c,.int of,.int d]),some (.ptr dk),some (.ptr a2),x8] M3:=by
  have hl:=hn.len;have s0:=s;obtain⟨hS,f1,f2,f3,t1,t2,r1,r2,c1,c2,o1,o2,d1,d2⟩:=s;refine zJ (λp:Int×Nat=>D.str (mkT (fV (nl.getD p.2 []) p.1))) fs.zipIdx _ (λk U M'=>∃b,U=[some (.tup [.int (S:Nat),DI fs,DII ts,.tup [.int r,.int c,.int of,.int d]]),some (.lst (aA nl)),some (.int (S:Nat)),some (DI fs),some (DII ts),some (.tup [.int r,.int c,.int of,.int d]),some (.ptr dk),some (.ptr a2),b]/\Gath M' CD dk pl fa ra (nl.take k) (fs.take k) [] .non/\Kp (λ_=>False) M M') ⟨_,rfl,g3,K3⟩ ?_ ?_
  ·rintro U M4 ⟨b,rfl,g4,K4⟩
   rw[List.length_zipIdx,z6v]at g4;refine zJ (λrow=>D.str (mkT (oH row))) ts _ (λk U M'=>∃b,U=[some (.tup [.int (S:Nat),DI fs,DII ts,.tup [.int r,.int c,.int of,.int d]]),some (.lst (aA nl)),some (.int (S:Nat)),some (DI fs),some (DII ts),some (.tup [.int r,.int c,.int of,.int d]),some (.ptr dk),some (.ptr a2),b]/\Gath M' CD dk pl fa ra (nl.take fs.length) fs (ts.take k) .non/\Kp (λ_=>False) M M') ⟨_,rfl,g4,K4⟩ ?_ ?_
   ·rintro U M5 ⟨b,rfl,g5,K5⟩
    rw[z6v]at g5;have e5:=g5.hd;show aI _ _ _ _ _ _;grind;refine NN s0 g5 λM6 g6 k6=>?_
    have K6:Kp (λ_=>False) M M6:=K5.trans k6 λx z n=>absurd (fS4 x z) n
    have e6:=g6.hd;lia;rw[z9w rfl];lia;show aI _ _ _ _ _ _;grind;refine NO s0 g6 λo M7 ho g7 k7=>?_
    lia;rw[z9w rfl];lia;refine h _ o M7 ?_ g7 (K6.trans k7 λx z n=>absurd (fS4 x z) n);cases eo:M o with
    |none=>rfl
    |some cc=>rw[K6 o cc eo id]at ho;cases ho
   ·rintro k hk U M5 ⟨b,rfl,g5,K5⟩ N hN
    have e5:=g5.hd;grind;refine NM g5 (t2 _ (z9s hk)) f1 f2 (by rw[z8j];ext) λM6 g6 k6=>?_
    lia;rw[z9w rfl];lia;refine hN _ _ ⟨_,rfl,by rw[z8k hk];exact g6,K5.trans k6 λx z n=>absurd (fS4 x z) n⟩
  ·rintro k hk U M4 ⟨b,rfl,g4,K4⟩ N hN
   have hk':k<fs.length:=by rwa [List.length_zipIdx]at hk
   have hkn:k<nl.length:=by ext
   have e4:=g4.hd;have hf:=f3 _ (z9s hk');rw[List.getElem_zipIdx];simp only[Nat.zero_add];rw[z8c,z9k hkn,z7b];grind;refine NL g4 (hn.nin ∅) (hn.ok _ (z9s hkn)) hf.1 hf.2 (by rw[z8j,z8j];ext) (by rw[z8j];ext) λM5 g5 k5=>?_
   lia;rw[z9w rfl];lia;refine hN _ _ ⟨_,rfl,by rw[z8k hkn,z8k hk'];exact g5,K4.trans k5 λx z n=>absurd (fS4 x z) n⟩
def zN(s:Sale S fs ts r c of d)(hn:Names nl)(h:∀st dk pl o M',St M' CD C st dk pl o (nl.take fs.length) S fs ts r c of d 0 0 0 .non .non 0 false .non->M st=none->M dk=none->M pl=none->M o=none->Kp (λ_=>False) M M'->Q (.ptr st) M'):
  oh CD C [cm S fs ts r c of d,.lst (aA nl)] M Q:=by
 have hl:=hn.len;have s0:=s;obtain⟨hS,f1,f2,f3,t1,t2,r1,r2,c1,c2,o1,o2,d1,d2⟩:=s;refine bT rfl ?_;unfold cm;grind;refine Lz λdk hdk=>?_
 refine NP az λpl fa ra M1 hpl hfa hra g1 k1=>⟨rfl,?_⟩
 have fr:∀{x:Nat} {cc:Cell},aB M dk cc x=none->M x=none:=λ{x cc} hx=>by
  by_cases e:x=dk
  ·rw[e];exact hdk
  ·rwa [aH e]at hx
 have hpl:=fr hpl;have hfa:=fr hfa;have hra:=fr hra;have fS4:∀x,S4 dk pl fa ra x->M x=none:=by rintro x (rfl|rfl|rfl|rfl)<;>assumption
 have K1:Kp (λ_=>False) M M1:=λx cc hx _=>by
  have ne:x≠dk:=λe=>by rw[e,hdk]at hx;cases hx
  exact k1 x cc ((aH ne).trans hx) ne
 lia;refine gT (α:=Int×Nat) ?_;lia;refine⟨λp=>.tup [.int (p.2:Nat),.int p.1],λp=>.str (mkT (fV (nl.getD p.2 []) p.1)),fs.zipIdx,qL _ _,by simp;ext,λp hp=>⟨_,rfl,?_⟩,?_⟩
 ·have hp2:=List.snd_lt_of_mem_zipIdx hp
  have hp1:=f3 _ (List.fst_mem_of_mem_zipIdx hp);have hk:p.2<nl.length:=by ext
  have gn:=(hn.ok _ (z9s hk)).1.2;have ld:=i7 (i:=p.1) ⟨by ext,by ext⟩;grind;refine iC (tD hk) ?_;rw[NQ];refine dO (by simp only[z9h,z9e,z9p,jT];ext) ?_;lia;rw[fR];refine dO (by simp only[z9h,z9e,z9p,jT];ext) ?_;lia;refine cD (lg ⟨by ext,by ext⟩) ?_;refine dO (by simp only[z9h,z9e,z9p,jT];ext) ?_;rw[fV,z8c,z9k hk];simp[bh]
 rw[show(fs.zipIdx.map λp=>D.str (mkT (fV (nl.getD p.2 []) p.1)))=aA (fs.zipIdx.map λp=>fV (nl.getD p.2 []) p.1)by rw[aA,z7h];rfl];refine⟨_,rfl,λa1 ha1=>?_⟩;have K2:∀cc,Kp (λ_=>False) M (aB M1 a1 cc):=λcc=>K1.trans (Kp.upd (S:=λ_=>False) (.inr ha1)) λ_ z _=>z
 lia;refine⟨by rw[z9b];ext,?_⟩;refine iK DI ts (λk ds M'=>ds=aA ((ts.take k).map oH)/\M'=aB M1 a1 (.lst (aA (fs.zipIdx.map λp=>fV (nl.getD p.2 []) p.1)))) ⟨by simp[aA],rfl⟩ ?_ ?_
 ·rintro ds _ ⟨rfl,rfl⟩
  rw[z6v];refine⟨_,_,gw az,rfl,by simp[aA];ext,λa2 ha2=>?_⟩;rw[aA,aA,<- z8g];have K3:∀cc,Kp (λ_=>False) M (aB (aB M1 a1 (.lst (aA (fs.zipIdx.map λp=>fV (nl.getD p.2 []) p.1)))) a2 cc):=λcc=>(K2 _).trans (Kp.upd (S:=λ_=>False) (.inr ha2)) λ_ z _=>z
  have g3:∀cc,Gath (aB (aB M1 a1 (.lst (aA (fs.zipIdx.map λp=>fV (nl.getD p.2 []) p.1)))) a2 cc) CD dk pl fa ra [] [] [] .non:=λcc=>(g1.keep (Kp.upd (.inr ha1))).keep (Kp.upd (.inr ha2))
  grind;refine⟨a2,_,rfl,az,?_⟩;have hrb:∀x∈[r,c,of,d],Bd x:=λx hx=>by simp only[z9j,z7r,z5w]at hx;constructor<;>ext
  have hls:=oB (zL hrb);have hjl:=oo 32 ([r,c,of,d].map aZ) (by simp);rw[z9b]at hls hjl;simp only[z9e,z9p]at hls hjl;lia;refine zM (xs:=[r,c,of,d]) (is:=?_) hrb (by simp) ?_
  ·lia
   rfl
  refine jH (by rw[fR,aM];simp only[z9b,z9e,z9p];ext) ?_;rw[fR,aM,NU];refine dO (by simp only[z9h,z9e,z9p,oF];ext) ?_;rw[zK (by simp)];refine⟨_,az,by simp;ext,?_⟩;rw[cj];have dS:=i7 (i:=(S:Nat)) ⟨by ext,by ext⟩;lia;refine cD (lg ⟨by ext,by ext⟩) ?_;rw[NV];refine dO (by simp only[z9h,z9e,z9p,oG];ext) ?_;lia;refine⟨_,_,gw az,rfl,by simp;ext,?_⟩;refine⟨_,rfl,?_⟩;refine NY ?_ (NZ s0 hn fS4 (g3 _) (K3 _) λb o M4 ho g4 K4=>?_)
  ·simp[tG,tH,bh]
   rfl
  ·lia
   refine xP ?_;lia;intro st hst;lia;have fst:M st=none:=by
    cases e:M st with
    |none=>rfl
    |some cc=>rw[K4 st cc e id]at hst;cases hst
   have ns:st≠pl:=λe=>by have:=g4.hp;rw[<- e,hst]at this;cases this
   refine h st dk pl o _ ⟨az,g4.keep (Kp.upd (.inr hst)),ns,by ext,by ext,by ext,by ext,.inl ⟨rfl,rfl,rfl⟩,.inl ⟨rfl,rfl⟩⟩ fst hdk hpl ho (K4.trans (Kp.upd (S:=λ_=>False) (.inr hst)) λ_ z _=>z)
 ·rintro k hk ds _ ⟨rfl,rfl⟩ N hN
  have hr:=t2 _ (z9s hk);have hrb:∀x∈ts[k],Bd x:=λx hx=>by have:=hr.2.1 x hx;constructor<;>ext
  have hls:=oB (zL hrb);have hrl:=hr.1;rw[z9b]at hls;grind;refine zM (xs:=ts[k]) (is:=?_) hrb ∅ ?_
  ·lia
  refine jH (by rw[fR,aM];simp only[z9b,z9e,z9p];ext) ?_;rw[fR,aM,NR];have hjl:=oo 32 (ts[k].map aZ) (by intro e;have:=z8w List.length e;simp only[z9b,z9p]at this;ext);rw[z9b]at hjl;refine dO (by simp only[z9h,z9e,z9p,oE];ext) ?_;refine hN _ _ ⟨?_,rfl⟩;rw[z8k hk,aA,aA,z8g,z8g,zK (by intro e;have:=z8w List.length e;simp only[z9b,z9p]at this;ext)];rfl
end
def O0(ns:z_)(hl:ns.length<=63)(CD C:Nat):sZ CD C [.scr ns] (λ_=>none) λd _=>d=.bl true:=by
 refine bT rfl ?_;grind;refine LG ∅ ∅ λS fs ts r c of d M1 hS f1 f2 f3 t1 t2 r1 r2 c1 c2 o1 o2 d1 d2 K1=>?_
 have s:Sale S fs ts r c of d:=⟨hS,f1,f2,f3,t1,t2,r1,r2,c1,c2,o1,o2,d1,d2⟩;rw[show D.tup [.int (S:Nat),DI fs,DII ts,.tup [.int r,.int c,.int of,.int d]]=cm S fs ts r c of d from rfl];lia;refine oi ∅ ∅ λp0 M2 hp0 P2 K2=>?_
 lia;refine MZ P2 ∅ λnl M3 hn K3=>?_
 lia;refine bi (ME s) ?_;lia;grind;refine zN s hn λst dk pl o M4 g4 _ _ _ _ K4=>?_
 lia;refine⟨_,_,rfl,⟨by ext,by ext⟩,⟨by ext,by ext⟩,?_⟩;refine nG (λ(k:Nat)=>.int (4+(k:Nat))) _ (λk U M'=>∃st b6 b7 b8,U=[some (.scr ns),some (cm S fs ts r c of d),some (.lst (aA nl)),some (DI (aQ ts (of ^ S))),some (DII (aJ fs ts (of ^ S) (ends r c of d S))),some (.ptr st),b6,b7,b8]/\StE M' CD C st (nl.take fs.length) S fs ts r c of d) ⟨st,_,_,_,rfl,_,_,_,_,_,_,_,_,_,_,_,g4⟩ ?_ ?_
 ·rintro U M5 ⟨st,b6,b7,b8,rfl,g5⟩
  lia;refine nG D.str ["worth","why","left","turns","coins"] (λk U M'=>∃b6 b7 b8,U=[some (.scr ns),some (cm S fs ts r c of d),some (.lst (aA nl)),some (DI (aQ ts (of ^ S))),some (DII (aJ fs ts (of ^ S) (ends r c of d S))),some (.ptr st),b6,b7,b8]/\StE M' CD C st (nl.take fs.length) S fs ts r c of d) ⟨_,_,_,rfl,g5⟩ ?_ ?_
  ·rintro U M6 ⟨b6,b7,b8,rfl,g6⟩
   lia
  ·rintro k hk U M6 ⟨b6,b7,b8,rfl,g6⟩ N hN
   have hw:=z9s hk;grind;refine zH hw s g6 λM7 g7 _=>?_
   lia;exact hN _ _ ⟨_,_,_,rfl,g7⟩
 ·rintro k hk U M5 ⟨st,b6,b7,b8,rfl,g5⟩ N hN
  rw[z8h]at hk;rw[z7w];have hk':(4:Int)+(k:Nat)<=1000:=by ext
  grind;refine oi ∅ ∅ λp M6 hp P6 K6=>?_
  have g6:=g5.fresh hp K6;obtain⟨dk,pl,o,J0,J1,J4,J5,J6,coins,done,why,g7,q1,q2,q3,q4⟩:=g6;have e7:=g7.hs;lia;cases done with
  | false=>
    lia;refine tF s hn P6 ∅ ⟨dk,pl,o,J0,J1,J4,J5,J6,coins,_,why,g7,q1,q2,q3,q4⟩ λM8 g8=>?_
    lia;exact hN _ _ ⟨_,_,_,_,rfl,g8⟩
  | true=>
    lia;refine cv P6 ∅ ∅ ∅ λv M7 v0 v1 P7 K7=>?_
    have g8:=g7.keep K7 ⟨q1,q2,q3,q4⟩;lia;refine ay (λe=>?_) λe=>?_
    ·lia
     refine zN s hn λst' dk' pl' o' M8 g9 z1 z2 z3 z4 K8=>?_
     have np:∀{x:Nat},M7 x=none->x≠p:=λ{x} hx e=>by obtain⟨_,_,_,z,_⟩:=P7;rw[e,z]at hx;cases hx
     lia;refine tF s hn (P7.keep K8 id) ∅ ⟨_,_,_,_,_,_,_,_,_,_,_,g9,np z1,np z2,np z3,np z4⟩ λM9 g9=>?_
     lia;exact hN _ _ ⟨_,_,_,_,rfl,g9⟩
    ·lia
     refine tF s hn P7 ∅ ⟨_,_,_,_,_,_,_,_,_,_,_,g8,q1,q2,q3,q4⟩ λM9 g9=>?_
     lia;exact hN _ _ ⟨_,_,_,_,rfl,g9⟩
end My
end VL
namespace VL
namespace My
open PySem PySem.Spec PyProof.Rows L2
noncomputable def top(i:Nat):Stmt:=PySem.Challenge.pw_latefare_k51_whole_text_sale.main.body.getD i (.Pass ⟨0,0,0,0⟩)
abbrev zO:Stmt:=top 13
abbrev zP:Stmt:=top 14
abbrev zQ:Stmt:=top 22
abbrev zR:Stmt:=top 25
abbrev zS:Stmt:=top 24
abbrev zT:Stmt:=top 23
abbrev zU:Stmt:=top 21
abbrev zV:Stmt:=top 26
abbrev zW:Stmt:=top 31
abbrev zX:Stmt:=top 33
abbrev zY:Stmt:=top 32
abbrev zZ:Stmt:=top 30
abbrev A0:Stmt:=top 29
abbrev A1:Stmt:=top 28
abbrev A2:Stmt:=top 35
abbrev A3:Stmt:=top 36
abbrev A4:Stmt:=top 41
abbrev A5:Stmt:=top 43
abbrev A6:Stmt:=top 42
abbrev A7:Stmt:=top 46
abbrev A8:Stmt:=top 45
abbrev A9:Stmt:=top 44
abbrev Aa:Stmt:=top 47
abbrev Ab:Stmt:=top 58
abbrev Ac:Stmt:=top 62
abbrev Ad:Stmt:=top 63
abbrev Ae:Stmt:=top 65
abbrev Af:Stmt:=top 73
abbrev Ag:Stmt:=top 74
abbrev Ah:Stmt:=top 75
abbrev Ai:Stmt:=top 76
abbrev Aj:Stmt:=top 79
abbrev Ak:Stmt:=top 55
abbrev Al:Stmt:=cx (top 49) 6
abbrev Am:Stmt:=cx (top 49) 7
abbrev An:Stmt:=cx (top 49) 2
abbrev Ao:Stmt:=cx (top 49) 8
abbrev Ap:Stmt:=cx (top 49) 9
abbrev Aq:Stmt:=cx (top 49) 5
abbrev Ar:Stmt:=cx (top 49) 1
abbrev As:Stmt:=cx (top 49) 3
abbrev At:Stmt:=cx (top 49) 10
abbrev Au:Stmt:=cx (top 49) 4
abbrev Aw:Stmt:=cx (top 60) 9
abbrev Ax:Stmt:=cx (top 49) 11
abbrev Ay:Stmt:=cx (top 60) 8
abbrev Az:Stmt:=top 56
abbrev AB:Stmt:=cx (top 60) 7
abbrev AC:Stmt:=cx (top 60) 3
abbrev AD:Stmt:=top 57
abbrev AE:Stmt:=cx (top 60) 4
abbrev AG:Stmt:=top 61
abbrev AH:Stmt:=cx (top 60) 5
abbrev AI:Stmt:=cx (top 49) 0
abbrev AJ:Stmt:=cx (top 60) 6
abbrev AK:Stmt:=cx (top 60) 2
abbrev AL:Stmt:=cx (top 60) 1
abbrev AM:Stmt:=top 77
abbrev AN:Stmt:=top 80
abbrev AO:Stmt:=top 81
abbrev AQ:Stmt:=top 67
abbrev AR:Stmt:=top 72
abbrev AS:Stmt:=cx (top 60) 0
abbrev AT:Stmt:=top 78
abbrev AU:Stmt:=top 66
abbrev AV:Stmt:=top 82
abbrev AW:Stmt:=top 83
abbrev AX:Stmt:=top 68
abbrev AY:Stmt:=top 70
abbrev AZ:Stmt:=top 69
abbrev B1:Stmt:=top 71
abbrev tI:Stmt:=top 84
structure AF (P:Program) (w:World) (K:K0) (mg:Str->i_) (base:Heap) (b_ a_:Addr):Prop where
 u00:FA K mg "is_within" zO
 u01:FA K mg "power" zP
 u02:FA K mg "are_fares" zQ
 u03:FA K mg "total_of" zR
 u04:FA K mg "is_row" zS
 u05:FA K mg "are_turns" zT
 u06:FA K mg "is_sale" zU
 u07:FA K mg "scales_of" zV
 u08:FA K mg "weighed" zW
 u09:FA K mg "sold_worth" zX
 u0a:FA K mg "class_worth" zY
 u0b:FA K mg "stand_worth" zZ
 u0c:FA K mg "row_worths" A0
 u0d:FA K mg "worths_of" A1
 u0e:FA K mg "is_taken" A2
 u0f:FA K mg "least_fare" A3
 u0g:FA K mg "is_rule" A4
 u0h:FA K mg "with_one_more" A5
 u0i:FA K mg "shows_of" A6
 u0j:FA K mg "beyond_room" A7
 u0k:FA K mg "end_of" A8
 u0l:FA K mg "ends_of" A9
 u0m:FA K mg "last_scale" Aa
 u0n:FA K mg "is_made_of" Ab
 u0o:FA K mg "yes_or_no" Ac
 u0p:FA K mg "dash_or_number" Ad
 u0q:FA K mg "_law_nth" Ae
 u0r:FA K mg "_law_ends" Af
 u0s:FA K mg "_law_last" Ag
 u0t:FA K mg "_law_list" Ah
 u0u:FA K mg "_law_table" Ai
 u0v:FA K mg "_law_least" Aj
 u0w:FA K mg "read_words" Ak
 u0x:MA K a_ "is_over" "Office.is_over" Al
 u0y:MA K a_ "fare_of" "Office.fare_of" Am
 u0z:MA K a_ "left" "Office.left" An
 u10:MA K a_ "takes" "Office.takes" Ao
 u11:MA K a_ "least" "Office.least" Ap
 u12:MA K a_ "asked" "Office.asked" Aq
 u13:MA K a_ "turn" "Office.turn" Ar
 u14:MA K a_ "coins" "Office.coins" As
 u15:MA K a_ "paper" "Office.paper" At
 u16:MA K a_ "worth" "Office.worth" Au
 u17:MA K b_ "tell" "Desk.tell" Aw
 u18:MA K a_ "came" "Office.came" Ax
 u19:MA K b_ "place_of" "Desk.place_of" Ay
 u1a:FA K mg "read_number" Az
 u1b:MA K b_ "serve" "Desk.serve" AB
 u1c:MA K b_ "add_class" "Desk.add_class" AC
 u1d:FA K mg "read_name" AD
 u1e:MA K b_ "add_turn" "Desk.add_turn" AE
 u1f:FA K mg "read_numbers" AG
 u1g:MA K b_ "set_rule" "Desk.set_rule" AH
 u1h:IA K mg "Office" a_ "Office.__init__" AI
 u1i:MA K b_ "begin" "Desk.begin" AJ
 u1j:MA K b_ "gather" "Desk.gather" AK
 u1k:MA K b_ "say" "Desk.say" AL
 u1l:FA K mg "_law_said" AM
 u1m:FA K mg "_law_asked" AN
 u1n:FA K mg "_law_came" AO
 u1o:FA K mg "_law_take" AQ
 u1p:FA K mg "_law_names" AR
 u1q:IA K mg "Desk" b_ "Desk.__init__" AS
 u1r:FA K mg "_law_opened" AT
 u1s:FA K mg "_law_pool" AU
 u1t:FA K mg "_law_told" AV
 u1u:FA K mg "_law_row" AW
 u1v:FA K mg "_law_size" AX
 u1w:FA K mg "_law_rule" AY
 u1x:FA K mg "_law_weights" AZ
 u1y:FA K mg "_law_sale" B1
 u1z:FA K mg "law" tI
 u20:mg "all"=none
 u21:mg "bool"=none
 u22:mg "enumerate"=none
 u23:mg "int"=none
 u24:mg "isinstance"=none
 u25:mg "len"=none
 u26:mg "list"=none
 u27:mg "max"=none
 u28:mg "min"=none
 u29:mg "range"=none
 u2a:mg "reversed"=none
 u2b:mg "str"=none
 u2c:mg "sum"=none
 u2d:mg "tuple"=none
 u2e:mg "zip"=none
 u2f:∃t,mg "FIGURES"=some (.str "0123456789" t)
 u2g:∃t,mg "LETTERS"=some (.str "abcdefghijklmnopqrstuvwxyz" t)
 u2h:∃t,mg "MOST_DUE"=some (.int 1000000 t)
 u2i:∃t,mg "MOST_FARE"=some (.int 1000000 t)
 u2j:∃t,mg "MOST_FARES"=some (.int 6 t)
 u2k:∃t,mg "MOST_FIGURES"=some (.int 7 t)
 u2l:∃t,mg "MOST_LETTERS"=some (.int 8 t)
 u2m:∃t,mg "MOST_OF"=some (.int 1000 t)
 u2n:∃t,mg "MOST_ROOM"=some (.int 10 t)
 u2o:∃t,mg "MOST_SEATS"=some (.int 10 t)
 u2p:∃t,mg "MOST_TURNS"=some (.int 8 t)
 u2q:∃t,mg "MOST_WEIGHT"=some (.int 1000 t)
 u2r:Cls K b_
 u2s:Cls K a_
 u2t:NoAttr K b_ "places"
 u2u:NoAttr K b_ "fares"
 u2v:NoAttr K b_ "rows"
 u2w:NoAttr K b_ "rule"
 u2x:NoAttr K b_ "office"
 u2y:NoAttr K a_ "seats"
 u2z:NoAttr K a_ "fares"
 u30:NoAttr K a_ "rule"
 u31:NoAttr K a_ "scales"
 u32:NoAttr K a_ "table"
 u33:NoAttr K a_ "told"
 u35:NoAttr K a_ "sold"
 u36:NoAttr K a_ "paid"
 u37:NoAttr K a_ "dues"
 u38:NoAttr K a_ "latest"
 u39:iI K=true
local macro_rules | `(tactic| walk_at"cp")=>`(tactic| (refine⟨rfl,by decide +kernel,by decide +kernel,?_,by first|rfl|decide +kernel,by decide +kernel,by decide +kernel⟩;first|exact EJ _ (by decide +kernel)|(refine' KC ?a ?b ?c;(case a=>assumption);(case b=>exact rfl);(case c=>decide +kernel))))
local macro_rules | `(tactic| walk_at"pg")=>`(tactic| exact λ_ _ _ _=>fY (i:=0) (by show List.Nodup (_++_);decide +kernel) rfl (Or.inl rfl) (.inr rfl))
local macro_rules | `(tactic| walk_at"sc")=>`(tactic| exact⟨rfl,rfl,rfl,by decide +kernel,rfl,by decide +kernel,by decide +kernel⟩)
local macro_rules | `(tactic| walk_at"bd")=>`(tactic| (intro _ _ _ _ _ _ us hl;first|(obtain⟨_,e⟩:=yA hl;subst e;rfl)|(obtain⟨_,_,e⟩:=yB hl;subst e;rfl)|(obtain⟨_,_,_,e⟩:=yC hl;subst e;rfl)|(obtain⟨_,_,_,_,e⟩:=yD hl;subst e;rfl)|(obtain⟨_,_,_,_,_,e⟩:=yE hl;subst e;rfl)|(obtain⟨_,_,_,_,_,_,e⟩:=KA hl;subst e;rfl)))
section
variable {P:Program}{w:World}{K:K0}{mg:Str->i_}{base:Heap}{b_ a_:Addr}
variable (Z:AF P w K mg base b_ a_)
include Z
def gz:Def P w K mg base "is_within" 1 ["number","least","most"] fk false:=by
 have sc:FnScope ["number","least","most"] ["number","least","most"] (am zO):=by walk_at"sc"
 refine Def.sc (mkA Z.u00 (by walk_at"bd") λ_ _ Fn=>bG [] [] rfl rfl rfl Fn sc (λ_ _ _ _ _ _ _ hn hr=>?_));exact(bc (bS (O':=[]) (dY (vU DQ (by decide +kernel) Z.u24 Z.u23 (a6 0)) (dY (Du (vU DR (by decide +kernel) Z.u24 Z.u21 (a6 0))) (fF (pM (a6 1) (a6 0) (a6 2)))))))
def B2:Def P w K mg base "power" 1 ["base","times"] nV false:=by
 have sc:FnScope ["base","times","product","step"] ["base","times"] (am zP):=by walk_at"sc"
 refine Def.sc (mkA Z.u01 (by walk_at"bd") λ_ _ Fn=>bG [] [] rfl rfl rfl Fn sc (λ_ _ _ _ _ _ _ hn hr=>?_));exact(bf (cW 2 sc.nd ae) (bf (kN 3 [] sc.nd rfl Z.u29 (a9 (a6 1) aj) (bc (cW 2 sc.nd (c9 (a6 2) (a6 0))))) (bc (bS (O':=[]) (a6 2)))))
def B3:Def P w K mg base "are_fares" 2 ["fares"] nW false:=by
 have sc:FnScope ["fares"] ["fares"] (am zQ):=by walk_at"sc"
 refine Def.sc (mkA Z.u02 (by walk_at"bd") λ_ _ Fn=>bG [] [] rfl rfl rfl Fn sc (λ_ _ _ _ _ _ _ hn hr=>?_));exact(bc (bS (O':=[]) (dY (pM ae (cO Z.u25 (a9 (a6 0) aj)) (eI Z.u2j.choose_spec)) (fF (mM rfl Z.u20 (a9 (bD (dm (own:=["fare"]) (J3:=[]) (cn:=[]) (by walk_at"cp") rfl (iq (aD 0)) (by walk_at"pg") (ef 0) (by decide) (λ_ _ _ _=>dc) (λ_ _ _ _=>(bz (gz Z).mono hr (a9 (a6 0) (a9 ae (a9 (eI Z.u2i.choose_spec) aj))))))) aj))))))
def B4:Def P w K mg base "total_of" 1 ["row"] nX false:=by
 have sc:FnScope ["row"] ["row"] (am zR):=by walk_at"sc"
 refine Def.sc (mkA Z.u03 (by walk_at"bd") λ_ _ Fn=>bG [] [] rfl rfl rfl Fn sc (λ_ _ _ _ _ _ _ hn hr=>?_));exact(bc (bS (O':=[]) (kH rfl Z.u2c (a9 (a6 0) aj))))
def B5:Def P w K mg base "is_row" 2 ["row","classes"] nY false:=by
 have sc:FnScope ["row","classes"] ["row","classes"] (am zS):=by walk_at"sc"
 refine Def.sc (mkA Z.u04 (by walk_at"bd") λ_ _ Fn=>bG [] [] rfl rfl rfl Fn sc (λ_ _ _ _ _ _ _ hn hr=>?_));exact(bf (mo (O':=[]) (qj hr (cO Z.u25 (a9 (a6 0) aj)) (bO (a6 1) ae)) (bc (bS (O':=[]) ge)) mn) (bc (bS (O':=[]) (dY (mM rfl Z.u20 (a9 (bD (dm (own:=["weight"]) (J3:=[]) (cn:=[]) (by walk_at"cp") rfl (iq (aD 0)) (by walk_at"pg") (ef 0) (by decide) (λ_ _ _ _=>dc) (λ_ _ _ _=>(bz (gz Z).mono hr (a9 (a6 0) (a9 ae (a9 (eI Z.u2q.choose_spec) aj))))))) aj)) (fF (pL (bz (B4 Z).mono hr (a9 (a6 0) aj)) ae))))))
def O3:Def P w K mg base "are_turns" 3 ["turns","classes"] sf false:=by
 have sc:FnScope ["turns","classes"] ["turns","classes"] (am zT):=by walk_at"sc"
 refine Def.sc (mkA Z.u05 (by walk_at"bd") λ_ _ Fn=>bG [] [] rfl rfl rfl Fn sc (λ_ _ _ _ _ _ _ hn hr=>?_));exact(bc (bS (O':=[]) (dY (Dq (cO Z.u25 (a9 (a6 0) aj)) (eI Z.u2p.choose_spec)) (fF (mM rfl Z.u20 (a9 (bD (dm (own:=["row"]) (J3:=[1]) (cn:=["classes"]) (by walk_at"cp") rfl (iq (aD 0)) (by walk_at"pg") (ef 0) (by decide) (λ_ _ _ _=>dc) (λ_ _ _ _=>(bz (B5 Z).mono hr (a9 (a6 0) (a9 (a6 1) aj)))))) aj))))))
def O4:Def P w K mg base "is_sale" 4 ["seats","fares","turns"] sg false:=by
 have sc:FnScope ["seats","fares","turns"] ["seats","fares","turns"] (am zU):=by walk_at"sc"
 refine Def.sc (mkA Z.u06 (by walk_at"bd") λ_ _ Fn=>bG [] [] rfl rfl rfl Fn sc (λ_ _ _ _ _ _ _ hn hr=>?_));exact(bc (bS (O':=[]) (dY (bz (gz Z).mono hr (a9 (a6 0) (a9 ae (a9 (eI Z.u2o.choose_spec) aj)))) (dY (bz (B3 Z).mono hr (a9 (a6 1) aj)) (fF (bz (O3 Z).mono hr (a9 (a6 2) (a9 (cO Z.u25 (a9 (a6 1) aj)) aj))))))))
def B6:Def P w K mg base "scales_of" 2 ["turns","last"] nZ true:=by
 have sc:FnScope ["turns","last","scales","row"] ["turns","last"] (am zV):=by walk_at"sc"
 refine mkA Z.u07 (by walk_at"bd") λ_ _ Fn=>bG [] [] rfl rfl rfl Fn sc (λ_ _ _ _ _ _ _ hn hr=>?_)
 exact(bf (e9 2 sc.nd (cy (a9 (a6 1) aj)) (by rw[hn];decide)) (bf (wf 3 [2] sc.nd rfl Z.u2a (a6 0) (bc (ww 2 (c9 (aG (aD 2) (ig ae) (λ_ _=>rfl)) (bz (B4 Z).mono hr (a9 (a6 3) aj)))))) (bc (mq (O':=[]) (Eo Z.u26 Z.u2a (aD 2))))))
def O5:Def P w K mg base "weighed" 1 ["row","classes","kept"] sh false:=by
 have sc:FnScope ["row","classes","kept"] ["row","classes","kept"] (am zW):=by walk_at"sc"
 refine Def.sc (mkA Z.u08 (by walk_at"bd") λ_ _ Fn=>bG [] [] rfl rfl rfl Fn sc (λ_ _ _ _ _ _ _ hn hr=>?_));exact(bc (bS (O':=[]) (kH rfl Z.u2c (a9 (bD (dm (own:=["weight","worth"]) (J3:=[]) (cn:=[]) (by walk_at"cp") rfl (we Z.u2e (aD 0) (cZ (bD (kG (aD 1) (cZ (bD (cy (a9 (a6 2) aj)))))))) (λ_ _ _ _=>gB rfl (Tgs.ok (is:=[0,1]) (show(["weight","worth"]:z0).Nodup from by decide +kernel) (.cons (i:=0) rfl (Or.inl rfl) (.inr rfl) (.cons (i:=1) rfl (Or.inl rfl) (.inr rfl) Tgs.nil rfl) rfl))) (mE [0,1]) (by decide) (λ_ _ _ _=>dc) (λ_ _ _ _=>(c9 (a6 0) (a6 1))))) aj))))
def B7:Def P w K mg base "sold_worth" 1 ["fare","scale","behind","s"] o3 false:=by
 have sc:FnScope ["fare","scale","behind","s"] ["fare","scale","behind","s"] (am zX):=by walk_at"sc"
 refine Def.sc (mkA Z.u09 (by walk_at"bd") λ_ _ Fn=>bG [] [] rfl rfl rfl Fn sc (λ_ _ _ _ _ _ _ hn hr=>?_));exact(bc (bS (O':=[]) (bO (c9 (a6 0) (a6 1)) (aG (aD 2) (cN (a6 3) ae) (λ_ _=>rfl)))))
def O6:Def P w K mg base "class_worth" 2 ["fare","scale","behind","s"] sj false:=by
 have sc:FnScope ["fare","scale","behind","s"] ["fare","scale","behind","s"] (am zY):=by walk_at"sc"
 refine Def.sc (mkA Z.u0a (by walk_at"bd") λ_ _ Fn=>bG [] [] rfl rfl rfl Fn sc (λ_ _ _ _ _ _ _ hn hr=>?_));exact(bf (mo (O':=[]) (ca hr (a6 3) ae) (bc (bS (O':=[]) (aG (aD 2) (a6 3) (λ_ _=>rfl)))) mn) (bc (bS (O':=[]) (kI rfl Z.u27 (a9 (aG (aD 2) (a6 3) (λ_ _=>rfl)) (a9 (bz (B7 Z).mono hr (a9 (a6 0) (a9 (a6 1) (a9 (a6 2) (a9 (a6 3) aj))))) aj))))))
def O7:Def P w K mg base "stand_worth" 3 ["fares","row","scale","behind","s"] sk false:=by
 have sc:FnScope ["fares","row","scale","behind","s"] ["fares","row","scale","behind","s"] (am zZ):=by walk_at"sc"
 refine Def.sc (mkA Z.u0b (by walk_at"bd") λ_ _ Fn=>bG [] [] rfl rfl rfl Fn sc (λ_ _ _ _ _ _ _ hn hr=>?_));exact(bc (bS (O':=[]) (bz (O5 Z).mono hr (a9 (a6 1) (a9 (bD (dm (own:=["fare"]) (J3:=[2,3,4]) (cn:=["scale","behind","s"]) (by walk_at"cp") rfl (iq (aD 0)) (by walk_at"pg") (ef 0) (by decide) (λ_ _ _ _=>dc) (λ_ _ _ _=>(bz (O6 Z).mono hr (a9 (a6 0) (a9 (a6 1) (a9 (a6 2) (a9 (a6 3) aj)))))))) (a9 (aG (aD 3) (a6 4) (λ_ _=>rfl)) aj))))))
def O8:Def P w K mg base "row_worths" 4 ["fares","row","scale","behind"] sm true:=by
 have sc:FnScope ["fares","row","scale","behind"] ["fares","row","scale","behind"] (am A0):=by walk_at"sc"
 refine mkA Z.u0c (by walk_at"bd") λ_ _ Fn=>bG [] [] rfl rfl rfl Fn sc (λ_ _ _ _ _ _ _ hn hr=>?_)
 exact(bc (mq (O':=[]) (dm (own:=["s"]) (J3:=[0,1,2,3]) (cn:=["fares","row","scale","behind"]) (by walk_at"cp") rfl (mD Z.u29 (a9 (cO Z.u25 (a9 (a6 3) aj)) aj)) (by walk_at"pg") (ef 0) (by decide) (λ_ _ _ _=>dc) (λ_ _ _ _=>(bz (O7 Z).mono hr (a9 (a6 1) (a9 (a6 2) (a9 (a6 3) (a9 (a6 4) (a9 (a6 0) aj))))))))))
def O9:DefX P w K mg base "worths_of" 5 ["fares","turns","last","ends"] so:=by
 have sc:FnScope ["fares","turns","last","ends","scales","table","t"] ["fares","turns","last","ends"] (am A1):=by walk_at"sc"
 refine mkA Z.u0d (by walk_at"bd") λ_ _ Fn=>F3 [] rfl rfl rfl Fn sc (λ_ _ _ _ _ _ _ hn hr=>?_)
 exact(EV (OL:=[]) (fr:=true) (e9 4 sc.nd (iy (B6 Z).mono hr (a9 (a6 1) (a9 (a6 2) aj))) (by rw[hn];decide)) EU (EW (O':=[]) 5 sc.nd (Dx Z.u26 (aD 3)) (by rw[hn];decide) (EQ (ES 6 sc.nd rfl Z.u29 (a9 (cN (cO Z.u25 (a9 (a6 1) aj)) ae) (a9 (ig ae) (a9 (ig ae) aj))) (wq (F2 (iy (O8 Z).mono hr (a9 (a6 0) (a9 (aG (aD 1) (a6 6) (λ_ _=>rfl)) (a9 (aG (aD 4) (bO (a6 6) ae) (λ_ _=>rfl)) (a9 (aG (aD 5) (ig ae) (λ_ _=>rfl)) aj)))))))) (wq (ET rfl Z.u26 Z.u2a))) (EL EY)))
def Oa:Def P w K mg base "is_taken" 2 ["fare","scale","behind","s"] sr false:=by
 have sc:FnScope ["fare","scale","behind","s"] ["fare","scale","behind","s"] (am A2):=by walk_at"sc"
 refine Def.sc (mkA Z.u0e (by walk_at"bd") λ_ _ Fn=>bG [] [] rfl rfl rfl Fn sc (λ_ _ _ _ _ _ _ hn hr=>?_));exact(bc (bS (O':=[]) (dY (pL (a6 3) ae) (fF (vf (bz (B7 Z).mono hr (a9 (a6 0) (a9 (a6 1) (a9 (a6 2) (a9 (a6 3) aj))))) (aG (aD 2) (a6 3) (λ_ _=>rfl)))))))
def Ob:Def P w K mg base "least_fare" 1 ["scale","behind","s"] su false:=by
 have sc:FnScope ["scale","behind","s"] ["scale","behind","s"] (am A3):=by walk_at"sc"
 refine Def.sc (mkA Z.u0f (by walk_at"bd") λ_ _ Fn=>bG [] [] rfl rfl rfl Fn sc (λ_ _ _ _ _ _ _ hn hr=>?_));exact(bc (bS (O':=[]) (ig (kD (cN (aG (aD 1) (cN (a6 2) ae) (λ_ _=>rfl)) (aG (aD 1) (a6 2) (λ_ _=>rfl))) (a6 0)))))
def B8:Def P w K mg base "is_rule" 2 ["rule"] o6 false:=by
 have sc:FnScope ["rule","room","came","of","due","chances_hold"] ["rule"] (am A4):=by walk_at"sc"
 refine Def.sc (mkA Z.u0g (by walk_at"bd") λ_ _ Fn=>bG [] [] rfl rfl rfl Fn sc (λ_ _ _ _ _ _ _ hn hr=>?_));exact(bf (cW 1 sc.nd (aG (aD 0) ae (λ_ _=>rfl))) (bf (cW 2 sc.nd (aG (aD 0) ae (λ_ _=>rfl))) (bf (cW 3 sc.nd (aG (aD 0) ae (λ_ _=>rfl))) (bf (cW 4 sc.nd (aG (aD 0) ae (λ_ _=>rfl))) (bf (cW 5 sc.nd (dY (bz (gz Z).mono hr (a9 (a6 3) (a9 ae (a9 (eI Z.u2m.choose_spec) aj)))) (fF (bz (gz Z).mono hr (a9 (a6 2) (a9 ae (a9 (a6 3) aj))))))) (bc (bS (O':=[]) (dY (bz (gz Z).mono hr (a9 (a6 1) (a9 ae (a9 (eI Z.u2n.choose_spec) aj)))) (dY (a6 5) (fF (bz (gz Z).mono hr (a9 (a6 4) (a9 ae (a9 (eI Z.u2h.choose_spec) aj))))))))))))))
def Oc:Def P w K mg base "with_one_more" 1 ["shows","came","stayed"] sv true:=by
 have sc:FnScope ["shows","came","stayed","without","along"] ["shows","came","stayed"] (am A5):=by walk_at"sc"
 refine mkA Z.u0h (by walk_at"bd") λ_ _ Fn=>bG [] [] rfl rfl rfl Fn sc (λ_ _ _ _ _ _ _ hn hr=>?_)
 exact(bf (e9 3 sc.nd (kG (cZ (bD (dm (own:=["weight"]) (J3:=[2]) (cn:=["stayed"]) (by walk_at"cp") rfl (iq (aD 0)) (by walk_at"pg") (ef 0) (by decide) (λ_ _ _ _=>dc) (λ_ _ _ _=>(c9 (a6 0) (a6 1)))))) (cZ (bD (cy (a9 ae aj))))) (by rw[hn];decide)) (bf (e9 4 sc.nd (kG (cZ (bD (cy (a9 ae aj)))) (cZ (bD (dm (own:=["weight"]) (J3:=[1]) (cn:=["came"]) (by walk_at"cp") rfl (iq (aD 0)) (by walk_at"pg") (ef 0) (by decide) (λ_ _ _ _=>dc) (λ_ _ _ _=>(c9 (a6 0) (a6 1))))))) (by rw[hn];decide)) (bc (mq (O':=[]) (dm (own:=["one","other"]) (J3:=[]) (cn:=[]) (by walk_at"cp") rfl (we Z.u2e (aD 3) (aD 4)) (λ_ _ _ _=>gB rfl (Tgs.ok (is:=[0,1]) (show(["one","other"]:z0).Nodup from by decide +kernel) (.cons (i:=0) rfl (Or.inl rfl) (.inr rfl) (.cons (i:=1) rfl (Or.inl rfl) (.inr rfl) Tgs.nil rfl) rfl))) (mE [0,1]) (by decide) (λ_ _ _ _=>dc) (λ_ _ _ _=>(bO (a6 0) (a6 1))))))))
def Od:Def P w K mg base "shows_of" 2 ["sold","came","of"] sw true:=by
 have sc:FnScope ["sold","came","of","shows","seat"] ["sold","came","of"] (am A6):=by walk_at"sc"
 refine mkA Z.u0i (by walk_at"bd") λ_ _ Fn=>bG [] [] rfl rfl rfl Fn sc (λ_ _ _ _ _ _ _ hn hr=>?_)
 exact(bf (e9 3 sc.nd (cy (a9 ae aj)) (by rw[hn];decide)) (bf (kN 4 [3] sc.nd rfl Z.u29 (a9 (a6 0) aj) (bc (e9 3 sc.nd (iy (Oc Z).mono hr (a9 (a6 3) (a9 (a6 1) (a9 (cN (a6 2) (a6 1)) aj)))) (by rw[hn];decide)))) (bc (pY (O':=[]) 3))))
def Oe:Def P w K mg base "beyond_room" 3 ["sold","rule"] sx false:=by
 have sc:FnScope ["sold","rule","room","shows"] ["sold","rule"] (am A7):=by walk_at"sc"
 refine Def.sc (mkA Z.u0j (by walk_at"bd") λ_ _ Fn=>bG [] [] rfl rfl rfl Fn sc (λ_ _ _ _ _ _ _ hn hr=>?_));exact(bf (cW 2 sc.nd (aG (aD 1) ae (λ_ _=>rfl))) (bf (e9 3 sc.nd (iy (Od Z).mono hr (a9 (a6 0) (a9 (aG (aD 1) ae (λ_ _=>rfl)) (a9 (aG (aD 1) ae (λ_ _=>rfl)) aj)))) (by rw[hn];decide)) (bc (bS (O':=[]) (kH rfl Z.u2c (a9 (bD (dm (own:=["many","weight"]) (J3:=[2]) (cn:=["room"]) (by walk_at"cp") rfl (wd Z.u22 (aD 3)) (λ_ _ _ _=>gB rfl (Tgs.ok (is:=[0,1]) (show(["many","weight","room"]:z0).Nodup from by decide +kernel) (.cons (i:=0) rfl (Or.inl rfl) (.inr rfl) (.cons (i:=1) rfl (Or.inl rfl) (.inr rfl) Tgs.nil rfl) rfl))) (mE [0,1]) (by decide) (λ_ _ _ _=>dc) (λ_ _ _ _=>(c9 (a6 1) (kI rfl Z.u27 (a9 (cN (a6 0) (a6 2)) (a9 ae aj))))))) aj))))))
def Of:Def P w K mg base "end_of" 4 ["sold","left","rule"] sy false:=by
 have sc:FnScope ["sold","left","rule","due"] ["sold","left","rule"] (am A8):=by walk_at"sc"
 refine Def.sc (mkA Z.u0k (by walk_at"bd") λ_ _ Fn=>bG [] [] rfl rfl rfl Fn sc (λ_ _ _ _ _ _ _ hn hr=>?_));exact(bf (cW 3 sc.nd (aG (aD 2) ae (λ_ _=>rfl))) (bc (bS (O':=[]) (c9 (c9 (ig (a6 3)) (bz (Oe Z).mono hr (a9 (a6 0) (a9 (a6 2) aj)))) (bz (B2 Z).mono hr (a9 (aG (aD 2) ae (λ_ _=>rfl)) (a9 (a6 1) aj)))))))
def Og:Def P w K mg base "ends_of" 5 ["seats","rule"] sA true:=by
 have sc:FnScope ["seats","rule"] ["seats","rule"] (am A9):=by walk_at"sc"
 refine mkA Z.u0l (by walk_at"bd") λ_ _ Fn=>bG [] [] rfl rfl rfl Fn sc (λ_ _ _ _ _ _ _ hn hr=>?_)
 exact(bc (mq (O':=[]) (dm (own:=["left"]) (J3:=[0,1]) (cn:=["seats","rule"]) (by walk_at"cp") rfl (mD Z.u29 (a9 (bO (a6 0) ae) aj)) (by walk_at"pg") (ef 0) (by decide) (λ_ _ _ _=>dc) (λ_ _ _ _=>(bz (Of Z).mono hr (a9 (cN (a6 1) (a6 0)) (a9 (a6 0) (a9 (a6 2) aj))))))))
def Oh:Def P w K mg base "last_scale" 2 ["seats","rule"] sB false:=by
 have sc:FnScope ["seats","rule"] ["seats","rule"] (am Aa):=by walk_at"sc"
 refine Def.sc (mkA Z.u0m (by walk_at"bd") λ_ _ Fn=>bG [] [] rfl rfl rfl Fn sc (λ_ _ _ _ _ _ _ hn hr=>?_));exact(bc (bS (O':=[]) (bz (B2 Z).mono hr (a9 (aG (aD 1) ae (λ_ _=>rfl)) (a9 (a6 0) aj)))))
def B9:Def P w K mg base "is_made_of" 1 ["word","signs","most"] iQ false:=by
 have sc:FnScope ["word","signs","most"] ["word","signs","most"] (am Ab):=by walk_at"sc"
 refine Def.sc (mkA Z.u0n (by walk_at"bd") λ_ _ Fn=>bG [] [] rfl rfl rfl Fn sc (λ_ _ _ _ _ _ _ hn hr=>?_));exact(bc (bS (O':=[]) (dY (pM ae (ye Z.u25 (a9 (a6 0) aj)) (a6 2)) (fF (mM rfl Z.u20 (a9 (bD (dm (own:=["sign"]) (J3:=[1]) (cn:=["signs"]) (by walk_at"cp") rfl (JN (a6 0)) (by walk_at"pg") (ef 0) (by decide) (λ_ _ _ _=>dc) (λ_ _ _ _=>(Js (a6 0) (a6 1))))) aj))))))
def Ba:Def P w K mg base "yes_or_no" 1 ["taken"] iR false:=by
 have sc:FnScope ["taken"] ["taken"] (am Ac):=by walk_at"sc"
 refine Def.sc (mkA Z.u0o (by walk_at"bd") λ_ _ Fn=>bG [] [] rfl rfl rfl Fn sc (λ_ _ _ _ _ _ _ hn hr=>?_));exact(bc (bS (O':=[]) (vi (gF (a6 0)) aL aL)))
def Oi:Def P w K mg base "dash_or_number" 1 ["number"] sC false:=by
 have sc:FnScope ["number"] ["number"] (am Ad):=by walk_at"sc"
 refine Def.sc (mkA Z.u0p (by walk_at"bd") λ_ _ Fn=>bG [] [] rfl rfl rfl Fn sc (λ_ _ _ _ _ _ _ hn hr=>?_));exact(bc (bS (O':=[]) (vi (mP (a6 0)) aL (eB Z.u2b (a9 (a6 0) aj)))))
def Bb:Def P w K mg base "_law_nth" 1 ["script","k"] o7 false:=by
 have sc:FnScope ["script","k","cell"] ["script","k"] (am Ae):=by walk_at"sc"
 refine Def.sc (mkA Z.u0q (by walk_at"bd") λ_ _ Fn=>bG [] [] rfl rfl rfl Fn sc (λ_ _ _ _ _ _ _ hn hr=>?_));exact(bf (DE 2 [] sc.nd rfl (bD (Dv (aD 0) (jm (a6 1)) (jm (bO (a6 1) ae)))) (bc (bS (O':=[]) (a6 2)))) (bc (bS (O':=[]) ae)))
def Oj:Def P w K mg base "_law_ends" 1 ["seats","rule"] sD true:=by
 have sc:FnScope ["seats","rule","room","came","of","due","ends","shows","power_v","sold","lost","left"] ["seats","rule"] (am Af):=by walk_at"sc"
 refine mkA Z.u0r (by walk_at"bd") λ_ _ Fn=>bG [] [] rfl rfl rfl Fn sc (λ_ _ _ _ _ _ _ hn hr=>?_)
 exact(bf (vF (O':=[]) [2,3,4,5] rfl sc.nd (a6 1) (.cons (i:=2) rfl (by first|exact Or.inl rfl|exact Or.inr rfl) (.inl rfl) (.cons (i:=3) rfl (by first|exact Or.inl rfl|exact Or.inr rfl) (.inl rfl) (.cons (i:=4) rfl (by first|exact Or.inl rfl|exact Or.inr rfl) (.inl rfl) (.cons (i:=5) rfl (by first|exact Or.inl rfl|exact Or.inr rfl) (.inl rfl) Tgs.nil rfl) rfl) rfl) rfl) (by decide) (by decide)) (bf (e9 6 sc.nd (cy aj) (by rw[hn];decide)) (bf (e9 7 sc.nd (cy (a9 ae aj)) (by rw[hn];decide)) (bf (cW 8 sc.nd ae) (bf (kN 9 [7,6] sc.nd rfl Z.u29 (a9 (bO (a6 0) ae) aj) (bf (cW 10 sc.nd (kH rfl Z.u2c (a9 (bD (dm (own:=["number"]) (J3:=[2,7]) (cn:=["room","shows"]) (by walk_at"cp") rfl (mD Z.u29 (a9 (bO (a6 9) ae) aj)) (by walk_at"pg") (ef 0) (by decide) (λ_ _ _ _=>dc) (λ_ _ _ _=>(c9 (aG (aD 2) (a6 0) (λ_ _=>rfl)) (kI rfl Z.u27 (a9 ae (a9 (cN (a6 0) (a6 1)) aj))))))) aj))) (bf (qE 6 ae (cN ae (c9 (a6 5) (a6 10)))) (bc (e9 7 sc.nd (dm (own:=["j"]) (J3:=[3,4,7]) (cn:=["came","of","shows"]) (by walk_at"cp") rfl (mD Z.u29 (a9 (bO (a6 9) ae) aj)) (by walk_at"pg") (ef 0) (by decide) (λ_ _ _ _=>dc) (λ_ _ _ _=>(bO (c9 (aG (cZ (bD (kG (aD 3) (cZ (bD (cy (a9 ae aj))))))) (a6 0) (λ_ _=>rfl)) (cN (a6 2) (a6 1))) (c9 (aG (cZ (bD (kG (cZ (bD (cy (a9 ae aj)))) (aD 3)))) (a6 0) (λ_ _=>rfl)) (a6 1))))) (by rw[hn];decide)))))) (bf (kN 11 [7,6] sc.nd rfl Z.u29 (a9 (bO (a6 0) ae) aj) (bf (F0 6 (c9 (aG (aD 6) (a6 11) (λ_ _=>rfl)) (a6 8)) (a6 11)) (bc (cW 8 sc.nd (c9 (a6 8) (a6 4)))))) (bc (pY (O':=[]) 6))))))))
def Om:Def P w K mg base "_law_last" 1 ["seats","rule"] sE false:=by
 have sc:FnScope ["seats","rule","last","seat"] ["seats","rule"] (am Ag):=by walk_at"sc"
 refine Def.sc (mkA Z.u0s (by walk_at"bd") λ_ _ Fn=>bG [] [] rfl rfl rfl Fn sc (λ_ _ _ _ _ _ _ hn hr=>?_));exact(bf (cW 2 sc.nd ae) (bf (kN 3 [] sc.nd rfl Z.u29 (a9 (a6 0) aj) (bc (cW 2 sc.nd (c9 (a6 2) (aG (aD 1) ae (λ_ _=>rfl)))))) (bc (bS (O':=[]) (a6 2)))))
def On:Def P w K mg base "_law_list" 1 ["fares","row","scale","behind"] sF true:=by
 have sc:FnScope ["fares","row","scale","behind","found","s","stay","total","fare","weight","best"] ["fares","row","scale","behind"] (am Ah):=by walk_at"sc"
 refine mkA Z.u0t (by walk_at"bd") λ_ _ Fn=>bG [] [] rfl rfl rfl Fn sc (λ_ _ _ _ _ _ _ hn hr=>?_)
 exact(bf (e9 4 sc.nd (cy aj) (by rw[hn];decide)) (bf (Eg 5 6 [4] sc.nd rfl Z.u22 (a6 3) (bf (cW 7 sc.nd (c9 (aG (aD 1) (ig ae) (λ_ _=>rfl)) (a6 6))) (bf (Eh 8 9 [4] sc.nd rfl Z.u2e (a6 0) (a6 1) (bf (cW 10 sc.nd (a6 6)) (bf (mo (O':=[4]) (mf (a6 5) ae) (bc (cW 10 sc.nd (kI rfl Z.u27 (a9 (a6 6) (a9 (bO (c9 (a6 8) (a6 2)) (aG (aD 3) (cN (a6 5) ae) (λ_ _=>rfl))) aj))))) mn) (bc (cW 7 sc.nd (bO (a6 7) (c9 (a6 9) (a6 10))))))) (.cons (i:=8) rfl (by first|exact Or.inl rfl|exact Or.inr rfl) (by first|exact .inl rfl|exact .inr rfl) (.cons (i:=9) rfl (by first|exact Or.inl rfl|exact Or.inr rfl) (by first|exact .inl rfl|exact .inr rfl) Tgs.nil rfl) rfl)) (bc (ww 4 (a6 7))))) (.cons (i:=5) rfl (by first|exact Or.inl rfl|exact Or.inr rfl) (by first|exact .inl rfl|exact .inr rfl) (.cons (i:=6) rfl (by first|exact Or.inl rfl|exact Or.inr rfl) (by first|exact .inl rfl|exact .inr rfl) Tgs.nil rfl) rfl)) (bc (pY (O':=[]) 4))))
def Oo:Def P w K mg base "_law_table" 2 ["sale"] sG false:=by
 have sc:FnScope ["sale","seats","fares","turns","rule","table","scales","row"] ["sale"] (am Ai):=by walk_at"sc"
 refine mkA Z.u0u (by walk_at"bd") λ_ _ Fn=>bG [] [] rfl rfl rfl Fn sc (λ_ _ _ _ _ _ _ hn hr=>?_)
 exact(bf (vF (O':=[]) [1,2,3,4] rfl sc.nd (a6 0) (.cons (i:=1) rfl (by first|exact Or.inl rfl|exact Or.inr rfl) (.inl rfl) (.cons (i:=2) rfl (by first|exact Or.inl rfl|exact Or.inr rfl) (.inl rfl) (.cons (i:=3) rfl (by first|exact Or.inl rfl|exact Or.inr rfl) (.inl rfl) (.cons (i:=4) rfl (by first|exact Or.inl rfl|exact Or.inr rfl) (.inl rfl) Tgs.nil rfl) rfl) rfl) rfl) (by decide) (by decide)) (bf (e9 5 sc.nd (cy (a9 (bD (iy (Oj Z).mono hr (a9 (a6 1) (a9 (a6 4) aj)))) aj)) (by rw[hn];decide)) (bf (e9 6 sc.nd (cy (a9 (bz (Om Z).mono hr (a9 (a6 1) (a9 (a6 4) aj))) aj)) (by rw[hn];decide)) (bf (wf 7 [6,5] sc.nd rfl Z.u2a (a6 3) (bf (qE 5 ae (bD (iy (On Z).mono hr (a9 (a6 2) (a9 (a6 7) (a9 (aG (aD 6) ae (λ_ _=>rfl)) (a9 (aG (aD 5) ae (λ_ _=>rfl)) aj))))))) (bc (qE 6 ae (c9 (aG (aD 6) ae (λ_ _=>rfl)) (kH rfl Z.u2c (a9 (a6 7) aj))))))) (bc (bS (O':=[]) (vj (a9 (a6 6) (a9 (a6 5) aj)))))))))
def Op:Def P w K mg base "_law_least" 1 ["scale","behind","s"] sH false:=by
 have sc:FnScope ["scale","behind","s"] ["scale","behind","s"] (am Aj):=by walk_at"sc"
 refine Def.sc (mkA Z.u0v (by walk_at"bd") λ_ _ Fn=>bG [] [] rfl rfl rfl Fn sc (λ_ _ _ _ _ _ _ hn hr=>?_));exact(bf (mo (O':=[]) (ca hr (a6 2) ae) (bc (bS (O':=[]) aL)) mn) (bc (bS (O':=[]) (eB Z.u2b (a9 (cN ae (kD (cN (aG (aD 1) (cN (a6 2) ae) (λ_ _=>rfl)) (aG (aD 1) (a6 2) (λ_ _=>rfl))) (a6 0))) aj)))))
def Oq:DefE P w K mg base "read_words" 1 ["row"] (sI b_ a_):=by
 have sc:FnScope ["row","words"] ["row"] (am Ak):=by walk_at"sc"
 refine mkA Z.u0w (by walk_at"bd") λ_ _ Fn=>dg rfl rfl rfl Fn sc (λ_ _ _ _ _ _ _ _ hr ho=>?_)
 exact(aU (bp (aO 1 sc.nd (rg (JJ (a6 0))))) (aU (bL (JV (a7 aL) (a7 (a6 1))) (aY (cT Z.u39 ho)) c5) (aY (bp (ba (a7 (a6 1)))))))
def Bc:MetN P w K mg base a_ "is_over" 1 ["self"] (o8 b_ a_):=by
 have sc:FnScope ["self"] ["self"] (am Al):=by walk_at"sc"
 refine mkM Z.u0x (by walk_at"bd") λ_ _ Fn=>cu rfl rfl rfl Fn sc (λ_ _ _ _ _ _ hr=>?_)
 exact(aS (ba (rE hr (aT (i:=5) (ns:=c_) Z.u2s Z.u33 (a7 (a6 0))) (iF (iH Z.u25 (ad (aT (i:=3) (ns:=c_) Z.u2s Z.u31 (a7 (a6 0))) aq)) (a7 ae)))))
def Os:MetE P w K mg base a_ "fare_of" 2 ["self","asker"] (o9 b_ a_):=by
 have sc:FnScope ["self","asker"] ["self","asker"] (am Am):=by walk_at"sc"
 refine mkM Z.u0y (by walk_at"bd") λ_ _ Fn=>dg rfl rfl rfl Fn sc (λ_ _ _ _ _ _ _ _ hr ho=>?_)
 exact(aU (bp (bZ (bw (mP (a6 1))) (aS (ba (a7 eO))) bY)) (aU (bL (iG (fM (nA (gz Z).mono hr (ad (a7 (a6 1)) (ad (a7 ae) (ad (iF (iH Z.u25 (ad (aT (i:=1) (ns:=c_) Z.u2s Z.u2z (a7 (a6 0))) aq)) (a7 ae)) aq)))))) (aY (cT Z.u39 ho)) c5) (aY (bp (ba (eR (aT (i:=1) (ns:=c_) Z.u2s Z.u2z (a7 (a6 0))) (a7 (a6 1)) (λ_ _=>rfl)))))))
def lM:MetN P w K mg base a_ "left" 1 ["self"] (iS b_ a_):=by
 have sc:FnScope ["self"] ["self"] (am An):=by walk_at"sc"
 refine mkM Z.u0z (by walk_at"bd") λ_ _ Fn=>cu rfl rfl rfl Fn sc (λ_ _ _ _ _ _ hr=>?_)
 exact(aS (ba (iF (aT (i:=0) (ns:=c_) Z.u2s Z.u2y (a7 (a6 0))) (aT (i:=6) (ns:=c_) Z.u2s Z.u35 (a7 (a6 0))))))
def Ot:MetN P w K mg base a_ "takes" 3 ["self","fare"] (oa b_ a_):=by
 have sc:FnScope ["self","fare","behind"] ["self","fare"] (am Ao):=by walk_at"sc"
 refine mkM Z.u10 (by walk_at"bd") λ_ _ Fn=>cu rfl rfl rfl Fn sc (λ_ _ _ _ _ _ hr=>?_)
 exact(aw (aO 2 sc.nd (fj (aT (i:=5) (ns:=c_) Z.u2s Z.u33 (a7 (a6 0))) (a7 ae))) (aS (ba (GN (a7 (E3 (a6 1))) (GM (nA (Oa Z).mono hr (ad (a7 (a6 1)) (ad (eR (aT (i:=3) (ns:=c_) Z.u2s Z.u31 (a7 (a6 0))) (a7 (a6 2)) (λ_ _=>rfl)) (ad (eR (aT (i:=4) (ns:=c_) Z.u2s Z.u32 (a7 (a6 0))) (a7 (a6 2)) (λ_ _=>rfl)) (ad (eS (ns:=c_) Z.u2s (lM Z).mono hr (a7 (a6 0))) aq))))))))))
def Ou:MetN P w K mg base a_ "least" 2 ["self"] (sJ b_ a_):=by
 have sc:FnScope ["self","behind"] ["self"] (am Ap):=by walk_at"sc"
 refine mkM Z.u11 (by walk_at"bd") λ_ _ Fn=>cu rfl rfl rfl Fn sc (λ_ _ _ _ _ _ hr=>?_)
 exact(aw (bZ (jA hr (eS (ns:=c_) Z.u2s (lM Z).mono hr (a7 (a6 0))) (a7 ae)) (aS (ba (a7 eO))) bY) (aw (aO 1 sc.nd (fj (aT (i:=5) (ns:=c_) Z.u2s Z.u33 (a7 (a6 0))) (a7 ae))) (aS (ba (nA (Ob Z).mono hr (ad (eR (aT (i:=3) (ns:=c_) Z.u2s Z.u31 (a7 (a6 0))) (a7 (a6 1)) (λ_ _=>rfl)) (ad (eR (aT (i:=4) (ns:=c_) Z.u2s Z.u32 (a7 (a6 0))) (a7 (a6 1)) (λ_ _=>rfl)) (ad (eS (ns:=c_) Z.u2s (lM Z).mono hr (a7 (a6 0))) aq))))))))
def Be:MetE P w K mg base a_ "asked" 4 ["self","asker"] (gv b_ a_):=by
 have sc:FnScope ["self","asker","fare","taken"] ["self","asker"] (am Aq):=by walk_at"sc"
 refine mkM Z.u12 (by walk_at"bd") λ_ _ Fn=>dg rfl rfl rfl Fn sc (λ_ _ _ _ _ _ _ _ hr ho=>?_)
 exact(aU (bL (fM (eS (ns:=c_) Z.u2s (Bc Z).mono hr (a7 (a6 0)))) (aY (cT Z.u39 ho)) c5) (aU (xJ 2 ho sc.nd (gr (ns:=c_) Z.u2s (Os Z).mono hr (a7 (a6 0)) (ad (a7 (a6 1)) aq))) (aU (bp (aO 3 sc.nd (xN (ns:=c_) Z.u2s (Ot Z).mono hr (a7 (a6 0)) (ad (a7 (a6 2)) aq)))) (aU (bp (jC (i:=9) (ns:=c_) Z.u2s Z.u38 (a7 (a6 0)) (ny (ad (aT (i:=5) (ns:=c_) Z.u2s Z.u33 (a7 (a6 0))) (ad (eS (ns:=c_) Z.u2s (lM Z).mono hr (a7 (a6 0))) (ad (eS (ns:=c_) Z.u2s (Ou Z).mono hr (a7 (a6 0))) (ad (a7 (a6 2)) aq))))))) (aU (bp (jC (i:=5) (ns:=c_) Z.u2s Z.u33 (a7 (a6 0)) (fj (aT (i:=5) (ns:=c_) Z.u2s Z.u33 (a7 (a6 0))) (a7 ae)))) (aU (bp (bZ (bw (gF (a6 3))) (aw (jC (i:=6) (ns:=c_) Z.u2s Z.u35 (a7 (a6 0)) (fj (aT (i:=6) (ns:=c_) Z.u2s Z.u35 (a7 (a6 0))) (a7 ae))) (aS (jC (i:=7) (ns:=c_) Z.u2s Z.u36 (a7 (a6 0)) (fj (aT (i:=7) (ns:=c_) Z.u2s Z.u36 (a7 (a6 0))) (a7 (a6 2)))))) bY)) (aY (bp (ba (a7 (a6 3)))))))))))
def Ov:MetN P w K mg base a_ "turn" 1 ["self"] (sK b_ a_):=by
 have sc:FnScope ["self"] ["self"] (am Ar):=by walk_at"sc"
 refine mkM Z.u13 (by walk_at"bd") λ_ _ Fn=>cu rfl rfl rfl Fn sc (λ_ _ _ _ _ _ hr=>?_)
 exact(aS (ba (aT (i:=5) (ns:=c_) Z.u2s Z.u33 (a7 (a6 0)))))
def Bf:MetN P w K mg base a_ "coins" 1 ["self"] (lr b_ a_):=by
 have sc:FnScope ["self"] ["self"] (am As):=by walk_at"sc"
 refine mkM Z.u14 (by walk_at"bd") λ_ _ Fn=>cu rfl rfl rfl Fn sc (λ_ _ _ _ _ _ hr=>?_)
 exact(aS (ba (xb (l9 (aT (i:=8) (ns:=c_) Z.u2s Z.u37 (a7 (a6 0)))) (aT (i:=7) (ns:=c_) Z.u2s Z.u36 (a7 (a6 0))) (iF (aT (i:=7) (ns:=c_) Z.u2s Z.u36 (a7 (a6 0))) (aT (i:=8) (ns:=c_) Z.u2s Z.u37 (a7 (a6 0)))))))
def Ow:MetE P w K mg base a_ "paper" 1 ["self"] (sL b_ a_):=by
 have sc:FnScope ["self"] ["self"] (am At):=by walk_at"sc"
 refine mkM Z.u15 (by walk_at"bd") λ_ _ Fn=>dg rfl rfl rfl Fn sc (λ_ _ _ _ _ _ _ _ hr ho=>?_)
 exact(aU (bL (l9 (aT (i:=9) (ns:=c_) Z.u2s Z.u38 (a7 (a6 0)))) (aY (cT Z.u39 ho)) c5) (aY (bp (ba (aT (i:=9) (ns:=c_) Z.u2s Z.u38 (a7 (a6 0)))))))
def Ox:MetN P w K mg base a_ "worth" 1 ["self"] (oe b_ a_):=by
 have sc:FnScope ["self"] ["self"] (am Au):=by walk_at"sc"
 refine mkM Z.u16 (by walk_at"bd") λ_ _ Fn=>cu rfl rfl rfl Fn sc (λ_ _ _ _ _ _ hr=>?_)
 exact(aS (ba (ny (ad (eR (eR (aT (i:=4) (ns:=c_) Z.u2s Z.u32 (a7 (a6 0))) (a7 ae) (λ_ _=>rfl)) (aT (i:=0) (ns:=c_) Z.u2s Z.u2y (a7 (a6 0))) (λ_ _=>rfl)) (ad (eR (aT (i:=3) (ns:=c_) Z.u2s Z.u31 (a7 (a6 0))) (a7 ae) (λ_ _=>rfl)) aq)))))
def Oy:MetE P w K mg base b_ "tell" 5 ["self","head"] (fm b_ a_):=by
 have sc:FnScope ["self","head"] ["self","head"] (am Aw):=by walk_at"sc"
 refine mkM Z.u17 (by walk_at"bd") λ_ _ Fn=>dg rfl rfl rfl Fn sc (λ_ _ _ _ _ _ _ _ hr ho=>?_)
 exact(aU (bL (bw (ca hr (a6 1) aL)) (aY (iJ ho (yx (Ba Z).mono hr (iO (gr (ns:=c_) Z.u2s (Be Z).mono hr (aT (i:=4) (ns:=d_) Z.u2r Z.u2x (a7 (a6 0))) (ad (a7 eO) aq)) jI)))) c5) (aU (bp (bZ (bw (ca hr (a6 1) aL)) (aS (ba (iP Z.u2b (ad (eS (ns:=c_) Z.u2s (lM Z).mono hr (aT (i:=4) (ns:=d_) Z.u2r Z.u2x (a7 (a6 0)))) aq)))) bY)) (aU (bp (bZ (bw (ca hr (a6 1) aL)) (aS (ba (iP Z.u2b (ad (eS (ns:=c_) Z.u2s (Ov Z).mono hr (aT (i:=4) (ns:=d_) Z.u2r Z.u2x (a7 (a6 0)))) aq)))) bY)) (aU (bp (bZ (bw (ca hr (a6 1) aL)) (aS (ba (iP Z.u2b (ad (eS (ns:=c_) Z.u2s (Bf Z).mono hr (aT (i:=4) (ns:=d_) Z.u2r Z.u2x (a7 (a6 0)))) aq)))) bY)) (aU (bL (bw (ca hr (a6 1) aL)) (aY (iJ ho (Km (Kl (y:="number") (J3:=[]) (cn:=[]) (by walk_at"cp") rfl (HF (ns:=c_) Z.u2s (Ow Z).mono hr (aT (i:=4) (ns:=d_) Z.u2r Z.u2x (a7 (a6 0)))) (by walk_at"pg") (λ_ _ _ _=>(a7 (bz (Oi Z).mono hr (a9 (a6 0) aj)))))))) c5) (aU (bp (bZ (bw (ca hr (a6 1) aL)) (aS (ba (lq (Kk (y:="number") (J3:=[]) (cn:=[]) (by walk_at"cp") rfl (eS (ns:=c_) Z.u2s (Ox Z).mono hr (aT (i:=4) (ns:=d_) Z.u2r Z.u2x (a7 (a6 0)))) (by walk_at"pg") (λ_ _ _ _=>(a7 (eB Z.u2b (a9 (a6 0) aj)))))))) bY)) (aY (cT Z.u39 ho))))))))
def Oz:MetE P w K mg base a_ "came" 2 ["self","number"] (jJ b_ a_):=by
 have sc:FnScope ["self","number"] ["self","number"] (am Ax):=by walk_at"sc"
 refine mkM Z.u18 (by walk_at"bd") λ_ _ Fn=>dg rfl rfl rfl Fn sc (λ_ _ _ _ _ _ _ _ hr ho=>?_)
 exact(aU (bL (iG (fM (eS (ns:=c_) Z.u2s (Bc Z).mono hr (a7 (a6 0))))) (aY (cT Z.u39 ho)) c5) (aU (bL (GK (aT (i:=8) (ns:=c_) Z.u2s Z.u37 (a7 (a6 0)))) (aY (cT Z.u39 ho)) c5) (aU (bL (iG (fM (nA (gz Z).mono hr (ad (a7 (a6 1)) (ad (a7 ae) (ad (aT (i:=6) (ns:=c_) Z.u2s Z.u35 (a7 (a6 0))) aq)))))) (aY (cT Z.u39 ho)) c5) (aU (bp (jC (i:=8) (ns:=c_) Z.u2s Z.u37 (a7 (a6 0)) (wW (eR (aT (i:=2) (ns:=c_) Z.u2s Z.u30 (a7 (a6 0))) (a7 ae) (λ_ _=>rfl)) (Hc rfl Z.u27 (ad (iF (a7 (a6 1)) (eR (aT (i:=2) (ns:=c_) Z.u2s Z.u30 (a7 (a6 0))) (a7 ae) (λ_ _=>rfl))) (ad (a7 ae) aq)))))) (aY (bp (ba (eS (ns:=c_) Z.u2s (Bf Z).mono hr (a7 (a6 0))))))))))
def OA:MetE P w K mg base b_ "place_of" 1 ["self","name"] (jK b_ a_):=by
 have sc:FnScope ["self","name"] ["self","name"] (am Ay):=by walk_at"sc"
 refine mkM Z.u19 (by walk_at"bd") λ_ _ Fn=>dg rfl rfl rfl Fn sc (λ_ _ _ _ _ _ _ _ hr ho=>?_)
 exact(aU (bL (Kg hr (a7 (a6 1)) (aT (i:=0) (ns:=d_) Z.u2r Z.u2t (a7 (a6 0)))) (aY (rM Z.u39 ho (a6 1))) c5) (aY (bp (ba (yw hr (aT (i:=0) (ns:=d_) Z.u2r Z.u2t (a7 (a6 0))) (a7 (a6 1)) (λ_ _=>rfl))))))
def oK:DefE P w K mg base "read_number" 2 ["word"] (iT b_ a_):=by
 have sc:FnScope ["word"] ["word"] (am Az):=by walk_at"sc"
 refine mkA Z.u1a (by walk_at"bd") λ_ _ Fn=>dg rfl rfl rfl Fn sc (λ_ _ _ _ _ _ _ _ hr ho=>?_)
 exact(aU (bL (bw (f8 (pO (ji (gF (bz (B9 Z).mono hr (a9 (a6 0) (a9 (xW Z.u2f.choose_spec) (a9 (eI Z.u2k.choose_spec) aj)))))) (pN (f8 (gH (ca hr (rJ (a6 0) ae (λ_ _=>rfl)) aL) (gG (qj hr (a6 0) aL)))))))) (aY (rM Z.u39 ho (a6 0))) c5) (aY (bp (ba (a7 (Jx Z.u23 (a9 (a6 0) aj)))))))
def OB:MetE P w K mg base b_ "serve" 6 ["self","head","rest"] (jL b_ a_):=by
 have sc:FnScope ["self","head","rest"] ["self","head","rest"] (am AB):=by walk_at"sc"
 refine mkM Z.u1b (by walk_at"bd") λ_ _ Fn=>dg rfl rfl rfl Fn sc (λ_ _ _ _ _ _ _ _ hr ho=>?_)
 exact(aU (bL (bw (f8 (gH (ca hr (a6 1) aL) (gG (ca hr (cO Z.u25 (a9 (a6 2) aj)) ae))))) (aY (iJ ho (yx (Ba Z).mono hr (iO (nT (ns:=c_) Z.u2s (Be Z).mono hr (aT (i:=4) (ns:=d_) Z.u2r Z.u2x (a7 (a6 0))) (iO (gr (ns:=d_) Z.u2r (OA Z).mono hr (a7 (a6 0)) (ad (a7 (aG (aD 2) ae (λ_ _=>rfl))) aq)) jI)) jI)))) c5) (aU (bL (bw (f8 (gH (ca hr (a6 1) aL) (gG (ca hr (cO Z.u25 (a9 (a6 2) aj)) ae))))) (aY (iJ ho (Kj Z.u2b (nT (ns:=c_) Z.u2s (Oz Z).mono hr (aT (i:=4) (ns:=d_) Z.u2r Z.u2x (a7 (a6 0))) (iO (li (oK Z).mono hr (ad (a7 (aG (aD 2) ae (λ_ _=>rfl))) aq)) jI))))) c5) (aU (bL (bw (mf (cO Z.u25 (a9 (a6 2) aj)) ae)) (aY (cT Z.u39 ho)) c5) (aY (iJ ho (gr (ns:=d_) Z.u2r (Oy Z).mono hr (a7 (a6 0)) (ad (a7 (a6 1)) aq)))))))
def OC:MetE P w K mg base b_ "add_class" 3 ["self","name","fare"] (sM b_ a_):=by
 have sc:FnScope ["self","name","fare"] ["self","name","fare"] (am AC):=by walk_at"sc"
 refine mkM Z.u1c (by walk_at"bd") λ_ _ Fn=>dg rfl rfl rfl Fn sc (λ_ _ _ _ _ _ _ _ hr ho=>?_)
 exact(aU (bL (Kf hr (a7 (a6 1)) (aT (i:=0) (ns:=d_) Z.u2r Z.u2t (a7 (a6 0)))) (aY Ko) c5) (aU (bL (GG (iH Z.u25 (ad (aT (i:=2) (ns:=d_) Z.u2r Z.u2v (a7 (a6 0))) aq)) (a7 ae)) (aY (cT Z.u39 ho)) c5) (aU (bL (jA hr (iH Z.u25 (ad (aT (i:=1) (ns:=d_) Z.u2r Z.u2u (a7 (a6 0))) aq)) (a7 (eI Z.u2j.choose_spec))) (aY (cT Z.u39 ho)) c5) (aU (bL (bw (ji (gF (bz (B3 Z).mono hr (a9 (bD (cy (a9 (a6 2) aj))) aj))))) (aY (cT Z.u39 ho)) c5) (aU (bp (Kh hr (aT (i:=0) (ns:=d_) Z.u2r Z.u2t (a7 (a6 0))) (a7 (a6 1)) (iH Z.u25 (ad (aT (i:=1) (ns:=d_) Z.u2r Z.u2u (a7 (a6 0))) aq)))) (aY (bp (ll (aT (i:=1) (ns:=d_) Z.u2r Z.u2u (a7 (a6 0))) (a7 (a6 2))))))))))
def OD:DefE P w K mg base "read_name" 2 ["word"] (sO b_ a_):=by
 have sc:FnScope ["word"] ["word"] (am AD):=by walk_at"sc"
 refine mkA Z.u1d (by walk_at"bd") λ_ _ Fn=>dg rfl rfl rfl Fn sc (λ_ _ _ _ _ _ _ _ hr ho=>?_)
 exact(aU (bL (bw (ji (gF (bz (B9 Z).mono hr (a9 (a6 0) (a9 (xW Z.u2g.choose_spec) (a9 (eI Z.u2l.choose_spec) aj))))))) (aY (rM Z.u39 ho (a6 0))) c5) (aY (bp (ba (a7 (a6 0))))))
def OE:MetE P w K mg base b_ "add_turn" 3 ["self","row"] (sP b_ a_):=by
 have sc:FnScope ["self","row","classes"] ["self","row"] (am AE):=by walk_at"sc"
 refine mkM Z.u1e (by walk_at"bd") λ_ _ Fn=>dg rfl rfl rfl Fn sc (λ_ _ _ _ _ _ _ _ hr ho=>?_)
 exact(aU (bp (aO 2 sc.nd (iH Z.u25 (ad (aT (i:=1) (ns:=d_) Z.u2r Z.u2u (a7 (a6 0))) aq)))) (aU (bL (bw (f8 (pO (ca hr (a6 2) ae) (pN (qj hr (cO Z.u25 (a9 (a6 1) aj)) (bO (a6 2) ae)))))) (aY (cT Z.u39 ho)) c5) (aU (bL (jA hr (iH Z.u25 (ad (aT (i:=2) (ns:=d_) Z.u2r Z.u2v (a7 (a6 0))) aq)) (a7 (eI Z.u2p.choose_spec))) (aY (cT Z.u39 ho)) c5) (aU (bL (bw (ji (gF (bz (B5 Z).mono hr (a9 (a6 1) (a9 (a6 2) aj)))))) (aY (cT Z.u39 ho)) c5) (aY (bp (ll (aT (i:=2) (ns:=d_) Z.u2r Z.u2v (a7 (a6 0))) (a7 (a6 1)))))))))
def Bg:DefN P w K mg base "read_numbers" 3 ["words"] (og b_ a_):=by
 have sc:FnScope ["words"] ["words"] (am AG):=by walk_at"sc"
 refine mkA Z.u1f (by walk_at"bd") λ_ _ Fn=>cu rfl rfl rfl Fn sc (λ_ _ _ _ _ _ hr=>?_)
 exact(aS (ba (xC (y:="word") (J3:=[]) (cn:=[]) (by walk_at"cp") rfl (a7 (a6 0)) (by walk_at"pg") (λ_ _ _ _=>(bb (oK Z).quiet.mono hr (ad (a7 (a6 0)) aq))))))
def OF:MetE P w K mg base b_ "set_rule" 3 ["self","rule"] (yF b_ a_):=by
 have sc:FnScope ["self","rule"] ["self","rule"] (am AH):=by walk_at"sc"
 refine mkM Z.u1g (by walk_at"bd") λ_ _ Fn=>dg rfl rfl rfl Fn sc (λ_ _ _ _ _ _ _ _ hr ho=>?_)
 exact(aU (bL (bw (ji (gF (bz (B8 Z).mono hr (a9 (a6 1) aj))))) (aY (cT Z.u39 ho)) c5) (aY (bp (jC (i:=3) (ns:=d_) Z.u2r Z.u2w (a7 (a6 0)) (a7 (a6 1))))))
def OG:MakE P w K mg base "Office" a_ 6 ["self","seats","fares","turns","rule"] (sQ b_ a_):=by
 have sc:FnScope ["self","seats","fares","turns","rule","last"] ["self","seats","fares","turns","rule"] (am AI):=by walk_at"sc"
 refine mkI Z.u1h (by walk_at"bd") λ_ _ Fn=>dg rfl rfl rfl Fn sc (λ_ _ _ _ _ _ _ _ hr ho=>?_)
 exact(aU (bL (iG (fM (He (O4 Z).mono hr (ad (a7 (a6 1)) (ad (a7 (a6 2)) (ad (a7 (a6 3)) aq)))))) (aY (cT Z.u39 ho)) c5) (aU (bL (bw (ji (gF (bz (B8 Z).mono hr (a9 (a6 4) aj))))) (aY (cT Z.u39 ho)) c5) (aU (bp (aO 5 sc.nd (a7 (bz (Oh Z).mono hr (a9 (a6 1) (a9 (a6 4) aj)))))) (aU (bp (dN (ns:=c_.take 0) Z.u2s Z.u2y (a7 (a6 0)) (a7 (a6 1)))) (aU (bp (dN (ns:=c_.take 1) Z.u2s Z.u2z (a7 (a6 0)) (Hh Z.u26 (a7 (a6 2))))) (aU (bp (dN (ns:=c_.take 2) Z.u2s Z.u30 (a7 (a6 0)) (a7 (a6 4)))) (aU (bp (dN (ns:=c_.take 3) Z.u2s Z.u31 (a7 (a6 0)) (Hf (B6 Z).mono hr (ad (a7 (a6 3)) (ad (a7 (a6 5)) aq))))) (aU (bp (dN (ns:=c_.take 4) Z.u2s Z.u32 (a7 (a6 0)) (Hg (O9 Z).mono hr (ad (a7 (a6 2)) (ad (a7 (a6 3)) (ad (a7 (a6 5)) (ad (a7 (bD (iy (Og Z).mono hr (a9 (a6 1) (a9 (a6 4) aj))))) aq))))))) (aU (bp (dN (ns:=c_.take 5) Z.u2s Z.u33 (a7 (a6 0)) (a7 ae))) (aU (bp (dN (ns:=c_.take 6) Z.u2s Z.u35 (a7 (a6 0)) (a7 ae))) (aU (bp (dN (ns:=c_.take 7) Z.u2s Z.u36 (a7 (a6 0)) (a7 ae))) (aU (bp (dN (ns:=c_.take 8) Z.u2s Z.u37 (a7 (a6 0)) (a7 eO))) (aY (bp (dN (ns:=c_.take 9) Z.u2s Z.u38 (a7 (a6 0)) (a7 eO))))))))))))))))
def OH:MetE P w K mg base b_ "begin" 8 ["self","seats"] (sR b_ a_):=by
 have sc:FnScope ["self","seats","rule"] ["self","seats"] (am AJ):=by walk_at"sc"
 refine mkM Z.u1i (by walk_at"bd") λ_ _ Fn=>dg rfl rfl rfl Fn sc (λ_ _ _ _ _ _ _ _ hr ho=>?_)
 exact(aU (bp (aO 2 sc.nd (xb (l9 (aT (i:=3) (ns:=d_) Z.u2r Z.u2w (a7 (a6 0)))) (a7 (vj (a9 (a6 1) (a9 ae (a9 ae (a9 ae aj)))))) (aT (i:=3) (ns:=d_) Z.u2r Z.u2w (a7 (a6 0)))))) (aY (Ky (i:=4) (ns:=d_) ho Z.u2r Z.u2x (a7 (a6 0)) (Hx ((OG Z).mono (k:=6)) (hr.mono (by decide)) (ad (a7 (a6 1)) (ad (aT (i:=1) (ns:=d_) Z.u2r Z.u2u (a7 (a6 0))) (ad (aT (i:=2) (ns:=d_) Z.u2r Z.u2v (a7 (a6 0))) (ad (a7 (a6 2)) aq))))))))
def OI:MetE P w K mg base b_ "gather" 9 ["self","head","rest"] (hW b_ a_):=by
 have sc:FnScope ["self","head","rest"] ["self","head","rest"] (am AK):=by walk_at"sc"
 refine mkM Z.u1j (by walk_at"bd") λ_ _ Fn=>dg rfl rfl rfl Fn sc (λ_ _ _ _ _ _ _ _ hr ho=>?_)
 exact(aU (bL (bw (f8 (gH (ca hr (a6 1) aL) (gG (ca hr (cO Z.u25 (a9 (a6 2) aj)) ae))))) (aY (nU ho (nT (ns:=d_) Z.u2r (OC Z).mono hr (a7 (a6 0)) (iO (li (OD Z).mono hr (ad (a7 (aG (aD 2) ae (λ_ _=>rfl))) aq)) (iO (li (oK Z).mono hr (ad (a7 (aG (aD 2) ae (λ_ _=>rfl))) aq)) jI))))) (aY (bL (bw (f8 (gH (ca hr (a6 1) aL) (gG (mf (cO Z.u25 (a9 (a6 2) aj)) ae))))) (aY (nU ho (gr (ns:=d_) Z.u2r (OE Z).mono hr (a7 (a6 0)) (ad (bb (Bg Z).mono hr (ad (a7 (a6 2)) aq)) aq)))) (aY (bL (bw (f8 (gH (ca hr (a6 1) aL) (gG (ca hr (cO Z.u25 (a9 (a6 2) aj)) ae))))) (aY (nU ho (gr (ns:=d_) Z.u2r (OF Z).mono hr (a7 (a6 0)) (ad (Kn Z.u2d (bb (Bg Z).mono hr (ad (a7 (a6 2)) aq))) aq)))) (aY (bL (bw (f8 (gH (ca hr (a6 1) aL) (gG (ca hr (cO Z.u25 (a9 (a6 2) aj)) ae))))) (aY (nU ho (nT (ns:=d_) Z.u2r (OH Z).mono hr (a7 (a6 0)) (iO (li (oK Z).mono hr (ad (a7 (aG (aD 2) ae (λ_ _=>rfl))) aq)) jI)))) (aY (cT Z.u39 ho))))))))) (aY (bp (ba (a7 aL)))))
def Bh:MetE P w K mg base b_ "say" 10 ["self","row"] (eX b_ a_):=by
 have sc:FnScope ["self","row","words"] ["self","row"] (am AL):=by walk_at"sc"
 refine mkM Z.u1k (by walk_at"bd") λ_ _ Fn=>dg rfl rfl rfl Fn sc (λ_ _ _ _ _ _ _ _ hr ho=>?_)
 exact(aU (xJ 2 ho sc.nd (li (Oq Z).mono hr (ad (a7 (a6 1)) aq))) (aU (bL (l9 (aT (i:=4) (ns:=d_) Z.u2r Z.u2x (a7 (a6 0)))) (aY (iJ ho (gr (ns:=d_) Z.u2r (OI Z).mono hr (a7 (a6 0)) (ad (xf (a7 (a6 2)) (a7 ae) (λ_ _=>rfl)) (ad (xE (k:=1) (a7 (a6 2))) aq))))) c5) (aY (iJ ho (gr (ns:=d_) Z.u2r (OB Z).mono hr (a7 (a6 0)) (ad (xf (a7 (a6 2)) (a7 ae) (λ_ _=>rfl)) (ad (xE (k:=1) (a7 (a6 2))) aq)))))))
def tJ:DefN P w K mg base "_law_said" 11 ["desk","row"] (lu b_ a_):=by
 have sc:FnScope ["desk","row","caught","answer","e"] ["desk","row"] (am AM):=by walk_at"sc"
 refine mkA Z.u1l (by walk_at"bd") λ_ _ Fn=>cu rfl rfl rfl Fn sc (λ_ _ _ _ _ _ hr=>?_)
 exact(aw (aO 2 sc.nd (a7 eO)) (aw (aO 3 sc.nd (a7 eO)) (aw (HE 3 2 4 Z.u39 sc.nd (gr (ns:=d_) Z.u2r (Bh Z).mono hr (a7 (a6 0)) (ad (a7 (a6 1)) aq))) (aw (bZ (bw (mQ (a6 2))) (aS (ba (a7 aL))) bY) (aS (ba (a7 (a6 3))))))))
def Bi:DefN P w K mg base "_law_asked" 12 ["state","sale","scales","table","names","asker"] (hZ b_ a_):=by
 have sc:FnScope ["state","sale","scales","table","names","asker","row","found","turn","left","behind","taken","shown","fare","least"] ["state","sale","scales","table","names","asker"] (am AN):=by walk_at"sc"
 refine mkA Z.u1m (by walk_at"bd") λ_ _ Fn=>cu rfl rfl rfl Fn sc (λ_ _ _ _ _ _ hr=>?_)
 exact(aw (aO 6 sc.nd (a7 aL)) (aw (bZ (bw (mQ (a6 5))) (aS (aO 6 sc.nd (a7 (eW aL (aG (aD 4) (a6 5) (λ_ _=>rfl)))))) bY) (aw (aO 7 sc.nd (bb (tJ Z).mono hr (ad (cK (ns:=["desk","turn","left","coins","done","why"]) (i:=0) hr (a7 (a6 0)) (λ_ _=>rfl)) (ad (a7 (a6 6)) aq)))) (aw (aO 8 sc.nd (cK (ns:=["desk","turn","left","coins","done","why"]) (i:=1) hr (a7 (a6 0)) (λ_ _=>rfl))) (aw (bZ (bw (f8 (pO (ca hr (a6 8) (cO Z.u25 (a9 (aG (aD 1) ae (λ_ _=>rfl)) aj))) (pN (f8 (gH (mQ (a6 5)) (gG (Dr (a6 5) (cO Z.u25 (a9 (aG (aD 1) ae (λ_ _=>rfl)) aj)))))))))) (aS (ba (a7 (mL hr (a6 7) aL)))) bY) (aw (aO 9 sc.nd (cK (ns:=["desk","turn","left","coins","done","why"]) (i:=2) hr (a7 (a6 0)) (λ_ _=>rfl))) (aw (aO 10 sc.nd (a7 (aG (aD 3) (bO (a6 8) ae) (λ_ _=>rfl)))) (aw (aO 11 sc.nd (a7 ge)) (aw (aO 12 sc.nd (a7 aL)) (aw (bZ (bw (mQ (a6 5))) (aw (aO 13 sc.nd (a7 (aG (cZ (aG (aD 1) ae (λ_ _=>rfl))) (a6 5) (λ_ _=>rfl)))) (aw (aO 11 sc.nd (a7 (dY (pL (a6 9) ae) (fF (vf (bO (c9 (a6 13) (aG (aD 2) (bO (a6 8) ae) (λ_ _=>rfl))) (aG (aD 10) (cN (a6 9) ae) (λ_ _=>rfl))) (aG (aD 10) (a6 9) (λ_ _=>rfl))))))) (aw (aO 12 sc.nd (a7 (eB Z.u2b (a9 (a6 13) aj)))) (aS (fO (ns:=["desk","turn","left","coins","done","why"]) (i:=3) hr (a7 (a6 0)) (fj (cK (ns:=["desk","turn","left","coins","done","why"]) (i:=3) hr (a7 (a6 0)) (λ_ _=>rfl)) (a7 (c9 (a6 13) (qB Z.u23 (a9 (a6 11) aj)))))))))) bY) (aw (aO 14 sc.nd (a7 (bz (Op Z).mono hr (a9 (aG (aD 2) (bO (a6 8) ae) (λ_ _=>rfl)) (a9 (a6 10) (a9 (a6 9) aj)))))) (aw (fO (ns:=["desk","turn","left","coins","done","why"]) (i:=5) hr (a7 (a6 0)) (lq (a7 (bD (cy (a9 (eB Z.u2b (a9 (a6 8) aj)) (a9 (eB Z.u2b (a9 (a6 9) aj)) (a9 (a6 14) (a9 (a6 12) aj))))))))) (aw (fO (ns:=["desk","turn","left","coins","done","why"]) (i:=1) hr (a7 (a6 0)) (a7 (bO (a6 8) ae))) (aw (fO (ns:=["desk","turn","left","coins","done","why"]) (i:=2) hr (a7 (a6 0)) (a7 (cN (a6 9) (qB Z.u23 (a9 (a6 11) aj))))) (aS (ba (a7 (mL hr (a6 7) (aG (cZ (bD (cy (a9 aL (a9 aL aj))))) (qB Z.u23 (a9 (a6 11) aj)) (λ_ _=>rfl))))))))))))))))))))
def OJ:DefN P w K mg base "_law_came" 12 ["state","sale","number"] (sS b_ a_):=by
 have sc:FnScope ["state","sale","number","found","sold"] ["state","sale","number"] (am AO):=by walk_at"sc"
 refine mkA Z.u1n (by walk_at"bd") λ_ _ Fn=>cu rfl rfl rfl Fn sc (λ_ _ _ _ _ _ hr=>?_)
 exact(aw (aO 3 sc.nd (bb (tJ Z).mono hr (ad (cK (ns:=["desk","turn","left","coins","done","why"]) (i:=0) hr (a7 (a6 0)) (λ_ _=>rfl)) (ad (a7 (eW aL (eB Z.u2b (a9 (a6 2) aj)))) aq)))) (aw (aO 4 sc.nd (iF (a7 (aG (aD 1) ae (λ_ _=>rfl))) (cK (ns:=["desk","turn","left","coins","done","why"]) (i:=2) hr (a7 (a6 0)) (λ_ _=>rfl)))) (aw (bZ (rb (wZ (GF (cK (ns:=["desk","turn","left","coins","done","why"]) (i:=1) hr (a7 (a6 0)) (λ_ _=>rfl)) (a7 (cO Z.u25 (a9 (aG (aD 1) ae (λ_ _=>rfl)) aj)))) (wZ (fM (cK (ns:=["desk","turn","left","coins","done","why"]) (i:=4) hr (a7 (a6 0)) (λ_ _=>rfl))) (GL (bw (mf (a6 2) (a6 4))))))) (aS (ba (a7 (mL hr (a6 3) aL)))) bY) (aw (fO (ns:=["desk","turn","left","coins","done","why"]) (i:=4) hr (a7 (a6 0)) (a7 ge)) (aw (fO (ns:=["desk","turn","left","coins","done","why"]) (i:=3) hr (a7 (a6 0)) (iF (cK (ns:=["desk","turn","left","coins","done","why"]) (i:=3) hr (a7 (a6 0)) (λ_ _=>rfl)) (a7 (c9 (aG (cZ (aG (aD 1) ae (λ_ _=>rfl))) ae (λ_ _=>rfl)) (kI rfl Z.u27 (a9 ae (a9 (cN (a6 2) (aG (cZ (aG (aD 1) ae (λ_ _=>rfl))) ae (λ_ _=>rfl))) aj))))))) (aS (ba (rE hr (a7 (a6 3)) (iP Z.u2b (ad (cK (ns:=["desk","turn","left","coins","done","why"]) (i:=3) hr (a7 (a6 0)) (λ_ _=>rfl)) aq))))))))))
def cw:DefN P w K mg base "_law_take" 1 ["pool","many"] (ci b_ a_):=by
 have sc:FnScope ["pool","many","rest"] ["pool","many"] (am AQ):=by walk_at"sc"
 refine mkA Z.u1o (by walk_at"bd") λ_ _ Fn=>cu rfl rfl rfl Fn sc (λ_ _ _ _ _ _ hr=>?_)
 exact(aw (aO 2 sc.nd (cK (ns:=["rest","mixed","count"]) (i:=0) hr (a7 (a6 0)) (λ_ _=>rfl))) (aw (bZ (iG (fM (cK (ns:=["rest","mixed","count"]) (i:=1) hr (a7 (a6 0)) (λ_ _=>rfl)))) (aw (fO (ns:=["rest","mixed","count"]) (i:=0) hr (a7 (a6 0)) (a7 (kD (a6 2) (a6 1)))) (aS (ba (a7 (fC (a6 2) (a6 1)))))) bY) (aw (fO (ns:=["rest","mixed","count"]) (i:=2) hr (a7 (a6 0)) (fj (cK (ns:=["rest","mixed","count"]) (i:=2) hr (a7 (a6 0)) (λ_ _=>rfl)) (a7 ae))) (aw (aO 2 sc.nd (fj (a7 (fC (a6 2) ae)) (wW (a7 ae) (cK (ns:=["rest","mixed","count"]) (i:=2) hr (a7 (a6 0)) (λ_ _=>rfl))))) (aw (aO 2 sc.nd (a7 (fC (c9 (a6 2) (bO (a6 2) ae)) ae))) (aw (aO 2 sc.nd (a7 (fC (c9 (a6 2) (a6 2)) ae))) (aw (fO (ns:=["rest","mixed","count"]) (i:=0) hr (a7 (a6 0)) (a7 (a6 2))) (aS (ba (a7 (fC (kD (a6 2) ae) (a6 1))))))))))))
def OK:DefN P w K mg base "_law_names" 2 ["pool","many"] (sT b_ a_):=by
 have sc:FnScope ["pool","many","letters","some","word","style","off","base","at","names","k","first","amid","odd"] ["pool","many"] (am AR):=by walk_at"sc"
 refine mkA Z.u1p (by walk_at"bd") λ_ _ Fn=>cu rfl rfl rfl Fn sc (λ_ _ _ _ _ _ hr=>?_)
 exact(aw (aO 2 sc.nd (a7 aL)) (aw (aO 3 sc.nd (a7 (bD (cy (a9 aL (a9 aL (a9 aL (a9 aL (a9 aL (a9 aL (a9 aL (a9 aL (a9 aL (a9 aL (a9 aL (a9 aL (a9 aL aj))))))))))))))))) (aw (aO 4 sc.nd (lq (rn (y:="k") (J3:=[0,2]) (cn:=["pool","letters"]) (by walk_at"cp") rfl Z.u29 (ad (a7 ae) aq) (by walk_at"pg") (λ_ _ _ _=>(Jj (a7 (a6 2)) (bb (cw Z).mono hr (ad (a7 (a6 1)) (ad (a7 ae) aq))) (λ_ _=>rfl)))))) (aw (aO 5 sc.nd (bb (cw Z).mono hr (ad (a7 (a6 0)) (ad (a7 ae) aq)))) (aw (aO 6 sc.nd (bb (cw Z).mono hr (ad (a7 (a6 0)) (ad (a7 ae) aq)))) (aw (aO 7 sc.nd (Ku (a7 (a6 4)) (bb (cw Z).mono hr (ad (a7 (a6 0)) (ad (a7 ae) aq))))) (aw (aO 8 sc.nd (bb (cw Z).mono hr (ad (a7 (a6 0)) (ad (a7 (bO (ye Z.u25 (a9 (a6 7) aj)) ae)) aq)))) (aw (aO 9 sc.nd (rg (cy aj))) (aw (xv 10 sc.nd rfl Z.u29 (ad (a7 (a6 1)) aq) (aw (aO 11 sc.nd (a7 (rJ (a6 2) (fC (bO (a6 6) (kD (a6 10) ae)) ae) (λ_ _=>rfl)))) (aw (aO 12 sc.nd (a7 (eW (eW (nK (a6 7) mm (jm (a6 8))) (rJ (a6 2) (fC (bO (a6 6) (a6 10)) ae) (λ_ _=>rfl))) (nK (a6 7) (jm (a6 8)) mm)))) (aS (ll (a7 (a6 9)) (a7 (aG (cZ (bD (cy (a9 (eW (a6 11) (nK (a6 4) mm (jm (fC (a6 10) ae)))) (a9 (eW (nK (a6 4) (jm (cN ae (fC (a6 10) ae))) mm) (a6 11)) (a9 (a6 12) (a9 (a6 12) aj))))))) (a6 5) (λ_ _=>rfl)))))))) (aw (aO 13 sc.nd (eR (a7 (a6 3)) (bb (cw Z).mono hr (ad (a7 (a6 0)) (ad (a7 ae) aq))) (λ_ _=>rfl))) (aw (bZ (rb (wY (Kt (a7 (a6 13)) (a7 (a6 9))) (wX (jA hr (bb (cw Z).mono hr (ad (a7 (a6 0)) (ad (a7 ae) aq))) (a7 ae))))) (aS (xO (a7 (a6 9)) (bb (cw Z).mono hr (ad (a7 (a6 0)) (ad (a7 (a6 1)) aq))) (a7 (a6 13)))) bY) (aS (xj 9)))))))))))))
def OM:MakN P w K mg base "Desk" b_ 1 ["self"] (sU b_ a_):=by
 have sc:FnScope ["self"] ["self"] (am AS):=by walk_at"sc"
 refine mkI Z.u1q (by walk_at"bd") λ_ _ Fn=>cu rfl rfl rfl Fn sc (λ_ _ _ _ _ _ hr=>?_)
 exact(aw (dN (ns:=d_.take 0) Z.u2r Z.u2t (a7 (a6 0)) Kc) (aw (dN (ns:=d_.take 1) Z.u2r Z.u2u (a7 (a6 0)) (xc aq)) (aw (dN (ns:=d_.take 2) Z.u2r Z.u2v (a7 (a6 0)) (xc aq)) (aw (dN (ns:=d_.take 3) Z.u2r Z.u2w (a7 (a6 0)) (a7 eO)) (aS (dN (ns:=d_.take 4) Z.u2r Z.u2x (a7 (a6 0)) (a7 eO)))))))
def Bj:DefN P w K mg base "_law_opened" 11 ["sale","names"] (oh b_ a_):=by
 have sc:FnScope ["sale","names","seats","fares","turns","rule","desk","rows","row"] ["sale","names"] (am AT):=by walk_at"sc"
 refine mkA Z.u1r (by walk_at"bd") λ_ _ Fn=>cu rfl rfl rfl Fn sc (λ_ _ _ _ _ _ hr=>?_)
 exact(aw (xl [2,3,4,5] rfl sc.nd (a7 (a6 0)) (.cons (i:=2) rfl (by first|exact Or.inl rfl|exact Or.inr rfl) (.inl rfl) (.cons (i:=3) rfl (by first|exact Or.inl rfl|exact Or.inr rfl) (.inl rfl) (.cons (i:=4) rfl (by first|exact Or.inl rfl|exact Or.inr rfl) (.inl rfl) (.cons (i:=5) rfl (by first|exact Or.inl rfl|exact Or.inr rfl) (.inl rfl) Tgs.nil rfl) rfl) rfl) rfl)) (aw (aO 6 sc.nd (Kx ((OM Z).mono (k:=9)) (hr.mono (by decide)))) (aw (Kq 7 sc.nd (own:=["k","fare"]) (J3:=[1]) (cn:=["names"]) (by walk_at"cp") rfl (wd Z.u22 (aD 3)) (λ_ _ _ _=>gB rfl (Tgs.ok (is:=[0,1]) (show(["k","fare","names"]:z0).Nodup from by decide +kernel) (.cons (i:=0) rfl (Or.inl rfl) (.inr rfl) (.cons (i:=1) rfl (Or.inl rfl) (.inr rfl) Tgs.nil rfl) rfl))) (mE [0,1]) (by decide) (λ_ _ _ _=>dc) (λ_ _ _ _=>(eW (eW (eW aL (aG (aD 2) (a6 0) (λ_ _=>rfl))) aL) (eB Z.u2b (a9 (a6 1) aj))))) (aw (aO 7 sc.nd (Kr (a7 (a6 7)) (xC (y:="row") (J3:=[]) (cn:=[]) (by walk_at"cp") rfl (a7 (a6 4)) (by walk_at"pg") (λ_ _ _ _=>(xY (a7 aL) (lq (a7 (bD (dm (own:=["weight"]) (J3:=[]) (cn:=[]) (by walk_at"cp") rfl (iq (aD 0)) (by walk_at"pg") (ef 0) (by decide) (λ_ _ _ _=>dc) (λ_ _ _ _=>(eB Z.u2b (a9 (a6 0) aj)))))))))))) (aw (ll (a7 (a6 7)) (xY (a7 aL) (lq (a7 (bD (dm (own:=["number"]) (J3:=[]) (cn:=[]) (by walk_at"cp") rfl (Kz (a6 5)) (by walk_at"pg") (ef 0) (by decide) (λ_ _ _ _=>dc) (λ_ _ _ _=>(eB Z.u2b (a9 (a6 0) aj))))))))) (aw (xr 8 sc.nd rfl (Ks (a7 (a6 7)) (a7 (bD (cy (a9 (eW aL (eB Z.u2b (a9 (a6 2) aj))) aj))))) (aS (bZ (GH hr (xN (ns:=d_) Z.u2r (Bh Z).quiet.mono hr (a7 (a6 6)) (ad (a7 (a6 8)) aq)) (a7 aL)) (aS (ba (a7 eO))) bY))) (aS (ba (xx (ns:=["desk","turn","left","coins","done","why"]) (gq (a6 6) (gq ae (gq (a6 2) (gq ae (gq ge (gq eO xw)))))))))))))))
def oM:DefN P w K mg base "_law_pool" 2 ["script","k"] (jM b_ a_):=by
 have sc:FnScope ["script","k"] ["script","k"] (am AU):=by walk_at"sc"
 refine mkA Z.u1s (by walk_at"bd") λ_ _ Fn=>cu rfl rfl rfl Fn sc (λ_ _ _ _ _ _ hr=>?_)
 exact(aS (ba (xx (ns:=["rest","mixed","count"]) (gq (bz (Bb Z).mono hr (a9 (a6 0) (a9 (a6 1) aj))) (gq (mL hr (fC (bz (Bb Z).mono hr (a9 (a6 0) (a9 ae aj))) ae) ae) (gq (bO ae (a6 1)) xw))))))
def Bk:DefN P w K mg base "_law_told" 12 ["state","sale","scales","table","word"] (lw b_ a_):=by
 have sc:FnScope ["state","sale","scales","table","word","due"] ["state","sale","scales","table","word"] (am AV):=by walk_at"sc"
 refine mkA Z.u1t (by walk_at"bd") λ_ _ Fn=>cu rfl rfl rfl Fn sc (λ_ _ _ _ _ _ hr=>?_)
 exact(aw (aO 5 sc.nd (Kw (ns:=["left","turns","coins"]) (se (iP Z.u2b (ad (cK (ns:=["desk","turn","left","coins","done","why"]) (i:=2) hr (a7 (a6 0)) (λ_ _=>rfl)) aq)) (se (iP Z.u2b (ad (cK (ns:=["desk","turn","left","coins","done","why"]) (i:=1) hr (a7 (a6 0)) (λ_ _=>rfl)) aq)) (se (iP Z.u2b (ad (cK (ns:=["desk","turn","left","coins","done","why"]) (i:=3) hr (a7 (a6 0)) (λ_ _=>rfl)) aq)) Kv))))) (aw (xM (ns:=["left","turns","coins"]) hr (a7 (a6 5)) (a7 (eW (eW (eB Z.u2b (a9 (aG (cZ (aG (aD 3) ae (λ_ _=>rfl))) (aG (aD 1) ae (λ_ _=>rfl)) (λ_ _=>rfl)) aj)) aL) (eB Z.u2b (a9 (aG (aD 2) ae (λ_ _=>rfl)) aj))))) (aw (xM (ns:=["left","turns","coins","worth"]) hr (a7 (a6 5)) (cK (ns:=["desk","turn","left","coins","done","why"]) (i:=5) hr (a7 (a6 0)) (λ_ _=>rfl))) (aw (bZ (l9 (cK (ns:=["desk","turn","left","coins","done","why"]) (i:=5) hr (a7 (a6 0)) (λ_ _=>rfl))) (aS (fO (ns:=["left","turns","coins","worth","why"]) (i:=4) hr (a7 (a6 5)) (a7 aL))) bY) (aS (ba (rE hr (bb (tJ Z).mono hr (ad (cK (ns:=["desk","turn","left","coins","done","why"]) (i:=0) hr (a7 (a6 0)) (λ_ _=>rfl)) (ad (a7 (a6 4)) aq))) (yw hr (a7 (a6 5)) (a7 (a6 4)) (λ_ _=>rfl)))))))))
def ON:DefN P w K mg base "_law_row" 13 ["state","sale","scales","table","names","pool"] (sV b_ a_):=by
 have sc:FnScope ["state","sale","scales","table","names","pool","way","asker","word"] ["state","sale","scales","table","names","pool"] (am AW):=by walk_at"sc"
 refine mkA Z.u1u (by walk_at"bd") λ_ _ Fn=>cu rfl rfl rfl Fn sc (λ_ _ _ _ _ _ hr=>?_)
 exact(aw (aO 6 sc.nd (bb (cw Z).mono hr (ad (a7 (a6 5)) (ad (a7 ae) aq)))) (aw (bZ (bw (vg (a6 6) ae)) (aw (aO 7 sc.nd (bb (cw Z).mono hr (ad (a7 (a6 5)) (ad (a7 (bO (cO Z.u25 (a9 (aG (aD 1) ae (λ_ _=>rfl)) aj)) ae)) aq)))) (aS (ba (bb (Bi Z).mono hr (ad (a7 (a6 0)) (ad (a7 (a6 1)) (ad (a7 (a6 2)) (ad (a7 (a6 3)) (ad (a7 (a6 4)) (ad (a7 (a6 7)) aq)))))))))) bY) (aw (bZ (bw (ca hr (a6 6) ae)) (aS (ba (bb (Bi Z).mono hr (ad (a7 (a6 0)) (ad (a7 (a6 1)) (ad (a7 (a6 2)) (ad (a7 (a6 3)) (ad (a7 (a6 4)) (ad (a7 eO) aq))))))))) bY) (aw (bZ (bw (vg (a6 6) ae)) (aS (ba (bb (OJ Z).mono hr (ad (a7 (a6 0)) (ad (a7 (a6 1)) (ad (bb (cw Z).mono hr (ad (a7 (a6 5)) (ad (a7 ae) aq))) aq)))))) bY) (aw (aO 8 sc.nd (a7 (aG (cZ (bD (cy (a9 aL (a9 aL (a9 aL (a9 aL (a9 aL aj)))))))) (cN (a6 6) ae) (λ_ _=>rfl)))) (aS (ba (bb (Bk Z).mono hr (ad (a7 (a6 0)) (ad (a7 (a6 1)) (ad (a7 (a6 2)) (ad (a7 (a6 3)) (ad (a7 (a6 8)) aq)))))))))))))
def tK:DefN P w K mg base "_law_size" 2 ["pool","most"] (lz b_ a_):=by
 have sc:FnScope ["pool","most","kind"] ["pool","most"] (am AX):=by walk_at"sc"
 refine mkA Z.u1v (by walk_at"bd") λ_ _ Fn=>cu rfl rfl rfl Fn sc (λ_ _ _ _ _ _ hr=>?_)
 exact(aw (aO 2 sc.nd (bb (cw Z).mono hr (ad (a7 (a6 0)) (ad (a7 ae) aq)))) (aw (bZ (bw (ca hr (a6 2) ae)) (aS (ba (bb (cw Z).mono hr (ad (a7 (a6 0)) (ad (a7 (vB rfl Z.u28 (a9 ae (a9 (a6 1) aj)))) aq))))) bY) (aw (bZ (bw (ca hr (a6 2) ae)) (aS (ba (a7 (cN (a6 1) ae)))) bY) (aS (ba (bb (cw Z).mono hr (ad (a7 (a6 0)) (ad (a7 (a6 1)) aq))))))))
def OO:DefN P w K mg base "_law_rule" 3 ["pool"] (sW b_ a_):=by
 have sc:FnScope ["pool","of"] ["pool"] (am AY):=by walk_at"sc"
 refine mkA Z.u1w (by walk_at"bd") λ_ _ Fn=>cu rfl rfl rfl Fn sc (λ_ _ _ _ _ _ hr=>?_)
 exact(aw (aO 1 sc.nd (fj (a7 ae) (bb (tK Z).mono hr (ad (a7 (a6 0)) (ad (a7 ae) aq))))) (aS (ba (ny (ad (bb (cw Z).mono hr (ad (a7 (a6 0)) (ad (a7 ae) aq))) (ad (bb (cw Z).mono hr (ad (a7 (a6 0)) (ad (a7 (bO (a6 1) ae)) aq))) (ad (a7 (a6 1)) (ad (bb (tK Z).mono hr (ad (a7 (a6 0)) (ad (a7 (bO (vd ae ae) ae)) aq))) aq))))))))
def OP:DefN P w K mg base "_law_weights" 2 ["pool","many"] (sX b_ a_):=by
 have sc:FnScope ["pool","many","row","k"] ["pool","many"] (am AZ):=by walk_at"sc"
 refine mkA Z.u1x (by walk_at"bd") λ_ _ Fn=>cu rfl rfl rfl Fn sc (λ_ _ _ _ _ _ hr=>?_)
 exact(aw (aO 2 sc.nd (rg (cy aj))) (aw (xv 3 sc.nd rfl Z.u29 (ad (a7 (bO (a6 1) ae)) aq) (aS (ll (a7 (a6 2)) (eR (GO (ad (a7 ae) (ad (bb (cw Z).mono hr (ad (a7 (a6 0)) (ad (a7 ae) aq))) (ad (bb (cw Z).mono hr (ad (a7 (a6 0)) (ad (a7 ae) aq))) aq)))) (bb (cw Z).mono hr (ad (a7 (a6 0)) (ad (a7 ae) aq))) (λ_ _=>rfl))))) (aw (bZ (jA hr (Ha rfl Z.u2c (ad (a7 (a6 2)) aq)) (a7 ae)) (aS (xO (a7 (a6 2)) (a7 (a6 1)) (a7 ae))) bY) (aS (xj 2)))))
def OQ:DefN P w K mg base "_law_sale" 4 ["script","k"] (sY b_ a_):=by
 have sc:FnScope ["script","k","pool","seats","fares","rule","many"] ["script","k"] (am B1):=by walk_at"sc"
 refine mkA Z.u1y (by walk_at"bd") λ_ _ Fn=>cu rfl rfl rfl Fn sc (λ_ _ _ _ _ _ hr=>?_)
 exact(aw (aO 2 sc.nd (bb (oM Z).mono hr (ad (a7 (a6 0)) (ad (a7 (a6 1)) aq)))) (aw (aO 3 sc.nd (bb (cw Z).mono hr (ad (a7 (a6 2)) (ad (a7 ae) aq)))) (aw (aO 4 sc.nd (rn (y:="j") (J3:=[2]) (cn:=["pool"]) (by walk_at"cp") rfl Z.u29 (ad (fj (a7 ae) (bb (cw Z).mono hr (ad (a7 (a6 2)) (ad (a7 ae) aq)))) aq) (by walk_at"pg") (λ_ _ _ _=>(fj (a7 ae) (bb (tK Z).mono hr (ad (a7 (a6 1)) (ad (a7 (vd ae ae)) aq))))))) (aw (aO 5 sc.nd (bb (OO Z).mono hr (ad (a7 (a6 2)) aq))) (aw (aO 6 sc.nd (bb (cw Z).mono hr (ad (a7 (a6 2)) (ad (a7 ae) aq)))) (aw (aO 2 sc.nd (bb (oM Z).mono hr (ad (a7 (a6 0)) (ad (a7 (bO (a6 1) ae)) aq)))) (aS (ba (ny (ad (a7 (a6 3)) (ad (a7 (a6 4)) (ad (rn (y:="j") (J3:=[2,4]) (cn:=["pool","fares"]) (by walk_at"cp") rfl Z.u29 (ad (a7 (a6 6)) aq) (by walk_at"pg") (λ_ _ _ _=>(bb (OP Z).mono hr (ad (a7 (a6 1)) (ad (a7 (cO Z.u25 (a9 (a6 2) aj))) aq))))) (ad (a7 (a6 5)) aq)))))))))))))
def OR{a:Addr}{fd:FuncData}(Fn:Fun K "law" "law" tI a fd):FnOk P w K mg base CX0 14 a fd ["script"] (spN K (sZ b_ a_)):=by
 have sc:FnScope ["script","sale","names","scales","table","state","k","pool","word"] ["script"] (am tI):=by walk_at"sc"
 refine cu rfl rfl rfl Fn sc (λcdv A outer s H E hr=>?_);exact(aw (aO 1 sc.nd (bb (OQ Z).mono hr (ad (a7 (a6 0)) (ad (a7 ae) aq)))) (aw (aO 2 sc.nd (bb (OK Z).mono hr (ad (bb (oM Z).mono hr (ad (a7 (a6 0)) (ad (a7 ae) aq))) (ad (a7 ae) aq)))) (aw (xl [3,4] rfl sc.nd (a7 (F1 (Oo Z).mono hr (a9 (a6 1) aj))) (.cons (i:=3) rfl (by first|exact Or.inl rfl|exact Or.inr rfl) (.inl rfl) (.cons (i:=4) rfl (by first|exact Or.inl rfl|exact Or.inr rfl) (.inl rfl) Tgs.nil rfl) rfl)) (aw (aO 5 sc.nd (bb (Bj Z).mono hr (ad (a7 (a6 1)) (ad (a7 (a6 2)) aq)))) (aw (bZ (bw (mP (a6 5))) (aS (ba (a7 ge))) bY) (aw (GV 6 sc.nd rfl Z.u29 (ad (a7 ae) (ad (a7 (vB rfl Z.u28 (a9 ae (a9 (cO Z.u25 (a9 (a6 0) aj)) aj)))) aq)) (aw (aO 7 sc.nd (bb (oM Z).mono hr (ad (a7 (a6 0)) (ad (a7 (a6 6)) aq)))) (aw (bZ (rb (wY (fM (cK (ns:=["desk","turn","left","coins","done","why"]) (i:=4) hr (a7 (a6 5)) (λ_ _=>rfl))) (wX (jA hr (bb (cw Z).mono hr (ad (a7 (a6 7)) (ad (a7 ae) aq))) (a7 ae))))) (aS (aO 5 sc.nd (bb (Bj Z).mono hr (ad (a7 (a6 1)) (ad (a7 (a6 2)) aq))))) bY) (aw (bZ (bw (mP (a6 5))) (aS (ba (a7 ge))) bY) (aS (bZ (iG (fM (bb (ON Z).mono hr (ad (a7 (a6 5)) (ad (a7 (a6 1)) (ad (a7 (a6 3)) (ad (a7 (a6 4)) (ad (a7 (a6 2)) (ad (a7 (a6 7)) aq))))))))) (aS (ba (a7 ge))) bY)))))) (aw (xr 8 sc.nd rfl (a7 (bD (cy (a9 aL (a9 aL (a9 aL (a9 aL (a9 aL aj)))))))) (aS (bZ (iG (fM (bb (Bk Z).mono hr (ad (a7 (a6 5)) (ad (a7 (a6 1)) (ad (a7 (a6 3)) (ad (a7 (a6 4)) (ad (a7 (a6 8)) aq)))))))) (aS (ba (a7 ge))) bY))) (aS (ba (a7 ge))))))))))
end
def tL(K:K0):Sp:=λvs H Q E=>∀b_ a_:Nat,spN K (sZ b_ a_) vs H Q E
def all_mk{l:W.OpenLaw}{w:World}{K:K0}{mg:Str->i_}{fa b_ a_:Addr}(hfa:mg "law"=some (.ref fa))(e_:W.nsIn K mainGlobals "Desk"=some (some (.ref b_)))(f_:W.nsIn K mainGlobals "Office"=some (some (.ref a_)))(Z:∀base,AF l.prog w K mg base b_ a_):
  ∃fd:FuncData,(∀(s:Shared) (v:Value),BindsTo s fd ⟨[v],[]⟩ [("script",v)])/\∀base:Heap,K.In base->base.Ns mainGlobals mg->FnOk l.prog w K mg base CX0 14 fa fd ["script"] (tL K):=by
 obtain⟨a,fd,Fn,m⟩:=(Z default).u1z;cases hfa.symm.trans m;have Fm:=Fn;obtain⟨oc,od,kV,doc,pm,an,cdv,ct,osl,rfl,lk,hcd⟩:=Fm.ex;exact⟨_,λs v=>.of_eq rfl,λbase _ _=>(OR (Z base) Fn).imp λvs H Q E h=>h b_ a_⟩
def walk{l:W.OpenLaw}{q:Program}{loose:z0}{XP:(Str->i_)->Heap->Prop}{YP:World->Heap->Prop}{d:DefRec}{K:Params->K0}(hn:l.most=some 63)(hdf:d.params.defaults=[])(hY:∀(w:World) (h:Heap),YP w h->(K w.params).In h)(Fm:∀(w:World) (mg:Str->i_) (fa:Addr) (h:Heap),(K w.params).In h->h.Ns mainGlobals mg->mg d.name=some (.ref fa) ->
   ∃fd:FuncData,(∀(s:Shared) (u:Value),BindsTo s fd ⟨[u],[]⟩ [("script",u)])/\∀base:Heap,(K w.params).In base->base.Ns mainGlobals mg->FnOk l.prog w (K w.params) mg base CX0 14 fa fd ["script"] (tL (K w.params))):
  W.WalkO q loose XP YP l.row.toRowW d [] (λf vs=>PySem.call f vs):=
 L2.walk_of (n:=63) (k:=14) (x:="script") (CX:=λ_=>CX0) (sp:=λw=>tL (K w.params)) hn (by decide) hdf ⟨rfl,by decide,by decide⟩ hY Fm (λ_ _ a ns hl _ hS b_ a_=>GX hS (O0 ns hl b_ a_)) λ_ _ _ _ _ z=>z
end My
end VL
namespace PySem.W.Fast
def tw15568364483935729957:=Nat
def tw15291704194963393102:=Nat
def tw101888006417018272:=Nat
def tw11391587835579221342:=Nat
def tw18146215287642789427:=Nat
def tw17792564577574266253:=Nat
def tw7806700390506595305:=Nat
def tw14307448645863665343:=Nat
def tw8822354749575911952:=Nat
def tw9958207446869829246:=Nat
def tw10522475489251004743:=Nat
def tw15843857370451903941:=Nat
def tw3495442183722185287:=Nat
def tw9327261327861952847:=Nat
def tw15173990098672754382:=Nat
def tw15901166035432836340:=Nat
def tw9380297259158609596:=Nat
def tw1185006714600654548:=Nat
def tw8574688731629562252:=Nat
def tw2446679116106364893:=Nat
def tw16640675806203701805:=Nat
def tw17424220118616464907:=Nat
def tw9786667171103942013:=Nat
def tw7018148567295265188:=Nat
def tw6812870116980589957:=Nat
def tw740443716654014128:=Nat
def tw14531062829419341247:=Nat
def tw14752175387995444717:=Nat
def tw10057306961020902205:=Nat
def tw10647900669368328405:=Nat
def tw1467898873404544951:=Nat
def tw2377033650960822984:=Nat
def tw15116010122511235168:=Nat
def tw9113043724812802014:=Nat
def tw2209857778490888220:=Nat
def tw14121477939621006575:=Nat
def tw2786854281260894977:=Nat
def tw10922960911326731341:=Nat
def tw13302578262785122054:=Nat
def tw18259937139207692825:=Nat
def tw15688111873776286834:=Nat
def tw13380293276855707405:=Nat
def tw4822321188805570418:=Nat
def tw15535490770966885102:=Nat
def tw12028455054267492109:=Nat
def tw8992602770255917359:=Nat
def tw3172177265310006650:=Nat
def tw15578229882497700034:=Nat
def tw2294704796404351867:=Nat
def tw9652416213098890107:=Nat
def tw11871730639015477477:=Nat
def tw14157175011877181891:=Nat
def tw1510049371840614358:=Nat
def tw12607118186283945254:=Nat
def tw15952774665691972970:=Nat
def tw6783047263405208143:=Nat
def tw4622380621026372316:=Nat
def tw3495547886391372726:=Nat
def tw14007919632473080755:=Nat
def tw10826098222196734267:=Nat
def tw2327106675774019624:=Nat
def tw3400281178864982108:=Nat
def tw6769487318022445173:=Nat
def tw1627720371187609824:=Nat
def tw12427412884383084721:=Nat
def tw14356594451685996570:=Nat
def tw10281481200319912631:=Nat
def tw17274632213163128820:=Nat
def tw4414155744670283493:=Nat
def tw14541634156838334308:=Nat
def tw15496921921622184528:=Nat
def tw3222286695203190700:=Nat
def tw10158675394269968620:=Nat
def tw9863596061900238362:=Nat
def tw243620239280823715:=Nat
def tw18194779911712904501:=Nat
def tw17359032791567109313:=Nat
def tw15068777402279110537:=Nat
def tw16758585966606791951:=Nat
def tw6826704419085951125:=Nat
def tw13440302138985047248:=Nat
def tw13722542598110599637:=Nat
def tw12349315215066195857:=Nat
def tw43993514197395791:=Nat
def tw1514187428081047637:=Nat
def tw15333717963528397324:=Nat
def tw15526370412463201138:=Nat
def tw5160661416014140291:=Nat
def tw15993830199021456847:=Nat
def tw1873185347200130086:=Nat
def tw17561105417318960930:=Nat
def tw17363129592165555116:=Nat
def tw5194088339272276788:=Nat
def tw17633219207454930882:=Nat
def tw1525513689889172623:=Nat
def tw3703553611945421034:=Nat
def tw11057357219749116552:=Nat
def tw15048102454153140283:=Nat
def tw8082292121221342297:=Nat
def tw414985994368546745:=Nat
def tw4785381415276217602:=Nat
def tw10199641959468463043:=Nat
def tw6695428916284671572:=Nat
def tw1186510873160378780:=Nat
def tw3575968317959957548:=Nat
def tw7504209481974675109:=Nat
def tw6962527336349364242:=Nat
def tw3188084754049735953:=Nat
def tw12391145912594633461:=Nat
def tw13898568563422859619:=Nat
def tw8338700845757857368:=Nat
def tw17380487335772731599:=Nat
def tw9601531325539147822:=Nat
def tw11151870383686042650:=Nat
def tw17007833910688648890:=Nat
def tw10824095807918890944:=Nat
def tw14538329383110804031:=Nat
def tw11182785401016001331:=Nat
def tw17261696832743772515:=Nat
def tw12406476935065324811:=Nat
def tw897631396097789739:=Nat
def tw10426140609148952881:=Nat
def tw17706198006535759054:=Nat
def tw5804472971383472749:=Nat
def tw10539827846475385807:=Nat
def tw8642176519070202497:=Nat
def tw7429940107435802111:=Nat
def tw13006643824283541955:=Nat
def tw6908278649295479364:=Nat
def tw17086233465531446002:=Nat
def tw10104697985070975061:=Nat
def tw11618828686252953946:=Nat
def tw17605396140269735210:=Nat
def tw9401555176796298065:=Nat
def tw10005881413769897023:=Nat
def tw3603677892824896551:=Nat
def tw12199594397473982568:=Nat
def tw1756265872245405777:=Nat
def tw17317281088341765845:=Nat
def tw6360473843975034270:=Nat
def tw1305597887221891454:=Nat
def tw11073359072491297960:=Nat
def tw8128689149644120779:=Nat
def tw5836878469405402282:=Nat
def tw2589780245695869274:=Nat
def tw4479290433088263388:=Nat
def tw3332734342250206158:=Nat
def tw9696674112323400509:=Nat
def tw8128590452496647816:=Nat
def tw3602020419965784317:=Nat
def tw2609913805722054442:=Nat
def tw1854978359912938474:=Nat
def tw13019824343248073157:=Nat
def tw14423571642155466912:=Nat
def tw5352102591649518527:=Nat
def tw10594854668457414387:=Nat
def tw11647719808369662976:=Nat
def tw11342231447754566189:=Nat
def tw17100663746048823597:=Nat
def tw12487474360470972370:=Nat
def tw16258301149361545001:=Nat
def tw6009530891690509094:=Nat
def tw5383225476382409670:=Nat
def tw8467684198833075392:=Nat
def tw13274503525304132106:=Nat
def tw12074172018557789393:=Nat
def tw9215340151439970178:=Nat
def tw1947212451300225265:=Nat
def tw15481131277044853577:=Nat
def tw13031603593504861371:=Nat
def tw12700506463792937518:=Nat
def tw8513366017556232222:=Nat
def tw2226285321255717700:=Nat
def tw13473641134729006311:=Nat
def tw9799782877508158243:=Nat
def tw8261469803417212949:=Nat
def tw1181535042835124985:=Nat
def tw11867213576781396808:=Nat
def tw16881950101598699020:=Nat
def tw8327852705314453996:=Nat
def tw14735262798078294905:=Nat
def tw11078232156094261667:=Nat
def tw1739351777698168010:=Nat
def tw12229147769968780202:=Nat
def tw11084502772201995156:=Nat
def tw15944057506718855728:=Nat
def tw16306095642076524501:=Nat
def tw8776804396536364367:=Nat
def tw13557123982213924157:=Nat
def tw8751911851617087553:=Nat
def tw14849958668140879588:=Nat
def tw16547735885218374436:=Nat
def tw6911646787431825857:=Nat
def tw430677140159937611:=Nat
def tw1522506284223860918:=Nat
def tw17300436265862097530:=Nat
def tw12490434057772311043:=Nat
def tw9920897572639432177:=Nat
def tw17092851223458370913:=Nat
def tw4525884223105602742:=Nat
def tw14379725081474791721:=Nat
def tw5789755473136924776:=Nat
def tw599603878846962587:=Nat
def tw14114537406249763658:=Nat
def tw4444396742940109790:=Nat
def tw6247189859513381776:=Nat
def tw3320694555688541829:=Nat
def tw9346745354836145635:=Nat
def tw7022882636756833786:=Nat
def tw6874107908257820005:=Nat
def tw1431311791449553518:=Nat
def tw16521347819025154875:=Nat
def tw10769544125753089252:=Nat
def tw9943010622505205212:=Nat
def tw8261417822174107252:=Nat
def tw7799496220631528789:=Nat
def tw6281208014911601289:=Nat
def tw5252218258087838754:=Nat
def tw4876599568110740587:=Nat
def tw1614590051797360286:=Nat
def tw15131882728492646242:=Nat
def tw10102381383594936213:=Nat
def tw12549036789458786755:=Nat
def tw2387587957669944293:=Nat
def tw4724539884289462747:=Nat
def tw16246144179927563604:=Nat
def tw10087979958642286697:=Nat
def tw18312416005081768533:=Nat
def tw5380177042549252758:=Nat
def tw3978521671911885552:=Nat
def tw17851795970691914679:=Nat
def tw11371944633506855719:=Nat
def tw17763616739949890195:=Nat
def tw12209317828818046306:=Nat
def tw14044693929652023859:=Nat
def tw5226886527503300024:=Nat
def tw17911347649362980159:=Nat
def tw15889567495148800165:=Nat
def tw9760775392245665923:=Nat
def tw3079881705241858035:=Nat
def tw17510125323611910649:=Nat
def tw14729281433633341678:=Nat
def tw4243312895097366723:=Nat
def tw16631774803586712958:=Nat
def tw15857310504374964997:=Nat
def tw982968184694658330:=Nat
def tw8889211737628532326:=Nat
def tw16865208362689654898:=Nat
def tw10794779594412409973:=Nat
def tw15023295688865561019:=Nat
def tw17955253649407487031:=Nat
def tw12032730041746187407:=Nat
def tw7465043795399714559:=Nat
def tw8303404050446555475:=Nat
def tw745207007670174385:=Nat
def tw17976411627466954874:=Nat
def tw16718308404781464020:=Nat
def tw16309964683309959321:=Nat
def tw16366238610838140626:=Nat
def tw10629639453970097822:=Nat
def tw8295688213076951060:=Nat
def tw14563855553449628717:=Nat
def tw11612139985419729492:=Nat
def tw1288654994184868125:=Nat
def tw14225557615307074662:=Nat
def tw3121747273204138863:=Nat
def tw14685705155301608535:=Nat
def tw15226096888441841405:=Nat
def tw8900064667970673340:=Nat
def tw7409790036423529591:=Nat
def tw6457860887290657308:=Nat
def tw15064691588994575830:=Nat
def tw1309652875051384144:=Nat
def tw12172676398370604512:=Nat
def tw17742157316977770600:=Nat
def tw901814206718168634:=Nat
def tw7710999074493329152:=Nat
def tw8594421260851301753:=Nat
def tw13142380821444758126:=Nat
def tw11172396735094254132:=Nat
def tw4792935907611584162:=Nat
def tw3441921586433354350:=Nat
def tw15607413718694111986:=Nat
def tw8226580475148622439:=Nat
def tw9134832605369883351:=Nat
def tw6487822424426781310:=Nat
def tw3759786035290624094:=Nat
def tw86093243473049556:=Nat
def tw687134433991206862:=Nat
def tw4626268270057824532:=Nat
def tw17057394109812094360:=Nat
def tw7871560079003406706:=Nat
def tw12330750191100684480:=Nat
def tw3483544775341256143:=Nat
def tw2904858289800377900:=Nat
def tw16256726638478584021:=Nat
def tw15145128453233255102:=Nat
def tw14909203445174089031:=Nat
def tw11667339676843086901:=Nat
def tw757087351455195454:=Nat
def tw14853831321785454019:=Nat
def tw17377338155871454273:=Nat
def tw16467159919478684091:=Nat
def tw14828963182355947933:=Nat
def tw13956071904787201253:=Nat
def tw12443252695935544936:=Nat
def tw4229231811552511804:=Nat
def tw3868097204039238346:=Nat
def tw11869375573116442910:=Nat
def tw11621640641691934752:=Nat
def tw10543244204473924201:=Nat
def tw272872009114186643:=Nat
def tw15388972781921643619:=Nat
def tw6825340576155591983:=Nat
def tw1311168540800912719:=Nat
def tw10554516682553730984:=Nat
def tw9797568287119484259:=Nat
def tw6789112586901887378:=Nat
def tw11228087712544527311:=Nat
def tw17721353238132728512:=Nat
def tw7208772061677204826:=Nat
def tw9523626742963480192:=Nat
def tw7617899449262812116:=Nat
def tw5330914130626930985:=Nat
def tw11723091233573263816:=Nat
def tw10332128309389710433:=Nat
def tw15004720787168056084:=Nat
def tw51205646472780252:=Nat
def tw17212604332885152771:=Nat
def tw17111560504781406368:=Nat
def tw10353090247905300888:=Nat
def tw13525955491850337329:=Nat
def tw13098367109550630961:=Nat
def tw14710309566701839918:=Nat
def tw4118497105574009630:=Nat
def tw9128394384168803419:=Nat
def tw18345709208292483014:=Nat
def tw11708411186257725633:=Nat
def tw6987751353045705712:=Nat
def tw13485305768786699285:=Nat
def tw10560460499538029919:=Nat
def tw18317296129928449534:=Nat
def tw17391712606508980418:=Nat
def tw17202933445962178760:=Nat
def tw16411103201094615344:=Nat
def tw2979707109272806434:=Nat
def tw16852345785687813637:=Nat
def tw11461841292558200280:=Nat
def tw13026274148019384720:=Nat
def tw15151996208680328942:=Nat
def tw2685480826343735995:=Nat
end PySem.W.Fast
open PySem PySem.W PyProof.Rows
theorem PySem.Challenge.cw_latefare_k51_whole_text_sale_holds : PySem.Challenge.rw_latefare_k51_whole_text_sale.Holds := by
 w_on;o_law;k_head;(case hw=>w_witness2)
 k_fill
 refine VL.My.walk (l:=PySem.Challenge.rw_latefare_k51_whole_text_sale) rfl rfl (fun w h Y=>PySem.W.kIn_of Y) ?F
 case F =>
  intro w mg fa h KX G hmg
  refine' VL.My.all_mk hmg ?e_ ?f_ (fun base=>?Z)
  (case e_=>k_is);(case f_=>k_is)
  case Z =>
   constructor
   all_goals first | (refine' VL.FA.of KX G ?a ?l ?c ?k;(case a=>k_is);(case l=>k_is);(case c=>k_is);(case k=>k_is)) | (refine' VL.MA.of ?a ?i ?l ?c ?k;(case a=>k_is);(case i=>k_is);(case l=>k_is);(case c=>k_is);(case k=>k_is)) | (refine' VL.IA.of KX G ?a ?i ?l ?c ?k ?b ?m ?e;(case a=>k_is);(case i=>k_is);(case l=>k_is);(case c=>k_is);(case k=>k_is);(case b=>k_is);(case m=>k_is);(case e=>k_is)) | (with_reducible refine' PySem.W.mg_none_of KX G ?_;k_is) | (refine' VL.gi_of KX G ?a;(case a=>k_is)) | (refine' VL.gs_of KX G ?a;(case a=>k_is)) | ((with_reducible refine' L2.Cls.mk ?_ ?_ ?_ ?_) <;> k_is) | (unfold L2.NoAttr;k_is) | kernel_rfl
